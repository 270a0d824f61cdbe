import PyProof.Rows.All
import Wide.All
import OpenK.AllK
import Wide.FinOn
import PyProof.EqAt
import PyProof.EqKinds
import PyProof.TupleCall
import PySem.Challenge.RW_keepwright_k01_folders_and_changes
import HandS.GenCall
import HandS.Comp
import HandS.Ends
import HandS.AnyAll
import HandS.GenList
import PyProof.TupleOfGen
import PyProof.ConsumeS
import HandS.Lambda
import HandS.TryMany
import HandS.ForMost
import HandS.RaiseMore
import HandS.FStr
import HandS.SetKeys
import HandS.DictComp
import HandS.WordsExc
import HandS.Words
import HandS.Set
import HandS.Strs
import HandS.SetFor
import HandS.SortKw
import HandS.FStrTup
import KE.DatumOrd
import HandS.Zip
import KE.KDictZip
import KE.KDictList
import KE.GoesEnumKw
import HandS.Sort
import HandS.More
import HandS.List
import HandS.TupSets
import KE.KSortTupG
import HandS.Style
import HandS.NoneIn
import HandS.TupAny
import HandS.Walk
import KE.KDictSum
import HandS.Text
import HandS.StrMore
import PyProof.EnumMake
import HandS.Exc
import KE.GoesRaise
import HandS.Star
import HandS.ReplaceLit
import HandS.SetBool
import HandS.SetTxt0
import PyProof.SeqIndex
import PyProof.Rows.StrInSeq3
import HandS.ListItems
import HandS.Head2
import HandS.HeadHook4
import HandS.HeadWalk
import HandS.EndTab
import HandS.HeadEnd
set_option Elab.async false
set_option linter.all false
-- GX1
set_option maxRecDepth 100000
set_option maxHeartbeats 4000000
/-! GX: generator expressions, walked by the judgements of the hand layer. -/
namespace GX
open PySem PySem.Spec PyProof.Rows L2 GenW

/-- the code of the one loop -/
abbrev gLoop (elt tg iter : Expr) (ifs : List Expr) (sc : Scope) (pos : Pos) (it : Addr) (env : Env) : Code :=
  .compLoop (.GeneratorExp elt [⟨tg, iter, ifs, 0⟩] sc pos) 0 (.ref it) .none env
abbrev gStart (elt tg iter : Expr) (ifs : List Expr) (sc : Scope) (pos : Pos) (it : Addr) (env : Env) : Code :=
  .compStart (.GeneratorExp elt [⟨tg, iter, ifs, 0⟩] sc pos) 0 (.ref it) .none env
section
variable {A : Around} {elt tg iter : Expr} {ifs : List Expr} {sc : Scope} {pos : Pos} {it : Addr} {env : Env}
theorem over_gl : A.over (gLoop elt tg iter ifs sc pos it env) [] = A.deeper env := by
  obtain ⟨hd, d, fr, gs, u⟩ := A
  first
    | rfl
    | simp [Around.over, Around.deeper, marksOver, frameCount, unitsOf, envsOf, guardsOf, pushEnvs, pushGuards, Code.envs, Code.env?, Code.isFrame, Code.guards, Code.isGuard, Code.weight, Code.frames, Code.isCreation, Code.isCaller, Code.cUnits]
theorem over_gs : A.over (gStart elt tg iter ifs sc pos it env) [] = A.deeper env := by
  obtain ⟨hd, d, fr, gs, u⟩ := A
  first
    | rfl
    | simp [Around.over, Around.deeper, marksOver, frameCount, unitsOf, envsOf, guardsOf, pushEnvs, pushGuards, Code.envs, Code.env?, Code.isFrame, Code.guards, Code.isGuard, Code.weight, Code.frames, Code.isCreation, Code.isCaller, Code.cUnits]
end

/-- what a consumer holds of the generator's state: pins of its own beside the generator's -/
structure Hold (X : Cx) (γ : Type) where
  ok : γ → List (Addr × Obj) → L2.St → Hp → Shared → Prop
  own : Addr → Prop
  unfold : ∀ {g ip σ H s}, ok g ip σ H s → ∃ ps : List (Addr × Obj), (∀ p ∈ ps, own p.1) ∧ Inv X (ps ++ ip) σ H s ∧ ∀ ip' σ' H' s', Inv X (ps ++ ip') σ' H' s' → ok g ip' σ' H' s'

/-- what the user says of the turns: J the walk, W by the turn and a measure, It what an item given out wants, fin the end -/
def Turns {γ : Type} (J : It) (W : Nat → Nat → γ → Hp → Prop) (gt : TG) (tt : TT) (te : TE) (σ0 : L2.St) (vs : List Nat) (Iw : γ → V → Hp → (γ → Hp → Prop) → Prop) (fin : γ → Hp → Prop) : Prop :=
  ∀ i m g H, W i m g H → (J.stop i H ∧ fin g H) ∨ (J.go i H ∧ ∃ Nx : γ → Hp → Prop, (∀ g' H', Nx g' H' → ∃ m', m' < m ∧ W (i + 1) m' g' H') ∧
    ∀ x H', J.yld i H x H' → gt x (wipe σ0 vs) H' fun σ2 H2 => wipe σ2 vs = wipe σ0 vs ∧ tt σ2 H2 fun b H3 => if b = true then te σ2 H3 fun y H4 => Iw g y H4 Nx else Nx g H3)

theorem seg_gx {X : Cx} {γ : Type} (Z : Hold X γ) {A : Around} {R : GenEnd} {Y : Protocol} {elt tg iter : Expr} {ifs : List Expr} {sc : Scope} {pos : Pos} {it : Addr} {fp : List Addr} {tn : Nat → Heap → Prop} {J : It}
    {gt : TG} {tt : TT} {te : TE} {σ0 : L2.St} {vs : List Nat} {W : Nat → Nat → γ → Hp → Prop} {Fu : γ → Nat → Nat → Prop} {Iw : γ → V → Hp → (γ → Hp → Prop) → Prop} {fin : γ → Hp → Prop} {Sn : Shared → γ → Prop}
    (hov : A.over (gLoop elt tg iter ifs sc pos it X.env) [] = X.A) (hex : X.ex = fp) (T : Turn X.prog X.w X.K tg J fp it tn) (hc : X.calm = true) (hpn : ∀ b ∈ fp, ∀ p ∈ X.pn, p.1 ≠ b)
    (pg : PG X tg gt) (pt : PTs X ifs tt) (pe : PE X elt te) (hco : X.env.scope.isCoroutine = false) (hxe : ∀ e s, ¬ X.xe e s)
    (turn : Turns J W gt tt te σ0 vs Iw fin) (hdown : ∀ {g n m m'}, Fu g n m → m' < m → Fu g n m')
    (hfp : ∀ b ∈ fp, ¬ Z.own b) (hSn : ∀ {g ip σ H s}, Z.ok g ip σ H s → Sn s g)
    (hY : ∀ {n s₀ m g y H v ip σ s Nx}, (∀ p ∈ ip, p.1 ∈ fp) → RelV y v → Z.ok g ip σ H s → Sn s₀ g → Fu g n m → Iw g y H Nx → ∃ n', n = n' + 1 ∧ ∀ kap : Resume → Shared → Prop,
      (∀ g' s', Nx g' H → Z.ok g' ip σ H s' → (∀ m', m' < m → Fu g' n' m') → kap (.send .none) s') → Y n' s₀ v s kap)
    (hR : ∀ {n s₀ m g ip σ H s}, Z.ok g ip σ H s → Sn s₀ g → fin g H → Fu g n m → R n s₀ (.ok .next) s) :
    ∀ (m n i : Nat) (s₀ s : Shared) (g : γ) (H : Hp), W i m g H → Fu g n m → Sn s₀ g → Z.ok g [] (wipe σ0 vs) H s → tn i s.heap → (∀ b ∈ fp, H b = none) →
      Seg (model X.prog X.w) A R Y n s₀ (gLoop elt tg iter ifs sc pos it X.env) ((model X.prog X.w).den (gLoop elt tg iter ifs sc pos it X.env)) [] s := by
  have stat : ∀ {ps : List (Addr × Obj)} {σ' : L2.St} {H' : Hp} {s' : Shared}, Inv X ps σ' H' s' → (∀ b ∈ fp, ∀ p ∈ ps, p.1 ≠ b) → (∀ b ∈ fp, H' b = none) → ∀ b ∈ fp, FpOk X ps H' b := fun {ps σ' H' s'} I hp hn b hb => by
    have hbx : b ∈ X.ex := by rw [hex]; exact hb
    refine ⟨hn b hb, (I.ok.exf b hbx).1, I.ok.exfs b hbx, .inl hbx, fun x c e => (I.ok.exf b hbx).2 x c e, fun p hp' => ?_⟩
    rcases List.mem_append.mp hp' with z | z
    · exact hpn b hb p z
    · exact hp b hb p z
  have hy : ∀ v, yieldOut X.env v = yieldValue v := fun v => by simp only [yieldOut, hco, Bool.false_eq_true, if_false]
  intro m
  induction m using Nat.strongRecOn with
  | ind m ih =>
    intro n i s₀ s g H hW hF hSs hZ hst hnf
    obtain ⟨ps, hown, I0, mk⟩ := Z.unfold hZ
    have hps : ∀ b ∈ fp, ∀ p ∈ ps, p.1 ≠ b := fun b hb p hp e => hfp b hb (by rw [← e]; exact hown p hp)
    have I : Inv X ps (wipe σ0 vs) H s := by rw [List.append_nil] at I0; exact I0
    show Seg _ A _ _ _ s₀ _ ((compTurn (.GeneratorExp elt [⟨tg, iter, ifs, 0⟩] sc pos) 0 (.ref it) .none X.env).onRaise (leaving X.env)) [] s
    rw [compTurn_gen, Sem.onRaise_eq_wrap]
    refine seg_bind_wrap (wpAny_standAt ?_)
    rcases turn i m g H hW with ⟨stop, hf⟩ | ⟨go, Nx, hNx, step⟩
    · refine seg_bind_wrap ?_
      rw [hov]
      refine wpAny_mono (T.done X rfl rfl rfl hc i ps s _ H (fun _ _ => False) I (stat I hps hnf) hst stop) (fun r s1 hr => ?_) fun _ _ z => z.elim
      obtain ⟨hr, I1⟩ := hr
      subst hr
      exact seg_end (.ok .next) (hR (mk [] _ _ _ (by rw [List.append_nil]; exact I1)) hSs hf hF)
    · refine seg_bind_wrap ?_
      rw [hov]
      refine wpAny_mono (T.item X rfl rfl rfl hc i ps s _ H (fun _ _ => False) I (stat I hps hnf) hst go) (fun r s1 hr => ?_) fun _ _ z => z.elim
      obtain ⟨u, hr, h6⟩ := hr
      subst hr
      refine seg_bind_wrap ?_
      rw [hov]
      refine wpAny_mono h6 (fun _ s2 h7 => ?_) fun _ _ z => z.elim
      obtain ⟨x, H2, I2, r2, y2, st2, n2⟩ := h7
      have I2' := I2.pinned (stat I2 hps n2) (T.obj _ _ st2)
      refine seg_bind_wrap ?_
      rw [hov]
      refine wpAny_mono (pg.run _ s2 _ H2 x u _ I2' r2 (step x H2 y2)) (fun _ s3 h8 => ?_) fun _ _ z => (hxe _ _ z).elim
      obtain ⟨σ3, H3, I3, hw3, q3⟩ := h8
      refine seg_bind_wrap ?_
      rw [hov]
      refine wpAny_mono (pt.run _ s3 σ3 H3 _ I3 q3) (fun b s4 h9 => ?_) fun _ _ z => (hxe _ _ z).elim
      obtain ⟨H4, I4, q4⟩ := h9
      -- the next turn
      have goOn : ∀ {g' : γ} {H' : Hp} {s' : Shared} {n' m' : Nat} {s₀' : Shared}, Z.ok g' (pinsAt fp s2.heap) σ3 H' s' → m' < m → Fu g' n' m' → Sn s₀' g' → W (i + 1) m' g' H' →
          Seg (model X.prog X.w) A R Y n' s₀' (gLoop elt tg iter ifs sc pos it X.env) ((model X.prog X.w).den (gLoop elt tg iter ifs sc pos it X.env)) [] s' := by
        intro g' H' s' n' m' s₀' hz hlt hfu hsn hw
        obtain ⟨ps', _, J', mk'⟩ := Z.unfold hz
        have pin' : ∀ b ∈ fp, ∀ o, s2.heap.get? b = some o → s'.heap.get? b = some o ∧ H' b = none := fun b hb o e =>
          let z := J'.pin (b, o) (List.mem_append_right _ (List.mem_append_right _ (mem_pinsAt hb e)))
          ⟨z.1, z.2.1⟩
        have hl : (wipe σ0 vs).length = σ3.length := by rw [← hw3, wipe_length]
        refine ih m' hlt n' (i + 1) s₀' s' g' H' hw hfu hsn (mk' [] _ _ _ ?_) (T.keep _ _ _ st2 fun b hb o e => (pin' b hb o e).1) fun b hb => ?_
        · rw [List.append_nil]
          exact (J'.unpinned (pins := ps')).weak hl fun j v e => by
            rw [← hw3] at e
            exact (wipe_some e).1
        · obtain ⟨o, e, _⟩ := T.obj _ _ st2 b hb
          exact (pin' b hb o e).2
      cases b with
      | false =>
        simp only [Bool.false_eq_true, if_false] at q4 ⊢
        obtain ⟨m', hm, hw⟩ := hNx g H4 q4
        exact seg_again rfl (goOn (mk _ _ _ _ I4) hm (hdown hF hm) hSs hw)
      | true =>
        simp only [if_true] at q4 ⊢
        simp only [hy]
        rw [Sem.bind_eq_wrap', Sem.bind_eq_wrap', Sem.wrap_wrap, Sem.wrap_wrap]
        refine seg_wrap ?_
        rw [hov]
        refine wpAny_mono (pe.run _ s4 σ3 H4 _ I4 q4) (fun v s5 h10 => ?_) fun _ _ z => (hxe _ _ z).elim
        obtain ⟨yv, H5, I5, r5, q5⟩ := h10
        obtain ⟨n', hn, hYY⟩ := hY (s₀ := s₀) (fun p hp => (of_pinsAt hp).1) r5 (mk _ _ _ _ I5) hSs hF q5
        subst hn
        refine seg_at (seg_yield rfl rfl rfl (hYY _ fun g' s' hnx hz hfu => ?_))
        obtain ⟨m', hm, hw⟩ := hNx g' H5 hnx
        exact seg_again rfl (goOn hz hm (hfu m' hm) (hSn hz) hw)
end GX

-- GX2
set_option maxRecDepth 100000
set_option maxHeartbeats 4000000
namespace GX
open PySem PySem.Spec PyProof.Rows L2 GenW

theorem seg_gxs {X : Cx} {A : Around} {R : GenEnd} {Y : Protocol} {elt tg iter : Expr} {ifs : List Expr} {sc : Scope} {pos : Pos} {it : Addr} {fp : List Addr} {tn : Nat → Heap → Prop} {J : It} {n i : Nat} {s₀ s : Shared}
    (T : Turn X.prog X.w X.K tg J fp it tn) (hst : tn i s.heap)
    (loop : Seg (model X.prog X.w) A R Y n s₀ (gLoop elt tg iter ifs sc pos it X.env) ((model X.prog X.w).den (gLoop elt tg iter ifs sc pos it X.env)) [] s) :
    Seg (model X.prog X.w) A R Y n s₀ (gStart elt tg iter ifs sc pos it X.env) ((model X.prog X.w).den (gStart elt tg iter ifs sc pos it X.env)) [] s := by
  show Seg _ A _ _ _ s₀ _ ((compStart (.GeneratorExp elt [⟨tg, iter, ifs, 0⟩] sc pos) 0 (.ref it) .none X.env).onRaise (leaving X.env)) [] s
  unfold compStart
  rw [Sem.onRaise_eq_wrap]
  show Seg _ A _ _ _ s₀ _ ((ask >>= _).wrap _ _ _ _) [] s
  refine seg_bind_wrap (wpAny_askSetting ?_)
  split
  · exact seg_again rfl loop
  · refine seg_bind_wrap (wpAny_rule ?_)
    first
      | exact seg_bind_wrap (wpAny_standAt (seg_bind_wrap (T.self _ i s _ _ hst (seg_again rfl loop))))
      | (show Seg _ A _ _ _ s₀ _ ((standAt iter.pos >>= _).wrap _ _ _ _) [] s
         exact seg_bind_wrap (wpAny_standAt (seg_bind_wrap (T.self _ i s _ _ hst (seg_again rfl loop)))))

/-! ### the generator's own names -/
/-- ix: for each of the generator's names the maker's slot that it captures, or none -/
structure GScp (N : List Str) (esc scope : Scope) (Ng : List Str) (ix : List (Option Nat)) : Prop where
  kind : scope.kind = .function
  co : scope.isCoroutine = false
  cell : ∀ y ∈ scope.names, y.2 ≠ .cell
  dot : scope.names.lookup (".0" : Str) = some NameKind.local
  free : ∀ y ∈ scope.names, y.2 = .free → esc.names.lookup y.1 = some .cell ∨ esc.names.lookup y.1 = some .free
  len : ix.length = Ng.length
  cap : ∀ j i : Nat, ix[j]? = some (some i) → ∃ x, Ng[j]? = some x ∧ N[i]? = some x ∧ scope.names.lookup x = some .free
  nd : Ng.Nodup
def gscB (N : List Str) (esc scope : Scope) (Ng : List Str) (ix : List (Option Nat)) : Bool :=
  decide (scope.kind = .function) && !scope.isCoroutine && (scope.names.all fun y => !decide (y.2 = .cell) && (!decide (y.2 = .free) || decide (esc.names.lookup y.1 = some .cell) || decide (esc.names.lookup y.1 = some .free))) &&
  decide (scope.names.lookup (".0" : Str) = some NameKind.local) && decide (ix.length = Ng.length) && decide Ng.Nodup &&
  ((List.range ix.length).all fun j => match ix[j]? with
    | some (some i) => (match Ng[j]?, N[i]? with
      | some x, some y => decide (x = y) && decide (scope.names.lookup x = some .free)
      | _, _ => false)
    | _ => true)
theorem gsc_by {N : List Str} {esc scope : Scope} {Ng : List Str} {ix : List (Option Nat)} (h : gscB N esc scope Ng ix = true) : GScp N esc scope Ng ix := by
  unfold gscB at h
  simp only [Bool.and_eq_true, Bool.or_eq_true, Bool.not_eq_true', decide_eq_true_eq, decide_eq_false_iff_not, List.all_eq_true] at h
  obtain ⟨⟨⟨⟨⟨⟨h1, h2⟩, h3⟩, h4⟩, h5⟩, h6⟩, h7⟩ := h
  refine ⟨h1, h2, fun y hy => (h3 y hy).1, h4, fun y hy e => ?_, h5, fun j i e => ?_, h6⟩
  · rcases (h3 y hy).2 with (z | z) | z
    · exact absurd e z
    · exact .inl z
    · exact .inr z
  · have hj : j < ix.length := (List.getElem?_eq_some_iff.mp e).1
    have q := h7 j (List.mem_range.mpr hj)
    rw [e] at q
    simp only at q
    split at q
    · rename_i x y e1 e2
      rw [Bool.and_eq_true, decide_eq_true_eq, decide_eq_true_eq] at q
      exact ⟨x, e1, by rw [q.1]; exact e2, q.2⟩
    · cases q

/-- the values that the generator sees -/
def capt (ix : List (Option Nat)) (σ : L2.St) : L2.St := ix.map fun o => match o with
  | none => none
  | some i => (σ[i]?).getD none
theorem capt_some {ix : List (Option Nat)} {σ : L2.St} {j : Nat} {v : V} (h : (capt ix σ)[j]? = some (some v)) : ∃ i, ix[j]? = some (some i) ∧ σ[i]? = some (some v) := by
  unfold capt at h
  rw [List.getElem?_map] at h
  cases e : ix[j]? with
  | none => rw [e] at h; cases h
  | some o =>
    rw [e] at h
    cases o with
    | none => cases h
    | some i =>
      have h' : (σ[i]?).getD none = some v := Option.some.inj h
      refine ⟨i, rfl, ?_⟩
      cases q : σ[i]? with
      | none => rw [q] at h'; cases h'
      | some w => rw [q] at h'; exact congrArg some h'

/-- the context of the generator's code: made at s4, H4 by X's def, woken in A -/
def gcx (X : Cx) (A : Around) (s4 : Shared) (H4 : Hp) (Ng : List Str) (genv : Env) (fp : List Addr) : Cx where
  prog := X.prog
  w := X.w
  K := X.K
  mg := X.mg
  base := X.base
  A := A.deeper genv
  N := Ng
  s_0 := s4
  H_0 := H4
  env := genv
  outer := X.stack
  stack := genv :: X.stack
  ex := fp
  fn := fun _ => false
  calm := true
  pn := []
  xe := fun _ _ => False

section
variable {X : Cx} {pins : List (Addr × Obj)} {σ : L2.St} {H : Hp} {s4 : Shared}
theorem gx_inv {A : Around} {s2 : Shared} {scope : Scope} {Ng : List Str} {ix : List (Option Nat)} {fp : List Addr} {code : Value} {m : Str → Option Value} {ps : List (Addr × Obj)} (I : Inv X pins σ H s4) (S : GScp X.N X.env.scope scope Ng ix)
    (hA : A.frames = some X.stack) (hh : A.handled = none) (hfp : ∀ b ∈ fp, FpOk X pins H b ∧ b < s4.heap.objs.size)
    (kp : ∀ b o, s4.heap.get? b = some o → s2.heap.get? b = some o) (os : s2.os = s4.os) (bare : AllBare s2.gens) (hns : s2.heap.Ns s4.heap.objs.size m)
    (hps : ∀ p ∈ ps, s2.heap.get? p.1 = some p.2 ∧ s4.heap.objs.size < p.1 ∧ ∀ v, p.2.data ≠ .cell v) :
    Inv (gcx X A s4 H Ng (genEnv scope (cloFrom X.env.cells scope.names []) s4.heap.objs.size code builtinsNs X.env) fp) ps (capt ix σ) H s2 := by
  have hfree : ∀ y ∈ scope.names, y.2 = .free → ∃ c, X.env.cells.lookup y.1 = some c := fun y hy e => (S.free y hy e).elim (fun z => I.ok.has _ (.inl z)) fun z => I.ok.has _ (.inr z)
  have cm : ∀ {y c}, (cloFrom X.env.cells scope.names []).lookup y = some c → X.env.cells.lookup y = some c := fun {y c} e => by
    rcases cloFrom_mem (PySem.mem_of_lookup e) with hm | ⟨h1, h2⟩
    · cases hm
    · obtain ⟨c1, hc⟩ := hfree _ h1 rfl
      have hc : X.env.cells.lookup y = some c1 := hc
      have e2 : c = c1 := by rw [h2, hc] <;> rfl
      rw [e2]; exact hc
  have look : ∀ {y}, scope.names.lookup y = some .free → ∃ c, (cloFrom X.env.cells scope.names []).lookup y = some c := fun {y} hl =>
    mem_lookup (cloFrom_has (cells := X.env.cells) (acc := []) (PySem.mem_of_lookup hl))
  have young : ∀ b, s4.heap.objs.size ≤ b → H b = none ∧ b ∉ frs X.stack := fun b hb => by
    refine ⟨I.hok.fresh hb, fun z => ?_⟩
    rcases List.mem_cons.mp (I.stkSub b z) with e | e
    · have h1 := I.lt
      rw [← e] at h1
      exact Nat.lt_irrefl _ (Nat.lt_of_lt_of_le h1 hb)
    · exact I.nofs hb e
  have cellK : ∀ {c : Addr} {v : Option Value}, s4.heap.IsCell c v → s2.heap.IsCell c v := fun {c v} ⟨o, ho, hd⟩ => ⟨o, kp _ _ ho, hd⟩
  refine ⟨⟨I.ok.mod, S.kind, I.ok.glob, rfl, Nat.le_refl _, fun y z c e1 e2 => I.ok.inj y z c (cm e1) (cm e2), fun y hy => ?_, fun y c z _ => ?_, fun _ => hh, Around.frames_deeper hA, .inr ⟨rfl, rfl⟩,
      fun b hb => ⟨Nat.ne_of_lt (hfp b hb).2, fun y c e z => (hfp b hb).1.2.2.2.2.1 y c (cm e) z⟩, I.bs, Nat.le_trans I.ok.bsz I.sz, fun b o e hb => ?_, fun b hb z => ?_, I.stack, I.stkFree⟩,
    os, bare, Un.kept kp, ⟨m, hns, fun j y v e1 e2 e3 => ?_⟩, fun y c e => ?_, I.hok.fresh (Nat.le_refl _), fun y c e => I.freeC y c (cm e), fun p hp => ?_, I.hok.kept kp, by unfold capt; rw [List.length_map]; exact S.len⟩
  · have hy : scope.names.lookup y = some .cell ∨ scope.names.lookup y = some .free := hy
    rcases hy with hy | hy
    · exact absurd rfl (S.cell _ (PySem.mem_of_lookup hy))
    · exact look hy
  · have z : false = true := z
    cases z
  · rcases (hfp b hb).1.2.2.2.1 with z | z
    · exact I.ok.noex b o e z
    · exact absurd (Nat.lt_of_lt_of_le (Heap.lt_size e) (Nat.le_trans I.ok.bsz z)) (Nat.lt_irrefl _)
  · rcases List.mem_cons.mp (I.stkSub b z) with z | z
    · exact (hfp b hb).1.2.1 z
    · exact (hfp b hb).1.2.2.1 z
  · obtain ⟨i, ei, es⟩ := capt_some e2
    obtain ⟨x, x1, x2, x3⟩ := S.cap j i ei
    have e1 : Ng[j]? = some y := e1
    rw [x1] at e1
    obtain rfl := Option.some.inj e1
    obtain ⟨m', hn, hl⟩ := I.loc
    have hvis : Vis X.env.scope x := (S.free _ (PySem.mem_of_lookup x3) rfl).elim (fun k => .inr (.inl k)) fun k => .inr (.inr k)
    obtain ⟨u, r, q⟩ := hl i x v x2 es hvis
    obtain ⟨c2, h2⟩ := look x3
    have c1 := cm h2
    refine ⟨u, r, .inr ⟨.inr x3, c2, h2, ?_⟩⟩
    rcases q with ⟨k', _⟩ | ⟨_, c3, e', z⟩
    · have k' : X.env.scope.names.lookup x = some .local := k'
      rcases S.free _ (PySem.mem_of_lookup x3) rfl with k2 | k2 <;> rw [show X.env.scope.names.lookup x = _ from k2] at k' <;> cases k'
    · rw [c1] at e'
      cases e'
      exact cellK z
  · obtain ⟨v, z⟩ := I.cell y c (cm e)
    exact ⟨v, cellK z⟩
  · have hp : p ∈ [] ++ ps := hp
    rw [List.nil_append] at hp
    obtain ⟨h1, h2, h3⟩ := hps p hp
    obtain ⟨y1, y2⟩ := young p.1 (Nat.le_of_lt h2)
    exact ⟨h1, y1, Nat.ne_of_gt h2, y2, h3⟩
end
end GX

-- GX3
set_option maxRecDepth 100000
set_option maxHeartbeats 4000000
namespace GX
open PySem PySem.Spec PyProof.Rows L2 GenW GxR

/-- a generator expression's object just made: the walk J begun, nothing given out yet -/
structure Made (X : Cx) (pins : List (Addr × Obj)) (σ : L2.St) (elt tg iter : Expr) (ifs : List Expr) (scope : Scope) (gpos : Pos) (J : It) (H2 : Hp) (a g it : Addr) (fp : List Addr) (tn : Nat → Heap → Prop) (code : Value) (s4 s5 : Shared) : Prop where
  inv : Inv X pins σ H2 s4
  turn : Turn X.prog X.w X.K tg J fp it tn
  st : tn 0 s4.heap
  fp : ∀ b ∈ fp, FpOk X pins H2 b ∧ b < s4.heap.objs.size
  gs : s5.gens[g]? = some (.fresh (gStart elt tg iter ifs scope gpos it (genEnv scope (cloFrom X.env.cells scope.names []) s4.heap.objs.size code builtinsNs X.env)))
  gen : s5.heap.IsGen a g
  lt : s4.heap.objs.size < a
  ltA : a < s5.heap.objs.size
  os : s5.os = s4.os
  bare : AllBare s5.gens
  lim : s5.heap.NoLimit
  keep : ∀ b o, s4.heap.get? b = some o → s5.heap.get? b = some o
  ns : s5.heap.Ns s4.heap.objs.size fun y => if y = (".0" : Str) then some (.ref it) else none

section
variable {X : Cx} {pins : List (Addr × Obj)} {σ : L2.St} {H : Hp} {s : Shared}
theorem gx_make {c P : Addr} {elt tg iter : Expr} {ifs : List Expr} {gpos : Pos} {scope : Scope} {Ng : List Str} {ix : List (Option Nat)} {wi : TI} {k : Nat} {Q' : Value → Shared → Prop} {R : It → Hp → Prop}
    (hr : Room k X.A) (TB : TabB X.base X.mg c P) (hcode : X.env.code = .ref c) (S : GScp X.N X.env.scope scope Ng ix) (hi : PI X tg iter wi) (hs : ∀ v, genFold iter X.env v = pure v)
    (I : Inv X pins σ H s) (h : wi σ H fun J H1 => TabG H1 P ∧ ∀ H2, Tabbed P H1 H2 → R J H2)
    (hQ : ∀ J H2 a g it fp tn code s4 s5, R J H2 → Made X pins σ elt tg iter ifs scope gpos J H2 a g it fp tn code s4 s5 → Q' (.ref a) s5) :
    wpAny (model X.prog X.w) X.A (eval (.GeneratorExp elt [⟨tg, iter, ifs, 0⟩] scope gpos) X.env) Q' X.xe s := by
  refine wpAny_GeneratorExp_make S.co (closure_ok fun y hy e => (S.free y hy e).elim (fun z => I.ok.has _ (.inl z)) fun z => I.ok.has _ (.inr z)) S.cell S.dot S.kind (by have := hr.dp; omega) ?_ hs
  refine thn (hi.run pins s σ H _ I h) fun xv s1 hx => thn hx fun itv s2 h2 => ?_
  obtain ⟨it, fp, tn, J, H1, rfl, I1, T, st1, f1, ⟨ps, hP, ht⟩, hR⟩ := h2
  refine ⟨I1.nolimit, ?_⟩
  have hP2 : s2.heap.get? P = some { cls := .none, data := .fields ps } := I1.hok P _ hP
  have cd : PySem.W.CodeHd s2.heap c P := TB.code.keeps I1.bk
  -- behind the code object: H3, s3
  have cont : ∀ (code : Value) (h3 : Heap) (tk : Nat) (ps' : Array Value), Heap.ExtBut P s2.heap h3 → s2.heap.objs.size ≤ h3.objs.size → h3.get? P = some { cls := .none, data := .fields ps' } → (∃ more, ps' = ps ++ more) → TriplesOk ps'.toList →
      wpAny (model X.prog X.w) X.A (builtinsFor X.env.globals X.env.builtins) (fun bi s₄ =>
        ∀ h', h'.Ns s₄.heap.objs.size (fun y => if y = ".0" then some (.ref it) else none) → Heap.SameBut s₄.heap.objs.size (s₄.heap.push { cls := .type "frame", data := .dict #[] }) h' →
          Q' (.ref h'.objs.size) { s₄ with
            gens := s₄.gens.push (.fresh (.compStart (.GeneratorExp elt [⟨tg, iter, ifs, 0⟩] scope gpos) 0 (.ref it) .none (genEnv scope (cloFrom X.env.cells scope.names []) s₄.heap.objs.size code bi X.env))),
            toks := s₄.toks + 1 + 1 + 1,
            heap := h'.push { cls := .type "generator", data := .fields #[.int s₄.gens.size 0, .str "<genexpr>" (s₄.toks + 1), .str (X.env.qual ++ "<genexpr>") (s₄.toks + 1 + 1)] } }) X.xe { s2 with heap := h3, toks := tk } := by
    intro code h3 tk ps' hx hsz hP3 hmore ht3
    obtain ⟨bm, ob, e1, e2, e3, e4, e5, e6, e7, e8⟩ := TB.bm
    have keep3 : ∀ b u, b ≠ P → s2.heap.get? b = some u → h3.get? b = some u := fun b u hb e => hx b u hb e
    obtain ⟨more, em⟩ := hmore
    have I3 := inv_tab (more := more) (h' := h3) (g' := s2.gens) (d' := s2.drawn) (t' := tk) I1 hP (fun b u hb e => keep3 b u hb e) (by rw [← em]; exact hP3) I1.bare
    have hTb : Tabbed P H1 (upd H1 P (.tbl (ps ++ more))) := ⟨⟨ps ++ more, upd_same, by rw [← em]; exact ht3⟩, fun b hb => upd_ne hb⟩
    refine wpAny_builtinsFor (m := X.mg) (by rw [I1.ok.glob]; exact ((I1.mod.glob.keeps I1.bk)).extBut hx TB.gP) e1 e2 (keep3 _ _ e4 (I1.bk _ _ e5)) e6 e7 e8 ?_
    intro h' hn' hs'
    have sz' : h'.objs.size = h3.objs.size + 1 := by rw [hs'.1, Heap.size_push]
    have keep' : ∀ b o, h3.get? b = some o → h'.get? b = some o := fun b o e => hs'.extBut b o (Nat.ne_of_lt (Heap.lt_size e)) (Heap.get?_push_of_some _ e)
    have nP : ∀ b, H1 b = none → b ≠ P := fun b e z => by
      rw [z, hP] at e
      cases e
    have stk : tn 0 h3 := T.keep _ _ _ st1 fun b hb o e => keep3 b o (nP b (f1 b hb).1) e
    have fp3 : ∀ b ∈ fp, FpOk X pins (upd H1 P (.tbl (ps ++ more))) b ∧ b < h3.objs.size := fun b hb => by
      obtain ⟨o, e, _⟩ := T.obj _ _ st1 b hb
      refine ⟨⟨?_, (f1 b hb).2⟩, Nat.lt_of_lt_of_le (Heap.lt_size e) hsz⟩
      rw [upd_ne (nP b (f1 b hb).1)]
      exact (f1 b hb).1
    refine hQ J _ _ s2.gens.size it fp tn code { s2 with heap := h3, toks := tk } _ (hR _ hTb)
      ⟨I3, T, stk, fp3, Array.getElem?_push_size .., ⟨_, _, _, Heap.get?_push_size _ rfl, rfl, rfl, rfl⟩, ?_, ?_, rfl, AllBare.push I1.bare rfl, ?_, fun b o e => Heap.get?_push_of_some _ (keep' b o e), hn'.push _⟩
    · show h3.objs.size < h'.objs.size
      omega
    · show h'.objs.size < (h'.push _).objs.size
      rw [Heap.size_push]
      exact Nat.lt_succ_self _
    · exact I3.nolimit.keeps fun b o e => Heap.get?_push_of_some _ (keep' b o e)
  cases hf : codeAmong gpos ps.toList with
  | none =>
    refine wpAny_genexprCodeX hcode (cd.code hP2 ht) (cd.tab hP2) hf fun c' h' tk hx hge hlt hco' _ htab' _ => ?_
    obtain ⟨o1, vs, f1', tf, fl, tg', inF, tx, tt, op, _, _, _, _, _, _, _, _, _, htr, _⟩ := hco'
    exact cont _ h' tk _ hx (Nat.le_trans hge (Nat.le_of_lt hlt)) htab'.2 ⟨_, rfl⟩ htr
  | some cv =>
    refine wpAny_genexprCode_hit hcode (cd.code hP2 ht) hf ?_
    exact cont cv s2.heap s2.toks ps (Heap.ExtBut.refl _ _) (Nat.le_refl _) hP2 ⟨#[], by simp⟩ ht
end
end GX

-- GX4
set_option maxRecDepth 100000
set_option maxHeartbeats 4000000
namespace GX
open PySem PySem.Spec PyProof.Rows L2 GenW GxR

/-- the generator's context -/
abbrev gX (X : Cx) (A : Around) (s4 : Shared) (H4 : Hp) (Ng : List Str) (scope : Scope) (cl : List (Str × Addr)) (C : Addr) (code : Value) (fp : List Addr) : Cx :=
  gcx X A s4 H4 Ng (genEnv scope cl C code builtinsNs X.env) fp

section
variable {X : Cx} {pins : List (Addr × Obj)} {σ : L2.St}
variable {elt tg iter : Expr} {ifs : List Expr} {scope : Scope} {gpos : Pos} {J : It} {H2 : Hp} {a g it : Addr} {fp : List Addr} {tn : Nat → Heap → Prop} {code : Value} {s4 s5 : Shared}
/-- back in the maker's context -/
theorem Made.back {A : Around} {Ng : List Str} {genv : Env} {ps : List (Addr × Obj)} {σ' : L2.St} {H' : Hp} {s' : Shared} (M : Made X pins σ elt tg iter ifs scope gpos J H2 a g it fp tn code s4 s5)
    (I' : Inv (gcx X A s4 H2 Ng genv fp) ps σ' H' s') {s'' : Shared} (hk : ∀ b o, s'.heap.get? b = some o → s''.heap.get? b = some o) (ho : s''.os = s'.os) (hb : AllBare s''.gens) : Inv X pins σ H' s'' :=
  M.inv.call' (ch := fp) (ho.trans I'.os) (I'.base.trans (Un.kept hk)) (I'.hok.kept hk) hb fun b hb => ⟨(M.fp b hb).1.2.2.2.1, (M.fp b hb).1.2.1, (M.fp b hb).1.2.2.2.2.1, (M.fp b hb).1.2.2.2.2.2⟩

/-- what the consumers any and all hold: the generator's own object -/
def Hold.one (X : Cx) (p : Addr × Obj) : Hold X Unit where
  ok := fun _ ip σ H s => Inv X ([p] ++ ip) σ H s
  own := fun b => b = p.1
  unfold := fun {g ip σ H s} h => ⟨[p], fun q hq => by rw [List.mem_singleton.mp hq], h, fun _ _ _ _ h' => h'⟩

end
/-- the protocol: t: the truth value at which the consumer goes on -/
def YAny (t : Bool) (a g : Nat) (Out : Shared → Prop) : Protocol := fun _ _ v s1 kap =>
  ∃ k, v = .bool k ∧ s1.heap.IsGen a g ∧ s1.heap.NoLimit ∧ ∀ s' : Shared, s'.heap = s1.heap → s'.os = s1.os → (AllBare s1.gens → AllBare s'.gens) → if k = t then kap (.send .none) s' else Out s'
def FAny (Fin : Shared → Prop) (_ : Nat) (_ s1 : Shared) : Prop := ∀ s' : Shared, (∀ b o, s1.heap.get? b = some o → s'.heap.get? b = some o) → s'.os = s1.os → (AllBare s1.gens → AllBare s'.gens) → Fin s'
def NoE (_ : Value) (_ : Shared) : Prop := False
/-- the end of a run that raises nothing -/
def RAny (Fin : Shared → Prop) : GenEnd := fun n s₀ r s1 => ((r = .ok (.ret .none) ∨ r = .ok .next) ∧ FAny Fin n s₀ s1) ∨ ∃ e, r = .error e ∧ NoE e s1

section
variable {P : Program} {w : World} {A : Around} {a g : Nat} {R : Result → Shared → Prop} {Out Fin : Shared → Prop}
theorem setGen_same {s : Shared} {g : Nat} {x : GenState} (hx : x.bare = true) : AllBare s.gens → AllBare (s.setGen g x).gens := fun h => allBare_setGen h hx
theorem setGen_here {s : Shared} {g : Nat} {x : GenState} (h : g < s.gens.size) : (s.setGen g x).gens[g]? = some x := setGen_at h
/-- one step of a generator whose run ends or gives out, no exception -/
theorem next_one {t : Bool} {n : Nat} {s : Shared} {gs : GenState} {Q : Option Value → Shared → Prop} {E : Value → Shared → Prop} (hh : A.handled = none) (hd : A.depth < recursionLimit) (hg : s.heap.IsGen a g) (hl : s.heap.NoLimit) (hgs : s.gens[g]? = some gs)
    (hgo : gs.Goes (model P w) A.in1 (RAny Fin) (YAny t a g Out) n (.send .none) (s.setGen g .running))
    (hY : ∀ k s', s'.heap.IsGen a g → s'.heap.NoLimit → (k ≠ t → Out s') → (k = t → ∃ m, n = m + 1 ∧ ∃ gs', s'.gens[g]? = some gs' ∧ gs'.Goes (model P w) A.in1 (RAny Fin) (YAny t a g Out) m (.send .none) (s'.setGen g .running)) → Q (some (.bool k)) s')
    (hP : ∀ s', Fin s' → Q none s') : wpAny (model P w) A (pyNext (.ref a)) Q E s := by
  have hgl : g < s.gens.size := (Array.getElem?_eq_some_iff.mp hgs).1
  refine wpAny_gsz (n := g + 1) hgl (next_genG (A := A) (F := FAny Fin) (Er := NoE) hh hl hd hg hgs hgo (fun v s₁ gs' hbare hv => ?_) (fun s₁ hp h' hk => ?_) fun e s₁ he => he.elim)
  · intro hsz
    obtain ⟨k, rfl, hg1, hl1, hq⟩ := hv
    have hsz1 : g < s₁.gens.size := by
      have q : (s₁.setGen g gs').gens.size = s₁.gens.size := setGen_size _ _ _
      have hsz' : g + 1 ≤ (s₁.setGen g gs').gens.size := hsz
      omega
    refine hY k _ hg1 hl1 (fun hk => ?_) fun hk => ?_
    · have q := hq (s₁.setGen g gs') rfl rfl (setGen_same hbare)
      rw [if_neg hk] at q
      exact q
    · have q := hq ((s₁.setGen g gs').setGen g .running) rfl rfl fun z => setGen_same rfl (setGen_same hbare z)
      rw [if_pos hk] at q
      cases n with
      | zero => exact q.elim
      | succ m => exact ⟨m, rfl, gs', setGen_here hsz1, q⟩
  · intro _
    exact hP _ (hp _ (fun b o e => hk b o e) rfl fun z => setGen_same rfl z)
/-- any: the loop -/
theorem any_loop (hh : A.handled = none) (hd : A.depth < recursionLimit) (hO : ∀ s, Out s → R (.ok (.ret (.bool true))) s) (hF : ∀ s, Fin s → R (.ok (.ret (.bool false))) s) : ∀ (n : Nat) (s : Shared), s.heap.IsGen a g → s.heap.NoLimit →
    (∃ gs, s.gens[g]? = some gs ∧ gs.Goes (model P w) A.in1.in1 (RAny Fin) (YAny false a g Out) n (.send .none) (s.setGen g .running)) → codeAny (model P w) A (.builtin "any.loop" ⟨[.ref a], []⟩) R s := by
  intro n
  induction n using Nat.strongRecOn with
  | ind n ih =>
    intro s hg hl ⟨gs, hgs, hgo⟩
    refine codeAny_builtin F.entry_any_loop ?_
    rw [Around.under_plainId F.plain_any_loop _]
    show wpAny _ A.in1 (pyNext (.ref a) >>= _) _ _ s
    refine wpAny_bind (next_one (A := A.in1) hh hd hg hl hgs hgo (fun k s' hg1 hl1 h1 h2 => ?_) fun s' hf => ?_)
    · refine wpAny_bind (wpAny_holding (wpAny_truthy_bool (wpAny_bind (wpAny_letGo ?_))))
      cases k with
      | true =>
        rw [if_pos rfl]
        exact wpAny_bind (wpAny_rule (wpAny_pure (hO s' (h1 (by decide)))))
      | false =>
        rw [if_neg Bool.false_ne_true]
        obtain ⟨m, hm, gs', e1, e2⟩ := h2 rfl
        exact wpAny_pure ⟨plainId_quiet F.plain_any_loop _, ih m (by omega) s' hg1 hl1 ⟨gs', e1, e2⟩⟩
    · exact wpAny_bind (wpAny_rule (wpAny_pure (hF s' hf)))
theorem all_loop (hh : A.handled = none) (hd : A.depth < recursionLimit) (hO : ∀ s, Out s → R (.ok (.ret (.bool false))) s) (hF : ∀ s, Fin s → R (.ok (.ret (.bool true))) s) : ∀ (n : Nat) (s : Shared), s.heap.IsGen a g → s.heap.NoLimit →
    (∃ gs, s.gens[g]? = some gs ∧ gs.Goes (model P w) A.in1.in1 (RAny Fin) (YAny true a g Out) n (.send .none) (s.setGen g .running)) → codeAny (model P w) A (.builtin "all.loop" ⟨[.ref a], []⟩) R s := by
  intro n
  induction n using Nat.strongRecOn with
  | ind n ih =>
    intro s hg hl ⟨gs, hgs, hgo⟩
    refine codeAny_builtin F.entry_all_loop ?_
    rw [Around.under_plainId F.plain_all_loop _]
    show wpAny _ A.in1 (pyNext (.ref a) >>= _) _ _ s
    refine wpAny_bind (next_one (A := A.in1) hh hd hg hl hgs hgo (fun k s' hg1 hl1 h1 h2 => ?_) fun s' hf => ?_)
    · refine wpAny_bind (wpAny_holding (wpAny_truthy_bool (wpAny_bind (wpAny_letGo ?_))))
      cases k with
      | true =>
        rw [if_pos rfl]
        obtain ⟨m, hm, gs', e1, e2⟩ := h2 rfl
        exact wpAny_pure ⟨plainId_quiet F.plain_all_loop _, ih m (by omega) s' hg1 hl1 ⟨gs', e1, e2⟩⟩
      | false =>
        rw [if_neg Bool.false_ne_true]
        exact wpAny_bind (wpAny_rule (wpAny_pure (hO s' (h1 (by decide)))))
    · exact wpAny_bind (wpAny_rule (wpAny_pure (hF s' hf)))
end
end GX

-- GX5
set_option maxRecDepth 100000
set_option maxHeartbeats 4000000
namespace GX
open PySem PySem.Spec PyProof.Rows L2 GenW GxR

/-- the turns of any (t = false) and all (t = true) -/
def QTurn (t : Bool) (J : It) (gt : TG) (tt : TT) (te : TE) (σ0 : L2.St) (vs : List Nat) (Q : VK) (W : Nat → Nat → Hp → Prop) : Prop :=
  ∀ i m H, W i m H → (J.stop i H ∧ Q (.bl t) H) ∨ (J.go i H ∧ ∃ Nx : Hp → Prop, (∀ H', Nx H' → ∃ m', m' < m ∧ W (i + 1) m' H') ∧
    ∀ x H', J.yld i H x H' → gt x (wipe σ0 vs) H' fun σ2 H2 => wipe σ2 vs = wipe σ0 vs ∧ tt σ2 H2 fun b H3 => if b = true then te σ2 H3 fun y H4 => ∃ k, y = .bl k ∧ (if k = t then Nx H4 else Q (.bl (!t)) H4) else Nx H3)
def tQuant (t : Bool) (P : Addr) (wi : TI) (gt : TG) (tt : TT) (te : TE) (ix : List (Option Nat)) (vs : List Nat) : TE := fun σ H Q => wi σ H fun J H1 => TabG H1 P ∧ ∀ H2, Tabbed P H1 H2 →
  ∃ W : Nat → Nat → Hp → Prop, (∃ m, W 0 m H2) ∧ QTurn t J gt tt te (capt ix σ) vs Q W

section
variable {X : Cx} {pins : List (Addr × Obj)} {σ : L2.St}
variable {elt tg iter : Expr} {ifs : List Expr} {scope : Scope} {gpos : Pos} {J : It} {H2 : Hp} {a g it : Addr} {fp : List Addr} {tn : Nat → Heap → Prop} {code : Value} {s4 s5 : Shared}
theorem ready_quant {t : Bool} {A : Around} {Ng : List Str} {ix : List (Option Nat)} {vs : List Nat} {gt : TG} {tt : TT} {te : TE} {Q : VK} {W : Nat → Nat → Hp → Prop} {m0 : Nat} (M : Made X pins σ elt tg iter ifs scope gpos J H2 a g it fp tn code s4 s5) (S : GScp X.N X.env.scope scope Ng ix)
    (hA : A.frames = some X.stack) (hh : A.handled = none)
    (pg : PG (gX X A s4 H2 Ng scope (cloFrom X.env.cells scope.names []) s4.heap.objs.size code fp) tg gt) (pt : PTs (gX X A s4 H2 Ng scope (cloFrom X.env.cells scope.names []) s4.heap.objs.size code fp) ifs tt) (pe : PE (gX X A s4 H2 Ng scope (cloFrom X.env.cells scope.names []) s4.heap.objs.size code fp) elt te)
    (hW : W 0 m0 H2) (turn : QTurn t J gt tt te (capt ix σ) vs Q W) :
    ∃ n, ∃ gs, s5.gens[g]? = some gs ∧ gs.Goes (model X.prog X.w) A (RAny (EP X pins σ Q (.bool t))) (YAny t a g (EP X pins σ Q (.bool (!t)))) n (.send .none) (s5.setGen g .running) := by
  obtain ⟨go, nm, qn, ego, egc, egd, egs⟩ := M.gen
  have gen' : ∀ {h : Heap}, h.get? a = some go → h.IsGen a g := fun {h} e => ⟨go, nm, qn, e, egc, egd, egs⟩
  have hcell : ∀ v, go.data ≠ .cell v := fun v q => by rw [egd] at q; cases q
  have lt4 : ∀ b ∈ fp, b < s4.heap.objs.size := fun b hb => (M.fp b hb).2
  have bare5 : AllBare (s5.setGen g .running).gens := allBare_setGen M.bare rfl
  have I0 := gx_inv (A := A) (s2 := s5.setGen g .running) (code := code) (ps := [(a, go)]) M.inv S hA hh M.fp (fun b o e => M.keep b o e) M.os bare5 M.ns fun p hp => by
    rw [List.mem_singleton.mp hp]
    exact ⟨ego, M.lt, hcell⟩
  have I1 : Inv (gX X A s4 H2 Ng scope (cloFrom X.env.cells scope.names []) s4.heap.objs.size code fp) ([(a, go)] ++ []) (wipe (capt ix σ) vs) H2 (s5.setGen g .running) :=
    I0.weak (wipe_length _ _) fun j v e => (wipe_some e).1
  refine ⟨m0 + 1, _, M.gs, rfl, ?_⟩
  have st5 : tn 0 (s5.setGen g .running).heap := M.turn.keep _ _ _ M.st fun b _ o e => M.keep b o e
  refine seg_gxs (X := gX X A s4 H2 Ng scope (cloFrom X.env.cells scope.names []) s4.heap.objs.size code fp) (i := 0) M.turn st5 ?_
  refine seg_gx (X := gX X A s4 H2 Ng scope (cloFrom X.env.cells scope.names []) s4.heap.objs.size code fp) (γ := Unit) (Hold.one _ (a, go)) (J := J) (gt := gt) (tt := tt) (te := te) (σ0 := capt ix σ) (vs := vs) (W := fun i m _ H => W i m H) (Fu := fun _ n m => m < n)
    (Iw := fun _ y H Nx => ∃ k, y = .bl k ∧ (if k = t then Nx () H else Q (.bl (!t)) H)) (fin := fun _ H => Q (.bl t) H) (Sn := fun _ _ => True) over_gl rfl M.turn rfl (fun b _ p hp => by cases hp) pg pt pe S.co (fun _ _ z => z)
    (fun i m _ H hw => ?_) (fun h1 h2 => Nat.lt_trans h2 h1) (fun b hb e => ?_) (fun _ => trivial) (fun {n s₀ m _ y H v ip σ' s Nx} _ rv hz _ hf hi => ?_) (fun {n s₀ m _ ip σ' H s} hz _ hf hfu => ?_) m0 (m0 + 1) 0 _ _ () H2 hW (Nat.lt_succ_self _) trivial I1 st5 fun b hb => (M.fp b hb).1.1
  · rcases turn i m H hw with ⟨h1, h2⟩ | ⟨h1, Nx, h2, h3⟩
    · exact .inl ⟨h1, h2⟩
    · exact .inr ⟨h1, fun _ H' => Nx H', fun _ H' z => h2 H' z, h3⟩
  · have hb' := lt4 b hb
    rw [e] at hb'
    exact absurd (Nat.lt_trans M.lt hb') (Nat.lt_irrefl _)
  · obtain ⟨k, rfl, hi⟩ := hi
    obtain rfl : v = Value.bool k := rv
    obtain ⟨n', rfl⟩ : ∃ n', n = n' + 1 := ⟨n - 1, by omega⟩
    refine ⟨n', rfl, fun kap hk => ⟨k, rfl, ?_, hz.nolimit, fun s' h1 h2 h3 => ?_⟩⟩
    · exact gen' (hz.pin (a, go) (List.mem_append_right _ (List.mem_append_left _ (List.mem_singleton.mpr rfl)))).1
    · have bare' : AllBare s'.gens := h3 hz.bare
      split at hi
      · rename_i hkt
        rw [if_pos hkt]
        refine hk () s' hi ?_ fun m' hm => by omega
        have J2 := hz.call' (s' := s') (H' := H) (ch := []) h2 (by rw [h1]; exact Un.refl) (by rw [h1]; exact hz.hok) bare' fun b z => by simp at z
        exact J2
      · rename_i hkt
        rw [if_neg hkt]
        have hkn : k = !t := by cases k <;> cases t <;> first | rfl | exact (hkt rfl).elim
        exact ⟨.bl (!t), H, M.back hz (fun b o e => by rw [h1]; exact e) h2 bare', rfl, hi⟩
  · exact .inl ⟨.inr rfl, fun s' h1 h2 h3 => ⟨.bl t, H, M.back hz h1 h2 (h3 hz.bare), rfl, hf⟩⟩
end

section
variable {X : Cx} {c P : Addr} {elt tg iter : Expr} {ifs : List Expr} {p pos gpos : Pos} {scope : Scope} {Ng : List Str} {ix : List (Option Nat)} {vs : List Nat} {wi : TI} {gt : TG} {tt : TT} {te : TE} {k : Nat}
theorem pe_anyG (hr : Room (k + 1) X.A) (hg : Gl X "any") (hm : X.mg "any" = none) (TB : TabB X.base X.mg c P) (hcode : X.env.code = .ref c) (S : GScp X.N X.env.scope scope Ng ix) (hi : PI X tg iter wi)
    (pg : ∀ (A : Around) (s4 : Shared) (H4 : Hp) (cl : List (Str × Addr)) (C : Addr) (code : Value) (fp : List Addr), PG (gX X A s4 H4 Ng scope cl C code fp) tg gt) (pt : ∀ (A : Around) (s4 : Shared) (H4 : Hp) (cl : List (Str × Addr)) (C : Addr) (code : Value) (fp : List Addr), (∀ env, Room k (A.deeper env)) → PTs (gX X A s4 H4 Ng scope cl C code fp) ifs tt)
    (pe : ∀ (A : Around) (s4 : Shared) (H4 : Hp) (cl : List (Str × Addr)) (C : Addr) (code : Value) (fp : List Addr), (∀ env, Room k (A.deeper env)) → PE (gX X A s4 H4 Ng scope cl C code fp) elt te) (hs : ∀ v, genFold iter X.env v = pure v := by intro _; rfl)
    (he : starEach [.GeneratorExp elt [⟨tg, iter, ifs, 0⟩] scope gpos] X.env = (false, eval (.GeneratorExp elt [⟨tg, iter, ifs, 0⟩] scope gpos) X.env) :: starEach [] X.env := by rfl) :
    PE X (.Call (.Name "any" p) [.GeneratorExp elt [⟨tg, iter, ifs, 0⟩] scope gpos] [] pos) (tQuant false P wi gt tt te ix vs) := by
  refine ⟨fun pins s σ H Q I h => ?_⟩
  refine wpAny_Call_Name_kw (ld_blt I hg hm boot_any ?_)
  refine PyProof.Rows.callWith_builtin1 ?_ he (by rfl)
  rw [he]
  show wpAny _ _ (spliced ((false, eval (.GeneratorExp elt [⟨tg, iter, ifs, 0⟩] scope gpos) X.env) :: backTo pos (starEach [] X.env))) _ _ s
  refine Calls.spliced_cons (gx_make (R := fun J H2 => ∃ W : Nat → Nat → Hp → Prop, (∃ m, W 0 m H2) ∧ QTurn false J gt tt te (capt ix σ) vs Q W) hr TB hcode S hi hs I h fun J H2 a g it fp tn code s4 s5 hR M => ?_)
  obtain ⟨W, ⟨m0, hW⟩, turn⟩ := hR
  refine Calls.spliced_nil ?_
  have hr2 : ∀ env, Room k (X.A.in1.in1.deeper env) := fun env => ⟨hr.hd, by have := hr.dp; show X.A.depth + 1 + 3 * k + 5 < _; omega, by have := hr.un; show X.A.units + 1 + 1 + 3 + 16 * k + 200 < _; omega⟩
  obtain ⟨n, hgo⟩ := ready_quant (A := X.A.in1.in1) M S M.inv.ok.frames hr.hd (pg _ _ _ _ _ _ _) (pt _ _ _ _ _ _ _ hr2) (pe _ _ _ _ _ _ _ hr2) hW turn
  refine call_function_tree F.kind_any F.plain_any F.entry_any (F.args_any1 _) ?_
  unfold Builtin.«any»
  refine wpAny_bind (m := oneArg "any" _) (wpAny_pure (wpAny_bind (wpAny_pyIter_gen M.gen ?_)))
  refine wpAny_pure ⟨plainId_quiet F.plain_any_loop _, any_loop hr.hd (by have := hr.dp; omega) (fun s' h => h) (fun s' h => h) n s5 M.gen M.lim hgo⟩
theorem pe_allG (hr : Room (k + 1) X.A) (hg : Gl X "all") (hm : X.mg "all" = none) (hb : bootBuiltins "all" = some (.builtin "all")) (TB : TabB X.base X.mg c P) (hcode : X.env.code = .ref c) (S : GScp X.N X.env.scope scope Ng ix) (hi : PI X tg iter wi)
    (pg : ∀ (A : Around) (s4 : Shared) (H4 : Hp) (cl : List (Str × Addr)) (C : Addr) (code : Value) (fp : List Addr), PG (gX X A s4 H4 Ng scope cl C code fp) tg gt) (pt : ∀ (A : Around) (s4 : Shared) (H4 : Hp) (cl : List (Str × Addr)) (C : Addr) (code : Value) (fp : List Addr), (∀ env, Room k (A.deeper env)) → PTs (gX X A s4 H4 Ng scope cl C code fp) ifs tt)
    (pe : ∀ (A : Around) (s4 : Shared) (H4 : Hp) (cl : List (Str × Addr)) (C : Addr) (code : Value) (fp : List Addr), (∀ env, Room k (A.deeper env)) → PE (gX X A s4 H4 Ng scope cl C code fp) elt te) (hs : ∀ v, genFold iter X.env v = pure v := by intro _; rfl)
    (he : starEach [.GeneratorExp elt [⟨tg, iter, ifs, 0⟩] scope gpos] X.env = (false, eval (.GeneratorExp elt [⟨tg, iter, ifs, 0⟩] scope gpos) X.env) :: starEach [] X.env := by rfl) :
    PE X (.Call (.Name "all" p) [.GeneratorExp elt [⟨tg, iter, ifs, 0⟩] scope gpos] [] pos) (tQuant true P wi gt tt te ix vs) := by
  refine ⟨fun pins s σ H Q I h => ?_⟩
  refine wpAny_Call_Name_kw (ld_blt I hg hm hb ?_)
  refine PyProof.Rows.callWith_builtin1 ?_ he (by rfl)
  rw [he]
  show wpAny _ _ (spliced ((false, eval (.GeneratorExp elt [⟨tg, iter, ifs, 0⟩] scope gpos) X.env) :: backTo pos (starEach [] X.env))) _ _ s
  refine Calls.spliced_cons (gx_make (R := fun J H2 => ∃ W : Nat → Nat → Hp → Prop, (∃ m, W 0 m H2) ∧ QTurn true J gt tt te (capt ix σ) vs Q W) hr TB hcode S hi hs I h fun J H2 a g it fp tn code s4 s5 hR M => ?_)
  obtain ⟨W, ⟨m0, hW⟩, turn⟩ := hR
  refine Calls.spliced_nil ?_
  have hr2 : ∀ env, Room k (X.A.in1.in1.deeper env) := fun env => ⟨hr.hd, by have := hr.dp; show X.A.depth + 1 + 3 * k + 5 < _; omega, by have := hr.un; show X.A.units + 1 + 1 + 3 + 16 * k + 200 < _; omega⟩
  obtain ⟨n, hgo⟩ := ready_quant (A := X.A.in1.in1) M S M.inv.ok.frames hr.hd (pg _ _ _ _ _ _ _) (pt _ _ _ _ _ _ _ hr2) (pe _ _ _ _ _ _ _ hr2) hW turn
  refine call_function_tree F.kind_all F.plain_all F.entry_all (F.args_all1 _) ?_
  unfold Builtin.«all»
  refine wpAny_bind (m := oneArg "all" _) (wpAny_pure (wpAny_bind (wpAny_pyIter_gen M.gen ?_)))
  refine wpAny_pure ⟨plainId_quiet F.plain_all_loop _, all_loop hr.hd (by have := hr.dp; omega) (fun s' h => h) (fun s' h => h) n s5 M.gen M.lim hgo⟩
end
end GX

-- GX6
set_option maxRecDepth 100000
set_option maxHeartbeats 4000000
namespace GX
open PySem PySem.Spec PyProof.Rows L2 GenW GxR

/-- what a consumer holds that fills a list at S -/
def Hold.fill (X : Cx) (S : Addr) (q : Addr × Obj) : Hold X (List V) where
  ok := fun ys ip σ H s => ∃ (acc : Array Value) (c : Nat), Vals ys acc.toList ∧ Inv X ([(S, lstObj acc c), q] ++ ip) σ H s
  own := fun b => b = S ∨ b = q.1
  unfold := fun {ys ip σ H s} h => by
    obtain ⟨acc, c, r, I⟩ := h
    refine ⟨[(S, lstObj acc c), q], fun p hp => ?_, I, fun _ _ _ _ h' => ⟨acc, c, r, h'⟩⟩
    rcases List.mem_cons.mp hp with z | z
    · exact .inl (by rw [z])
    · exact .inr (by rw [List.mem_singleton.mp z])

def LTurn (J : It) (gt : TG) (tt : TT) (te : TE) (σ0 : L2.St) (vs : List Nat) (cont : List V → Hp → Prop) (W : Nat → Nat → List V → Hp → Prop) : Prop :=
  ∀ i m ys H, W i m ys H → (J.stop i H ∧ cont ys H) ∨ (J.go i H ∧ ∃ Nx : List V → Hp → Prop, (∀ ys' H', Nx ys' H' → ∃ m', m' < m ∧ W (i + 1) m' ys' H') ∧
    ∀ x H', J.yld i H x H' → gt x (wipe σ0 vs) H' fun σ2 H2 => wipe σ2 vs = wipe σ0 vs ∧ tt σ2 H2 fun b H3 => if b = true then te σ2 H3 fun y H4 => ys.length < sizeLine ∧ Nx (ys ++ [y]) H4 else Nx ys H3)
/-- (elt for .. in ..), drained: all that comes, in order -/
def tGenL (P : Addr) (wi : TI) (gt : TG) (tt : TT) (te : TE) (ix : List (Option Nat)) (vs : List Nat) : TGen := fun σ H cont => wi σ H fun J H1 => TabG H1 P ∧ ∀ H2, Tabbed P H1 H2 →
  ∃ W : Nat → Nat → List V → Hp → Prop, (∃ m, W 0 m [] H2) ∧ LTurn J gt tt te (capt ix σ) vs cont W

section
variable {X : Cx} {c P : Addr} {elt tg iter : Expr} {ifs : List Expr} {gpos : Pos} {scope : Scope} {Ng : List Str} {ix : List (Option Nat)} {vs : List Nat} {wi : TI} {gt : TG} {tt : TT} {te : TE} {k : Nat} {E : XK}
theorem pgen_exp (hr : Room k X.A) (TB : TabB X.base X.mg c P) (hcode : X.env.code = .ref c) (S : GScp X.N X.env.scope scope Ng ix) (hi : PI X tg iter wi)
    (pg : ∀ (A : Around) (s4 : Shared) (H4 : Hp) (cl : List (Str × Addr)) (C : Addr) (code : Value) (fp : List Addr), PG (gX X A s4 H4 Ng scope cl C code fp) tg gt) (pt : ∀ (A : Around) (s4 : Shared) (H4 : Hp) (cl : List (Str × Addr)) (C : Addr) (code : Value) (fp : List Addr), (∀ env, Room k (A.deeper env)) → PTs (gX X A s4 H4 Ng scope cl C code fp) ifs tt)
    (pe : ∀ (A : Around) (s4 : Shared) (H4 : Hp) (cl : List (Str × Addr)) (C : Addr) (code : Value) (fp : List Addr), (∀ env, Room k (A.deeper env)) → PE (gX X A s4 H4 Ng scope cl C code fp) elt te) (hs : ∀ v, genFold iter X.env v = pure v := by intro _; rfl) :
    PGen X (k + 1) (.GeneratorExp elt [⟨tg, iter, ifs, 0⟩] scope gpos) (tGenL P wi gt tt te ix vs) E := by
  refine ⟨fun pins s σ H cont I h => ?_⟩
  refine gx_make (R := fun J H2 => ∃ W : Nat → Nat → List V → Hp → Prop, (∃ m, W 0 m [] H2) ∧ LTurn J gt tt te (capt ix σ) vs cont W) hr TB hcode S hi hs I h fun J H2 a g it fp tn code s4 s5 hR M => ?_
  obtain ⟨W, ⟨m0, hW⟩, turn⟩ := hR
  refine ⟨H2, s4, fp, M.inv, fun b hb => ⟨(M.fp b hb).1.2.2.2.1, (M.fp b hb).1.2.1, (M.fp b hb).1.2.2.2.2.1, (M.fp b hb).1.2.2.2.2.2⟩, a, g, _, rfl, Nat.le_of_lt M.lt, M.ltA, M.gen, M.gs, M.os, M.bare, M.lim, M.keep, fun A Sx s2 hra hfr hSx hk2 hSo hos hba => ?_⟩
  obtain ⟨go, nm, qn, ego, egc, egd, egs⟩ := M.gen
  obtain ⟨c0, eS⟩ := hSo
  have gen' : ∀ {h : Heap}, h.get? a = some go → h.IsGen a g := fun {h} e => ⟨go, nm, qn, e, egc, egd, egs⟩
  have hcell : ∀ v, go.data ≠ .cell v := fun v q => by rw [egd] at q; cases q
  have lt4 : ∀ b ∈ fp, b < s4.heap.objs.size := fun b hb => (M.fp b hb).2
  have ltS : a < Sx := Nat.lt_of_lt_of_le M.ltA hSx
  have kp2 : ∀ b o, s4.heap.get? b = some o → s2.heap.get? b = some o := fun b o e => hk2 b o (M.keep b o e)
  have I0 := gx_inv (A := A) (s2 := s2) (code := code) (ps := [(Sx, lstObj #[] c0), (a, go)]) M.inv S hfr hra.hd M.fp kp2 hos hba (M.ns.at' fun o e => hk2 _ o e) fun p hp => by
    rcases List.mem_cons.mp hp with z | z
    · rw [z]
      exact ⟨eS, Nat.lt_trans M.lt ltS, fun v q => by cases q⟩
    · rw [List.mem_singleton.mp z]
      exact ⟨hk2 _ _ ego, M.lt, hcell⟩
  have I1 : Inv (gX X A s4 H2 Ng scope (cloFrom X.env.cells scope.names []) s4.heap.objs.size code fp) ([(Sx, lstObj #[] c0), (a, go)] ++ []) (wipe (capt ix σ) vs) H2 s2 :=
    I0.weak (wipe_length _ _) fun j v e => (wipe_some e).1
  have st2 : tn 0 s2.heap := M.turn.keep _ _ _ M.st fun b _ o e => kp2 b o e
  have hro : ∀ env, Room k (A.deeper env) := fun env => hra.deeper env
  refine seg_gxs (X := gX X A s4 H2 Ng scope (cloFrom X.env.cells scope.names []) s4.heap.objs.size code fp) (i := 0) M.turn st2 ?_
  refine seg_gx (X := gX X A s4 H2 Ng scope (cloFrom X.env.cells scope.names []) s4.heap.objs.size code fp) (γ := List V) (Hold.fill _ Sx (a, go)) (J := J) (gt := gt) (tt := tt) (te := te) (σ0 := capt ix σ) (vs := vs) (W := W) (Fu := fun ys n m => n + ys.length = sizeLine)
    (Iw := fun ys y H Nx => ys.length < sizeLine ∧ Nx (ys ++ [y]) H) (fin := cont) (Sn := fun _ _ => True) over_gl rfl M.turn rfl (fun b _ p hp => by cases hp) (pg _ _ _ _ _ _ _) (pt _ _ _ _ _ _ _ hro) (pe _ _ _ _ _ _ _ hro) S.co (fun _ _ z => z)
    turn (fun h1 _ => h1) (fun b hb e => ?_) (fun _ => trivial) (fun {n s₀ m ys y H v ip σ' s Nx} hip rv hz _ hf hi => ?_) (fun {n s₀ m ys ip σ' H s} hz _ hf hfu => ?_) m0 sizeLine 0 _ _ [] H2 hW (Nat.add_zero _) trivial ⟨#[], c0, .nil, I1⟩ st2 fun b hb => (M.fp b hb).1.1
  · have hb' := lt4 b hb
    rcases e with e | e
    · rw [e] at hb'
      exact absurd (Nat.lt_trans (Nat.lt_trans M.lt ltS) hb') (Nat.lt_irrefl _)
    · rw [e] at hb'
      exact absurd (Nat.lt_trans M.lt hb') (Nat.lt_irrefl _)
  · obtain ⟨acc, cc, rvs, Iz⟩ := hz
    obtain ⟨hlt, hnx⟩ := hi
    obtain ⟨n', rfl⟩ : ∃ n', n = n' + 1 := ⟨n - 1, by omega⟩
    have eS' : s.heap.get? Sx = some (lstObj acc cc) := (Iz.pin (Sx, lstObj acc cc) (List.mem_append_right _ (List.mem_append_left _ List.mem_cons_self))).1
    have hSp := Iz.pin (Sx, lstObj acc cc) (List.mem_append_right _ (List.mem_append_left _ List.mem_cons_self))
    have hap := Iz.pin (a, go) (List.mem_append_right _ (List.mem_append_left _ (List.mem_cons_of_mem _ (List.mem_singleton.mpr rfl))))
    have hasz : acc.size = ys.length := by
      have e1 := rvs.length
      have e2 : acc.toList.length = acc.size := by simp
      omega
    refine ⟨n', rfl, fun kap hk => ⟨Iz.os, Iz.bare, Iz.nolimit, gen' hap.1, ⟨acc, cc, eS', by omega⟩, fun s' z => ?_⟩⟩
    have hG : GI (gX X A s4 H2 Ng scope (cloFrom X.env.cells scope.names []) s4.heap.objs.size code fp) Sx ((a, go) :: ip) ys σ' H s := ⟨acc, cc, rvs, Iz⟩
    have nip : ∀ p ∈ (a, go) :: ip, p.1 ≠ Sx := fun p hp e => by
      rcases List.mem_cons.mp hp with q | q
      · rw [q] at e
        exact Nat.ne_of_lt ltS e
      · have hb := lt4 p.1 (hip p q)
        rw [e] at hb
        exact absurd (Nat.lt_trans (Nat.lt_trans M.lt ltS) hb) (Nat.lt_irrefl _)
    have ncell : ∀ x cl, (gX X A s4 H2 Ng scope (cloFrom X.env.cells scope.names []) s4.heap.objs.size code fp).env.cells.lookup x = some cl → cl ≠ Sx := fun x cl e z => by
      obtain ⟨vc, o, ho, hd⟩ := Iz.cell x cl e
      rw [z, eS'] at ho
      cases ho
      cases hd
    obtain ⟨acc', cc', rvs', Iz'⟩ := hG.woken (x := y) (v := v) (fun p hp => by cases hp) nip ⟨Nat.le_of_lt (Nat.lt_trans M.lt ltS), hSp.2.2.1, ncell⟩ rv z
    exact hk (ys ++ [y]) s' hnx ⟨acc', cc', rvs', Iz'⟩ fun m' _ => by
      rw [List.length_append, List.length_singleton]
      omega
  · obtain ⟨acc, cc, rvs, Iz⟩ := hz
    have hSp := Iz.pin (Sx, lstObj acc cc) (List.mem_append_right _ (List.mem_append_left _ List.mem_cons_self))
    exact .inl ⟨.inr rfl, H, ys, acc, cc, Iz.os, Iz.bare, Iz.base, Iz.hok, hSp.2.1, hSp.1, rvs, by omega, hf⟩
end
end GX

-- GX7
set_option maxRecDepth 100000
set_option maxHeartbeats 4000000
namespace GX
open PySem PySem.Spec PyProof.Rows L2 GenW GxR
open AutoSeq1 (wpAny_loadPart')

section
variable {P : Program} {w : World} {outer : List Env} {H : Hp} {sc s : Shared} {ex : List Addr} {cont : List V → Hp → Prop} {A : Around} {k : Nat} {u : Value} {E : Value → Shared → Prop}
/-- what stands behind a generator's draining -/
def Drained (P : Program) (w : World) (outer : List Env) (H : Hp) (sc : Shared) (ex : List Addr) (cont : List V → Hp → Prop) (us : List Value) (s' : Shared) : Prop :=
  ∃ H' ys, Vals ys us ∧ ys.length ≤ sizeLine ∧ s'.os = sc.os ∧ AllBare s'.gens ∧ Un (frs outer) ex H H' sc.heap s'.heap ∧ HOk P w H' s'.heap ∧ cont ys H'
/-- the items of a generator, all at once -/
theorem collect_new {Q : List Value → Shared → Prop} (hr : Room (k + 3) A) (hfr : A.frames = some outer) (h : GMade P w k outer H sc ex cont (fun _ _ _ => False) u s)
    (hQ : ∀ us s', Drained P w outer H sc ex cont us s' → Q us s') : wpAny (model P w) A (collect u) Q E s := by
  obtain ⟨a, g, c, rfl, ha1, ha2, hg, hgs, hos, hb, hl, hkp, wake⟩ := h
  have hSa : s.heap.objs.size ≠ a := Nat.ne_of_gt ha2
  have hcl : cStatics < s.heap.objs.size := let ⟨_, hn, _⟩ := hl; hn.lt
  have hSc : s.heap.objs.size ≠ cStatics := Nat.ne_of_gt hcl
  unfold collect
  refine wpAny_bind (wpAny_runValue (codeAny_builtin F.entry_proto_collect ?_))
  rw [Around.under_plainId F.plain_proto_collect _]
  show wpAny _ A.in1 (newList [] >>= fun l => again (.builtin "list.__iadd__" ⟨[l, .ref a], []⟩)) _ _ s
  refine wpAny_bind (wpAny_newObj_type ?_)
  refine wpAny_pure ⟨plainId_quiet F.plain_list_iadd _, codeAny_builtin F.entry_list_iadd ?_⟩
  rw [Around.under_plainId F.plain_list_iadd _]
  generalize hS : s.heap.objs.size = S at *
  have eS : (s.heap.push { cls := .type "list", data := .seq ([] : List Value).toArray }).get? S = some { cls := .type "list", data := .seq ([] : List Value).toArray } := by
    rw [← hS]
    exact Heap.get?_push_size _ rfl
  have k1 : ∀ b o, s.heap.get? b = some o → (s.heap.push { cls := .type "list", data := .seq ([] : List Value).toArray }).get? b = some o := fun b o e => Heap.get?_push_of_some _ e
  have neS : ∀ b o, s.heap.get? b = some o → b ≠ S := fun b o e => by
    rw [← hS]
    exact Nat.ne_of_lt (Heap.lt_size e)
  have up : ∀ (h : Heap) (f : Obj → Obj), (∀ b o, s.heap.get? b = some o → h.get? b = some o) → ∀ b o, s.heap.get? b = some o → (h.update S f).get? b = some o := fun h f q b o e =>
    (Heap.get?_update_other _ _ (Ne.symm (neS b o e))).trans (q b o e)
  have gty : ∀ {h : Heap}, (∀ b o, s.heap.get? b = some o → h.get? b = some o) → h.IsGen a g := fun {h} q => hg.keeps q
  show wpAny _ A.in1 (Builtin.List.listExtendWith (.ref S) (.ref a) (.ref S)) _ _ _
  unfold Builtin.List.listExtendWith
  refine wpAny_bind (wpAny_typeOf (Heap.IsGen.typeIs (s := { s with heap := _ }) (gty k1)) ?_)
  have h1 : Builtin.List.listSameRef (.ref S) (.ref a) = false := by simp [Builtin.List.listSameRef, hSa]
  have h2 : (Value.type "generator" == Value.type "list") = false := by decide
  have h3 : (Value.type "generator" == Value.type "tuple") = false := by decide
  simp only [h1, h2, h3, Bool.or_false, Bool.false_eq_true, if_false]
  refine wpAny_bind (wpAny_pyIter_gen (s := { s with heap := _ }) (gty k1) (wpAny_bind (wpAny_holding ?_)))
  unfold Builtin.List.listLengthHint
  refine wpAny_bind (wpAny_specialOf (Heap.IsGen.typeIs (s := { s with heap := _ }) (gty k1)) F.gen_no_len ?_)
  show wpAny _ A.in1 (specialOf (Value.ref a) (Str.ofString "__length_hint__") >>= _) _ _ _
  refine wpAny_bind (wpAny_specialOf (Heap.IsGen.typeIs (s := { s with heap := _ }) (gty k1)) F.gen_no_hint (wpAny_pure ?_))
  show wpAny _ A.in1 (rule "list.extend.makes-room" >>= fun _ => Builtin.List.listTouch (.ref S) >>= fun _ => again (.builtin "list.extend.loop" ⟨[.ref S, .ref a, .ref S], []⟩)) _ _ _
  refine wpAny_bind (wpAny_rule (wpAny_bind ?_))
  show wpAny _ A.in1 (updateSeq S (·.push .none) >>= fun _ => updateSeq S (·.pop)) _ _ _
  refine wpAny_bind (wpAny_updateSeq eS rfl ?_)
  have e2 := Heap.get?_update_self (Obj.mapSeq (·.push Value.none)) eS rfl
  refine wpAny_updateSeq (hz := by seq_fits) e2 rfl ?_
  have e3 := Heap.get?_update_self (Obj.mapSeq (·.pop)) e2 rfl
  have k3 := up _ (Obj.mapSeq (·.pop)) (up _ (Obj.mapSeq (·.push Value.none)) k1)
  refine wpAny_pure ⟨plainId_quiet F.plain_extend_loop _, ?_⟩
  have hd : A.depth < recursionLimit := by
    have := hr.dp
    omega
  refine drain (P := P) (w := w) (outer := outer) (H := H) (sc := sc) (ex := ex) (Q := cont) (EX := fun _ _ _ => False) (A := A) (g := g) hr.hd hd hSa hSc
    (fun s' acc c H' ys q1 q2 q3 q4 q5 q6 q7 q8 q9 => ?_) (fun e s' hc => ?_) sizeLine _ (gty k3) (hl.keeps k3) ⟨_, hgs, rfl, ?_⟩
  · show wpAny _ A (load S >>= _) _ _ s'
    exact wpAny_bind (wpAny_load q1 (wpAny_pure (hQ _ s' ⟨H', ys, q2, q3, q4, q5, q6, q7, q9⟩)))
  · obtain ⟨_, _, _, _, _, _, _, _, _, _, _, _, z⟩ := hc
    exact z.elim
  · refine wake _ _ _ ⟨hr.hd, ?_, ?_⟩ hfr ?_ k3 ⟨_, e3⟩ hos (allBare_setGen (s := { s with heap := _ }) hb rfl)
    · have := hr.dp
      show A.depth + 3 * k + 5 < _
      omega
    · have := hr.un
      show A.units + 1 + 1 + 16 * k + 200 < _
      omega
    · exact Nat.le_refl _
/-- tuple(g) -/
theorem call_tuple_new {Q : Value → Shared → Prop} (hr : Room (k + 5) A) (hfr : A.frames = some outer) (h : GMade P w k outer H sc ex cont (fun _ _ _ => False) u s)
    (hQ : ∀ us s', Drained P w outer H sc ex cont us s' → Q (.ref s'.heap.objs.size) { s' with heap := s'.heap.push { cls := .type "tuple", data := .seq us.toArray } }) : wpAny (model P w) A (call (.type "tuple") [u]) Q E s := by
  have hTI : s.TypeIs u "generator" := by
    obtain ⟨a, g, c, rfl, _, _, hg, _⟩ := h
    exact hg.typeIs
  refine callType_codes (Q₁ := fun obj s₁ => s₁.TypeIs obj "tuple" ∧ Q obj s₁) F.called_tuple (F.typeCall_tuple_1 _) F.entry_object_init ?_ fun obj s₁ h₁ =>
    ⟨h₁.1, F.args_object_init_2 obj _, object_init_meets F.called_tuple.init.lookup F.called_tuple.made (by decide) P w A.in1 _ s₁ ⟨h₁.1, rfl, h₁.2⟩⟩
  refine codeAny_of_tree ?_
  show wpAny _ A.in1.in1 (do checkBuiltinCall "tuple.__new__" ⟨[.type "tuple", u], []⟩; again (.builtin "tuple.__new__" ⟨[.type "tuple", u], []⟩)) _ _ s
  refine wpAny_bind (wpAny_of_eq (F.newCall_tuple_1 _) (wpAny_pure ⟨plainId_quiet F.plain_tuple_new _, codeAny_builtin F.entry_tuple_new ?_⟩))
  rw [Around.under_plainId F.plain_tuple_new _]
  have hsub := sub_tuple_self
  have hinit := init_tuple_lookup
  have hmh := madeHere_tuple
  have hroom : Room (k + 3) A.in1.in1 := ⟨hr.hd, by have := hr.dp; show A.depth + 3 * (k + 3) + 5 < _; omega, by have := hr.un; show A.units + 1 + 1 + 16 * (k + 3) + 200 < _; omega⟩
  have hfr2 : A.in1.in1.frames = some outer := hfr
  wp_walk using wpAny_typeOf hTI, collect_new hroom hfr2 h
  intro us s' hD
  have hlen : us.toArray.size ≤ sizeLine := by
    obtain ⟨H', ys, r, hl, _⟩ := hD
    rw [List.size_toArray, ← r.length]
    exact hl
  show wpAny _ _ (Builtin.Tuple.tupleExact us.toArray >>= fun v => ret v) _ _ _
  unfold Builtin.Tuple.tupleExact
  exact wpAny_bind (wpAny_newObj_type (wpAny_pure ⟨⟨_, Heap.get?_push_size _ rfl, rfl⟩, hQ us s' hD⟩) hlen)
end

section
variable {X : Cx} {k : Nat} {p pos : Pos}
def tTupG (tg : TGen) : TE := fun σ H Q => tg σ H fun out H2 => ∀ p, H2 p = none → Q (.ref p) (upd H2 p (.tup out))
/-- behind the draining, in the def's context -/
theorem Drained.inv {pins : List (Addr × Obj)} {σ : L2.St} {H1 : Hp} {sc s' : Shared} {ex : List Addr} {cont : List V → Hp → Prop} {us : List Value} (I : Inv X pins σ H1 sc) (hex : ExOk X pins ex) (h : Drained X.prog X.w X.stack H1 sc ex cont us s') :
    ∃ H' ys, Vals ys us ∧ ys.length ≤ sizeLine ∧ Inv X pins σ H' s' ∧ cont ys H' := by
  obtain ⟨H', ys, r, hl, os, hb, un, hok, hc⟩ := h
  exact ⟨H', ys, r, hl, I.call' (ch := ex) os un hok hb hex, hc⟩
theorem pe_tupG {e : Expr} {tg : TGen} {nm : Str} (h : PGen X k e tg (fun _ _ _ => False)) (hr : Room (k + 5) X.A) (hg : Gl X nm) (hmg : X.mg nm = none) (hv : bootBuiltins nm = some (.type "tuple")) (hnm : nm ≠ "__name__" := by decide) (hdb : (nm == ("__debug__" : Str)) = false := by decide)
    (he : starEach [e] X.env = (false, eval e X.env) :: starEach [] X.env := by rfl) : PE X (.Call (.Name nm p) [e] [] pos) (tTupG tg) := by
  refine ⟨fun pins s σ H Q I hq => ?_⟩
  refine wpAny_Call_Name_kw (ld_blt I hg hmg hv ?_ hnm hdb)
  refine PyProof.Rows.callWith_type1 ?_ he rfl
  rw [he]
  show wpAny _ _ (spliced ((false, eval e X.env) :: backTo pos (starEach [] X.env))) _ _ s
  refine Calls.spliced_cons (thn (h.run pins s σ H _ I hq) fun u s1 ⟨H1, sc, ex, I1, hex, hG⟩ => ?_)
  refine Calls.spliced_nil (call_tuple_new hr I1.ok.frames hG fun us s' hD => ?_)
  obtain ⟨H', ys, r, hl, I2, hc⟩ := hD.inv I1 hex
  refine ⟨.ref s'.heap.objs.size, upd H' s'.heap.objs.size (.tup ys), I2.laid (t' := s'.toks) (fun b o e => Heap.get?_push_of_some _ e) (Nat.le_refl _) ⟨hl, us, r, ?_⟩, rfl, hc _ (I2.hok.fresh (Nat.le_refl _))⟩
  exact ⟨_, Heap.get?_push_size _ rfl, rfl, _, rfl⟩
end
end GX

-- GX8
set_option maxRecDepth 100000
set_option maxHeartbeats 4000000
namespace GX
open PySem PySem.Spec PyProof.Rows L2 GenW GxR

/-- the running sum stands in the list at S; the letter: the very list -/
structure Tly where
  t : Int
  tk : Tok
  c : Nat
abbrev Tly.obj (x : Tly) : Obj := lstObj #[.int x.t x.tk] x.c
def Hold.tally (X : Cx) (S : Addr) (q : Addr × Obj) : Hold X Tly where
  ok := fun x ip σ H s => Inv X ([(S, x.obj), q] ++ ip) σ H s
  own := fun b => b = S ∨ b = q.1
  unfold := fun {x ip σ H s} I => by
    refine ⟨[(S, x.obj), q], fun p hp => ?_, I, fun _ _ _ _ h' => h'⟩
    rcases List.mem_cons.mp hp with z | z
    · exact .inl (by rw [z])
    · exact .inr (by rw [List.mem_singleton.mp z])
/-- the protocol of sum -/
def YSum (a g S : Nat) : Protocol := fun _ s₀ v s1 kap =>
  ∃ (j : Int) (tj : Tok) (x : Tly), v = .int j tj ∧ s1.heap.IsGen a g ∧ s1.heap.NoLimit ∧ s₀.heap.get? S = some x.obj ∧ s1.heap.get? S = some x.obj ∧ InLong j ∧ InLong (x.t + j) ∧
    ∀ s' : Shared, (∀ b o, b ≠ S → s1.heap.get? b = some o → s'.heap.get? b = some o) → (∃ tk' c', s'.heap.get? S = some (lstObj #[.int (x.t + j) tk'] c')) → s'.os = s1.os → (AllBare s1.gens → AllBare s'.gens) → kap (.send .none) s'
def FSum (S : Nat) (Fin : Int → Shared → Prop) (_ : Nat) (s₀ s1 : Shared) : Prop := ∃ x : Tly, s₀.heap.get? S = some x.obj ∧ ∀ s' : Shared, (∀ b o, s1.heap.get? b = some o → s'.heap.get? b = some o) → s'.os = s1.os → (AllBare s1.gens → AllBare s'.gens) → Fin x.t s'
def RSum (S : Nat) (Fin : Int → Shared → Prop) : GenEnd := fun n s₀ r s1 => ((r = .ok (.ret .none) ∨ r = .ok .next) ∧ FSum S Fin n s₀ s1) ∨ ∃ e, r = .error e ∧ NoE e s1

section
variable {P : Program} {w : World} {A : Around} {a g S : Nat} {R : Result → Shared → Prop} {Fin : Int → Shared → Prop}
theorem tly_eq {x y : Tly} {o : Option Obj} (h1 : o = some x.obj) (h2 : o = some y.obj) : x.t = y.t := by
  rw [h1] at h2
  have e := Option.some.inj h2
  have e2 : Data.seq #[.int x.t x.tk] x.c = Data.seq #[.int y.t y.tk] y.c := congrArg Obj.data e
  injection e2 with e3 _
  have e4 := congrArg (·[0]?) e3
  simp only [List.getElem?_toArray, List.getElem?_cons_zero] at e4
  injection (Option.some.inj e4)
theorem sum_loop (hh : A.handled = none) (hd : A.depth < recursionLimit) (hSa : S ≠ a) (hSc : S ≠ cStatics) (hF : ∀ t tk s, Fin t s → R (.ok (.ret (.int t tk))) s) : ∀ (n : Nat) (s : Shared), s.heap.IsGen a g → s.heap.NoLimit → (∃ x : Tly, s.heap.get? S = some x.obj) →
    (∃ gs, s.gens[g]? = some gs ∧ gs.Goes (model P w) A.in1.in1 (RSum S Fin) (YSum a g S) n (.send .none) (s.setGen g .running)) →
    codeAny (model P w) A (.builtin "sum.loop" ⟨[.ref a, .ref S, rawInt 0, rawInt 0], []⟩) R s := by
  intro n
  induction n using Nat.strongRecOn with
  | ind n ih =>
    intro s hg hl ⟨x0, hS⟩ ⟨gs, hgs, hgo⟩
    have hgl : g < s.gens.size := (Array.getElem?_eq_some_iff.mp hgs).1
    refine codeAny_builtin F.entry_sum_loop ?_
    rw [Around.under_plainId F.plain_sum_loop _]
    show wpAny _ A.in1 (seqItems? (.ref S) >>= _) _ _ s
    refine wpAny_bind (wpAny_seqItems hS rfl ?_)
    show wpAny _ A.in1 (tryCatch (pyNext (.ref a)) _ >>= _) _ _ s
    refine wpAny_bind (wpAny_tryCatch (wpAny_gsz (n := g + 1) hgl (next_genG (A := A.in1) (F := FSum S Fin) (Er := NoE) hh hl hd hg hgs hgo (fun v s₁ gs' hbare hv => ?_) (fun s₁ hp h' hk => ?_) fun e s₁ he => he.elim)))
    · intro hsz
      obtain ⟨j, tj, x, rfl, hg1, hl1, q0, q1, f1, f2, hq⟩ := hv
      have et : x.t = x0.t := tly_eq q0 hS
      rw [et] at f2 hq
      obtain ⟨f11, f12⟩ := f1
      obtain ⟨f21, f22⟩ := f2
      have hc : ((decide (-(2 ^ 63) ≤ j) && decide (j < 2 ^ 63)) && (decide (-(2 ^ 63) ≤ x0.t + j) && decide (x0.t + j < 2 ^ 63))) = true := by
        simp only [Bool.and_eq_true, decide_eq_true_eq]
        exact ⟨⟨f11, f12⟩, f21, f22⟩
      show wpAny _ A.in1 (if (_ : Bool) = true then (mkInt (x0.t + j) >>= _) else _) _ _ _
      split
      · refine wpAny_bind (wpAny_mkInt ?_)
        show wpAny _ A.in1 (updateSeq S (fun _ => #[.int (x0.t + j) (s₁.setGen g gs').toks]) >>= _) _ _ _
        refine wpAny_bind ?_
        have q1' : (s₁.setGen g gs').heap.get? S = some x.obj := q1
        have hsz1 : g < s₁.gens.size := by
          have q : (s₁.setGen g gs').gens.size = s₁.gens.size := setGen_size _ _ _
          have hsz' : g + 1 ≤ (s₁.setGen g gs').gens.size := hsz
          omega
        have oth : ∀ b o, b ≠ S → s₁.heap.get? b = some o → (s₁.heap.update S (Obj.mapSeq (fun _ => #[.int (x0.t + j) (s₁.setGen g gs').toks]))).get? b = some o := fun b o hb e => (Heap.get?_update_other _ _ (Ne.symm hb)).trans e
        have newS := Heap.get?_update_self (Obj.mapSeq (fun _ => (#[.int (x0.t + j) (s₁.setGen g gs').toks] : Array Value))) q1 rfl
        cases n with
        | zero => exact (hq { s₁ with heap := s₁.heap.update S (Obj.mapSeq (fun _ => #[.int (x0.t + j) (s₁.setGen g gs').toks])) } oth ⟨_, _, newS⟩ rfl (fun z => z)).elim
        | succ m =>
          refine wpAny_updateSeq q1' rfl (wpAny_pure ⟨plainId_quiet F.plain_sum_loop _, ih m (Nat.lt_succ_self _) _ ?_ ?_ ⟨⟨_, _, _⟩, newS⟩ ⟨gs', setGen_here hsz1, ?_⟩⟩)
          · obtain ⟨o, nm, qn, ho, r⟩ := hg1
            exact ⟨o, nm, qn, oth a o (Ne.symm hSa) ho, r⟩
          · obtain ⟨mc, hns, hnn⟩ := hl1
            exact ⟨mc, hns.at' fun o e => oth _ o (Ne.symm hSc) e, hnn⟩
          · exact hq _ oth ⟨_, _, newS⟩ rfl fun z => setGen_same rfl (setGen_same hbare z)
      · rename_i hneg
        exact absurd hc hneg
    · intro _
      obtain ⟨x, q0, hfin⟩ := hp
      have et : x.t = x0.t := tly_eq q0 hS
      rw [et] at hfin
      exact wpAny_pure (hF _ _ _ (hfin _ (fun b o e => hk b o e) rfl fun z => setGen_same rfl z))
end

def STurn (J : It) (gt : TG) (tt : TT) (te : TE) (σ0 : L2.St) (vs : List Nat) (Q : VK) (W : Nat → Nat → Int → Hp → Prop) : Prop :=
  ∀ i m t H, W i m t H → (J.stop i H ∧ Q (.int t) H) ∨ (J.go i H ∧ ∃ Nx : Int → Hp → Prop, (∀ t' H', Nx t' H' → ∃ m', m' < m ∧ W (i + 1) m' t' H') ∧
    ∀ x H', J.yld i H x H' → gt x (wipe σ0 vs) H' fun σ2 H2 => wipe σ2 vs = wipe σ0 vs ∧ tt σ2 H2 fun b H3 => if b = true then te σ2 H3 fun y H4 => ∃ j, y = .int j ∧ InLong j ∧ InLong (t + j) ∧ Nx (t + j) H4 else Nx t H3)
def tSumG (P : Addr) (wi : TI) (gt : TG) (tt : TT) (te : TE) (ix : List (Option Nat)) (vs : List Nat) : TE := fun σ H Q => wi σ H fun J H1 => TabG H1 P ∧ ∀ H2, Tabbed P H1 H2 →
  ∃ W : Nat → Nat → Int → Hp → Prop, (∃ m, W 0 m 0 H2) ∧ STurn J gt tt te (capt ix σ) vs Q W

section
variable {X : Cx} {pins : List (Addr × Obj)} {σ : L2.St}
variable {elt tg iter : Expr} {ifs : List Expr} {scope : Scope} {gpos : Pos} {J : It} {H2 : Hp} {a g it : Addr} {fp : List Addr} {tn : Nat → Heap → Prop} {code : Value} {s4 s5 : Shared}
theorem ready_sum {A : Around} {Ng : List Str} {ix : List (Option Nat)} {vs : List Nat} {gt : TG} {tt : TT} {te : TE} {Q : VK} {W : Nat → Nat → Int → Hp → Prop} {m0 : Nat} {Sx : Addr} {x0 : Tly} {s2 : Shared} (M : Made X pins σ elt tg iter ifs scope gpos J H2 a g it fp tn code s4 s5) (S : GScp X.N X.env.scope scope Ng ix)
    (hfr : A.frames = some X.stack) (hh : A.handled = none) (hSx : s5.heap.objs.size ≤ Sx) (hk2 : ∀ b o, s5.heap.get? b = some o → s2.heap.get? b = some o) (eS : s2.heap.get? Sx = some x0.obj) (hx0 : x0.t = 0) (hos : s2.os = s5.os) (hba : AllBare s2.gens)
    (pg : PG (gX X A s4 H2 Ng scope (cloFrom X.env.cells scope.names []) s4.heap.objs.size code fp) tg gt) (pt : PTs (gX X A s4 H2 Ng scope (cloFrom X.env.cells scope.names []) s4.heap.objs.size code fp) ifs tt) (pe : PE (gX X A s4 H2 Ng scope (cloFrom X.env.cells scope.names []) s4.heap.objs.size code fp) elt te)
    (hW : W 0 m0 0 H2) (turn : STurn J gt tt te (capt ix σ) vs Q W) :
    ∃ n, (GenState.fresh (gStart elt tg iter ifs scope gpos it (genEnv scope (cloFrom X.env.cells scope.names []) s4.heap.objs.size code builtinsNs X.env))).Goes (model X.prog X.w) A (RSum Sx fun t s' => ∃ H', Inv X pins σ H' s' ∧ Q (.int t) H') (YSum a g Sx) n (.send .none) s2 := by
  obtain ⟨go, nm, qn, ego, egc, egd, egs⟩ := M.gen
  have gen' : ∀ {h : Heap}, h.get? a = some go → h.IsGen a g := fun {h} e => ⟨go, nm, qn, e, egc, egd, egs⟩
  have hcell : ∀ v, go.data ≠ .cell v := fun v q => by rw [egd] at q; cases q
  have lt4 : ∀ b ∈ fp, b < s4.heap.objs.size := fun b hb => (M.fp b hb).2
  have ltS : a < Sx := Nat.lt_of_lt_of_le M.ltA hSx
  have kp2 : ∀ b o, s4.heap.get? b = some o → s2.heap.get? b = some o := fun b o e => hk2 b o (M.keep b o e)
  have I0 := gx_inv (A := A) (s2 := s2) (code := code) (ps := [(Sx, x0.obj), (a, go)]) M.inv S hfr hh M.fp kp2 (hos.trans M.os) hba (M.ns.at' fun o e => hk2 _ o e) fun p hp => by
    rcases List.mem_cons.mp hp with z | z
    · rw [z]
      exact ⟨eS, Nat.lt_trans M.lt ltS, fun v q => by cases q⟩
    · rw [List.mem_singleton.mp z]
      exact ⟨hk2 _ _ ego, M.lt, hcell⟩
  have I1 : Inv (gX X A s4 H2 Ng scope (cloFrom X.env.cells scope.names []) s4.heap.objs.size code fp) ([(Sx, x0.obj), (a, go)] ++ []) (wipe (capt ix σ) vs) H2 s2 :=
    I0.weak (wipe_length _ _) fun j v e => (wipe_some e).1
  have st2 : tn 0 s2.heap := M.turn.keep _ _ _ M.st fun b _ o e => kp2 b o e
  refine ⟨m0 + 1, rfl, ?_⟩
  refine seg_gxs (X := gX X A s4 H2 Ng scope (cloFrom X.env.cells scope.names []) s4.heap.objs.size code fp) (i := 0) M.turn st2 ?_
  refine seg_gx (X := gX X A s4 H2 Ng scope (cloFrom X.env.cells scope.names []) s4.heap.objs.size code fp) (γ := Tly) (Hold.tally _ Sx (a, go)) (J := J) (gt := gt) (tt := tt) (te := te) (σ0 := capt ix σ) (vs := vs) (W := fun i m x H => W i m x.t H) (Fu := fun _ n m => m < n)
    (Iw := fun x y H Nx => ∃ j, y = .int j ∧ InLong j ∧ InLong (x.t + j) ∧ ∀ tk c, Nx ⟨x.t + j, tk, c⟩ H) (fin := fun x H => Q (.int x.t) H) (Sn := fun s x => s.heap.get? Sx = some x.obj) over_gl rfl M.turn rfl (fun b _ p hp => by cases hp) pg pt pe S.co (fun _ _ z => z)
    (fun i m x H hw => ?_) (fun h1 h2 => Nat.lt_trans h2 h1) (fun b hb e => ?_) (fun {x ip σ H s} hz => (hz.pin (Sx, x.obj) (List.mem_append_right _ (List.mem_append_left _ List.mem_cons_self))).1) (fun {n s₀ m x y H v ip σ' s Nx} hip rv hz hsn hf hi => ?_) (fun {n s₀ m x ip σ' H s} hz hsn hf hfu => ?_) m0 (m0 + 1) 0 _ _ x0 H2 (by rw [hx0]; exact hW) (Nat.lt_succ_self _) eS I1 st2 fun b hb => (M.fp b hb).1.1
  · rcases turn i m x.t H hw with ⟨h1, h2⟩ | ⟨h1, Nx, h2, h3⟩
    · exact .inl ⟨h1, h2⟩
    · refine .inr ⟨h1, fun x' H' => Nx x'.t H', fun x' H' z => h2 x'.t H' z, ?_⟩
      have e : (fun (y : V) (H4 : Hp) => ∃ j, y = V.int j ∧ InLong j ∧ InLong (x.t + j) ∧ ∀ (tk : Tok) (c : Nat), Nx (Tly.mk (x.t + j) tk c).t H4) = fun y H4 => ∃ j, y = V.int j ∧ InLong j ∧ InLong (x.t + j) ∧ Nx (x.t + j) H4 := by
        funext y H4
        refine propext ⟨fun ⟨j, e1, e2, e3, e4⟩ => ⟨j, e1, e2, e3, e4 0 0⟩, fun ⟨j, e1, e2, e3, e4⟩ => ⟨j, e1, e2, e3, fun _ _ => e4⟩⟩
      rw [e]
      exact h3
  · have hb' := lt4 b hb
    rcases e with e | e
    · rw [e] at hb'
      exact absurd (Nat.lt_trans (Nat.lt_trans M.lt ltS) hb') (Nat.lt_irrefl _)
    · rw [e] at hb'
      exact absurd (Nat.lt_trans M.lt hb') (Nat.lt_irrefl _)
  · obtain ⟨j, rfl, f1, f2, hnx⟩ := hi
    obtain ⟨tj, rfl⟩ : ∃ tj, v = Value.int j tj := rv
    obtain ⟨n', rfl⟩ : ∃ n', n = n' + 1 := ⟨n - 1, by omega⟩
    have hSp := hz.pin (Sx, x.obj) (List.mem_append_right _ (List.mem_append_left _ List.mem_cons_self))
    have hap := hz.pin (a, go) (List.mem_append_right _ (List.mem_append_left _ (List.mem_cons_of_mem _ (List.mem_singleton.mpr rfl))))
    refine ⟨n', rfl, fun kap hk => ⟨j, tj, x, rfl, gen' hap.1, hz.nolimit, hsn, hSp.1, f1, f2, fun s' h1 h2 h3 h4 => ?_⟩⟩
    obtain ⟨tk', c', eS'⟩ := h2
    refine hk ⟨x.t + j, tk', c'⟩ s' (hnx tk' c') ?_ fun m' hm => by omega
    have nip : ∀ p ∈ (a, go) :: ip, p.1 ≠ Sx := fun p hp e => by
      rcases List.mem_cons.mp hp with q | q
      · rw [q] at e
        exact Nat.ne_of_lt ltS e
      · have hb := lt4 p.1 (hip p q)
        rw [e] at hb
        exact absurd (Nat.lt_trans (Nat.lt_trans M.lt ltS) hb) (Nat.lt_irrefl _)
    have ncell : ∀ y cl, (gX X A s4 H2 Ng scope (cloFrom X.env.cells scope.names []) s4.heap.objs.size code fp).env.cells.lookup y = some cl → cl ≠ Sx := fun y cl e z => by
      obtain ⟨vc, o, ho, hd⟩ := hz.cell y cl e
      rw [z, hSp.1] at ho
      cases ho
      cases hd
    have nt : ∀ b u, H b = some u → b ≠ Sx := fun b u q e => by
      rw [e, hSp.2.1] at q
      cases q
    -- the list at Sx has turned
    have Ia : Inv (gX X A s4 H2 Ng scope (cloFrom X.env.cells scope.names []) s4.heap.objs.size code fp) ((a, go) :: ip) σ' H s := hz.pins_of fun p hp => hz.pin p (List.mem_append_right _ (by
      rcases List.mem_cons.mp hp with q | q
      · exact List.mem_append_left _ (by rw [q]; exact List.mem_cons_of_mem _ (List.mem_singleton.mpr rfl))
      · exact List.mem_append_right _ q))
    have Ib : Inv (gX X A s4 H2 Ng scope (cloFrom X.env.cells scope.names []) s4.heap.objs.size code fp) ((a, go) :: ip) σ' H s' := by
      refine Ia.call' (ch := [Sx]) h3 ⟨fun b o e n _ hc => h1 b o (fun z => hc (by rw [z]; exact List.mem_singleton.mpr rfl)) e, fun b o e n _ hc => ⟨o.slots, h1 b o (fun z => hc (by rw [z]; exact List.mem_singleton.mpr rfl)) e⟩, fun _ _ _ n _ => n,
        fun b o e hc => ⟨o, h1 b o (fun z => hc (by rw [z]; exact List.mem_singleton.mpr rfl)) e⟩, fun _ _ q => q, fun _ _ _ q => q, fun b ps q => ⟨#[], by rw [q]; simp⟩⟩ (fun b u q => ?_) (h4 hz.bare) fun b hb => ?_
      · refine (Ia.hok b u q).stay (fun c v hc y => h1 c v ?_ y) (fun _ y => y) fun _ _ y => y
        rcases hc with y | y
        · rw [y]
          exact nt b u q
        · exact nt c _ y
      · rw [List.mem_singleton.mp hb]
        exact ⟨.inr (Nat.le_of_lt (Nat.lt_trans M.lt ltS)), hSp.2.2.1.symm.symm, fun y cl e => ncell y cl e, fun p hp => nip p (by
          rcases List.mem_append.mp hp with q | q
          · cases q
          · exact q)⟩
    refine Ib.pins_of fun p hp => ?_
    rcases List.mem_append.mp hp with q | q
    · rcases List.mem_cons.mp q with q | q
      · rw [q]
        exact ⟨eS', hSp.2.1, hSp.2.2.1, hSp.2.2.2.1, fun v z => by cases z⟩
      · rw [List.mem_singleton.mp q]
        exact Ib.pin (a, go) (List.mem_append_right _ List.mem_cons_self)
    · exact Ib.pin p (List.mem_append_right _ (List.mem_cons_of_mem _ q))
  · exact .inl ⟨.inr rfl, x, hsn, fun s' h1 h2 h3 => ⟨H, M.back hz h1 h2 (h3 hz.bare), hf⟩⟩
end
end GX

-- GX9
set_option maxRecDepth 100000
set_option maxHeartbeats 4000000
namespace GX
open PySem PySem.Spec PyProof.Rows L2 GenW GxR
section
variable {X : Cx} {c P : Addr} {elt tg iter : Expr} {ifs : List Expr} {p pos gpos : Pos} {scope : Scope} {Ng : List Str} {ix : List (Option Nat)} {vs : List Nat} {wi : TI} {gt : TG} {tt : TT} {te : TE} {k : Nat}
theorem pe_sumG (hr : Room (k + 1) X.A) (hg : Gl X "sum") (hm : X.mg "sum" = none) (hb : bootBuiltins "sum" = some (.builtin "sum")) (TB : TabB X.base X.mg c P) (hcode : X.env.code = .ref c) (S : GScp X.N X.env.scope scope Ng ix) (hi : PI X tg iter wi)
    (pg : ∀ (A : Around) (s4 : Shared) (H4 : Hp) (cl : List (Str × Addr)) (C : Addr) (code : Value) (fp : List Addr), PG (gX X A s4 H4 Ng scope cl C code fp) tg gt) (pt : ∀ (A : Around) (s4 : Shared) (H4 : Hp) (cl : List (Str × Addr)) (C : Addr) (code : Value) (fp : List Addr), (∀ env, Room k (A.deeper env)) → PTs (gX X A s4 H4 Ng scope cl C code fp) ifs tt)
    (pe : ∀ (A : Around) (s4 : Shared) (H4 : Hp) (cl : List (Str × Addr)) (C : Addr) (code : Value) (fp : List Addr), (∀ env, Room k (A.deeper env)) → PE (gX X A s4 H4 Ng scope cl C code fp) elt te) (hs : ∀ v, genFold iter X.env v = pure v := by intro _; rfl)
    (he : starEach [.GeneratorExp elt [⟨tg, iter, ifs, 0⟩] scope gpos] X.env = (false, eval (.GeneratorExp elt [⟨tg, iter, ifs, 0⟩] scope gpos) X.env) :: starEach [] X.env := by rfl) :
    PE X (.Call (.Name "sum" p) [.GeneratorExp elt [⟨tg, iter, ifs, 0⟩] scope gpos] [] pos) (tSumG P wi gt tt te ix vs) := by
  refine ⟨fun pins s σ H Q I h => ?_⟩
  refine wpAny_Call_Name_kw (ld_blt I hg hm hb ?_)
  refine PyProof.Rows.callWith_builtin1 ?_ he (by rfl)
  rw [he]
  show wpAny _ _ (spliced ((false, eval (.GeneratorExp elt [⟨tg, iter, ifs, 0⟩] scope gpos) X.env) :: backTo pos (starEach [] X.env))) _ _ s
  refine Calls.spliced_cons (gx_make (R := fun J H2 => ∃ W : Nat → Nat → Int → Hp → Prop, (∃ m, W 0 m 0 H2) ∧ STurn J gt tt te (capt ix σ) vs Q W) hr TB hcode S hi hs I h fun J H2 a g it fp tn code s4 s5 hR M => ?_)
  obtain ⟨W, ⟨m0, hW⟩, turn⟩ := hR
  have hr2 : ∀ env, Room k (X.A.in1.in1.deeper env) := fun env => ⟨hr.hd, by have := hr.dp; show X.A.depth + 1 + 3 * k + 5 < _; omega, by have := hr.un; show X.A.units + 1 + 1 + 3 + 16 * k + 200 < _; omega⟩
  refine Calls.spliced_nil (call_function_tree F.kind_sum F.plain_sum F.entry_sum (F.args_sum1 _) ?_)
  unfold Builtin.«sum»
  simp only [List.length_cons, List.length_nil]
  rw [if_neg (by decide)]
  refine wpAny_bind (wpAny_of_eq (show Builtin.Builtins.bindParams "sum" ["start"] 0 { } = pure [none] from rfl) (wpAny_bind (wpAny_pyIter_gen M.gen ?_)))
  refine wpAny_bind (wpAny_mkInt (wpAny_bind (wpAny_pure ?_)))
  simp only [List.forIn_cons, List.forIn_nil]
  refine wpAny_bind (wpAny_bind (wpAny_bind (wpAny_isInstance (T := "int") (b := false) (typeIs_int _ _ _) PySem.sub_int_str ?_)))
  simp only [Bool.false_eq_true, if_false]
  refine wpAny_pure (wpAny_bind (wpAny_bind (wpAny_isInstance (T := "int") (b := false) (typeIs_int _ _ _) PySem.sub_int_bytes ?_)))
  simp only [Bool.false_eq_true, if_false]
  refine wpAny_pure (wpAny_bind (wpAny_bind (wpAny_isInstance (T := "int") (b := false) (typeIs_int _ _ _) PySem.sub_int_bytearray ?_)))
  simp only [Bool.false_eq_true, if_false]
  refine wpAny_pure (wpAny_pure (wpAny_bind (wpAny_newObj_type ?_)))
  have ltS : s5.heap.objs.size ≠ a := Nat.ne_of_gt M.ltA
  have hcl : cStatics < s5.heap.objs.size := let ⟨_, hn, _⟩ := M.lim; hn.lt
  have kp : ∀ b o, s5.heap.get? b = some o → (s5.heap.push { cls := .type "list", data := .seq ([Value.int 0 s5.toks] : List Value).toArray }).get? b = some o := fun b o e => Heap.get?_push_of_some _ e
  have eS : (s5.heap.push { cls := .type "list", data := .seq ([Value.int 0 s5.toks] : List Value).toArray }).get? s5.heap.objs.size = some (Tly.obj ⟨0, s5.toks, 0⟩) := Heap.get?_push_size _ rfl
  refine wpAny_pure ⟨plainId_quiet F.plain_sum_loop _, ?_⟩
  obtain ⟨n, hgo⟩ := ready_sum (A := X.A.in1.in1) (Sx := s5.heap.objs.size) (x0 := ⟨0, s5.toks, 0⟩) (s2 := ({ s5 with heap := s5.heap.push { cls := .type "list", data := .seq ([Value.int 0 s5.toks] : List Value).toArray }, toks := s5.toks + 1 } : Shared).setGen g .running) M S M.inv.ok.frames hr.hd (Nat.le_refl _) kp eS rfl rfl (allBare_setGen (s := { s5 with heap := _ }) M.bare rfl)
    (pg _ _ _ _ _ _ _) (pt _ _ _ _ _ _ _ hr2) (pe _ _ _ _ _ _ _ hr2) hW turn
  refine sum_loop (A := X.A) (Fin := fun t s' => ∃ H', Inv X pins σ H' s' ∧ Q (.int t) H') hr.hd (by have := hr.dp; omega) ltS (Nat.ne_of_gt hcl) (fun t tk s' h => ?_) n _ (M.gen.keeps kp) (M.lim.keeps kp) ⟨_, eS⟩ ⟨_, M.gs, hgo⟩
  obtain ⟨H', I', q⟩ := h
  exact ⟨.int t, H', I', ⟨tk, rfl⟩, q⟩
end
end GX

-- LX1
set_option maxRecDepth 100000
set_option maxHeartbeats 4000000
/-! LX: lambdas without parameters as values; the def that calls one and tells its errors by words. -/
namespace LX
open PySem PySem.Spec PyProof.Rows L2
open LamX (CodeO TabS Tabs ExtN inv_table codeO_ne among_app LamS)

/-- a lambda's own words -/
structure LF where
  params : Arguments
  body : Expr
  scope : Scope
  cl : List (Str × Addr)
  c : Addr
  qual : Str
def LamO (f : Addr) (L : LF) : HO := .ext fun h => ∃ pm ctv, h.get? f = some (PySem.W.kla_obj "<lambda>" L.qual L.params L.body L.scope L.cl pm L.c ctv)
theorem lamO_at {P : Program} {w : World} {H : Hp} {h : Heap} {f : Addr} {L : LF} (hok : HOk P w H h) (e : H f = some (LamO f L)) : ∃ pm ctv, h.get? f = some (PySem.W.kla_obj "<lambda>" L.qual L.params L.body L.scope L.cl pm L.c ctv) := by
  obtain ⟨z, _, _⟩ := hok f _ e
  exact z
section
variable {X : Cx} {pins : List (Addr × Obj)} {σ : L2.St} {H : Hp} {s : Shared}
theorem inv_lam {L : LF} {pm ctv : Value} {t' : Nat} (I : Inv X pins σ H s) :
    Inv X pins σ (upd H s.heap.objs.size (LamO s.heap.objs.size L)) { s with heap := s.heap.push (PySem.W.kla_obj "<lambda>" L.qual L.params L.body L.scope L.cl pm L.c ctv), toks := t' } := by
  refine I.laid (a := s.heap.objs.size) (fun b u e => Heap.get?_push_of_some _ e) (Nat.le_refl _) ?_
  have e : (s.heap.push (PySem.W.kla_obj "<lambda>" L.qual L.params L.body L.scope L.cl pm L.c ctv)).get? s.heap.objs.size = some (PySem.W.kla_obj "<lambda>" L.qual L.params L.body L.scope L.cl pm L.c ctv) := Heap.get?_push_size _ rfl
  exact ⟨⟨pm, ctv, e⟩, ⟨_, e⟩, fun h1 h2 ⟨p, t, z⟩ st => ⟨p, t, st _ z⟩⟩
/-- the lambda is made, and known from now on -/
theorem lam_new {T : List (Addr × Str)} {c P : Addr} {params : Arguments} {body : Expr} {scope : Scope} {pos : Pos} {E : Value → Shared → Prop} {Q : Value → Shared → Prop} (I : Inv X pins σ H s) (TB : LamX.TabB X.base X.mg c P) (hcode : X.env.code = .ref c)
    (hm : (P, X.env.qual ++ "<lambda>") ∈ T) (hu : ∀ p ∈ T, p.1 = P → p.2 = X.env.qual ++ "<lambda>") (hT : Tabs T H) (hdef : defaultsOf params X.env = ([], [])) (hfree : ∀ y ∈ scope.names, y.2 = .free → ∃ c, X.env.cells.lookup y.1 = some c)
    (h : ∀ (f c' : Addr) (H1 : Hp) (s' : Shared), Inv X pins σ H1 s' → ExtN H H1 → Tabs T H1 → H f = none → H1 f = some (LamO f ⟨params, body, scope, cloFrom X.env.cells scope.names [], c', X.env.qual ++ "<lambda>"⟩) → H1 c' = some (CodeO c' (X.env.qual ++ "<lambda>")) →
      (∀ b, H1 b = none → H b = none) → (∀ b o, b ≠ P → H b = some o → H1 b = some o) → Q (.ref f) s') :
    wpAny (model X.prog X.w) X.A (eval (.Lambda params body scope pos) X.env) Q E s := by
  obtain ⟨ps, hP, ht, ha⟩ := hT _ hm
  refine PySem.W.kla_eval hdef ?_
  have bP : s.heap.BuiltinsAt X.mg P := TB.bm.keeps I.bk
  have hP' : s.heap.get? P = some { cls := .none, data := .fields ps } := I.hok P _ hP
  have back : ∀ {H : Hp} {a b : Addr} {o : HO}, upd H a o b = none → H b = none := fun {H a b o} e => by
    unfold upd at e
    split at e
    · cases e
    · exact e
  cases hc : codeAmong pos ps.toList with
  | none =>
    refine PySem.W.kla_makeFunction (mg := X.mg) (c := c) (P := P) (ps := ps) (closure_ok hfree) I.ok.glob (I.mod.glob.keeps I.bk) hcode (TB.code.keeps I.bk) hP' ht hc TB.gP bP fun c' ctv h' tk hx hge hlt hrec htb => ?_
    obtain ⟨c2, oc, vs, t, e2, hoc, hd, hv⟩ := hrec
    cases e2
    have nC : H c' = none := I.hok.fresh hge
    have I1 := inv_table (t' := tk) (more := #[rawInt pos.line, rawInt pos.col, .ref c']) (h' := h') I hP (fun b o hb e => hx b o hb e) htb hge ⟨oc, vs, t, hoc, hd, hv⟩
    have eL : (ps ++ #[rawInt pos.line, rawInt pos.col, .ref c']).toList = ps.toList ++ [rawInt pos.line, rawInt pos.col, .ref c'] := by simp
    have hE : ExtN H (upd (upd H P (.tbl (ps ++ #[rawInt pos.line, rawInt pos.col, .ref c']))) c' (CodeO c' (X.env.qual ++ "<lambda>"))) := fun b o e n => by
      rw [upd_ne (ne_of_none e nC), upd_ne (fun z => n ps (Option.some.inj (e.symm.trans (by rw [z]; exact hP))))]
      exact e
    have T1 : Tabs T (upd (upd H P (.tbl (ps ++ #[rawInt pos.line, rawInt pos.col, .ref c']))) c' (CodeO c' (X.env.qual ++ "<lambda>"))) := fun p hp => by
      by_cases hb : p.1 = P
      · rw [hu p hp hb, hb]
        refine ⟨_, by rw [upd_ne (ne_of_none hP nC), upd_same], by rw [eL]; exact PySem.TriplesOk_snoc _ _ _ _ ht, fun p' cv hcv => ?_⟩
        rw [eL] at hcv
        rcases among_app _ ht hcv with z | z
        · obtain ⟨c0, e1, e2⟩ := ha p' cv z
          exact ⟨c0, e1, hE _ _ e2 codeO_ne⟩
        · exact ⟨c', z, upd_same⟩
      · obtain ⟨ps', a1, a2, a3⟩ := hT p hp
        refine ⟨ps', by rw [upd_ne (ne_of_none a1 nC), upd_ne hb]; exact a1, a2, fun p' cv hcv => ?_⟩
        obtain ⟨c0, e1, e2⟩ := a3 p' cv hcv
        exact ⟨c0, e1, hE _ _ e2 codeO_ne⟩
    have nF := I1.hok.fresh (Nat.le_refl _)
    have I2 := inv_lam (L := ⟨params, body, scope, cloFrom X.env.cells scope.names [], c', X.env.qual ++ "<lambda>"⟩) (pm := (X.mg "__name__").getD .none) (ctv := ctv) (t' := tk) I1
    refine h h'.objs.size c' _ _ I2 (fun b o e n => ?_) (T1.ext fun b o e => ?_) (I.hok.fresh (Nat.le_trans hge (Nat.le_of_lt hlt))) upd_same ((upd_ne (Nat.ne_of_lt hlt)).trans upd_same) (fun b e => back (back (back e))) (fun b o nb e => by
      have e2 : upd (upd H P (.tbl (ps ++ #[rawInt pos.line, rawInt pos.col, .ref c']))) c' (CodeO c' (X.env.qual ++ "<lambda>")) b = some o := by
        rw [upd_ne (ne_of_none e nC), upd_ne nb]
        exact e
      exact (upd_ne (ne_of_none e2 nF)).trans e2)
    · exact (upd_ne (ne_of_none (hE b o e n) nF)).trans (hE b o e n)
    · exact (upd_ne (ne_of_none e nF)).trans e
  | some cv =>
    obtain ⟨c', e, hco⟩ := ha pos cv hc
    subst e
    refine PySem.W.kla_makeFunctionHit (mg := X.mg) (c := c) (P := P) (ps := ps) (closure_ok hfree) I.ok.glob (I.mod.glob.keeps I.bk) hcode (TB.code.keeps I.bk) hP' ht hc bP fun ctv h' tk hx hsz => ?_
    have I1 : Inv X pins σ H { s with heap := h', toks := tk } := I.kept hx
    have nF : H h'.objs.size = none := I1.hok.fresh (Nat.le_refl _)
    have I2 := inv_lam (L := ⟨params, body, scope, cloFrom X.env.cells scope.names [], c', X.env.qual ++ "<lambda>"⟩) (pm := (X.mg "__name__").getD .none) (ctv := ctv) (t' := tk) I1
    refine h h'.objs.size c' _ _ I2 (fun b o e n => ?_) (hT.ext fun b o e => ?_) nF upd_same ((upd_ne (ne_of_none hco nF)).trans hco) (fun b e => back e) (fun b o _ e => (upd_ne (ne_of_none e nF)).trans e)
    · exact (upd_ne (ne_of_none e nF)).trans e
    · exact (upd_ne (ne_of_none e nF)).trans e
end
/-- the lambda as a value -/
def tLamV (T : List (Addr × Str)) (P : Addr) (mk : Addr → LF) : TE := fun σ H Q => Tabs T H ∧ ∀ (f c' : Addr) (H1 : Hp), ExtN H H1 → Tabs T H1 → H f = none → H1 f = some (LamO f (mk c')) → H1 c' = some (CodeO c' (mk c').qual) → (∀ b, H1 b = none → H b = none) → (∀ b o, b ≠ P → H b = some o → H1 b = some o) → Q (.ref f) H1
section
variable {X : Cx}
theorem pe_lam {T : List (Addr × Str)} {c P : Addr} {params : Arguments} {body : Expr} {scope : Scope} {pos : Pos} (TB : LamX.TabB X.base X.mg c P) (hcode : X.env.code = .ref c) (hm : (P, X.env.qual ++ "<lambda>") ∈ T) (hu : ∀ p ∈ T, p.1 = P → p.2 = X.env.qual ++ "<lambda>")
    (L : LamS X.env.scope scope) (hdef : defaultsOf params X.env = ([], []) := by rfl) :
    PE X (.Lambda params body scope pos) (tLamV T P fun c' => ⟨params, body, scope, cloFrom X.env.cells scope.names [], c', X.env.qual ++ "<lambda>"⟩) := by
  refine ⟨fun pins s σ H Q I h => ?_⟩
  obtain ⟨hT, h⟩ := h
  exact lam_new I TB hcode hm hu hT hdef (L.has I.ok) fun f c' H1 s' I1 eN T1 f0 f1 c1 nn kp => ⟨.ref f, H1, I1, rfl, h f c' H1 eN T1 f0 f1 c1 nn kp⟩
end
end LX

-- LX2
set_option maxRecDepth 100000
set_option maxHeartbeats 4000000
namespace LX
open PySem PySem.Spec PyProof.Rows L2
open LamX (CodeO TabS Tabs ExtN inv_table codeO_ne among_app LamS)

abbrev lamE (L : LF) (n f : Addr) : Env := PySem.W.envX L.qual L.scope n f (.ref L.c) L.cl
/-- the context of a lambda's body that captures nothing -/
def lamC (P : Program) (w : World) (K : PySem.W.Frag) (mg : Str → Option Value) (base : Heap) (A : Around) (outer : List Env) (s : Shared) (H : Hp) (E : XK) (L : LF) (f : Addr) : Cx where
  prog := P
  w := w
  K := K
  mg := mg
  base := base
  A := A.deeper (lamE L s.heap.objs.size f)
  N := []
  s_0 := s
  H_0 := H
  env := lamE L s.heap.objs.size f
  outer := outer
  stack := lamE L s.heap.objs.size f :: outer
  ex := []
  fn := fun _ => false
  calm := true
  pn := []
  xe := fun e s' => wpAny (model P w) (A.deeper (lamE L s.heap.objs.size f)) (leaving (lamE L s.heap.objs.size f) e) (fun _ s'' => L2.CX P w outer H s E e s'') (fun e' s'' => L2.CX P w outer H s E e' s'') s'
/-- a lambda that captures nothing: tl is what its body is worth -/
structure LamOk (P : Program) (w : World) (K : PySem.W.Frag) (mg : Str → Option Value) (base : Heap) (k : Nat) (L : LF) (tl : XK → Hp → VK → Prop) : Prop where
  kind : L.scope.kind = .function
  co : L.scope.isCoroutine = false
  gen : L.scope.isGenerator = false
  own : ∀ y ∈ L.scope.names, y.2 ≠ .local ∧ y.2 ≠ .cell ∧ y.2 ≠ .free
  cl : L.cl = []
  bind : ∀ pm ctv : Value, bindArgs (PySem.W.kla_fn "<lambda>" L.qual L.params L.body L.scope L.cl pm (.ref L.c) ctv) ⟨[], []⟩ = pure []
  body : ∀ (A : Around) (outer : List Env) (s : Shared) (H : Hp) (E : XK) (f : Addr), Room k (A.deeper (lamE L s.heap.objs.size f)) → PE (lamC P w K mg base A outer s H E L f) L.body (fun _ H' Q => tl E H' Q)

section
variable {P : Program} {w : World} {K : PySem.W.Frag} {mg : Str → Option Value} {base : Heap}
theorem lam_begin {A : Around} {outer : List Env} {s1 : Shared} {HZ : Hp} {E : XK} {L : LF} {f : Addr} {h₁ : Heap} {tk : Nat} (kind : L.scope.kind = .function) (own : ∀ y ∈ L.scope.names, y.2 ≠ .local ∧ y.2 ≠ .cell ∧ y.2 ≠ .free) (hcl : L.cl = []) (e0 : Env0 P w K mg base A outer s1 HZ) (hd : A.handled = none)
    (hns : h₁.Ns s1.heap.objs.size fun y => ([] : List (Str × Value)).reverse.lookup y) (kp : ∀ b o, s1.heap.get? b = some o → h₁.get? b = some o) :
    Inv (lamC P w K mg base A outer s1 HZ E L f) [] [] HZ { s1 with heap := h₁, toks := tk } := by
  have nocl : ∀ {y : Str} {c : Addr}, (lamE L s1.heap.objs.size f).cells.lookup y = some c → False := fun {y c} e => by
    have e : L.cl.lookup y = some c := e
    rw [hcl] at e
    cases e
  have noA : ∀ b : Addr, b ∉ (lamC P w K mg base A outer s1 HZ E L f).ex := fun b z => absurd (show b ∈ ([] : List Addr) from z) (by simp)
  refine ⟨⟨e0.mod, kind, rfl, rfl, Nat.le_refl _, fun y z c e1 e2 => (nocl e1).elim, fun y hy => ?_, fun y c z _ => ?_, fun _ => hd, Around.frames_deeper e0.frames, .inr ⟨rfl, rfl⟩, fun b z => absurd z (noA b), e0.bs, e0.bsz, fun b _ _ => noA b,
      fun b z => absurd z (noA b), e0.funs, e0.frf⟩,
    rfl, e0.bare, Un.kept kp, ⟨_, hns, fun i y v e1 e2 e3 => ?_⟩, fun y c e => (nocl e).elim, e0.hok.fresh (Nat.le_refl _), fun y c e => (nocl e).elim, fun q hq => absurd (show q ∈ ([] : List (Addr × Obj)) ++ [] from hq) (by simp), e0.hok.kept kp, rfl⟩
  · have hy : L.scope.names.lookup y = some .cell ∨ L.scope.names.lookup y = some .free := hy
    rcases hy with hy | hy
    · exact absurd rfl (own _ (PySem.mem_of_lookup hy)).2.1
    · exact absurd rfl (own _ (PySem.mem_of_lookup hy)).2.2
  · have z : false = true := z
    cases z
  · have e1 : ([] : List Str)[i]? = some y := e1
    simp at e1
end
/-- what()  -/
def tAct (P : Program) (w : World) (K : PySem.W.Frag) (mg : Str → Option Value) (base : Heap) (k i : Nat) (E : XK) : TE := fun σ H Q => ∃ f L tl, σ[i]? = some (some (.ref f)) ∧ H f = some (LamO f L) ∧ H L.c = some (CodeO L.c L.qual) ∧ LamOk P w K mg base k L tl ∧ tl E H Q
section
variable {Z : Cx}
theorem pe_act {k i : Nat} {a : Str} {E : XK} {p1 p2 : Pos} (hx : Passes (L2.CX Z.prog Z.w) Z E) (hr : Room (k + 1) Z.A) (hN : Z.N[i]? = some a) (hv : Vis Z.env.scope a) (hd : (a == ("__debug__" : Str)) = false := by decide) (hcd : (a == ("__classdict__" : Str)) = false := by decide) :
    PE Z (.Call (.Name a p1) [] [] p2) (tAct Z.prog Z.w Z.K Z.mg Z.base k i E) := by
  refine ⟨fun pinsZ sZ σZ HZ Q IZ h => ?_⟩
  obtain ⟨f, L, tl, hs, hf, hc, ok, ht⟩ := h
  refine wpAny_Call_Name_kw (thn ((pe_var (pos := p1) (i := i) hN hv hd hcd).run pinsZ sZ σZ HZ (fun v H1 => v = .ref f ∧ H1 = HZ) IZ ⟨.ref f, hs, rfl, rfl⟩) fun u s1 ⟨v, H1, I1, r1, ev, eH⟩ => ?_)
  subst ev
  rw [eH] at I1
  obtain rfl : u = Value.ref f := r1
  obtain ⟨pm, ctv, of1⟩ := lamO_at I1.hok hf
  refine PySem.W.callWith_F0 ⟨_, _, _, _, of1⟩ ?_
  obtain ⟨⟨oc, vs, t, hoc, hdc, hvc⟩, _, _⟩ := I1.hok L.c _ hc
  have rc : codeAny (model Z.prog Z.w) Z.A (.call (.ref f) ⟨[], []⟩) (CR (L2.CX Z.prog Z.w) Z.stack Z.prog Z.w HZ s1 Q E) s1 := by
    refine PySem.W.kla_callFunE hr.depth of1 rfl ok.co ok.gen rfl ⟨L.c, oc, vs, t, rfl, hoc, hdc, hvc⟩ ?_
    rw [ok.bind]
    refine wpAny_pure (wpAny_newFunctionEnv (fun y hy => (ok.own y hy).2.1) (fun y hy => absurd hy (by simp)) (fun h₁ hns hsb => ⟨I1.nolimit.fresh _ hsb, ?_⟩) ok.kind)
    have kp : ∀ b o, s1.heap.get? b = some o → h₁.get? b = some o := fun b o e => hsb.extBut b o (Nat.ne_of_lt (Heap.lt_size e)) (Heap.get?_push_of_some _ e)
    have J : Inv (lamC Z.prog Z.w Z.K Z.mg Z.base Z.A Z.stack s1 HZ E L f) [] [] HZ { s1 with heap := h₁, toks := s1.toks + ([] : List (Str × Value)).length } :=
      lam_begin ok.kind ok.own ok.cl I1.env0 hr.hd hns kp
    refine PySem.W.kla_codeExpr (wpAny_mono ((ok.body _ _ s1 HZ E f (hr.deeper _)).run [] _ _ HZ Q J ht) (fun v s' hq => ?_) fun e s' hq => hq)
    obtain ⟨w', H', J', rv, q⟩ := hq
    exact ⟨w', H', J'.os, J'.bare, J'.base, J'.hok, rv, q⟩
  refine wpAny_call (codeAny_mono rc fun r s' hq => ?_)
  cases r with
  | error e => exact hx pinsZ σZ HZ s1 e s' I1 hq
  | ok fl =>
    cases fl with
    | ret u => exact I1.after hq
    | next => exact False.elim hq
    | brk => exact False.elim hq
    | cont => exact False.elim hq
end
end LX

-- XT1
set_option maxRecDepth 100000
set_option maxHeartbeats 4000000
namespace XT
open PySem PySem.Spec PyProof.Rows L2
section
variable {X : Cx} {a b c d : Expr} {ta tb tc td : TE} {pos : Pos}
/-- a op1 b op2 c op3 d as a test -/
def tChain3 (r r' r'' : R2) (ta tb tc td : TE) : TT := fun σ H Q => ta σ H fun x H1 => tb σ H1 fun y H2 => r x y H2 fun z H3 => ∃ k, z = .bl k ∧
  (if k = true then tc σ H3 fun u H4 => r' y u H4 fun z' H5 => ∃ k', z' = .bl k' ∧ (if k' = true then td σ H5 fun w' H6 => r'' u w' H6 fun z'' H7 => ∃ k'', z'' = .bl k'' ∧ Q k'' H7 else Q false H5) else Q false H3)
theorem pt_chain3 {op op' op'' : CmpOp} {r r' r'' : R2} (ho : OpR X (compareOp op) r) (ho' : OpR X (compareOp op') r') (ho'' : OpR X (compareOp op'') r'') (ha : PE X a ta) (hb : PE X b tb) (hc : PE X c tc) (hd : PE X d td)
    (hm : lastMarks [op, op', op''] [b, c, d] = false := by with_unfolding_all rfl) : PT X (.Compare a [op, op', op''] [b, c, d] pos) (tChain3 r r' r'' ta tb tc td) := by
  refine ⟨fun pins s σ H Q I h => ?_⟩
  refine isTrue_chain (thn (ha.run pins s σ H _ I h) fun v s1 ⟨x, H1, I1, r1, q1⟩ => test_link (thn (hb.run pins s1 σ H1 _ I1 q1) fun u s2 ⟨y, H2, I2, r2, q2⟩ =>
    thn (ho pins s2 σ H2 x y v u _ I2 r1 r2 q2) fun e s3 ⟨z, H3, I3, r3, k, ez, q3⟩ => ?_)) hm
  subst ez
  cases r3
  refine wpAny_truthy_bool ?_
  cases k with
  | false => exact ite_ff ⟨H3, I3, q3⟩
  | true =>
    refine ite_tt (test_link (thn (hc.run pins s3 σ H3 _ I3 q3) fun u2 s4 ⟨y2, H4, I4, r4, q4⟩ => thn (ho' pins s4 σ H4 y y2 u u2 _ I4 r2 r4 q4) fun e2 s5 ⟨z2, H5, I5, r5, k2, ez2, q5⟩ => ?_))
    subst ez2
    cases r5
    refine wpAny_truthy_bool ?_
    cases k2 with
    | false => exact ite_ff ⟨H5, I5, q5⟩
    | true =>
      refine ite_tt (test_last (thn (hd.run pins s5 σ H5 _ I5 q5) fun u3 s6 ⟨y3, H6, I6, r6, q6⟩ => thn (ho'' pins s6 σ H6 y2 y3 u2 u3 _ I6 r4 r6 q6) fun e3 s7 ⟨z3, H7, I7, r7, k3, ez3, q7⟩ => ?_))
      subst ez3
      cases r7
      exact wpAny_truthy_bool ⟨H7, I7, q7⟩
end
end XT

-- XT2
set_option maxRecDepth 100000
set_option maxHeartbeats 4000000
namespace XT
open PySem PySem.Spec PyProof.Rows L2
/-- a small number -/
def Sm (i : Int) : Prop := -100000 ≤ i ∧ i ≤ 100000
theorem Sm.log {i : Int} (h : Sm i) : i.natAbs.log2 < 1920 := by
  have h1 : i.natAbs ≤ 100000 := by
    obtain ⟨a, b⟩ := h
    omega
  have h3 : i.natAbs < 2 ^ 20 := by omega
  by_cases h0 : i.natAbs = 0
  · rw [h0]
    decide
  · have := (Nat.log2_lt h0).mpr h3
    omega
theorem Sm.text {i : Int} (h : Sm i) : (Str.ofString (toString i)).length ≤ 1000 := by
  have h1 : i.natAbs < 10 ^ 7 := by
    obtain ⟨a, b⟩ := h
    omega
  have e := int_text_length_le10 (k := 7) (by decide) h1
  rw [PySem.ofString_length]
  omega
section
variable {X : Cx}
/-- a part of a message: written signs, or a small number's name -/
inductive MP (X : Cx) : Expr → TE → (L2.St → Prop) → Prop where
  | lit {x : Str} {j : Nat} {pos : Pos} (h : x.length ≤ 1000) : MP X (.Constant (.str x) j pos) (tC (.str x)) (fun _ => True)
  | var {e : Expr} {i : Nat} {pos : Pos} (h : PE X e (tVar i)) : MP X (.FormattedValue e (-1) none pos) (tFmt (tVar i)) (fun σ => ∃ z, σ[i]? = some (some (.int z)) ∧ Sm z)
  | txt {e : Expr} {i : Nat} {pos : Pos} (h : PE X e (tVar i)) : MP X (.FormattedValue e (-1) none pos) (tFmt (tVar i)) (fun σ => ∃ z, σ[i]? = some (some (.str z)) ∧ z.length ≤ 1000)
inductive MPs (X : Cx) : List Expr → List TE → (L2.St → Prop) → Prop where
  | nil : MPs X [] [] (fun _ => True)
  | cons {e : Expr} {t : TE} {c : L2.St → Prop} {es : List Expr} {ts : List TE} {cs : L2.St → Prop} (h : MP X e t c) (r : MPs X es ts cs) : MPs X (e :: es) (t :: ts) (fun σ => c σ ∧ cs σ)
theorem str_app_len (x y : Str) : (x ++ y).length = x.length + y.length := by
  first
    | rfl
    | exact Array.size_append
    | simp [Str.length]
theorem MP.pe {e : Expr} {t : TE} {c : L2.St → Prop} (h : MP X e t c) : PE X e t := by
  cases h with
  | lit h => exact pe_str
  | var h => exact pe_fmt h
  | txt h => exact pe_fmt h
theorem MPs.pj {es : List Expr} {ts : List TE} {cs : L2.St → Prop} (h : MPs X es ts cs) : PJ X es ts := by
  induction h with
  | nil => exact .nil
  | cons h r ih => exact .cons h.pe ih
theorem MP.go {e : Expr} {t : TE} {c : L2.St → Prop} (h : MP X e t c) {σ : L2.St} {H : Hp} {Q : V → Hp → Prop} (hc : c σ) (hQ : ∀ y : Str, y.length ≤ 1000 → Q (.str y) H) : t σ H Q := by
  cases h with
  | lit h => exact hQ _ h
  | var h =>
    obtain ⟨z, e, s⟩ := hc
    exact ⟨_, e, .inr ⟨z, rfl, s.log, hQ _ s.text⟩⟩
  | txt h =>
    obtain ⟨z, e, s⟩ := hc
    refine ⟨_, e, .inl ⟨z, rfl, ?_, hQ _ s⟩⟩
    rw [sizeLine_eq]
    omega
theorem MPs.go {es : List Expr} {ts : List TE} {cs : L2.St → Prop} (h : MPs X es ts cs) {σ : L2.St} {H : Hp} {Q : Str → Hp → Prop} : ∀ (acc : Str) (n : Nat), acc.length ≤ 1000 * n → n + es.length ≤ 100 → cs σ → (∀ out, Q out H) → tJs ts acc σ H Q := by
  induction h with
  | nil => intro acc n _ _ _ hQ; exact hQ acc
  | @cons e t c es ts cs h r ih =>
    intro acc n h1 h2 hc hQ
    obtain ⟨c1, c2⟩ := hc
    rw [List.length_cons] at h2
    refine h.go c1 fun y hy => ⟨y, rfl, ?_, ih _ (n + 1) ?_ (by omega) c2 hQ⟩
    · rw [str_app_len, sizeLine_eq]
      omega
    · rw [str_app_len]
      omega
/-- a message: its signs don't matter -/
theorem pe_msg {v1 v2 : Expr} {rest : List Expr} {ts : List TE} {cs : L2.St → Prop} {pos : Pos} (h : MPs X (v1 :: v2 :: rest) ts cs) (hl : (v1 :: v2 :: rest).length ≤ 100 := by decide) : PE X (.JoinedStr (v1 :: v2 :: rest) pos) (fun σ H Q => cs σ ∧ ∀ out : Str, Q (.str out) H) := by
  refine ⟨fun pins s σ H Q I q => ?_⟩
  obtain ⟨q1, q2⟩ := q
  exact (pe_joined h.pj).run pins s σ H Q I (h.go Str.empty 0 (Nat.zero_le _) (by omega) q1 fun out => q2 out)
end
end XT

-- XT3
set_option maxRecDepth 100000
set_option maxHeartbeats 4000000
namespace XT
open PySem PySem.Spec PyProof.Rows L2
open GX (LTurn QTurn STurn)
/-! ### turns that leave the heap as it is -/
theorem fm_succ {α : Type} (f : Nat → Option α) (i : Nat) : (List.range (i + 1)).filterMap f = (List.range i).filterMap f ++ (f i).toList := by
  rw [List.range_succ, List.filterMap_append]
  cases h : f i with
  | none => simp [h]
  | some y => simp [h]
theorem fm_len {α : Type} (f : Nat → Option α) (i : Nat) : ((List.range i).filterMap f).length ≤ i := by
  have := List.length_filterMap_le f (List.range i)
  rw [List.length_range] at this
  exact this
theorem lturn_pure {J : It} {gt : TG} {tt : TT} {te : TE} {σ0 : L2.St} {vs : List Nat} {cont : List V → Hp → Prop} {H2 : Hp} (n : Nat) (f : Nat → Option V) (hn : n ≤ sizeLine) (hgo : ∀ i, i < n → J.go i H2) (hstop : J.stop n H2)
    (hstep : ∀ i, i < n → ∀ x H', J.yld i H2 x H' → ∀ (ys : List V) (Nx : List V → Hp → Prop), ys.length < sizeLine → Nx (ys ++ (f i).toList) H2 →
      gt x (wipe σ0 vs) H' fun σ2 H3 => wipe σ2 vs = wipe σ0 vs ∧ tt σ2 H3 fun b H4 => if b = true then te σ2 H4 fun y H5 => ys.length < sizeLine ∧ Nx (ys ++ [y]) H5 else Nx ys H4)
    (hcont : cont ((List.range n).filterMap f) H2) : ∃ W : Nat → Nat → List V → Hp → Prop, (∃ m, W 0 m [] H2) ∧ LTurn J gt tt te σ0 vs cont W := by
  refine ⟨fun i m ys H => i + m = n ∧ H = H2 ∧ ys = (List.range i).filterMap f, ⟨n, Nat.zero_add n, rfl, rfl⟩, fun i m ys H hw => ?_⟩
  obtain ⟨e, rfl, rfl⟩ := hw
  by_cases hi : i < n
  · refine .inr ⟨hgo i hi, fun ys' H' => H' = H ∧ ys' = (List.range (i + 1)).filterMap f, fun ys' H' z => ⟨m - 1, by omega, by omega, z.1, z.2⟩, fun x H' hy => ?_⟩
    have hl : ((List.range i).filterMap f).length < sizeLine := Nat.lt_of_lt_of_le (Nat.lt_of_le_of_lt (fm_len f i) hi) hn
    exact hstep i hi x H' hy _ (fun ys' H' => H' = H ∧ ys' = (List.range (i + 1)).filterMap f) hl (by exact ⟨rfl, (fm_succ f i).symm⟩)
  · have ei : i = n := by omega
    subst ei
    exact .inl ⟨hstop, hcont⟩
theorem qturn_pure {t : Bool} {J : It} {gt : TG} {tt : TT} {te : TE} {σ0 : L2.St} {vs : List Nat} {Q : VK} {H2 : Hp} (n : Nat) (f : Nat → Bool) (hgo : ∀ i, i < n → J.go i H2) (hstop : J.stop n H2)
    (hstep : ∀ i, i < n → ∀ x H', J.yld i H2 x H' → ∀ Nx : Hp → Prop, (f i = t → Nx H2) → (f i ≠ t → Q (.bl (!t)) H2) →
      gt x (wipe σ0 vs) H' fun σ2 H3 => wipe σ2 vs = wipe σ0 vs ∧ tt σ2 H3 fun b H4 => if b = true then te σ2 H4 fun y H5 => ∃ k, y = .bl k ∧ (if k = t then Nx H5 else Q (.bl (!t)) H5) else Nx H4)
    (h1 : (∀ i, i < n → f i = t) → Q (.bl t) H2) (h2 : (∃ i, i < n ∧ f i ≠ t) → Q (.bl (!t)) H2) : ∃ W : Nat → Nat → Hp → Prop, (∃ m, W 0 m H2) ∧ QTurn t J gt tt te σ0 vs Q W := by
  refine ⟨fun i m H => i + m = n ∧ H = H2 ∧ ∀ j, j < i → f j = t, ⟨n, Nat.zero_add n, rfl, fun j hj => absurd hj (Nat.not_lt_zero j)⟩, fun i m H hw => ?_⟩
  obtain ⟨e, rfl, hf⟩ := hw
  by_cases hi : i < n
  · refine .inr ⟨hgo i hi, fun H' => H' = H ∧ f i = t, fun H' z => ⟨m - 1, by omega, by omega, z.1, fun j hj => ?_⟩, fun x H' hy => ?_⟩
    · by_cases hj2 : j < i
      · exact hf j hj2
      · have ej : j = i := by omega
        rw [ej]
        exact z.2
    · exact hstep i hi x H' hy (fun H' => H' = H ∧ f i = t) (fun z => by exact ⟨rfl, z⟩) fun z => h2 ⟨i, hi, z⟩
  · have ei : i = n := by omega
    subst ei
    exact .inl ⟨hstop, h1 hf⟩
def sumN (f : Nat → Int) : Nat → Int
  | 0 => 0
  | n + 1 => sumN f n + f n
theorem sturn_pure {J : It} {gt : TG} {tt : TT} {te : TE} {σ0 : L2.St} {vs : List Nat} {Q : VK} {H2 : Hp} (n : Nat) (f : Nat → Int) (hb : ∀ i, i < n → InLong (f i) ∧ InLong (sumN f i + f i)) (hgo : ∀ i, i < n → J.go i H2) (hstop : J.stop n H2)
    (hstep : ∀ i, i < n → ∀ x H', J.yld i H2 x H' → ∀ (t : Int) (Nx : Int → Hp → Prop), InLong (f i) → InLong (t + f i) → Nx (t + f i) H2 →
      gt x (wipe σ0 vs) H' fun σ2 H3 => wipe σ2 vs = wipe σ0 vs ∧ tt σ2 H3 fun b H4 => if b = true then te σ2 H4 fun y H5 => ∃ j, y = .int j ∧ InLong j ∧ InLong (t + j) ∧ Nx (t + j) H5 else Nx t H4)
    (hQ : Q (.int (sumN f n)) H2) : ∃ W : Nat → Nat → Int → Hp → Prop, (∃ m, W 0 m 0 H2) ∧ STurn J gt tt te σ0 vs Q W := by
  refine ⟨fun i m t H => i + m = n ∧ H = H2 ∧ t = sumN f i, ⟨n, Nat.zero_add n, rfl, rfl⟩, fun i m t H hw => ?_⟩
  obtain ⟨e, rfl, rfl⟩ := hw
  by_cases hi : i < n
  · refine .inr ⟨hgo i hi, fun t' H' => H' = H ∧ t' = sumN f (i + 1), fun t' H' z => ⟨m - 1, by omega, by omega, z.1, z.2⟩, fun x H' hy => ?_⟩
    exact hstep i hi x H' hy _ (fun t' H' => H' = H ∧ t' = sumN f (i + 1)) (hb i hi).1 (hb i hi).2 (by exact ⟨rfl, rfl⟩)
  · have ei : i = n := by omega
    subst ei
    exact .inl ⟨hstop, hQ⟩
/-- a comprehension whose turns leave the heap as it is but for the list -/
theorem lc_pure {J : It} {g : TG} {tt : TT} {te : TE} {vs : List Nat} {σ : L2.St} {H1 : Hp} {D : Addr} {Qd : Hp → Prop} (n : Nat) (f : Nat → Option V) (hn : n ≤ sizeLine) (hgo : ∀ i acc, i < n → J.go i (upd H1 D (.lst acc))) (hstop : ∀ acc, J.stop n (upd H1 D (.lst acc)))
    (hstep : ∀ i acc, i < n → ∀ x H', J.yld i (upd H1 D (.lst acc)) x H' → ∀ Nx : Hp → Prop, acc.length < sizeLine → Nx (upd H1 D (.lst (acc ++ (f i).toList))) →
      g x (wipe σ vs) H' fun σ2 H2 => wipe σ2 vs = wipe σ vs ∧ tt σ2 H2 fun b H3 => if b = true then te σ2 H3 fun y H4 => ∃ acc, H4 D = some (.lst acc) ∧ acc.length < sizeLine ∧ Nx (upd H4 D (.lst (acc ++ [y]))) else Nx H3)
    (hQ : Qd (upd H1 D (.lst ((List.range n).filterMap f)))) :
    ∃ W : Nat → Nat → Hp → Prop, (∃ m, W 0 m (upd H1 D (.lst []))) ∧ ∀ i m H, W i m H → (J.stop i H ∧ Qd H) ∨ (J.go i H ∧ ∃ Nx : Hp → Prop, (∀ H', Nx H' → ∃ m', m' < m ∧ W (i + 1) m' H') ∧ ∀ x H', J.yld i H x H' → g x (wipe σ vs) H' fun σ2 H2 => wipe σ2 vs = wipe σ vs ∧ tt σ2 H2 fun b H3 =>
      if b = true then te σ2 H3 fun y H4 => ∃ acc, H4 D = some (.lst acc) ∧ acc.length < sizeLine ∧ Nx (upd H4 D (.lst (acc ++ [y]))) else Nx H3) := by
  refine ⟨fun i m H => i + m = n ∧ H = upd H1 D (.lst ((List.range i).filterMap f)), ⟨n, Nat.zero_add n, rfl⟩, fun i m H hw => ?_⟩
  obtain ⟨e, rfl⟩ := hw
  by_cases hi : i < n
  · have hl : ((List.range i).filterMap f).length < sizeLine := Nat.lt_of_lt_of_le (Nat.lt_of_le_of_lt (fm_len f i) hi) hn
    refine .inr ⟨hgo i _ hi, fun H' => H' = upd H1 D (.lst ((List.range (i + 1)).filterMap f)), fun H' z => ⟨m - 1, by omega, by omega, z⟩, fun x H' hy => ?_⟩
    exact hstep i _ hi x H' hy (fun H' => H' = upd H1 D (.lst ((List.range (i + 1)).filterMap f))) hl (by rw [fm_succ])
  · have ei : i = n := by omega
    subst ei
    exact .inl ⟨hstop _, hQ⟩
/-- the walks over ranges, texts, tuples, lists that stand still -/
theorem fm_all {α β : Type} (xs : List α) (f : α → Option β) : (List.range xs.length).filterMap (fun (i : Nat) => (xs[i]?).bind f) = xs.filterMap f := by
  induction xs with
  | nil => rfl
  | cons x r ih =>
    rw [List.length_cons, List.range_succ_eq_map, List.filterMap_cons, List.filterMap_map, List.filterMap_cons]
    have e : ((fun i => ((x :: r)[i]?).bind f) ∘ Nat.succ) = fun (i : Nat) => (r[i]?).bind f := by
      funext i
      simp
    rw [e, ih]
    simp
theorem fm_map {α β : Type} (xs : List α) (f : α → β) : (List.range xs.length).filterMap (fun (i : Nat) => (xs[i]?).map f) = xs.map f := by
  have h := fm_all xs (fun x => some (f x))
  have e : (fun (i : Nat) => (xs[i]?).bind fun x => some (f x)) = fun (i : Nat) => (xs[i]?).map f := by
    funext i
    cases xs[i]? <;> rfl
  rw [e] at h
  rw [h]
  simp
theorem fm_some {β : Type} (n : Nat) (f : Nat → β) : (List.range n).filterMap (fun i => some (f i)) = (List.range n).map f := by simp
end XT

-- LX3
set_option maxRecDepth 100000
set_option maxHeartbeats 4000000
namespace LX
open PySem PySem.Spec PyProof.Rows L2
open LamX (CodeO TabS Tabs ExtN inv_table codeO_ne among_app LamS GivesTo lamCx lamEnv)
section
variable {X : Cx} {pins : List (Addr × Obj)} {σ : L2.St} {H : Hp} {s : Shared}
theorem lam_raw {T : List (Addr × Str)} {c P : Addr} {params : Arguments} {body : Expr} {scope : Scope} {pos : Pos} {E : Value → Shared → Prop} {Q : Value → Shared → Prop} (I : Inv X pins σ H s) (TB : LamX.TabB X.base X.mg c P) (hcode : X.env.code = .ref c)
    (hm : (P, X.env.qual ++ "<lambda>") ∈ T) (hu : ∀ p ∈ T, p.1 = P → p.2 = X.env.qual ++ "<lambda>") (hT : Tabs T H) (hdef : defaultsOf params X.env = ([], [])) (hfree : ∀ y ∈ scope.names, y.2 = .free → ∃ c, X.env.cells.lookup y.1 = some c)
    (h : ∀ (f c' : Addr) (pm ctv : Value) (H1 : Hp) (s' : Shared), Inv X pins σ H1 s' → ExtN H H1 → Tabs T H1 → s'.heap.get? f = some (PySem.W.kla_obj "<lambda>" (X.env.qual ++ "<lambda>") params body scope (cloFrom X.env.cells scope.names []) pm c' ctv) → H1 f = none → f ∉ frs X.stack → H1 c' = some (CodeO c' (X.env.qual ++ "<lambda>")) →
      (∀ b o, b ≠ P → H b = some o → H1 b = some o) → Q (.ref f) s') :
    wpAny (model X.prog X.w) X.A (eval (.Lambda params body scope pos) X.env) Q E s := by
  have nofr : ∀ f, s.heap.objs.size ≤ f → f ∉ frs X.stack := fun f hf z => (List.mem_cons.mp (I.stkSub _ z)).elim (fun e => by
    have q := I.lt
    rw [← e] at q
    exact absurd (Nat.lt_of_lt_of_le q hf) (Nat.lt_irrefl _)) fun e => I.nofs hf e
  obtain ⟨ps, hP, ht, ha⟩ := hT _ hm
  refine PySem.W.kla_eval hdef ?_
  have bP : s.heap.BuiltinsAt X.mg P := TB.bm.keeps I.bk
  have hP' : s.heap.get? P = some { cls := .none, data := .fields ps } := I.hok P _ hP
  have back : ∀ {H : Hp} {a b : Addr} {o : HO}, upd H a o b = none → H b = none := fun {H a b o} e => by
    unfold upd at e
    split at e
    · cases e
    · exact e
  cases hc : codeAmong pos ps.toList with
  | none =>
    refine PySem.W.kla_makeFunction (mg := X.mg) (c := c) (P := P) (ps := ps) (closure_ok hfree) I.ok.glob (I.mod.glob.keeps I.bk) hcode (TB.code.keeps I.bk) hP' ht hc TB.gP bP fun c' ctv h' tk hx hge hlt hrec htb => ?_
    obtain ⟨c2, oc, vs, t, e2, hoc, hd, hv⟩ := hrec
    cases e2
    have nC : H c' = none := I.hok.fresh hge
    have I1 := inv_table (t' := tk) (more := #[rawInt pos.line, rawInt pos.col, .ref c']) (h' := h') I hP (fun b o hb e => hx b o hb e) htb hge ⟨oc, vs, t, hoc, hd, hv⟩
    have eL : (ps ++ #[rawInt pos.line, rawInt pos.col, .ref c']).toList = ps.toList ++ [rawInt pos.line, rawInt pos.col, .ref c'] := by simp
    have hE : ExtN H (upd (upd H P (.tbl (ps ++ #[rawInt pos.line, rawInt pos.col, .ref c']))) c' (CodeO c' (X.env.qual ++ "<lambda>"))) := fun b o e n => by
      rw [upd_ne (ne_of_none e nC), upd_ne (fun z => n ps (Option.some.inj (e.symm.trans (by rw [z]; exact hP))))]
      exact e
    have T1 : Tabs T (upd (upd H P (.tbl (ps ++ #[rawInt pos.line, rawInt pos.col, .ref c']))) c' (CodeO c' (X.env.qual ++ "<lambda>"))) := fun p hp => by
      by_cases hb : p.1 = P
      · rw [hu p hp hb, hb]
        refine ⟨_, by rw [upd_ne (ne_of_none hP nC), upd_same], by rw [eL]; exact PySem.TriplesOk_snoc _ _ _ _ ht, fun p' cv hcv => ?_⟩
        rw [eL] at hcv
        rcases among_app _ ht hcv with z | z
        · obtain ⟨c0, e1, e2⟩ := ha p' cv z
          exact ⟨c0, e1, hE _ _ e2 codeO_ne⟩
        · exact ⟨c', z, upd_same⟩
      · obtain ⟨ps', a1, a2, a3⟩ := hT p hp
        refine ⟨ps', by rw [upd_ne (ne_of_none a1 nC), upd_ne hb]; exact a1, a2, fun p' cv hcv => ?_⟩
        obtain ⟨c0, e1, e2⟩ := a3 p' cv hcv
        exact ⟨c0, e1, hE _ _ e2 codeO_ne⟩
    have nF := I1.hok.fresh (Nat.le_refl _)
    refine h h'.objs.size c' ((X.mg "__name__").getD .none) ctv _ _ (I1.kept (t' := tk) fun b o e => Heap.get?_push_of_some _ e) hE T1 (Heap.get?_push_size _ rfl) nF (nofr _ (Nat.le_trans hge (Nat.le_of_lt hlt))) upd_same fun b o nb e => ?_
    rw [upd_ne (ne_of_none e nC), upd_ne nb]
    exact e
  | some cv =>
    obtain ⟨c', e, hco⟩ := ha pos cv hc
    subst e
    refine PySem.W.kla_makeFunctionHit (mg := X.mg) (c := c) (P := P) (ps := ps) (closure_ok hfree) I.ok.glob (I.mod.glob.keeps I.bk) hcode (TB.code.keeps I.bk) hP' ht hc bP fun ctv h' tk hx hsz => ?_
    have I1 : Inv X pins σ H { s with heap := h', toks := tk } := I.kept hx
    have nF : H h'.objs.size = none := I1.hok.fresh (Nat.le_refl _)
    exact h h'.objs.size c' ((X.mg "__name__").getD .none) ctv _ _ (I1.kept (t' := tk) fun b o e => Heap.get?_push_of_some _ e) (ExtN.refl H) hT (Heap.get?_push_size _ rfl) nF (nofr _ hsz) hco fun b o _ e => e

end
/-- x(lambda: ..): what the lambda is worth is told of the heap behind its making -/
def tLam3 (T : List (Addr × Str)) (P : Addr) (TT : (XK → Hp → VK → Prop) → Hp → VK → Prop) (t : XK → TE) : TE := fun σ H Q => Tabs T H ∧ ∀ H1, ExtN H H1 → Tabs T H1 → (∀ b o, b ≠ P → H b = some o → H1 b = some o) → TT (fun E H' Q' => t E σ H' Q') H1 Q
section
variable {X : Cx}
theorem pe_lamcall3 {T : List (Addr × Str)} {TT : (XK → Hp → VK → Prop) → Hp → VK → Prop} {x a : Str} {g c P : Addr} {k : Nat} {st : Stmt} {fd : FuncData} {Ng : List Str} {params : Arguments} {body : Expr} {scope : Scope} {t : XK → TE} {p lpos pos : Pos} (hg : Gl X x) (hm : X.mg x = some (.ref g)) (F : Fun X.K x x st g fd) (bd : L2.Binds X.K fd [a] []) (Sg : FnScope Ng [a] (defScope st)) (at0 : Ng[0]? = some a) (vis : Vis (defScope st) a)
    (gives : ∀ cdv, GivesTo X Ng x (defScope st) g cdv (defBody st) a (X.env.qual ++ "<lambda>") TT) (TB : LamX.TabB X.base X.mg c P) (isC : X.env.code = .ref c) (inT : (P, X.env.qual ++ "<lambda>") ∈ T) (only : ∀ p ∈ T, p.1 = P → p.2 = X.env.qual ++ "<lambda>") (room : Room (k + 2) X.A) (L : LamS X.env.scope scope) (nodef : defaultsOf params X.env = ([], []))
    (binds : ∀ (q : Str) (cl : List (Str × Addr)) (pm cv ctv : Value), bindArgs (PySem.W.kla_fn "<lambda>" q params body scope cl pm cv ctv) ⟨[], []⟩ = pure [])
    (worth : ∀ (A : Around) (outer : List Env) (s : Shared) (H : Hp) (E : XK) (f c' : Addr), Room k (A.deeper (lamEnv X scope s.heap.objs.size f c')) → PE (lamCx X A outer s H E scope f c') body (t E))
    (nb : (x == ("__debug__" : Str)) = false := by decide) (nb2 : (a == ("__debug__" : Str)) = false := by decide) (nb3 : (a == ("__classdict__" : Str)) = false := by decide) : PE X (.Call (.Name x p) [.Lambda params body scope lpos] [] pos) (tLam3 T P TT t) := by
  obtain ⟨oc, od, kV, doc, pm, an, cdv, ct, osl, rfl, lk, hcd⟩ := F.ex
  refine ⟨fun pins s σ H Q I h => ?_⟩
  obtain ⟨tabs, told⟩ := h
  refine wpAny_Call_Name_kw (ld_glob I hg hm (PySem.W.callWith_K (h₀ := X.base) I.ok.mod.kin F.kp ?_ (by rfl) (by rfl)) nb)
  show wpAny _ _ (spliced ((false, eval (.Lambda params body scope lpos) X.env) :: backTo pos (starEach [] X.env))) _ _ s
  refine Calls.spliced_cons (lam_raw I TB isC inT only tabs nodef (L.has I.ok) fun l c' pm' ctv G u J eN tabs1 hl ln lfr lco kp => Calls.spliced_nil ⟨J.kIn, ?_⟩)
  have run : codeAny (model X.prog X.w) X.A (.call (.ref g) ⟨[.ref l], []⟩) (CR C8.CX0 X.stack X.prog X.w G u Q C8.E0) u := by
    refine LamX.run_ofS (N := Ng) (ps := [a]) (us := [.ref l]) (vs := [.ref l]) lk hcd Sg room J.env0 (bd u [.ref l] J.kIn rfl) (.cons rfl .nil) rfl fun room' => ?_
    obtain ⟨t', ht', hq'⟩ := gives cdv l c' u G Q (fun E G' Q' => t E σ G' Q') (fun W pn xe E p1 p2 tk hW => LamX.pe_act (i := 0) J L hl ln lfr (binds _ _ _ _ _) tk hW room' (fun A outer s H r2 => worth A outer s H E l c' r2) at0 vis nb2 nb3) lco (told G eN tabs1 kp)
    exact ⟨t', ht'.nox, hq'⟩
  refine wpAny_call (codeAny_mono run fun r u2 hq => ?_)
  rcases r with e | fl
  · exact (show False from hq).elim
  cases fl with
  | ret u => exact J.after hq
  | _ => exact False.elim hq
end
end LX

-- SD1
set_option maxRecDepth 100000
set_option maxHeartbeats 4000000
/-! laying keys in a bare table of a set never fails -/
namespace SD
open PySem PySem.Spec PyProof.Rows L2
def nxt (m : Nat) (x : Nat × Nat) : Nat × Nat := ((x.1 * 5 + 1 + x.2 / 32) % (m + 1), x.2 / 32)
def pos (m : Nat) (x : Nat × Nat) : Nat → Nat × Nat
  | 0 => x
  | k + 1 => pos m (nxt m x) k
theorem free_none (owner : Array (Option Nat)) (m : Nat) : ∀ (fuel i p : Nat), SetTable.layClean.free m owner fuel i p = none → ∀ k < fuel, (owner.getD (pos m (i, p) k).1 (some 0)).isNone = false
  | 0, _, _, _, k, h => absurd h (Nat.not_lt_zero k)
  | fuel + 1, i, p, e, k, hk => by
    unfold SetTable.layClean.free at e
    split at e
    · cases e
    · rename_i hf
      have e : SetTable.layClean.free m owner fuel ((i * 5 + 1 + p / 32) % (m + 1)) (p / 32) = none := e
      cases k with
      | zero =>
        have h0 := List.find?_eq_none.mp hf 0 (List.mem_range.mpr (by unfold SetTable.runEnd; split <;> omega))
        show (owner.getD i (some 0)).isNone = false
        simp only [Nat.add_zero, Bool.not_eq_true] at h0
        exact h0
      | succ k => exact free_none owner m fuel _ _ e k (by omega)
theorem free_some (owner : Array (Option Nat)) (m : Nat) : ∀ (fuel i p r : Nat), SetTable.layClean.free m owner fuel i p = some r → (owner.getD r (some 0)).isNone = true
  | 0, _, _, _, e => by unfold SetTable.layClean.free at e; cases e
  | fuel + 1, i, p, r, e => by
    unfold SetTable.layClean.free at e
    split at e
    · rename_i k hf
      cases e
      have := List.find?_some hf
      exact this
    · have e : SetTable.layClean.free m owner fuel ((i * 5 + 1 + p / 32) % (m + 1)) (p / 32) = some r := e
      exact free_some owner m fuel _ _ r e
theorem pos_succ (m : Nat) : ∀ (k : Nat) (x : Nat × Nat), pos m x (k + 1) = nxt m (pos m x k)
  | 0, x => rfl
  | k + 1, x => pos_succ m k (nxt m x)
theorem pos_add (m : Nat) : ∀ (a b : Nat) (x : Nat × Nat), pos m x (a + b) = pos m (pos m x a) b
  | 0, b, x => by rw [Nat.zero_add]; rfl
  | a + 1, b, x => by rw [Nat.add_right_comm]; exact pos_add m a b (nxt m x)
theorem pos_snd (m : Nat) : ∀ (k : Nat) (x : Nat × Nat), (pos m x k).2 = x.2 / 32 ^ k
  | 0, x => by simp [pos]
  | k + 1, x => by
    rw [pos_succ]
    show (pos m x k).2 / 32 = _
    rw [pos_snd m k x, Nat.div_div_eq_div_mul, Nat.pow_succ]
theorem pos_fst (m : Nat) (k : Nat) (x : Nat × Nat) : (pos m x (k + 1)).1 ≤ m := by
  rw [pos_succ]
  exact Nat.le_of_lt_succ (Nat.mod_lt _ (Nat.succ_pos m))
/-- with no perturb left every slot is met -/
def Full (m : Nat) : Prop := ∀ i, i < m + 1 → ∀ j, j < m + 1 → ∃ k, k < m + 1 ∧ (pos m (i, 0) k).1 = j
theorem full7 : Full 7 := by unfold Full; decide +kernel
theorem full15 : Full 15 := by unfold Full; decide +kernel
theorem full31 : Full 31 := by unfold Full; decide +kernel
theorem free_is {m : Nat} (F : Full m) (owner : Array (Option Nat)) (h : Int) (j : Nat) (hj : j < m + 1) (e : owner.getD j (some 0) = none) :
    ∃ r, SetTable.layClean.free m owner (SetTable.turns m) (SetTable.bits h % (m + 1)) (SetTable.bits h) = some r ∧ owner.getD r (some 0) = none := by
  cases q : SetTable.layClean.free m owner (SetTable.turns m) (SetTable.bits h % (m + 1)) (SetTable.bits h) with
  | some r => exact ⟨r, rfl, by have := free_some _ _ _ _ _ _ q; simpa using this⟩
  | none =>
    exfalso
    have hb : SetTable.bits h < 2 ^ 64 := by
      unfold SetTable.bits
      have h1 := Int.emod_nonneg h (show (2 ^ 64 : Int) ≠ 0 by decide)
      have h2 := Int.emod_lt_of_pos h (show (0 : Int) < 2 ^ 64 by decide)
      omega
    have h13 : (pos m (SetTable.bits h % (m + 1), SetTable.bits h) 13).2 = 0 := by
      rw [pos_snd]
      exact Nat.div_eq_of_lt (Nat.lt_of_lt_of_le hb (by decide))
    have h14 : (pos m (SetTable.bits h % (m + 1), SetTable.bits h) 13).1 ≤ m := pos_fst m 12 (SetTable.bits h % (m + 1), SetTable.bits h)
    obtain ⟨k, hk, ek⟩ := F (pos m (SetTable.bits h % (m + 1), SetTable.bits h) 13).1 (by omega) j hj
    have h15 := free_none owner m _ _ _ q (13 + k) (by unfold SetTable.turns; omega)
    rw [pos_add] at h15
    have e2 : pos m (SetTable.bits h % (m + 1), SetTable.bits h) 13 = ((pos m (SetTable.bits h % (m + 1), SetTable.bits h) 13).1, 0) := by rw [← h13]
    rw [e2, ek, e] at h15
    cases h15
theorem fm_congr {f g : Nat → Option Nat} : ∀ l : List Nat, (∀ y ∈ l, g y = f y) → l.filterMap g = l.filterMap f
  | [], _ => rfl
  | x :: r, h => by
    have h1 := h x (List.mem_cons_self ..)
    have h2 := fm_congr (f := f) (g := g) r fun y hy => h y (List.mem_cons_of_mem _ hy)
    cases q : f x with
    | none => rw [List.filterMap_cons_none (h1.trans q), List.filterMap_cons_none q, h2]
    | some y => rw [List.filterMap_cons_some (h1.trans q), List.filterMap_cons_some q, h2]
theorem fm_set {f g : Nat → Option Nat} {j k : Nat} (hg : g j = some k) (hf : f j = none) (ho : ∀ x, x ≠ j → g x = f x) : ∀ l : List Nat, l.Nodup → j ∈ l → (l.filterMap g).Perm (k :: l.filterMap f)
  | [], _, h => by cases h
  | x :: r, nd, h => by
    obtain ⟨n1, n2⟩ := List.nodup_cons.mp nd
    by_cases e : x = j
    · subst e
      have er : r.filterMap g = r.filterMap f := fm_congr r fun y hy => ho y fun z => n1 (z ▸ hy)
      rw [List.filterMap_cons_some hg, List.filterMap_cons_none hf, er]
    · have ih := fm_set hg hf ho r n2 ((List.mem_cons.mp h).resolve_left fun z => e z.symm)
      have ex := ho x e
      cases q : f x with
      | none => rw [List.filterMap_cons_none (ex.trans q), List.filterMap_cons_none q]; exact ih
      | some y =>
        rw [List.filterMap_cons_some (ex.trans q), List.filterMap_cons_some q]
        exact (ih.cons y).trans (List.Perm.swap k y _)
theorem fm_full {f : Nat → Option Nat} : ∀ l : List Nat, (∀ x ∈ l, (f x).isSome) → (l.filterMap f).length = l.length
  | [], _ => rfl
  | x :: r, h => by
    obtain ⟨y, e⟩ := Option.isSome_iff_exists.mp (h x (List.mem_cons_self ..))
    rw [List.filterMap_cons_some e, List.length_cons, List.length_cons, fm_full r fun z hz => h z (List.mem_cons_of_mem _ hz)]
/-- k keys stand in the table -/
def Own (m k : Nat) (owner : Array (Option Nat)) : Prop := owner.size = m + 1 ∧ ((List.range (m + 1)).filterMap fun j => owner.getD j none).Perm (List.range k)
theorem own_step {m k r : Nat} {owner : Array (Option Nat)} (O : Own m k owner) (e : owner.getD r (some 0) = none) : Own m (k + 1) (owner.setIfInBounds r (some k)) := by
  obtain ⟨o1, o2⟩ := O
  have lr : r < owner.size := by
    rcases Nat.lt_or_ge r owner.size with h | h
    · exact h
    · rw [Array.getD_eq_getD_getElem?, Array.getElem?_eq_none h] at e
      cases e
  refine ⟨by rw [Array.size_setIfInBounds]; exact o1, ?_⟩
  have e0 : owner.getD r none = none := by
    rw [Array.getD_eq_getD_getElem?] at e ⊢
    rw [Array.getElem?_eq_getElem lr] at e ⊢
    exact e
  refine (fm_set (j := r) (k := k) (f := fun j => owner.getD j none) ?_ e0 (fun x hx => ?_) _ List.nodup_range (List.mem_range.mpr (by omega))).trans ?_
  · simp [Array.getD_eq_getD_getElem?, Array.getElem?_setIfInBounds, lr]
  · simp [Array.getD_eq_getD_getElem?, Array.getElem?_setIfInBounds, Ne.symm hx]
  · rw [show List.range (k + 1) = List.range k ++ [k] from List.range_succ]
    exact (o2.cons k).trans (List.perm_append_singleton k _).symm
theorem own_room {m k : Nat} {owner : Array (Option Nat)} (O : Own m k owner) (h : k < m + 1) : ∃ j, j < m + 1 ∧ owner.getD j (some 0) = none := by
  obtain ⟨o1, o2⟩ := O
  by_cases q : ∃ j, j < m + 1 ∧ owner.getD j (some 0) = none
  · exact q
  · exfalso
    have all : ∀ x ∈ List.range (m + 1), (owner.getD x none).isSome := fun x hx => by
      have hx := List.mem_range.mp hx
      cases e : owner.getD x none with
      | some y => rfl
      | none =>
        refine absurd ⟨x, hx, ?_⟩ q
        have lx : x < owner.size := by omega
        rw [Array.getD_eq_getD_getElem?] at e ⊢
        rw [Array.getElem?_eq_getElem lx] at e ⊢
        exact e
    have h1 := fm_full _ all
    have h2 := o2.length_eq
    rw [h1, List.length_range, List.length_range] at h2
    omega
theorem fold_is {m : Nat} (F : Full m) : ∀ (hs : List Int) (k : Nat) (owner : Array (Option Nat)), Own m k owner → k + hs.length ≤ m + 1 →
    ∃ o', hs.foldl (fun acc h => do
      let (owner, k) ← acc
      let j ← SetTable.layClean.free m owner (SetTable.turns m) (SetTable.bits h % (m + 1)) (SetTable.bits h)
      pure (owner.setIfInBounds j (some k), k + 1)) (some (owner, k)) = some (o', k + hs.length) ∧ Own m (k + hs.length) o'
  | [], k, owner, O, _ => ⟨owner, rfl, O⟩
  | h :: r, k, owner, O, hl => by
    rw [List.length_cons] at hl ⊢
    obtain ⟨j, hj, ej⟩ := own_room O (by omega)
    obtain ⟨p, hp, ep⟩ := free_is F owner h j hj ej
    obtain ⟨o', e1, e2⟩ := fold_is F r (k + 1) _ (own_step O ep) (by omega)
    refine ⟨o', ?_, ?_⟩
    · rw [List.foldl_cons]
      have eq : (do
        let (owner, k) ← some (owner, k)
        let j ← SetTable.layClean.free m owner (SetTable.turns m) (SetTable.bits h % (m + 1)) (SetTable.bits h)
        pure (owner.setIfInBounds j (some k), k + 1)) = some (owner.setIfInBounds p (some k), k + 1) := by
        show (SetTable.layClean.free m owner (SetTable.turns m) (SetTable.bits h % (m + 1)) (SetTable.bits h)).bind _ = _
        rw [hp]
        rfl
      rw [eq, e1]
      congr 2
      omega
    · rw [show k + (r.length + 1) = k + 1 + r.length by omega]
      exact e2
theorem own_zero (m : Nat) : Own m 0 (Array.replicate (m + 1) none) := by
  refine ⟨Array.size_replicate, ?_⟩
  have e : ((List.range (m + 1)).filterMap fun j => (Array.replicate (m + 1) (none : Option Nat)).getD j none) = [] := by
    rw [List.filterMap_eq_nil_iff]
    intro x hx
    have := List.mem_range.mp hx
    simp [Array.getD_eq_getD_getElem?, Array.getElem?_replicate, this]
  rw [e]
  exact List.Perm.refl _
theorem clean_is {m : Nat} (F : Full m) (hs : Array Int) (hl : hs.size ≤ m + 1) : ∃ o', SetTable.layClean m hs = some o' ∧ Own m hs.size o' := by
  obtain ⟨o', e, O⟩ := fold_is F hs.toList 0 _ (own_zero m) (by rw [Array.length_toList]; omega)
  refine ⟨o', ?_, by rw [Array.length_toList, Nat.zero_add] at O; exact O⟩
  unfold SetTable.layClean
  rw [← Array.foldl_toList, e]
  rfl
theorem laid_is {m : Nat} (F : Full m) (fi mv : Nat) (led plain : Bool) (hs : Array Int) (hl : hs.size ≤ m + 1) : ∃ t order, SetTable.laid m fi mv led plain hs = some (t, order) ∧ order.toList.Perm (List.range hs.size) ∧ t.mask = m ∧ t.place.size = hs.size ∧ t.dummies = #[] ∧ t.led = led ∧ t.plain = plain ∧ Ris t.place.toList := by
  obtain ⟨o', e, O⟩ := clean_is F hs hl
  have el : (((List.range (m + 1)).filterMap fun j => (o'.getD j none).map (j, ·)).map (·.2)) = (List.range (m + 1)).filterMap fun j => o'.getD j none := by
    rw [List.map_filterMap]
    congr 1
    funext j
    cases o'.getD j none <;> rfl
  refine ⟨_, _, by unfold SetTable.laid; rw [e]; rfl, ?_, rfl, ?_, rfl, rfl, rfl, ?_⟩
  · rw [el]
    exact O.2
  · have h1 := congrArg List.length el
    have h2 := O.2.length_eq
    rw [List.length_map] at h1
    rw [List.length_range] at h2
    simp only [List.size_toArray, List.length_map]
    omega
  · refine (ris_live (fun j => o'.getD j none) (List.range (m + 1)) ?_).1
    unfold Ris
    first | exact List.pairwise_lt_range | exact List.pairwise_lt_range _
end SD

-- SD2
set_option maxRecDepth 100000
set_option maxHeartbeats 4000000
/-! walking, copying and lessening sets of ints -/
namespace SD
open PySem PySem.Spec PyProof.Rows L2
section
variable {P : Program} {w : World} {A : Around} {E : Value → Shared → Prop} {s : Shared} {a : Addr} {o : Obj} {es : Array (Int × Value)} {ep : Nat} {t : SetTable}
theorem anySet {Q : Bool → Shared → Prop} (hT : s.TypeIs (.ref a) "set") (h : Q true s) : wpAny (model P w) A (Builtin.Frozenset.isAnySet (.ref a)) Q E s := by
  unfold Builtin.Frozenset.isAnySet orM
  refine wpAny_bind (wpAny_isInstance (b := true) hT sub_set_self ?_)
  exact wpAny_pure h
theorem setWalk_at {Q : Array (Int × Value) → Shared → Prop} (ho : s.heap.get? a = some o) (hd : o.data = .set es ep t) (hf : t.fits es.size = true) (hl : w.params.followText "set-order" = true ∨ t.led = true ∨ es.size ≤ 1) (hp : w.params.followText "set-order" = true ∨ t.plain = true ∨ es.size ≤ 1)
    (hQ : ∀ xs : Array (Int × Value), xs.toList.Perm es.toList → Q xs s) : wpAny (model P w) A (setWalk a) Q E s := by
  unfold setWalk
  refine wpAny_bind (wpAny_setState_of ho hd hf ?_)
  dsimp only
  refine wpAny_bind (wpAny_byText ?_)
  cases hb : w.params.followText "set-order" with
  | true =>
    refine wp_if_pos rfl ?_
    refine wpAny_bind (wpAny_askSetting ?_)
    exact wpAny_pure (hQ _ (pick_perm _ _))
  | false =>
    refine wp_if_neg (by simp) ?_
    rw [hb] at hl hp
    have hd1 : (!t.plain && decide (es.size > 1)) = false := by
      rcases hp with z | z | z
      · cases z
      · rw [z]; rfl
      · simp [Nat.not_lt.mpr z]
    refine wp_if_neg (show ¬ ((!t.plain && decide (es.size > 1)) = true) by rw [hd1]; simp) ?_
    show wpAny (model P w) A ((if (!t.led && decide (es.size > 1)) = true then unsupported "set:maker-not-led" else pure PUnit.unit) >>= fun _ => pure es) Q E s
    have hd2 : (!t.led && decide (es.size > 1)) = false := by
      rcases hl with z | z | z
      · cases z
      · rw [z]; rfl
      · simp [Nat.not_lt.mpr z]
    refine wpAny_bind ?_
    rw [hd2]
    refine wp_if_neg (by simp) ?_
    exact wpAny_pure (wpAny_pure (hQ es (List.Perm.refl _)))
theorem setsQuiet_at {Q : Bool → Shared → Prop} (h : Q true s) (l : List Addr) (hl : ∀ b ∈ l, ∃ o es ep t, s.heap.get? b = some o ∧ o.data = .set es ep t ∧ t.fits es.size = true ∧ ∀ e ∈ es.toList, GoodE e) : wpAny (model P w) A (setsQuiet l) Q E s := by
  unfold setsQuiet
  refine wpAny_bind (wpAny_forIn_list _ (fun rest b s' => b.1 = none ∧ s' = s ∧ ∀ x ∈ rest, x ∈ l) _ (fun x rest b s1 hI => ?_) (fun b s1 hI => ?_) l _ ⟨rfl, rfl, fun _ h => h⟩)
  · obtain ⟨hb, hs, hr⟩ := hI
    subst hs
    obtain ⟨o, es, ep, t, ho, hd, hf, hg⟩ := hl x (hr x (List.mem_cons_self ..))
    refine wpAny_bind (wpAny_setEntries_of ho hd hf ?_)
    refine wpAny_bind (wpAny_forIn_array' _ (fun l2 b2 s2 => b2 = (none, ()) ∧ s2 = s1 ∧ ∀ e ∈ l2, GoodE e) _ (fun e rest2 b2 s2 hI => ?_) (fun b2 s2 hI => ?_) es _ ⟨rfl, rfl, hg⟩)
    · obtain ⟨rfl, rfl, hr2⟩ := hI
      obtain ⟨k, tk, e1, _⟩ := hr2 e (List.mem_cons_self ..)
      obtain ⟨h0, v⟩ := e
      simp only at e1
      subst e1
      exact wpAny_pure ⟨rfl, rfl, fun e he => hr2 e (List.mem_cons_of_mem _ he)⟩
    · obtain ⟨rfl, rfl, _⟩ := hI
      exact wpAny_pure ⟨rfl, rfl, fun y hy => hr y (List.mem_cons_of_mem _ hy)⟩
  · obtain ⟨hb, hs, _⟩ := hI
    subst hs
    obtain ⟨b1, b2⟩ := b
    simp only at hb
    subst hb
    exact wpAny_pure h
/-- the elements of a set, in some order; what is filled stays what it was -/
theorem walkUnseen_none {Q : Array (Int × Value) → Shared → Prop} {others : List Addr} {S : Int → Bool} {n : Nat} (R : SetR w s.heap a S n) (hoth : ∀ b ∈ others, ∃ S n, SetR w s.heap b S n)
    (hQ : ∀ xs : Array (Int × Value), (∀ e ∈ xs.toList, GoodE e) → (xs.toList.map keyOf).Nodup → (∀ k, S k = true ↔ k ∈ xs.toList.map keyOf) → xs.size = n → Q xs s) : wpAny (model P w) A (setWalkUnseen a others none) Q E s := by
  obtain ⟨o, es, ep, t, ho, hex, hd, g, nd, hm, hb, hf, hn, hr, hl⟩ := id R
  have fin : ∀ xs : Array (Int × Value), xs.toList.Perm es.toList → Q xs s := fun xs pm => hQ xs (fun e he => g e (pm.mem_iff.mp he)) ((pm.map keyOf).nodup_iff.mpr nd) (fun k => (hm k).trans (pm.map keyOf).mem_iff.symm) (by rw [← Array.length_toList, pm.length_eq, Array.length_toList]; exact hn)
  unfold setWalkUnseen
  refine wpAny_bind (wpAny_setState_of ho hd hf ?_)
  dsimp only
  refine wpAny_bind (wpAny_byText ?_)
  by_cases c : (w.params.followText "set-order" || (t.led && t.plain) || decide (es.size ≤ 1)) = true
  · refine wp_if_pos c ?_
    refine setWalk_at ho hd hf ?_ ?_ fun xs pm => fin xs pm
    · simp only [Bool.or_eq_true, Bool.and_eq_true, decide_eq_true_eq] at c
      rcases c with (c | c) | c
      · exact .inl c
      · exact .inr (.inl c.1)
      · exact .inr (.inr c)
    · simp only [Bool.or_eq_true, Bool.and_eq_true, decide_eq_true_eq] at c
      rcases c with (c | c) | c
      · exact .inl c
      · exact .inr (.inl c.2)
      · exact .inr (.inr c)
  · refine wp_if_neg c ?_
    refine wpAny_bind (setsQuiet_at ?_ (a :: others) ?_)
    · refine wp_if_neg (by simp) ?_
      refine wpAny_bind (wpAny_rule ?_)
      exact wpAny_pure (fin es (List.Perm.refl _))
    · intro b hb2
      rcases List.mem_cons.mp hb2 with z | z
      · subst z
        exact ⟨o, es, ep, t, ho, hd, hf, g⟩
      · obtain ⟨S2, n2, o2, es2, ep2, t2, h1, _, h3, h4, _, _, _, h8, _⟩ := hoth b z
        exact ⟨o2, es2, ep2, t2, h1, h3, h8, h4⟩
theorem walkUnseen_some {Q : Array (Int × Value) → Shared → Prop} {others : List Addr} {S Sf : Int → Bool} {n nf : Nat} {f : Addr} (R : SetR w s.heap a S n) (Rf : SetR w s.heap f Sf nf) (hfa : f ≠ a) (hoth : ∀ b ∈ others, ∃ S n, SetR w s.heap b S n)
    (hQ : ∀ (xs : Array (Int × Value)) (h' : Heap), (∀ e ∈ xs.toList, GoodE e) → (xs.toList.map keyOf).Nodup → (∀ k, S k = true ↔ k ∈ xs.toList.map keyOf) → xs.size = n → Heap.SameBut f s.heap h' → SetR w h' f Sf nf → Q xs { s with heap := h' }) : wpAny (model P w) A (setWalkUnseen a others (some f)) Q E s := by
  obtain ⟨o, es, ep, t, ho, hex, hd, g, nd, hm, hb, hf, hn, hr, hl⟩ := id R
  obtain ⟨of, ef, epf, tf, hof, hexf, hdf, gf, ndf, hmf, hbf, hff, hnf, hrf, hlf⟩ := id Rf
  have fin : ∀ (xs : Array (Int × Value)) (h' : Heap), xs.toList.Perm es.toList → Heap.SameBut f s.heap h' → SetR w h' f Sf nf → Q xs { s with heap := h' } := fun xs h' pm => hQ xs h' (fun e he => g e (pm.mem_iff.mp he)) ((pm.map keyOf).nodup_iff.mpr nd) (fun k => (hm k).trans (pm.map keyOf).mem_iff.symm) (by rw [← Array.length_toList, pm.length_eq, Array.length_toList]; exact hn)
  unfold setWalkUnseen
  refine wpAny_bind (wpAny_setState_of ho hd hf ?_)
  dsimp only
  refine wpAny_bind (wpAny_byText ?_)
  by_cases c : (w.params.followText "set-order" || (t.led && t.plain) || decide (es.size ≤ 1)) = true
  · refine wp_if_pos c ?_
    refine setWalk_at ho hd hf ?_ ?_ fun xs pm => fin xs s.heap pm (Heap.SameBut.refl f s.heap) Rf
    · simp only [Bool.or_eq_true, Bool.and_eq_true, decide_eq_true_eq] at c
      rcases c with (c | c) | c
      · exact .inl c
      · exact .inr (.inl c.1)
      · exact .inr (.inr c)
    · simp only [Bool.or_eq_true, Bool.and_eq_true, decide_eq_true_eq] at c
      rcases c with (c | c) | c
      · exact .inl c
      · exact .inr (.inl c.2)
      · exact .inr (.inr c)
  · refine wp_if_neg c ?_
    have hbt : w.params.followText "set-order" = false := by
      cases q : w.params.followText "set-order" with
      | false => rfl
      | true => rw [q] at c; simp at c
    have hled : t.led = true := by
      rcases hl with z | z
      · rw [hbt] at z; cases z
      · exact z
    refine wpAny_bind (setsQuiet_at ?_ (a :: others) ?_)
    · refine wp_if_neg (by simp) ?_
      refine wpAny_bind (wpAny_rule ?_)
      refine wpAny_bind (wpAny_setState_of hof hdf hff ?_)
      dsimp only
      split
      · refine wpAny_bind (wpAny_storeSet_of hof hdf ?_ (Nat.le_trans (Nat.le_of_lt hbf) (by decide)))
        refine wpAny_pure (fin es _ (List.Perm.refl _) ?_ ⟨_, ef, _, _, store_at hof hdf, hexf, rfl, gf, ndf, hmf, hbf, ?_, hnf, hrf, ?_⟩)
        · exact Heap.SameBut.update _ f _
        · exact hff
        · exact hlf.imp id fun z => by
            show (tf.led && t.led) = true
            rw [z, hled]; rfl
      · exact wpAny_pure (fin es s.heap (List.Perm.refl _) (Heap.SameBut.refl f s.heap) Rf)
    · intro b hb2
      rcases List.mem_cons.mp hb2 with z | z
      · subst z
        exact ⟨o, es, ep, t, ho, hd, hf, g⟩
      · obtain ⟨S2, n2, o2, es2, ep2, t2, h1, _, h3, h4, _, _, _, h8, _⟩ := hoth b z
        exact ⟨o2, es2, ep2, t2, h1, h3, h8, h4⟩
end
end SD

-- SD3
set_option maxRecDepth 100000
set_option maxHeartbeats 4000000
namespace SD
open PySem PySem.Spec PyProof.Rows L2
section
variable {P : Program} {w : World} {A : Around} {E : Value → Shared → Prop} {s : Shared} {a : Addr} {o : Obj} {es : Array (Int × Value)} {ep : Nat} {t : SetTable}
/-- a set, with how many places were left -/
def SetQ (w : World) (h : Heap) (a : Addr) (S : Int → Bool) (n d : Nat) : Prop :=
  ∃ o es ep t, h.get? a = some o ∧ o.ExactSet ∧ o.data = .set es ep t ∧ (∀ e ∈ es.toList, GoodE e) ∧ (es.toList.map keyOf).Nodup ∧ (∀ k, S k = true ↔ k ∈ es.toList.map keyOf) ∧
    es.size < scanBound ∧ t.fits es.size = true ∧ es.size = n ∧ Ris t.place.toList ∧ (w.params.followText "set-order" = true ∨ t.led = true) ∧ t.dummies.size = d
theorem SetQ.setR {h : Heap} {S : Int → Bool} {n d : Nat} (R : SetQ w h a S n d) : SetR w h a S n := by
  obtain ⟨o, es, ep, t, h1, h2, h3, h4, h5, h6, h7, h8, h9, h10, h11, _⟩ := R
  exact ⟨o, es, ep, t, h1, h2, h3, h4, h5, h6, h7, h8, h9, h10, h11⟩
theorem SetQ.at {h h' : Heap} {S : Int → Bool} {n d : Nat} (R : SetQ w h a S n d) (k : ∀ o, h.get? a = some o → h'.get? a = some o) : SetQ w h' a S n d := by
  obtain ⟨o, es, ep, t, ho, r⟩ := R
  exact ⟨o, es, ep, t, k o ho, r⟩
theorem SetR.typeIs {S : Int → Bool} {n : Nat} (R : SetR w s.heap a S n) : s.TypeIs (.ref a) "set" := by
  obtain ⟨o, es, ep, t, ho, hx, _⟩ := R
  exact ⟨o, ho, hx.1⟩
abbrev bareO (w : World) : Obj := { cls := .type "set", dict := none, data := .set #[] 0 (.fresh 0 0 (!w.params.followText "set-order")) }
theorem newSet_at {Q : Value → Shared → Prop} (h : Q (.ref s.heap.objs.size) { s with heap := s.heap.push (bareO w) }) : wpAny (model P w) A (newSet (.type "set")) Q E s := by
  unfold newSet
  refine wpAny_bind (wpAny_byText ?_)
  dsimp only
  simp only [newObj]
  refine wpAny_bind (wpAny_alloc (wpAny_pure ?_))
  exact h
theorem baseOf_at {Q : Value → Shared → Prop} (hT : s.TypeIs (.ref a) "set") (h : Q (.type "set") s) : wpAny (model P w) A (Builtin.Frozenset.baseOf a) Q E s := by
  unfold Builtin.Frozenset.baseOf
  refine wpAny_bind (wpAny_isInstance (b := true) hT sub_set_self ?_)
  exact wpAny_pure h
theorem reord {es : Array (Int × Value)} {order : Array Nat} (pm : order.toList.Perm (List.range es.size)) : (order.filterMap (es[·]?)).toList.Perm es.toList ∧ (order.filterMap (es[·]?)).size = es.size := by
  have h1 : (order.filterMap (es[·]?)).toList.Perm es.toList := by
    rw [Array.toList_filterMap]
    exact (pm.filterMap _).trans (by rw [filterMap_getElem?_range])
  exact ⟨h1, by rw [← Array.length_toList, h1.length_eq, Array.length_toList]⟩
def Bare (w : World) (h : Heap) (r : Addr) (m : Nat) : Prop := ∃ o ep t, h.get? r = some o ∧ o.ExactSet ∧ o.data = .set #[] ep t ∧ t.mask = m ∧ t.place = #[] ∧ t.dummies = #[] ∧ (w.params.followText "set-order" = true ∨ t.led = true)
theorem relay_bare {r : Addr} {m wanted : Nat} {Q : Unit → Shared → Prop} {o : Obj} {ep : Nat} {t : SetTable} (hr : s.heap.get? r = some o) (hex : o.ExactSet) (hd : o.data = .set #[] ep t) (hp : t.place = #[]) (hdm : t.dummies = #[]) (hl : w.params.followText "set-order" = true ∨ t.led = true) (hw : SetTable.sizeAbove wanted = m + 1) (F : Full m) (hm : m ≤ 1000)
    (hQ : ∀ h', Heap.SameBut r s.heap h' → Bare w h' r m → Q () { s with heap := h' }) : wpAny (model P w) A (setRelay r wanted) Q E s := by
  have hf : t.fits (#[] : Array (Int × Value)).size = true := by unfold SetTable.fits SetTable.fill; rw [hp, hdm]; simp
  unfold setRelay
  refine wpAny_bind (wpAny_setState_of hr hd hf ?_)
  dsimp only
  refine wp_if_neg (by rw [hw]; have : 1001 ≤ sizeLine := by decide
                       omega) ?_
  obtain ⟨t2, order, e, pm, e1, e2, e3, e4, e5, e6⟩ := laid_is F t.finger (t.movedTo (SetTable.sizeAbove wanted - 1)) t.led t.plain (#[] : Array Int) (by simp)
  have er : t.relaid (Array.map (fun x => x.1) (#[] : Array (Int × Value))) wanted = some (t2, order) := by
    unfold SetTable.relaid
    rw [hw] at e ⊢
    rw [Array.map_empty]
    simp only [Nat.add_sub_cancel] at e ⊢
    exact e
  rw [er]
  obtain ⟨p1, p2⟩ := reord (es := (#[] : Array (Int × Value))) pm
  have hz : ((order.filterMap ((#[] : Array (Int × Value))[·]?)).size != (#[] : Array (Int × Value)).size) = false := by rw [p2]; rfl
  show wpAny (model P w) A ((if ((order.filterMap ((#[] : Array (Int × Value))[·]?)).size != (#[] : Array (Int × Value)).size) = true then _ else pure (order.filterMap ((#[] : Array (Int × Value))[·]?), t2)) >>= fun x => storeSet r x.1 x.2) Q E s
  rw [hz]
  refine wpAny_bind (wp_if_neg (by simp) (wpAny_pure ?_))
  have e0 : order.filterMap ((#[] : Array (Int × Value))[·]?) = #[] := Array.eq_empty_of_size_eq_zero p2
  dsimp only
  rw [e0]
  refine wpAny_storeSet_of hr hd ?_ (Nat.zero_le _)
  refine hQ _ (Heap.SameBut.update _ r _) ⟨_, _, t2, store_at hr hd, hex, rfl, e1, Array.eq_empty_of_size_eq_zero e2, e3, ?_⟩
  rw [e4]
  exact hl
theorem room_bare {r : Addr} {n : Nat} {Q : Unit → Shared → Prop} (hn : n ≤ 15) (hr : s.heap.get? r = some (bareO w))
    (hQ : ∀ h' m, Full m → n ≤ m → Heap.SameBut r s.heap h' → Bare w h' r m → Q () { s with heap := h' }) : wpAny (model P w) A (setRoomFor r n) Q E s := by
  have fr : (SetTable.fresh 0 0 (!w.params.followText "set-order")).fits (#[] : Array (Int × Value)).size = true := by rfl
  have hl : w.params.followText "set-order" = true ∨ (SetTable.fresh 0 0 (!w.params.followText "set-order")).led = true := by
    show _ ∨ (!w.params.followText "set-order") = true
    cases w.params.followText "set-order"
    · exact .inr rfl
    · exact .inl rfl
  unfold setRoomFor
  refine wpAny_bind (wpAny_setState_of hr rfl fr ?_)
  dsimp only
  by_cases c : n * 5 ≥ 21
  · have e : (SetTable.fresh 0 0 (!w.params.followText "set-order")).roomFor n = some (n * 2) := by
      unfold SetTable.roomFor
      rw [if_pos]
      · show some ((0 + n) * 2) = _
        rw [Nat.zero_add]
      · show (0 + n) * 5 ≥ 7 * 3
        omega
    rw [e]
    dsimp only
    have h5 : n = 5 ∨ n = 6 ∨ n = 7 ∨ n = 8 ∨ n = 9 ∨ n = 10 ∨ n = 11 ∨ n = 12 ∨ n = 13 ∨ n = 14 ∨ n = 15 := by omega
    by_cases c2 : n < 8
    · refine relay_bare (m := 15) hr ⟨rfl, rfl, rfl⟩ rfl rfl rfl hl ?_ full15 (by decide) fun h' sb B => hQ h' 15 full15 (by omega) sb B
      rcases h5 with e | e | e | e | e | e | e | e | e | e | e <;> subst e <;> first | decide | omega
    · refine relay_bare (m := 31) hr ⟨rfl, rfl, rfl⟩ rfl rfl rfl hl ?_ full31 (by decide) fun h' sb B => hQ h' 31 full31 (by omega) sb B
      rcases h5 with e | e | e | e | e | e | e | e | e | e | e <;> subst e <;> first | decide | omega
  · have e : (SetTable.fresh 0 0 (!w.params.followText "set-order")).roomFor n = none := by
      unfold SetTable.roomFor
      rw [if_neg]
      show ¬ (0 + n) * 5 ≥ 7 * 3
      omega
    rw [e]
    exact wpAny_pure (hQ s.heap 7 full7 (by omega) (Heap.SameBut.refl r _) ⟨_, _, _, hr, ⟨rfl, rfl, rfl⟩, rfl, rfl, rfl, rfl, hl⟩)
/-- all of a set comes in a bare one -/
theorem merge_at {r : Addr} {S : Int → Bool} {n : Nat} {Q : Unit → Shared → Prop} (R : SetR w s.heap a S n) (hn : n ≤ 15) (n0 : n ≠ 0) (hr : s.heap.get? r = some (bareO w)) (hra : r ≠ a)
    (hQ : ∀ h', Heap.SameBut r s.heap h' → SetQ w h' r S n 0 → Q () { s with heap := h' }) : wpAny (model P w) A (setMerge r a) Q E s := by
  obtain ⟨o, es, ep, t, ho, hex, hd, g, nd, hm, hb, hf, hz, hris, hl⟩ := id R
  unfold setMerge
  refine wp_if_neg (by simpa using hra) ?_
  refine wpAny_bind (wpAny_setState_of ho hd hf ?_)
  dsimp only
  refine wp_if_neg (by rw [Array.isEmpty_iff]; intro z; rw [z] at hz; exact n0 hz.symm) ?_
  refine wpAny_bind (room_bare (by rw [hz]; exact hn) hr fun h1 m F hnm sb B => ?_)
  obtain ⟨o1, ep1, t1, hr1, hex1, hd1, em, ep0, ed, hl1⟩ := B
  have hf1 : t1.fits (#[] : Array (Int × Value)).size = true := by unfold SetTable.fits SetTable.fill; rw [ep0, ed]; simp
  refine wpAny_bind (wpAny_setState_of hr1 hd1 hf1 ?_)
  have hfill : t1.fill = 0 := by unfold SetTable.fill; rw [ep0, ed]; rfl
  have led2 : w.params.followText "set-order" = true ∨ (t1.led && t.led) = true := by
    rcases hl with z | z
    · exact .inl z
    · rcases hl1 with y | y
      · exact .inl y
      · exact .inr (by rw [z, y]; rfl)
  by_cases c : (t1.mask == t.mask && t.dummies.isEmpty) = true
  · have er : t1.road t = .slotForSlot := by
      unfold SetTable.road
      rw [hfill]
      simp only [bne_self_eq_false, Bool.false_eq_true, if_false]
      rw [if_pos c]
    dsimp only
    rw [er]
    refine wpAny_storeSet_of hr1 hd1 ?_ (Nat.le_trans (Nat.le_of_lt hb) (by decide))
    have c2 : t.dummies = #[] := by
      rw [Bool.and_eq_true] at c
      exact Array.isEmpty_iff.mp c.2
    refine hQ _ (sb.trans (Heap.SameBut.update _ r _)) ⟨_, es, _, _, store_at hr1 hd1, hex1, rfl, g, nd, hm, hb, hf, hz, hris, led2, ?_⟩
    show t.dummies.size = 0
    rw [c2]; rfl
  · have er : t1.road t = .clean := by
      unfold SetTable.road
      rw [hfill]
      simp only [bne_self_eq_false, Bool.false_eq_true, if_false]
      rw [if_neg c]
    dsimp only
    rw [er]
    obtain ⟨t2, order, e, pm, e1, e2, e3, e4, e5, e6⟩ := laid_is (m := t1.mask) (by rw [em]; exact F) t1.finger t1.moves (t1.led && t.led) (t1.plain && t.plain) (es.map (·.1)) (by rw [Array.size_map, em]; omega)
    rw [Array.size_map] at pm e2
    obtain ⟨p1, p2⟩ := reord pm
    have hz2 : ((order.filterMap (es[·]?)).size != es.size) = false := by rw [p2]; simp
    dsimp only
    rw [e]
    show wpAny (model P w) A ((if ((order.filterMap (es[·]?)).size != es.size) = true then _ else pure (order.filterMap (es[·]?), t2)) >>= fun x => storeSet r x.1 x.2) Q E _
    rw [hz2]
    refine wpAny_bind (wp_if_neg (by simp) (wpAny_pure ?_))
    dsimp only
    refine wpAny_storeSet_of hr1 hd1 ?_ (by rw [p2]; exact Nat.le_trans (Nat.le_of_lt hb) (by decide))
    refine hQ _ (sb.trans (Heap.SameBut.update _ r _)) ⟨_, _, _, t2, store_at hr1 hd1, hex1, rfl, fun e he => g e (p1.mem_iff.mp he), (p1.map keyOf).nodup_iff.mpr nd, fun k => (hm k).trans (p1.map keyOf).mem_iff.symm, by rw [p2]; exact hb, ?_, by rw [p2]; exact hz, e6, by rw [e4]; exact led2, by rw [e3]; rfl⟩
    unfold SetTable.fits SetTable.fill
    rw [p2, e2, e3, e1, em]
    simp
    omega
theorem copy_at {S : Int → Bool} {n : Nat} {Q : Value → Shared → Prop} (R : SetR w s.heap a S n) (hn : n ≤ 15) (n0 : n ≠ 0)
    (hQ : ∀ h' : Heap, (∀ b u, s.heap.get? b = some u → h'.get? b = some u) → h'.objs.size = s.heap.objs.size + 1 → SetQ w h' s.heap.objs.size S n 0 → Q (.ref s.heap.objs.size) { s with heap := h' }) : wpAny (model P w) A (Builtin.Frozenset.copyOf a) Q E s := by
  have ra : s.heap.objs.size ≠ a := Nat.ne_of_gt R.lt
  unfold Builtin.Frozenset.copyOf
  refine wpAny_bind (baseOf_at (SetR.typeIs R) ?_)
  refine wpAny_bind (newSet_at ?_)
  unfold Builtin.Frozenset.addrOf
  refine wpAny_bind (wpAny_pure ?_)
  refine wpAny_bind (merge_at (R.at fun o e => Heap.get?_push_of_some _ e) hn n0 (Heap.get?_push_size _ rfl) ra fun h' sb R2 => ?_)
  refine wpAny_pure (hQ h' (fun b u e => ?_) ?_ R2)
  · have lt := Heap.lt_size e
    rw [sb.2 b (Nat.ne_of_lt lt)]
    exact Heap.get?_push_of_some _ e
  · rw [sb.1]
    exact Heap.size_push _ _
end
end SD

-- SD4
set_option maxRecDepth 100000
set_option maxHeartbeats 4000000
namespace SD
open PySem PySem.Spec PyProof.Rows L2
section
variable {P : Program} {w : World} {A : Around} {E : Value → Shared → Prop} {s : Shared} {a : Addr}
theorem eraseAt_list {α : Type} (xs : Array α) (i : Nat) : (SetTable.eraseAt xs i).toList = xs.toList.eraseIdx i := by
  unfold SetTable.eraseAt
  rw [Array.toList_append, Array.toList_extract, Array.toList_extract, List.eraseIdx_eq_take_drop_succ]
  simp [List.extract_eq_drop_take]
  try (rw [List.take_of_length_le]; simp)
theorem insertAt_size {α : Type} (xs : Array α) (p : Nat) (x : α) : (SetTable.insertAt xs p x).size = xs.size + 1 := by
  have := (SetTable.insertAt_perm xs p x).length_eq
  rw [Array.length_toList, Array.length_toList, Array.size_push] at this
  exact this
theorem discard_at {k : Int} {tk : Tok} {S : Int → Bool} {n d : Nat} {Q : Bool → Shared → Prop} (R : SetQ w s.heap a S n d)
    (h0 : S k = false → Q false s) (h1 : S k = true → ∀ h' m, n = m + 1 → Heap.SameBut a s.heap h' → SetQ w h' a (fun j => S j && !decide (j = k)) m (d + 1) → Q true { s with heap := h' }) :
    wpAny (model P w) A (setDiscardHashed a (.int k tk) (hashInt k)) Q E s := by
  obtain ⟨o, es, ep, t, ho, hex, hd, g, nd, hm, hb, hf, hn, hr, hl, hdm⟩ := R
  have hkey : (intKind P w).is k (.int k tk) = true := intKind_is P w k tk
  have hsc : (Value.int k tk).scannable = true := rfl
  have hel : ElemsOf (intKind P w) es.toList := good_elems g
  unfold setDiscardHashed
  refine wpAny_bind ?_
  show wpAny (model P w) A (setFind a (.int k tk) ((intKind P w).hash k)) _ E s
  unfold setFind setFindIn
  refine wpAny_bind (wpAny_setState_of ho hd hf ?_)
  dsimp only
  rw [byScan_of hsc hb hel]
  simp only [↓reduceIte]
  refine wpAny_bind (wpAny_rule ?_)
  refine wpAny_bind (wpAny_setScan_of hkey ho hd hf hel ?_)
  cases hfi : List.findIdx? (fun e => (intKind P w).is k e.2) es.toList with
  | none =>
    dsimp only
    have hSk : S k = false := by
      cases q : S k with
      | false => rfl
      | true =>
        obtain ⟨e, he, z⟩ := (good_mem (P := P) (w := w) g k).1 ((hm k).1 q)
        have c := List.findIdx?_eq_none_iff.mp hfi e he
        rw [z] at c
        cases c
    exact wpAny_pure (wpAny_pure (h0 hSk))
  | some j =>
    dsimp only
    obtain ⟨hj, pj, _⟩ := List.findIdx?_eq_some_iff_getElem.mp hfi
    have ej : keyOf es.toList[j] = k := (good_is (P := P) (w := w) (g _ (List.getElem_mem hj)) k).1 pj
    have hSk : S k = true := (hm k).2 (List.mem_map.mpr ⟨_, List.getElem_mem hj, ej⟩)
    refine wpAny_pure ?_
    rw [Nat.zero_add]
    refine wpAny_bind (wpAny_setState_of ho hd hf ?_)
    dsimp only
    have pm := erase_perm es.toList j _ (List.getElem?_eq_getElem hj)
    have pk := pm.map keyOf
    rw [List.map_cons, ej] at pk
    have nd2 : (k :: (es.toList.eraseIdx j).map keyOf).Nodup := pk.nodup_iff.mpr nd
    obtain ⟨nk, nd3⟩ := List.nodup_cons.mp nd2
    have hl2 : (es.toList.eraseIdx j).length + 1 = n := by
      have := pm.length_eq
      rw [List.length_cons] at this
      have h2 : es.toList.length = es.size := Array.length_toList
      omega
    have sz : (SetTable.eraseAt es j).size + 1 = n := by rw [← Array.length_toList, eraseAt_list]; exact hl2
    have fz : t.place.size = es.size ∧ t.fill ≤ t.mask := by
      unfold SetTable.fits at hf
      simpa [Bool.and_eq_true] using hf
    have hjp : j < t.place.size := by rw [fz.1]; rw [Array.length_toList] at hj; exact hj
    have ed : t.drop j = { t with place := SetTable.eraseAt t.place j, dummies := SetTable.insertAt t.dummies (SetTable.below t.dummies t.place[j]) t.place[j] } := by
      unfold SetTable.drop
      rw [Array.getElem?_eq_getElem hjp]
    have pz : (SetTable.eraseAt t.place j).size + 1 = t.place.size := by
      rw [← Array.length_toList, eraseAt_list, List.length_eraseIdx, if_pos (by rw [Array.length_toList]; exact hjp), Array.length_toList]
      omega
    rw [ed]
    refine wpAny_bind (wpAny_storeSet_of ho hd ?_ (Nat.le_trans (show (SetTable.eraseAt es j).size ≤ scanBound by omega) (by decide)))
    refine wpAny_bind (wpAny_point ?_)
    refine wpAny_pure (h1 hSk _ ((SetTable.eraseAt es j).size) (by omega) (Heap.SameBut.update _ a _) ⟨_, _, _, _, store_at ho hd, hex, rfl, ?_, ?_, ?_, ?_, ?_, rfl, ?_, hl, ?_⟩)
    · intro e he
      rw [eraseAt_list] at he
      exact g e (List.mem_of_mem_eraseIdx he)
    · rw [eraseAt_list]; exact nd3
    · intro i
      rw [eraseAt_list]
      rw [Bool.and_eq_true, hm i, ← pk.mem_iff, List.mem_cons]
      constructor
      · rintro ⟨z | z, y⟩
        · rw [z] at y; simp at y
        · exact z
      · intro z
        refine ⟨.inr z, ?_⟩
        have : i ≠ k := fun e => nk (e ▸ z)
        simp [this]
    · omega
    · unfold SetTable.fits SetTable.fill
      rw [insertAt_size]
      have f1 := fz.1
      have f2 := fz.2
      unfold SetTable.fill at f2
      simp only [Bool.and_eq_true, beq_iff_eq, decide_eq_true_eq]
      omega
    · show Ris (SetTable.eraseAt t.place j).toList
      rw [eraseAt_list]
      exact List.Pairwise.sublist (List.eraseIdx_sublist ..) hr
    · show (SetTable.insertAt t.dummies _ _).size = d + 1
      rw [insertAt_size, hdm]
theorem unch {nm : String} {ep : Nat} {o : Obj} {es : Array (Int × Value)} {t : SetTable} {Q : Unit → Shared → Prop} (ho : s.heap.get? a = some o) (hd : o.data = .set es ep t) (hf : t.fits es.size = true) (h : Q () s) : wpAny (model P w) A (Builtin.Frozenset.unchanged nm a ep) Q E s := by
  unfold Builtin.Frozenset.unchanged
  refine wpAny_bind (wpAny_setEpoch_of ho hd hf ?_)
  rw [if_neg (by simp)]
  exact wpAny_pure h
theorem sizeOf_at {S : Int → Bool} {n : Nat} {Q : Nat → Shared → Prop} (R : SetR w s.heap a S n) (h : Q n s) : wpAny (model P w) A (Builtin.Frozenset.sizeOf a) Q E s := by
  obtain ⟨o, es, ep, t, ho, hex, hd, g, nd, hm, hb, hf, hz, hris, hl⟩ := R
  unfold Builtin.Frozenset.sizeOf
  refine wpAny_bind (wpAny_setEntries_of ho hd hf ?_)
  exact wpAny_pure (by rw [hz]; exact h)
theorem same_set {h h' : Heap} {r b : Addr} (sb : Heap.SameBut r h h') (n : b ≠ r) {u : Obj} (e : h.get? b = some u) : h'.get? b = some u := (sb.2 b n).trans e
/-- a set is lessened by another, a quarter of it at most -/
theorem lessen_at {nm : String} {b : Addr} {S T : Int → Bool} {n m : Nat} {Q : Unit → Shared → Prop} (R : SetQ w s.heap a S n 0) (R2 : SetR w s.heap b T m) (hab : b ≠ a) (hm : m ≤ n / 4)
    (hQ : ∀ h' n', n' ≤ n → Heap.SameBut a s.heap h' → SetR w h' a (fun j => S j && !T j) n' → Q () { s with heap := h' }) : wpAny (model P w) A (Builtin.Frozenset.differenceUpdate nm a (.ref b)) Q E s := by
  obtain ⟨ob, eb, epb, tb, hob, hexb, hdb, gb, ndb, hmb, hbb, hfb, hnb, hrb, hlb⟩ := id R2
  unfold Builtin.Frozenset.differenceUpdate
  refine wp_if_neg (by simpa using hab) ?_
  refine wpAny_bind (anySet (SetR.typeIs R2) ?_)
  dsimp only
  refine wp_if_pos rfl ?_
  unfold Builtin.Frozenset.addrOf
  refine wpAny_bind (wpAny_pure ?_)
  refine wpAny_bind (sizeOf_at R2 ?_)
  refine wpAny_bind (sizeOf_at R.setR ?_)
  refine wp_if_neg (by omega) ?_
  refine wpAny_bind (wpAny_setEpoch_of hob hdb hfb ?_)
  refine wpAny_bind (wpAny_holding ?_)
  refine wpAny_bind (walkUnseen_none R2 (fun c hc => by rw [List.mem_singleton.mp hc]; exact ⟨_, _, R.setR⟩) fun xs g nd hx hz => ?_)
  have hT : ∀ e ∈ xs.toList, T (keyOf e) = true := fun e he => (hx _).2 (List.mem_map.mpr ⟨e, he, rfl⟩)
  refine wpAny_bind (wpAny_forIn_array' _ (fun rest _ s' => ∃ h' S' n' d', s' = { s with heap := h' } ∧ Heap.SameBut a s.heap h' ∧ SetQ w h' a S' n' d' ∧ n' + d' = n ∧ d' + rest.length ≤ m ∧ (∀ e ∈ rest, GoodE e) ∧ (rest.map keyOf).Nodup ∧ (∀ e ∈ rest, T (keyOf e) = true) ∧ ∀ k, S' k = true ↔ S k = true ∧ ¬ (T k = true ∧ k ∉ rest.map keyOf)) _ (fun e rest u s1 hI => ?_) (fun u s1 hI => ?_) xs _ ⟨s.heap, S, n, 0, rfl, Heap.SameBut.refl a _, R, rfl, by rw [Array.length_toList, hz]; omega, g, nd, hT, fun k => ⟨fun z => ⟨z, fun y => y.2 ((hx k).1 y.1)⟩, fun z => z.1⟩⟩)
  · obtain ⟨h1, S', n', d', rfl, sb, R1, e1, e2, g1, nd1, t1, i1⟩ := hI
    obtain ⟨k, tk, k1, k2⟩ := g1 e (List.mem_cons_self ..)
    obtain ⟨hh, v⟩ := e
    simp only at k1 k2
    subst k1 k2
    rw [List.map_cons] at nd1
    obtain ⟨nk, nd2⟩ := List.nodup_cons.mp nd1
    have tk0 : T k = true := t1 _ (List.mem_cons_self ..)
    have nk : k ∉ rest.map keyOf := nk
    rw [List.length_cons] at e2
    have step : ∀ j, ((S' j && !decide (j = k)) = true) ↔ S j = true ∧ ¬ (T j = true ∧ j ∉ rest.map keyOf) := fun j => by
      rw [Bool.and_eq_true, i1 j]
      simp only [List.map_cons, List.mem_cons, Bool.not_eq_true', decide_eq_false_iff_not]
      by_cases c : j = k
      · subst c
        constructor
        · rintro ⟨_, z⟩; exact absurd rfl z
        · rintro ⟨_, z⟩; exact absurd ⟨tk0, nk⟩ z
      · have : keyOf (hashInt k, Value.int k tk) = k := rfl
        rw [this]
        constructor
        · rintro ⟨⟨z1, z2⟩, _⟩
          exact ⟨z1, fun y => z2 ⟨y.1, fun q => q.elim c y.2⟩⟩
        · rintro ⟨z1, z2⟩
          exact ⟨⟨z1, fun y => z2 ⟨y.1, fun q => y.2 (.inr q)⟩⟩, c⟩
    dsimp only
    refine wpAny_bind (wpAny_holding (discard_at R1 (fun hs => ?_) fun hs h2 m2 em sb2 R3 => ?_))
    · refine wpAny_bind (unch (same_set sb hab hob) hdb hfb (wpAny_pure ⟨h1, S', n', d', rfl, sb, R1, e1, by omega, fun e he => g1 e (List.mem_cons_of_mem _ he), nd2, fun e he => t1 e (List.mem_cons_of_mem _ he), fun j => ?_⟩))
      rw [← step j]
      by_cases c : j = k
      · subst c; rw [hs]; simp
      · simp [c]
    · refine wpAny_bind (unch (same_set sb2 hab (same_set sb hab hob)) hdb hfb (wpAny_pure ⟨h2, _, m2, d' + 1, rfl, sb.trans sb2, R3, by omega, by omega, fun e he => g1 e (List.mem_cons_of_mem _ he), nd2, fun e he => t1 e (List.mem_cons_of_mem _ he), step⟩))
  · obtain ⟨h1, S', n', d', rfl, sb, R1, e1, e2, _, _, _, i1⟩ := hI
    refine wpAny_pure ?_
    obtain ⟨o, es, ep, t, ho, hex, hd, g2, nd2, hm2, hb2, hf2, hz2, hr2, hl2, hdm2⟩ := id R1
    unfold setTidy
    refine wpAny_bind (wpAny_setState_of ho hd hf2 ?_)
    dsimp only
    have fz : t.place.size = es.size ∧ t.fill ≤ t.mask := by
      have := hf2
      unfold SetTable.fits at this
      simpa [Bool.and_eq_true] using this
    have few : t.tooManyDummies = false := by
      unfold SetTable.tooManyDummies
      have f1 := fz.1
      have f2 := fz.2
      unfold SetTable.fill at f2
      rw [List.length_nil] at e2
      simp only [decide_eq_false_iff_not]
      omega
    rw [few]
    refine wp_if_neg (by simp) (wpAny_pure (hQ h1 n' (by omega) sb (R1.setR.congr fun j => ?_)))
    have q := i1 j
    simp only [List.map_nil, List.not_mem_nil, not_false_eq_true, and_true] at q
    cases c1 : S j <;> cases c2 : T j <;> cases c3 : S' j <;> simp_all
end
end SD

-- SD5
set_option maxRecDepth 100000
set_option maxHeartbeats 4000000
namespace SD
open PySem PySem.Spec PyProof.Rows L2
section
variable {P : Program} {w : World} {A : Around} {E : Value → Shared → Prop} {s : Shared} {a : Addr}
theorem find_at {k : Int} {tk : Tok} {S : Int → Bool} {n : Nat} {Q : Option Nat → Shared → Prop} (R : SetR w s.heap a S n) (h : ∀ r : Option Nat, r.isSome = S k → Q r s) : wpAny (model P w) A (setFind a (.int k tk) (hashInt k)) Q E s :=
  wpAny_setFind_of (knd := intKind P w) (intKind_is P w k tk) rfl R.setOf h
/-- one set without the other's -/
theorem diff_at {nm : String} {b : Addr} {S T : Int → Bool} {n m : Nat} {Q : Value → Shared → Prop} (R : SetR w s.heap a S n) (R2 : SetR w s.heap b T m) (hn : n ≤ 15)
    (hQ : ∀ (h' : Heap) (n' : Nat), n' ≤ n → (∀ c u, s.heap.get? c = some u → h'.get? c = some u) → SetR w h' s.heap.objs.size (fun j => S j && !T j) n' → Q (.ref s.heap.objs.size) { s with heap := h' }) :
    wpAny (model P w) A (Builtin.Frozenset.difference nm a (.ref b)) Q E s := by
  have la := R.lt
  have lb := R2.lt
  unfold Builtin.Frozenset.difference
  refine wpAny_bind (anySet (SetR.typeIs R2) ?_)
  refine wp_if_neg (by simp) ?_
  unfold Builtin.Frozenset.addrOf
  refine wpAny_bind (wpAny_pure ?_)
  refine wp_if_neg (by simp) ?_
  dsimp only
  refine wp_if_pos rfl ?_
  refine wpAny_bind (sizeOf_at R2 ?_)
  refine wpAny_bind (sizeOf_at R ?_)
  by_cases c : n / 4 > m
  · refine wp_if_pos c ?_
    refine wpAny_bind (wpAny_rule ?_)
    refine wpAny_bind (copy_at R hn (by omega) fun h1 k1 z1 R1 => ?_)
    refine wpAny_bind (wpAny_pure ?_)
    refine wpAny_bind (wpAny_holding (lessen_at R1 (R2.at fun o e => k1 b o e) (Nat.ne_of_lt lb) (by omega) fun h2 n2 ln sb R3 => ?_))
    refine wpAny_pure (hQ h2 n2 ln (fun x u e => ?_) R3)
    rw [sb.2 x (Nat.ne_of_lt (Heap.lt_size e))]
    exact k1 x u e
  · refine wp_if_neg c ?_
    refine wpAny_bind (baseOf_at (SetR.typeIs R) ?_)
    refine wpAny_bind (newSet_at ?_)
    refine wpAny_bind (wpAny_pure ?_)
    have kp : ∀ x u, s.heap.get? x = some u → (s.heap.push (bareO w)).get? x = some u := fun x u e => Heap.get?_push_of_some _ e
    have Ra := R.at (h' := s.heap.push (bareO w)) fun o e => kp a o e
    have Rb := R2.at (h' := s.heap.push (bareO w)) fun o e => kp b o e
    have R0 : SetR w (s.heap.push (bareO w)) s.heap.objs.size (fun _ => false) 0 := setR_fresh w
    obtain ⟨o, es, ep, t, ho, hex, hd, g, nd, hm, hb, hf, hz, hris, hl⟩ := id Ra
    refine wpAny_bind (wpAny_setEpoch_of ho hd hf ?_)
    refine wpAny_bind (wpAny_holding ?_)
    refine wpAny_bind ?_
    refine wp_if_pos rfl ?_
    have nra : s.heap.objs.size ≠ a := Nat.ne_of_gt la
    have nrb : s.heap.objs.size ≠ b := Nat.ne_of_gt lb
    refine walkUnseen_some Ra R0 nra (fun x hx => ?_) fun xs h1 g1 nd1 hx1 hz1 sb1 R1 => ?_
    · rcases List.mem_cons.mp hx with z | z
      · rw [z]; exact ⟨_, _, Rb⟩
      · rw [List.mem_singleton.mp z]; exact ⟨_, _, R0⟩
    refine wpAny_bind (wpAny_forIn_array' _ (fun rest _ s' => ∃ h' S' n', s' = { s with heap := h' } ∧ Heap.SameBut s.heap.objs.size (s.heap.push (bareO w)) h' ∧ SetR w h' s.heap.objs.size S' n' ∧ n' + rest.length ≤ n ∧ (∀ e ∈ rest, GoodE e) ∧ (∀ e ∈ rest, S (keyOf e) = true) ∧ ∀ k, ((S k && !T k) = true) ↔ S' k = true ∨ ((S k && !T k) = true ∧ k ∈ rest.map keyOf)) _ (fun e rest u s1 hI => ?_) (fun u s1 hI => ?_) xs _ ⟨h1, fun _ => false, 0, rfl, sb1, R1, by rw [Array.length_toList, hz1]; omega, g1, fun e he => (hx1 _).2 (List.mem_map.mpr ⟨e, he, rfl⟩), fun k => ⟨fun z => .inr ⟨z, (hx1 k).1 (by rw [Bool.and_eq_true] at z; exact z.1)⟩, fun z => z.elim (fun q => by cases q) fun q => q.1⟩⟩)
    · obtain ⟨h2, S', n', rfl, sb, R3, e2, g2, t2, i2⟩ := hI
      obtain ⟨k, tk, k1, k2⟩ := g2 e (List.mem_cons_self ..)
      obtain ⟨hh, v⟩ := e
      simp only at k1 k2
      subst k1 k2
      have tk0 : S k = true := t2 _ (List.mem_cons_self ..)
      rw [List.length_cons] at e2
      have Rb2 := Rb.at (h' := h2) fun o e => same_set sb nrb.symm e
      dsimp only
      refine wpAny_bind (wpAny_holding ?_)
      refine wp_if_pos rfl ?_
      refine wpAny_bind (find_at Rb2 fun r hr => ?_)
      refine wpAny_bind (wpAny_pure ?_)
      rw [hr]
      cases hT : T k with
      | true =>
        refine wp_if_neg (by simp) (wpAny_pure ?_)
        refine wpAny_bind (unch (same_set sb nra.symm ho) hd hf (wpAny_pure ⟨h2, S', n', rfl, sb, R3, by omega, fun e he => g2 e (List.mem_cons_of_mem _ he), fun e he => t2 e (List.mem_cons_of_mem _ he), fun j => ?_⟩))
        refine (i2 j).trans ?_
        simp only [List.map_cons, List.mem_cons]
        have kk : keyOf (hashInt k, Value.int k tk) = k := rfl
        rw [kk]
        constructor
        · rintro (z | ⟨z, y | y⟩)
          · exact .inl z
          · subst y; rw [hT] at z; simp at z
          · exact .inr ⟨z, y⟩
        · rintro (z | ⟨z, y⟩)
          · exact .inl z
          · exact .inr ⟨z, .inr y⟩
      | false =>
        refine wp_if_pos rfl ?_
        refine wpAny_bind (setR_add_hashed R3 (by have : 16 < scanBound := by decide
                                                  omega) fun h3 sb3 R4 => ?_)
        refine wpAny_pure ?_
        refine wpAny_bind (unch (same_set sb3 nra.symm (same_set sb nra.symm ho)) hd hf (wpAny_pure ⟨h3, _, _, rfl, sb.trans sb3, R4, by split <;> omega, fun e he => g2 e (List.mem_cons_of_mem _ he), fun e he => t2 e (List.mem_cons_of_mem _ he), fun j => ?_⟩))
        refine (i2 j).trans ?_
        simp only [List.map_cons, List.mem_cons, Bool.or_eq_true, decide_eq_true_eq]
        have kk : keyOf (hashInt k, Value.int k tk) = k := rfl
        rw [kk]
        constructor
        · rintro (z | ⟨z, y | y⟩)
          · exact .inl (.inl z)
          · exact .inl (.inr y)
          · exact .inr ⟨z, y⟩
        · rintro ((z | z) | ⟨z, y⟩)
          · exact .inl z
          · subst z
            exact .inr ⟨by rw [tk0, hT]; rfl, .inl rfl⟩
          · exact .inr ⟨z, .inr y⟩
    · obtain ⟨h2, S', n', rfl, sb, R3, e2, _, _, i2⟩ := hI
      refine wpAny_pure (wpAny_pure ?_)
      refine hQ h2 n' (by omega) (fun x u e => ?_) (R3.congr fun k => ?_)
      · rw [sb.2 x (Nat.ne_of_lt (Heap.lt_size e))]
        exact kp x u e
      · have q := i2 k
        simp only [List.map_nil, List.not_mem_nil, and_false, or_false] at q
        cases c1 : (S k && !T k) <;> cases c2 : S' k <;> simp_all
theorem entry_set_sub : entryFor table "set.__sub__" = some Builtin.«frozenset.__sub__» := entryFor_alias (id' := "frozenset.__sub__") (by kernel_rfl) rfl (by decide +kernel) (by kernel_rfl)
theorem sub_at {b : Addr} {S T : Int → Bool} {n m : Nat} {Q : Value → Shared → Prop} (R : SetR w s.heap a S n) (R2 : SetR w s.heap b T m) (hn : n ≤ 15)
    (hQ : ∀ (h' : Heap) (n' : Nat), n' ≤ n → (∀ c u, s.heap.get? c = some u → h'.get? c = some u) → SetR w h' s.heap.objs.size (fun j => S j && !T j) n' → Q (.ref s.heap.objs.size) { s with heap := h' }) :
    wpAny (model P w) A (binaryOp .Sub (.ref a) (.ref b)) Q E s := by
  refine wpAny_binaryOp_same (T := "set") (id := "set.__sub__") (SetR.typeIs R) (SetR.typeIs R2) PySem.F.fills_set_sub PySem.F.slot_set_sub ?_
  refine wpAny_call_entry PySem.F.slot_set_sub (SetR.typeIs R) entry_set_sub ?_ (PySem.F.args_set_sub_2 _ _)
  have go : wpAny (model P w) A.in1 (do
      let c ← (Builtin.Frozenset.isAnySet (.ref a) <&&> Builtin.Frozenset.isAnySet (.ref b))
      if (!c) = true then
        rule "frozenset.__sub__.declined"
        ret .notImplemented
      else
        let l ← Builtin.Frozenset.addrOf (.ref a)
        let v ← Builtin.Frozenset.difference "frozenset.__sub__" l (.ref b)
        ret v) (fun fin s' => ∃ v, fin = Fin.done (Flow.ret v) ∧ v ≠ Value.notImplemented ∧ Q v s') E s := by
    refine wpAny_bind ?_
    unfold andM
    refine wpAny_bind (anySet (SetR.typeIs R) ?_)
    refine anySet (SetR.typeIs R2) ?_
    refine wp_if_neg (by simp) ?_
    unfold Builtin.Frozenset.addrOf
    refine wpAny_bind (wpAny_pure ?_)
    refine wpAny_bind (diff_at R R2 hn fun h' n' ln kp R3 => ?_)
    exact wpAny_pure ⟨_, rfl, (fun z => by cases z), hQ h' n' ln kp R3⟩
  exact go
variable {X : Cx}
/-- set(ints) - set(ints) -/
def rSSub (w : World) : R2 := fun x y H Q => ∃ (a b : Addr) (S T : Int → Bool) (n m : Nat), x = V.ref a ∧ y = V.ref b ∧ H a = some (SetO w a S n) ∧ H b = some (SetO w b T m) ∧ n ≤ 15 ∧ ∀ p n', n' ≤ n → H p = none → Q (.ref p) (upd H p (SetO w p (fun j => S j && !T j) n'))
theorem or_ssub : OpR X (binaryOp .Sub) (rSSub X.w) := by
  intro pins s σ H x y v u Q I rx ry h
  obtain ⟨a, b, S, T, n, m, rfl, rfl, ha, hb, hn, q⟩ := h
  cases rx
  cases ry
  refine sub_at (setO_get I ha) (setO_get I hb) hn fun h' n' ln kp R3 => ?_
  refine ⟨.ref _, upd H s.heap.objs.size (SetO X.w s.heap.objs.size (fun j => S j && !T j) n'), I.laid (t' := s.toks) kp (Nat.le_refl _) (setO_new R3), rfl, q _ n' ln (I.hok.fresh (Nat.le_refl _))⟩
end
end SD

-- SD6
set_option maxRecDepth 100000
set_option maxHeartbeats 4000000
/-! set(ints), a list or a tuple -/
namespace SD
open PySem PySem.Spec PyProof.Rows L2
section
variable {prog : Program} {w : World} {A : Around} {E : Value → Shared → Prop} {s : Shared}
theorem set_listI {l : Addr} {its : Array Value} {Q : Value → Shared → Prop} (ns : List Int) (calm : A.handled = none) (isl : s.heap.IsList l its) (areI : IntsAre its.toList ns) (room : ns.length + 1 < scanBound)
    (h : ∀ (h' : Heap) (tk c : Nat), SetR w h' s.heap.objs.size (fun j => decide (j ∈ ns)) c → c ≤ its.size → (∀ b o, b < s.heap.objs.size → s.heap.get? b = some o → h'.get? b = some o) → Q (.ref s.heap.objs.size) { s with heap := h', toks := tk }) :
    wpAny (model prog w) A (call (.type "set") [.ref l]) Q E s := by
  have nsz : its.size = ns.length := by
    have q := IntsAre.length areI
    rw [Array.length_toList] at q
    exact q
  obtain ⟨_, _, hmro⟩ := PySem.F.called_set.mro
  have f1 := PySem.F.called_set.made
  have f2 := PySem.F.called_set.sub
  have f3 := PySem.F.called_set.notType
  have f4 := PySem.F.called_set.canCreate
  have f5 := PySem.F.typeCall_set_1 (.ref l)
  refine wpAny_call (codeAny_of_tree (?_ : wpAny _ _ (callAny (.type "set") _) _ _ _))
  refine wpAny_pure ⟨Code.quiet_builtin _ (by decide +kernel), codeAny_builtin PySem.F.entry_type_call ?_⟩
  rw [Around.under_plain (weight_type_call_type "set" [.ref l] []) rfl]
  repeat (any_goals (first | assumption | wp_step))
  generalize eD : s.heap.objs.size = D at *
  refine codeAny_mono (code_set_led1 (.ref l) (E := E) (Q₁ := fun v t => v = .ref D ∧ t = { s with heap := s.heap.push (bareO w) }) ⟨by rw [eD], rfl⟩) fun r t hr => ?_
  rcases r with e | fl
  · exact hr
  cases fl with
  | ret v =>
    obtain ⟨rfl, rfl⟩ := hr
    have atD : (s.heap.push (bareO w)).get? D = some (bareO w) := by
      rw [← eD]
      exact Heap.get?_push_size _ rfl
    have isS : Shared.TypeIs { s with heap := s.heap.push (bareO w) } (.ref D) "set" := ⟨_, atD, rfl⟩
    have f6 := PySem.F.called_set.init.lookup
    have f7 := PySem.F.called_set.init.bind (.ref D)
    repeat (any_goals (first | assumption | wp_step))
    refine codeAny_mono (codeAny_call_builtin (R := wants (fun r t => r = .none ∧ ∃ h' tk c, t = { s with heap := h', toks := tk } ∧ SetR w h' D (fun j => decide (j ∈ ns)) c ∧ c ≤ its.size ∧ (∀ b o, b < D → s.heap.get? b = some o → h'.get? b = some o)) E)
      PySem.F.called_set.init.plain PySem.F.entry_set_init (check_set_init_1 isS ?_)) fun r2 t2 hr2 => ?_
    · have isl1 : (s.heap.push (bareO w)).IsList l its := isl.push _
      obtain ⟨ob, hob, hc, nl, hd⟩ := isl1
      have ltl : l < D := by
        obtain ⟨o, ho, _⟩ := isl
        rw [← eD]
        exact Heap.lt_size ho
      obtain ⟨ocls, odict, odata, oslots⟩ := ob
      simp only at hc hd
      subst hc hd
      have g1 := PySem.F.sub_list_set
      have g2 := PySem.F.sub_list_frozenset
      have g3 : (Value.type "list" == Value.type "dict") = false := by decide
      have isl2 : (s.heap.push (bareO w)).IsList l its := ⟨_, hob, rfl, nl, rfl⟩
      unfold Builtin.«set.__init__» noKeywords Builtin.Frozenset.updateFrom
      generalize hPI : pyIter = PI
      wp_walk
      subst hPI
      refine wpAny_pyIter_list isl2 (wpAny_bind (wpAny_runValue ?_))
      have calm3 : A.in1.in1.in1.handled = none := by simp [calm]
      have sz : (s.heap.push (bareO w)).objs.size = D + 1 := by rw [Heap.size_push, eD]
      have nI : l ≠ (s.heap.push (bareO w)).objs.size := by
        rw [sz]
        exact Nat.ne_of_lt (Nat.lt_succ_of_lt ltl)
      have nf : D ∉ [(s.heap.push (bareO w)).objs.size, l] := by
        rw [sz]
        intro z
        rcases List.mem_cons.mp z with z | z
        · omega
        · exact absurd (List.mem_singleton.mp z) (Nat.ne_of_gt ltl)
      have hval : ∀ (i : Nat) (v : Value), its[i]? = some v → ∃ k t, ns[i]? = some k ∧ v = .int k t := fun i v hv => by
        have hi : i < ns.length := by rw [← nsz]; exact (Array.getElem?_eq_some_iff.mp hv).1
        obtain ⟨t, e⟩ := PyProof.Rows.IntsAre.int_at areI i v (by rw [Array.getElem?_toList]; exact hv)
        exact ⟨ns[i], t, List.getElem?_eq_getElem hi, by rw [e, List.getD_eq_getElem?_getD, List.getElem?_eq_getElem hi]; rfl⟩
      refine set_update_ints ((Walks.list calm3 _ l nI its).toS) D nf ns nsz room hval (its.size - 0) 0 _ (by omega) (Nat.zero_le _) ⟨⟨_, Heap.get?_push_size _ rfl, rfl, rfl⟩, isl2.push _⟩ ⟨0, Nat.le_refl _, setR_new_at (Heap.get?_push_of_some _ atD)⟩ ?_
      intro t1 c mv lc so
      obtain ⟨h', g', d', tk', os'⟩ := t1
      obtain rfl : g' = s.gens := mv.gens
      obtain rfl : d' = s.drawn := mv.drawn
      obtain rfl : os' = s.os := mv.os
      show wpAny _ _ _ _ _ _
      refine wpAny_pure ?_
      show wpAny _ _ (ret Value.none) _ _ _
      refine wpAny_pure ⟨rfl, h', tk', c, rfl, so, lc, fun b o lb e => mv.heap b o (fun z => ?_) (Heap.get?_push_of_some _ (Heap.get?_push_of_some _ e))⟩
      rcases List.mem_cons.mp z with z | z
      · exact absurd z (Nat.ne_of_lt lb)
      · have e2 := List.mem_singleton.mp z
        rw [sz] at e2
        exact absurd e2 (Nat.ne_of_lt (Nat.lt_succ_of_lt lb))
    · rcases r2 with e | fl2
      · exact hr2
      cases fl2 with
      | ret r =>
        obtain ⟨rfl, h', tk, c, rfl, so, lc, kp⟩ := hr2
        repeat (any_goals (first | assumption | wp_step))
        exact h _ _ c so lc kp
      | _ => exact hr2.elim
  | _ => exact hr.elim
end
section
variable {X : Cx}
def rSetI (K : PySem.W.Frag) (w : World) : List V → Hp → VK → Prop := fun vs H Q => ∃ (l : Addr) (ns : List Int), vs = [V.ref l] ∧ (SqL K H l (ns.map V.int) ∨ SqT K H l (ns.map V.int)) ∧ ns.length ≤ 1000 ∧
  ∀ (p : Addr) (c : Nat), H p = none → c ≤ ns.length → Q (.ref p) (upd H p (SetO w p (fun j => decide (j ∈ ns)) c))
theorem cr_setI (hc : X.calm = true) : CallR X (.type "set") (rSetI X.K X.w) := by
  intro pins s σ H vs us Q I r h
  obtain ⟨l, ns, rfl, hl, ln, q⟩ := h
  rw [Vals.ref1 r]
  have hn : H s.heap.objs.size = none := I.hok.fresh (Nat.le_refl _)
  rcases hl with hl | hl
  · obtain ⟨its, rv, pl, hz⟩ := I.list hl
    have hlen : its.length = ns.length := by
      have := rv.length
      rw [List.length_map] at this
      exact this.symm
    refine set_listI ns (I.ok.hd hc) pl.isList (show IntsAre its.toArray.toList ns from intsAre_of rv) (by unfold scanBound; omega) fun h' tk c so lc kp => ?_
    exact ⟨.ref s.heap.objs.size, upd H s.heap.objs.size (SetO X.w s.heap.objs.size _ c), I.laid (t' := tk) (fun b o e => kp b o (Heap.lt_size e) e) (Nat.le_refl _) (setO_new so), rfl, q _ _ hn (by rw [← hlen]; simpa using lc)⟩
  · obtain ⟨its, rv, pt, hz⟩ := I.tuple hl
    refine call_set_tupI ns (I.ok.hd hc) (show s.heap.IsTuple l its.toArray from pt) (intsAre_of rv) (by unfold scanBound; omega) fun h' tk c so lc kp => ?_
    exact ⟨.ref s.heap.objs.size, upd H s.heap.objs.size (SetO X.w s.heap.objs.size _ c), I.laid (t' := tk) kp (Nat.le_refl _) (setO_new so), rfl, q _ _ hn lc⟩
end
end SD

-- RU1
set_option maxRecDepth 100000
set_option maxHeartbeats 4000000
/-! sums, greatest and least of tuples, with a default, of four; a tuple of ints in a message -/
namespace RU
open PySem PySem.Spec PyProof.Rows L2
section
variable {prog : Program} {w : World} {A : Around} {E : Value → Shared → Prop} {s : Shared} {l : Addr} {its : List Value} {ns : List Int} {Q : Value → Shared → Prop}
theorem walk_tupI {xs : Array (Int × Tok)} (hl : s.heap.IsTuple l (intItems xs)) {Q : Value → Shared → Prop}
    (h : (∀ b ∈ [s.heap.objs.size, l], b < (s.heap.push { cls := .type "tuple_iterator", data := .fields #[.ref l, .int 0 0] }).objs.size) → l ≠ s.heap.objs.size → (s.heap.push { cls := .type "tuple_iterator", data := .fields #[.ref l, .int 0 0] }).IsTuple l (intItems xs) → Q (.ref s.heap.objs.size) { s with heap := s.heap.push { cls := .type "tuple_iterator", data := .fields #[.ref l, .int 0 0] } }) :
    wpAny (model prog w) A (pyIter (.ref l)) Q E s := by
  have hlt : l < s.heap.objs.size := by
    obtain ⟨o, ho, _⟩ := hl
    exact Heap.lt_size ho
  refine wpAny_pyIter_tuple hl (h (fun b hb => ?_) (Nat.ne_of_lt hlt) (hl.push _))
  rw [Heap.size_push]
  rcases List.mem_cons.mp hb with z | z
  · omega
  · rw [List.mem_singleton.mp z]; exact Nat.lt_succ_of_lt hlt
theorem old_of {h h' : Heap} {o : Obj} (hk : ∀ b u, b ∉ [h.objs.size] → (h.push o).get? b = some u → h'.get? b = some u) : ∀ b u, h.get? b = some u → h'.get? b = some u := fun b u e =>
  hk b u (fun z => absurd (Heap.lt_size e) (by rw [List.mem_singleton.mp z]; exact Nat.lt_irrefl _)) (Heap.get?_push_of_some _ e)
theorem sum_tupI (hh : A.handled = none) (hl : s.heap.IsTuple l its.toArray) (hi : IntsAre its ns)
    (h : ∀ h' tk t', (∀ b o, s.heap.get? b = some o → h'.get? b = some o) → Q (.int ns.sum t') { s with heap := h', toks := tk }) : wpAny (model prog w) A (call (.builtin "sum") [.ref l]) Q E s := by
  obtain ⟨xs, e⟩ := hi.allInts.items
  have hn : numsOf (intItems xs).toList = ns := by rw [← e]; exact hi.numsOf
  rw [nums_intItems] at hn
  rw [e] at hl
  refine call_sum_walkG (walk_tupI hl fun hfp hlI hl2 => ?_)
  refine ⟨_, _, _, _, _, _, numAt xs, rfl, Walks.tuple (A := A.in1) hh _ l hlI (intItems xs), ⟨⟨_, Heap.get?_push_size _ rfl, rfl, rfl⟩, hl2⟩, hfp, (fun _ _ => intItems_at), fun h' tk t' hk => ?_⟩
  have := h h' tk t' (old_of hk)
  have hz : (intItems xs).size = xs.size := by simp [intItems]
  rw [hz, preSum_eq, List.take_of_length_le (by simp), hn]
  exact this
theorem max_tupI (hh : A.handled = none) (hl : s.heap.IsTuple l its.toArray) (hi : IntsAre its ns) (hne : 0 < ns.length)
    (h : ∀ h' tk M t', (∀ b o, s.heap.get? b = some o → h'.get? b = some o) → M ∈ ns → (∀ a, a ∈ ns → a ≤ M) → Q (.int M t') { s with heap := h', toks := tk }) : wpAny (model prog w) A (call (.builtin "max") [.ref l]) Q E s := by
  obtain ⟨xs, e⟩ := hi.allInts.items
  have hn : numsOf (intItems xs).toList = ns := by rw [← e]; exact hi.numsOf
  rw [nums_intItems] at hn
  subst hn
  rw [e] at hl
  have hsz : 0 < xs.size := by simpa using hne
  refine call_max_walk (walk_tupI hl fun hfp hlI hl2 => ?_)
  refine ⟨_, _, _, _, _, _, _, rfl, Walks.tuple (A := A.in1) hh _ l hlI (intItems xs), ⟨⟨_, Heap.get?_push_size _ rfl, rfl, rfl⟩, hl2⟩, hfp, by simpa [intItems] using hsz, CmpOf.ints_gt (numAt xs) (fun _ _ => intItems_at), fun v h' tk hP hk => ?_⟩
  have hv : (intItems xs)[argBest (fun i j => decide (numAt xs i > numAt xs j)) (xs.size - 1)]? = some v := by simpa [intItems] using hP
  obtain ⟨t, rfl⟩ := intItems_at hv
  obtain ⟨h1, h2⟩ := argBest_gt (numAt xs) (xs.size - 1)
  refine h h' tk _ t (old_of hk) ?_ fun a ha => ?_
  · rw [numAt_eq]; exact PySem.getD_mem (by rw [List.length_map, Array.length_toList]; omega)
  · obtain ⟨j, hj, rfl⟩ := mem_getD ha
    rw [List.length_map, Array.length_toList] at hj
    rw [← numAt_eq]; exact h2 j (by omega)
theorem args_min4 (a b c d : Value) : argsOk "min" ⟨[a, b, c, d], []⟩ := by unfold argsOk; kernel_rfl
theorem min_four {a b c d : Int} {ta tb tc td : Tok} (hh : A.handled = none)
    (h : ∀ h' tk M t', (∀ b o, s.heap.get? b = some o → h'.get? b = some o) → M ∈ [a, b, c, d] → (∀ x, x ∈ [a, b, c, d] → M ≤ x) → Q (.int M t') { s with heap := h', toks := tk }) :
    wpAny (model prog w) A (call (.builtin "min") [.int a ta, .int b tb, .int c tc, .int d td]) Q E s := by
  have hname : (toString "min" ++ toString ".loop" : String) = "min.loop" := by decide
  refine call_function_tree F.kind_min F.plain_min F.entry_min (args_min4 _ _ _ _) ?_
  show wpAny _ A.in1 (Builtin.Builtins.bindParams "min" ["key", "default"] 0 ⟨[], []⟩ >>= _) _ _ s
  refine wpAny_bind (wpAny_of_eq (show Builtin.Builtins.bindParams "min" ["key", "default"] 0 ⟨[], []⟩ = pure [none, none] from rfl) ?_)
  show wpAny _ A.in1 (newTuple [.int a ta, .int b tb, .int c tc, .int d td] >>= _) _ _ s
  refine wpAny_bind (wpAny_newObj_type ?_)
  generalize hxs : (#[(a, ta), (b, tb), (c, tc), (d, td)] : Array (Int × Tok)) = xs
  have e4 : intItems xs = #[.int a ta, .int b tb, .int c tc, .int d td] := by rw [← hxs]; simp [intItems]
  have hT : (s.heap.push { cls := .type "tuple", data := .seq [Value.int a ta, .int b tb, .int c tc, .int d td].toArray }).IsTuple s.heap.objs.size (intItems xs) := ⟨_, Heap.get?_push_size _ rfl, rfl, 0, by rw [e4]⟩
  refine wpAny_bind (walk_tupI (s := { s with heap := s.heap.push { cls := .type "tuple", data := .seq [Value.int a ta, .int b tb, .int c tc, .int d td].toArray } }) hT fun hfp hlI hl2 => ?_)
  refine wpAny_bind (wpAny_newObj_type ?_)
  rw [hname]
  have W := Walks.tuple (prog := prog) (w := w) (A := A.in1) hh (s.heap.push { cls := .type "tuple", data := .seq [Value.int a ta, .int b tb, .int c tc, .int d td].toArray }).objs.size s.heap.objs.size hlI (intItems xs)
  generalize hH : (s.heap.push { cls := .type "tuple", data := .seq [Value.int a ta, .int b tb, .int c tc, .int d td].toArray }) = H1 at *
  have hz1 : H1.objs.size = s.heap.objs.size + 1 := by rw [← hH]; exact Heap.size_push _ _
  have hz2 : (H1.push { cls := .type "tuple_iterator", data := .fields #[.ref s.heap.objs.size, .int 0 0] }).objs.size = H1.objs.size + 1 := Heap.size_push _ _
  have hSf : (H1.push { cls := .type "tuple_iterator", data := .fields #[.ref s.heap.objs.size, .int 0 0] }).objs.size ∉ [H1.objs.size, s.heap.objs.size] := fun hm => Nat.lt_irrefl _ (hfp _ hm)
  refine wpAny_pure ⟨plainId_quiet F.plain_min_loop _, codeAny_min_loop_first W (fun i j => decide (numAt xs i < numAt xs j)) (CmpOf.ints_lt (numAt xs) (fun _ _ => intItems_at)) _ hSf (by rw [e4]; simp) (W.frame _ _ _ ⟨⟨_, Heap.get?_push_size _ rfl, rfl, rfl⟩, hl2⟩ fun b _ o e => Heap.get?_push_of_some _ e) (Heap.get?_push_size _ rfl) fun v h' tk hP hk => ?_⟩
  have hsz : xs.size = 4 := by rw [← hxs]; rfl
  have hv : (intItems xs)[argBest (fun i j => decide (numAt xs i < numAt xs j)) (xs.size - 1)]? = some v := by
    have : (intItems xs).size = xs.size := by simp [intItems]
    rw [this] at hP
    exact hP
  obtain ⟨t, rfl⟩ := intItems_at hv
  obtain ⟨h1, h2⟩ := argBest_lt (numAt xs) (xs.size - 1)
  have en : [a, b, c, d] = xs.toList.map (·.1) := by rw [← hxs]; rfl
  refine h h' tk _ t (fun x o e => ?_) ?_ fun y hy => ?_
  · have lt := Heap.lt_size e
    refine hk x o (fun z => ?_) (fun z => ?_) (Heap.get?_push_of_some _ (Heap.get?_push_of_some _ ?_))
    · have z2 : x = H1.objs.size := List.mem_singleton.mp z
      rw [z2, hz1] at lt
      exact Nat.lt_irrefl _ (Nat.lt_of_succ_lt lt)
    · have z2 : x = (H1.push { cls := .type "tuple_iterator", data := .fields #[.ref s.heap.objs.size, .int 0 0] }).objs.size := z
      rw [z2, hz2, hz1] at lt
      exact Nat.lt_irrefl _ (Nat.lt_of_succ_lt (Nat.lt_of_succ_lt lt))
    · rw [← hH]; exact Heap.get?_push_of_some _ e
  · rw [en, numAt_eq]; exact PySem.getD_mem (by rw [List.length_map, Array.length_toList]; omega)
  · rw [en] at hy
    obtain ⟨j, hj, rfl⟩ := mem_getD hy
    rw [List.length_map, Array.length_toList] at hj
    rw [← numAt_eq]; exact h2 j (by omega)
end
section
variable {X : Cx}
/-- sum(t), t of ints -/
def rSumT (K : PySem.W.Frag) : List V → Hp → VK → Prop := fun vs H Q => ∃ (a : Addr) (ns : List Int), vs = [V.ref a] ∧ SqT K H a (ns.map V.int) ∧ Q (.int ns.sum) H
theorem cr_sumT (hc : X.calm = true) : CallR X (.builtin "sum") (rSumT X.K) := by
  intro pins s σ H vs us Q I r h
  obtain ⟨a, ns, rfl, hs, q⟩ := h
  obtain ⟨its, rv, hl, _⟩ := I.tuple hs
  rw [Vals.ref1 r]
  exact sum_tupI (I.ok.hd hc) hl rv.ints fun h' tk t' hk => ⟨.int _, H, I.kept hk, ⟨_, rfl⟩, q⟩
def rMaxT (K : PySem.W.Frag) : List V → Hp → VK → Prop := fun vs H Q => ∃ (a : Addr) (ns : List Int), vs = [V.ref a] ∧ SqT K H a (ns.map V.int) ∧ 0 < ns.length ∧ ∀ m, m ∈ ns → (∀ y, y ∈ ns → y ≤ m) → Q (.int m) H
theorem cr_maxT (hc : X.calm = true) : CallR X (.builtin "max") (rMaxT X.K) := by
  intro pins s σ H vs us Q I r h
  obtain ⟨a, ns, rfl, hs, hne, q⟩ := h
  obtain ⟨its, rv, hl, _⟩ := I.tuple hs
  rw [Vals.ref1 r]
  exact max_tupI (I.ok.hd hc) hl rv.ints hne fun h' tk m t' hk h1 h2 => ⟨.int _, H, I.kept hk, ⟨_, rfl⟩, q m h1 h2⟩
/-- min(a, b, c, d) -/
def rMin4 : List V → Hp → VK → Prop := fun vs H Q => ∃ a b c d : Int, vs = [.int a, .int b, .int c, .int d] ∧ ∀ m, m ∈ [a, b, c, d] → (∀ y, y ∈ [a, b, c, d] → m ≤ y) → Q (.int m) H
theorem cr_min4 (hc : X.calm = true) : CallR X (.builtin "min") rMin4 := by
  intro pins s σ H vs us Q I r h
  obtain ⟨a, b, c, d, rfl, q⟩ := h
  cases r with
  | cons r1 r => cases r with
    | cons r2 r => cases r with
      | cons r3 r => cases r with
        | cons r4 r =>
          cases r
          obtain ⟨_, rfl⟩ := r1
          obtain ⟨_, rfl⟩ := r2
          obtain ⟨_, rfl⟩ := r3
          obtain ⟨_, rfl⟩ := r4
          exact min_four (I.ok.hd hc) fun h' tk m t' hk h1 h2 => ⟨.int _, H, I.kept hk, ⟨_, rfl⟩, q m h1 h2⟩
/-- max(xs, default=d), xs of ints -/
def rMaxDf (K : PySem.W.Frag) : List V → List V → Hp → VK → Prop := fun vs zs H Q => ∃ (a : Addr) (ns : List Int) (d : Int), vs = [V.ref a] ∧ zs = [.int d] ∧ SqL K H a (ns.map V.int) ∧ (ns = [] → Q (.int d) H) ∧ ∀ m, m ∈ ns → (∀ y, y ∈ ns → y ≤ m) → Q (.int m) H
theorem maxOf_is (x : Int) (xs : List Int) : PySem.W.maxOf x xs ∈ x :: xs ∧ ∀ y ∈ x :: xs, y ≤ PySem.W.maxOf x xs := by
  induction xs generalizing x with
  | nil =>
    refine ⟨List.mem_cons_self .., fun y hy => ?_⟩
    rw [List.mem_singleton.mp hy]
    exact Int.le_refl _
  | cons z r ih =>
    have e : PySem.W.maxOf x (z :: r) = PySem.W.maxOf (if decide (x < z) = true then z else x) r := rfl
    rw [e]
    obtain ⟨h1, h2⟩ := ih (if decide (x < z) = true then z else x)
    have h3 := h2 _ (List.mem_cons_self ..)
    refine ⟨?_, fun y hy => ?_⟩
    · rcases List.mem_cons.mp h1 with q | q
      · rw [q]
        split
        · exact List.mem_cons_of_mem _ (List.mem_cons_self ..)
        · exact List.mem_cons_self ..
      · exact List.mem_cons_of_mem _ (List.mem_cons_of_mem _ q)
    · have hx : x ≤ PySem.W.maxOf (if decide (x < z) = true then z else x) r ∧ z ≤ PySem.W.maxOf (if decide (x < z) = true then z else x) r := by
        by_cases c : x < z
        · rw [if_pos (by simpa using c)] at h3 ⊢
          omega
        · rw [if_neg (by simpa using c)] at h3 ⊢
          omega
      rcases List.mem_cons.mp hy with q | q
      · rw [q]; exact hx.1
      · rcases List.mem_cons.mp q with q | q
        · rw [q]; exact hx.2
        · exact h2 y (List.mem_cons_of_mem _ q)
theorem cr_maxDf (hc : X.calm = true) (hu : X.A.units + 64 < cLine) : CallRK X (.builtin "max") [Str.ofString "default"] (rMaxDf X.K) := by
  intro pins s σ H vs zs us ws Q I r rz h
  obtain ⟨a, ns, d, rfl, rfl, hs, q0, q1⟩ := h
  obtain ⟨its, rv, hl, _⟩ := I.list hs
  rw [Vals.ref1 r]
  cases rz with
  | cons r1 rr =>
    cases rr
    obtain ⟨td, rfl⟩ := r1
    show wpAny _ _ (call (.builtin "max") [.ref a] [(Str.ofString "default", .int d td)]) _ _ _
    refine PySem.W.max_list_datum_default (α := Int) (xs := ns) (I.ok.hd hc) hl.isList (PySem.W.HoldAll.of_ints (by simpa using rv.ints)) (by show X.A.units + 1 + 0 < cLine; omega) (fun e h' tk hk => ⟨.int d, H, I.kept hk, ⟨_, rfl⟩, q0 e⟩) fun y ys i v h' tk e hi hv hk => ?_
    have hi2 : its[i]? = some v := by simpa using hi
    obtain ⟨x, hx, rx⟩ : ∃ x, (ns.map V.int)[i]? = some x ∧ RelV x v := by
      have hlen := rv.length
      have hlt : i < (ns.map V.int).length := by
        rw [hlen]
        exact (List.getElem?_eq_some_iff.mp hi2).1
      obtain ⟨u, hu2, ru⟩ := rv.get (List.getElem?_eq_getElem hlt)
      rw [hi2] at hu2
      cases hu2
      exact ⟨_, List.getElem?_eq_getElem hlt, ru⟩
    rw [List.getElem?_map] at hx
    obtain ⟨m, hm, rfl⟩ := Option.map_eq_some_iff.mp hx
    obtain ⟨tm, rfl⟩ := rx
    obtain ⟨as, hr⟩ := hv
    have em : m = PySem.W.maxOf y ys := by
      have hr : Reads h' (.int m tm) (.int (PySem.W.maxOf y ys)) as := hr
      cases hr
      rfl
    obtain ⟨m1, m2⟩ := maxOf_is y ys
    rw [← em, ← e] at m1
    refine ⟨.int m, H, I.kept hk, ⟨_, rfl⟩, q1 m m1 fun z hz => ?_⟩
    rw [em]
    rw [e] at hz
    exact m2 z hz
/-- {t} of a tuple of ints: some text -/
def tFmtTI (K : PySem.W.Frag) (te : TE) : TE := fun σ H Q => te σ H fun x H1 => ∃ (a : Addr) (l : List Int), x = .ref a ∧ SqT K H1 a (l.map V.int) ∧ l.length ≤ 10 ∧ (∀ i ∈ l, XT.Sm i) ∧ ∀ m : Str, m.length ≤ 20000 → Q (.str m) H1
theorem repr_ints {prog : Program} {w : World} : ∀ {l : List Int} {its : List Value}, Vals (l.map V.int) its → (∀ i ∈ l, XT.Sm i) → ReprAll prog w its (l.map fun i => (toString i : Str))
  | [], _, r, _ => by
    cases r
    exact .nil
  | y :: l, _, r, h => by
    cases r with
    | cons r1 r2 =>
      obtain ⟨t, rfl⟩ := r1
      exact .cons (ReprIs.int t (h y (List.mem_cons_self ..)).log) (repr_ints r2 fun z hz => h z (List.mem_cons_of_mem _ hz))
theorem piled_ints : ∀ l : List Int, (∀ i ∈ l, XT.Sm i) → piled (l.map fun i => (toString i : Str)) ≤ 1010 * l.length
  | [], _ => Nat.zero_le _
  | y :: r, h => by
    rw [List.map_cons, piled_cons, List.length_cons]
    have h1 : (toString y : Str).length ≤ 1000 := (h y (List.mem_cons_self ..)).text
    have h2 := piled_ints r fun z hz => h z (List.mem_cons_of_mem _ hz)
    omega
theorem pe_fmtTI {e : Expr} {te : TE} {pos : Pos} {k : Nat} (hr : Room k X.A) (he : PE X e te) : PE X (.FormattedValue e (-1) none pos) (tFmtTI X.K te) := by
  refine ⟨fun pins s σ H Q I h => ?_⟩
  refine wpAny_FormattedValue_plain (thn (he.run pins s σ H _ I h) fun v s1 hv => ?_)
  obtain ⟨x, H1, I1, r1, a, l, rfl, ht, hl, hb, q⟩ := hv
  cases r1
  obtain ⟨its, rv, ⟨o, ho, hcl, n, hd⟩, _⟩ := I1.tuple ht
  have hu := hr.units
  have hp := piled_ints l hb
  have htx := fmt_text (l.map fun i => (toString i : Str))
  have big : 20000 ≤ sizeLine := by decide
  refine fmt_tuple (ts := l.map fun i => (toString i : Str)) (by omega) ho hcl hd (repr_ints rv hb) (by omega) fun m u tk hm => ⟨.str m, H1, I1.tok _, ⟨u, rfl⟩, q m (by omega)⟩
end
end RU

-- RU2
set_option maxRecDepth 100000
set_option maxHeartbeats 4000000
/-! for pair in zip(tuple, tuple): the pairs are kept by a name -/
namespace RU
open PySem PySem.Spec PyProof.Rows L2 RZ
section
variable {prog : Program} {w : World} {A : Around} {E : Value → Shared → Prop} {s : Shared}
theorem pair_next {g u1 u2 T j1 j2 a b : Addr} {f : Bool} {oT : Obj} {n1 n2 : Nat} {us vs : Array Value} {x y : Value} {Q : Value → Shared → Prop} (D : ZipApart g u1 u2 j1 j2 a b)
    (ig : IsZipHeld s.heap g u1 u2 T f) (iT : s.heap.get? T = some oT) (iu : IsPair s.heap u1 (.ref j1) (.ref j2)) (i1 : s.heap.IsTupleIter j1 a n1) (i2 : s.heap.IsTupleIter j2 b n2) (ia : s.heap.IsTuple a us) (ib : s.heap.IsTuple b vs) (ex : us[n1]? = some x) (ey : vs[n2]? = some y)
    (k : ∀ h', IsZipHeld h' g u1 u2 T true → h'.IsTupleIter j1 a (n1 + 1) → h'.IsTupleIter j2 b (n2 + 1) → IsPair h' s.heap.objs.size x y → (∀ c o, c ≠ g → c ≠ j1 → c ≠ j2 → s.heap.get? c = some o → h'.get? c = some o) → Q (.ref s.heap.objs.size) { s with heap := h' }) :
    wpAny (model prog w) A (Builtin.«zip.__next__» ⟨[.ref g], []⟩) (fun fin t => ∃ v, fin = .done (.ret v) ∧ Q v t) E s := by
  show wpAny _ _ (field (.ref g) 2 >>= _) _ _ _
  refine wpAny_bind (wpAny_field ig rfl (x := .bool false) rfl ?_)
  show wpAny _ _ (field (.ref g) 3 >>= _) _ _ _
  refine wpAny_bind (wpAny_field ig rfl (x := .ref u1) rfl ?_)
  refine wpAny_bind (wpAny_seqItems iu rfl ?_)
  show wpAny _ _ (Builtin.SmallTypes.ownedTupleIsFree (.ref g) >>= _) _ _ _
  refine wpAny_bind (wpAny_tupleHeld_zip ig iT fun m1 ig1 b1 => ?_)
  simp only [if_false, Bool.false_eq_true]
  refine wpAny_bind ?_
  rw [← Array.forIn_toList]
  simp only [List.forIn_nil, List.forIn_cons]
  refine wpAny_bind (wpAny_bind (wpAny_holding ?_))
  show wpAny _ _ (Builtin.SmallTypes.nextOf (.ref j1) >>= _) _ _ _
  refine wpAny_bind (nextOf_tuple_item (s := { s with heap := m1 }) (i1.extBut b1.extBut D.i1z) (ia.extBut b1.extBut D.l1z) ex fun m2 i1' b2 => wpAny_pure ?_)
  refine wpAny_pure ?_
  refine wpAny_bind (wpAny_bind (wpAny_holding ?_))
  show wpAny _ _ (Builtin.SmallTypes.nextOf (.ref j2) >>= _) _ _ _
  refine wpAny_bind (nextOf_tuple_item (s := { s with heap := m2 }) ((i2.extBut b1.extBut D.i2z).extBut b2.extBut D.i12.symm) ((ib.extBut b1.extBut D.l2z).extBut b2.extBut D.l2i1) ey fun m3 i2' b3 => wpAny_pure ?_)
  refine wpAny_pure (wpAny_pure ?_)
  show wpAny _ _ (newTuple [x, y] >>= _) _ _ _
  refine wpAny_bind (wpAny_newTuple ?_)
  have z3 : m3.objs.size = s.heap.objs.size := by rw [b3.1, b2.1, b1.1]
  have ig3 : IsZipHeld m3 g u1 u2 T true := b3.extBut _ _ D.i2z.symm (b2.extBut _ _ D.i1z.symm ig1)
  have i13 : m3.IsTupleIter j1 a (n1 + 1) := i1'.extBut b3.extBut D.i12
  refine wpAny_pure ⟨_, rfl, ?_⟩
  show Q (.ref m3.objs.size) _
  have pr : IsPair (m3.push { cls := .type "tuple", data := .seq #[x, y] }) m3.objs.size x y := Heap.get?_push_size _ rfl
  rw [z3] at pr ⊢
  exact k _ (Heap.get?_push_of_some _ ig3) (i13.at fun _ e => Heap.get?_push_of_some _ e) (i2'.at fun _ e => Heap.get?_push_of_some _ e) pr fun c o c1 c2 c3 e => Heap.get?_push_of_some _ (b3.extBut _ _ c3 (b2.extBut _ _ c2 (b1.extBut _ _ c1 e)))
theorem pair_end {g u1 u2 T j1 j2 a b : Addr} {f : Bool} {oT : Obj} {n1 n2 : Nat} {us vs : Array Value} {Q : Fin → Shared → Prop} (hh : A.handled = none) (D : ZipApart g u1 u2 j1 j2 a b)
    (ig : IsZipHeld s.heap g u1 u2 T f) (iT : s.heap.get? T = some oT) (iu : IsPair s.heap u1 (.ref j1) (.ref j2)) (i1 : s.heap.IsTupleIter j1 a n1) (i2 : s.heap.IsTupleIter j2 b n2) (ia : s.heap.IsTuple a us) (ib : s.heap.IsTuple b vs) (stop : us[n1]? = none ∨ vs[n2]? = none)
    (k : ∀ h' e, (∀ c o, c ≠ g → c ≠ j1 → c ≠ j2 → s.heap.get? c = some o → h'.get? c = some o) → (∃ o, h'.get? e = some o ∧ o.cls = .type "StopIteration") → E (.ref e) { s with heap := h' }) :
    wpAny (model prog w) A (Builtin.«zip.__next__» ⟨[.ref g], []⟩) Q E s := by
  show wpAny _ _ (field (.ref g) 2 >>= _) _ _ _
  refine wpAny_bind (wpAny_field ig rfl (x := .bool false) rfl ?_)
  show wpAny _ _ (field (.ref g) 3 >>= _) _ _ _
  refine wpAny_bind (wpAny_field ig rfl (x := .ref u1) rfl ?_)
  refine wpAny_bind (wpAny_seqItems iu rfl ?_)
  show wpAny _ _ (Builtin.SmallTypes.ownedTupleIsFree (.ref g) >>= _) _ _ _
  refine wpAny_bind (wpAny_tupleHeld_zip ig iT fun m1 ig1 b1 => ?_)
  simp only [if_false, Bool.false_eq_true]
  refine wpAny_bind ?_
  rw [← Array.forIn_toList]
  simp only [List.forIn_nil, List.forIn_cons]
  refine wpAny_bind (wpAny_bind (wpAny_holding ?_))
  show wpAny _ _ (Builtin.SmallTypes.nextOf (.ref j1) >>= _) _ _ _
  cases ex : us[n1]? with
  | none => exact wpAny_bind (nextOf_tuple_end (s := { s with heap := m1 }) hh (i1.extBut b1.extBut D.i1z) (ia.extBut b1.extBut D.l1z) ex fun m2 e b2 he => k m2 e (fun c o c1 c2 _ q => b2 _ _ c2 (b1.extBut _ _ c1 q)) he)
  | some x =>
    have ey : vs[n2]? = none := stop.elim (fun q => by rw [ex] at q; cases q) id
    refine wpAny_bind (nextOf_tuple_item (s := { s with heap := m1 }) (i1.extBut b1.extBut D.i1z) (ia.extBut b1.extBut D.l1z) ex fun m2 i1' b2 => wpAny_pure ?_)
    refine wpAny_pure ?_
    refine wpAny_bind (wpAny_bind (wpAny_holding ?_))
    show wpAny _ _ (Builtin.SmallTypes.nextOf (.ref j2) >>= _) _ _ _
    exact wpAny_bind (nextOf_tuple_end (s := { s with heap := m2 }) hh ((i2.extBut b1.extBut D.i2z).extBut b2.extBut D.i12.symm) ((ib.extBut b1.extBut D.l2z).extBut b2.extBut D.l2i1) ey fun m3 e b3 he => k m3 e (fun c o c1 c2 c3 q => b3 _ _ c3 (b2.extBut _ _ c2 (b1.extBut _ _ c1 q))) he)
/-- the zip g: what it keeps in its first two fields -/
abbrev ZipF (h : Heap) (g u1 u2 : Addr) (f0 : Value) (f : Bool) : Prop := h.get? g = some { cls := .type "zip", dict := none, data := .fields #[f0, .bool f, .bool false, .ref u1, .ref u2], slots := #[] }
def Free0 (h : Heap) (f0 : Value) : Prop := f0 = .none ∨ ∃ T : Addr, f0 = rawInt T ∧ h.get? T = none
theorem free_at {g u1 u2 : Addr} {f0 : Value} {f : Bool} {Q : Bool → Shared → Prop} (ig : ZipF s.heap g u1 u2 f0 f) (fr : Free0 s.heap f0) (k : Q true s) : wpAny (model prog w) A (Builtin.SmallTypes.ownedTupleIsFree (.ref g)) Q E s := by
  unfold Builtin.SmallTypes.ownedTupleIsFree
  refine wpAny_bind (wpAny_field ig rfl (x := f0) rfl ?_)
  rcases fr with rfl | ⟨T, rfl, dead⟩
  · exact wpAny_pure k
  · show wpAny _ _ (loadIfAlive ((T : Int).toNat) >>= _) _ _ _
    rw [Int.toNat_natCast]
    have al : ∀ {R : Option Obj → Shared → Prop}, R none s → wpAny (model prog w) A (loadIfAlive T) R E s := fun q Γ p _ => by
      unfold loadIfAlive
      rw [Sem.wp_loadIfAlive, dead]
      exact q
    exact wpAny_bind (al (wpAny_pure k))
theorem free_next {g u1 u2 j1 j2 a b : Addr} {f0 p q : Value} {f : Bool} {n1 n2 : Nat} {us vs : Array Value} {x y : Value} {Q : Value → Shared → Prop} (D : ZipApart g u1 u2 j1 j2 a b)
    (ig : ZipF s.heap g u1 u2 f0 f) (fr : Free0 s.heap f0) (iu : IsPair s.heap u1 (.ref j1) (.ref j2)) (iw : IsPair s.heap u2 p q) (i1 : s.heap.IsTupleIter j1 a n1) (i2 : s.heap.IsTupleIter j2 b n2) (ia : s.heap.IsTuple a us) (ib : s.heap.IsTuple b vs) (ex : us[n1]? = some x) (ey : vs[n2]? = some y)
    (k : ∀ h', ZipF h' g u1 u2 (rawInt s.heap.objs.size) false → IsPair h' u2 x y → h'.IsTupleIter j1 a (n1 + 1) → h'.IsTupleIter j2 b (n2 + 1) → IsPair h' s.heap.objs.size x y → (∀ c o, c ≠ g → c ≠ u2 → c ≠ j1 → c ≠ j2 → s.heap.get? c = some o → h'.get? c = some o) → Q (.ref s.heap.objs.size) { s with heap := h' }) :
    wpAny (model prog w) A (Builtin.«zip.__next__» ⟨[.ref g], []⟩) (fun fin t => ∃ v, fin = .done (.ret v) ∧ Q v t) E s := by
  show wpAny _ _ (field (.ref g) 2 >>= _) _ _ _
  refine wpAny_bind (wpAny_field ig rfl (x := .bool false) rfl ?_)
  show wpAny _ _ (field (.ref g) 3 >>= _) _ _ _
  refine wpAny_bind (wpAny_field ig rfl (x := .ref u1) rfl ?_)
  refine wpAny_bind (wpAny_seqItems iu rfl ?_)
  show wpAny _ _ (Builtin.SmallTypes.ownedTupleIsFree (.ref g) >>= _) _ _ _
  refine wpAny_bind (free_at ig fr ?_)
  simp only [if_true]
  refine wpAny_bind (wpAny_rule ?_)
  refine wpAny_bind (wpAny_field ig rfl (x := .ref u2) rfl ?_)
  refine wpAny_bind (wpAny_setField_rec ig (by simp) fun m1 ig1 b1 => ?_)
  replace ig1 : ZipF m1 g u1 u2 .ellipsis f := ig1
  refine wpAny_bind ?_
  simp only [List.forIn_cons, List.forIn_nil, List.zipIdx_cons, List.zipIdx_nil]
  refine wpAny_bind (wpAny_bind (wpAny_onRaise ?_))
  show wpAny _ _ (Builtin.SmallTypes.nextOf (.ref j1) >>= _) _ _ _
  refine wpAny_bind (nextOf_tuple_item (i1.extBut b1.extBut D.i1z) (ia.extBut b1.extBut D.l1z) ex fun m2 i1' b2 => wpAny_pure ?_)
  have iw2 : IsPair m2 u2 p q := b2.extBut _ _ D.TOi1 (b1.extBut _ _ D.TOz iw)
  refine wpAny_bind (wpAny_seqItems iw2 rfl ?_)
  refine wpAny_bind (wpAny_updateSeq_pair iw2 fun m3 iw3 b3 => ?_)
  replace iw3 : IsPair m3 u2 x q := iw3
  refine wpAny_bind (wpAny_letGo (wpAny_pure ?_))
  refine wpAny_bind (wpAny_bind (wpAny_onRaise ?_))
  show wpAny _ _ (Builtin.SmallTypes.nextOf (.ref j2) >>= _) _ _ _
  refine wpAny_bind (nextOf_tuple_item (((i2.extBut b1.extBut D.i2z).extBut b2.extBut D.i12.symm).extBut b3.extBut D.TOi2.symm) (((ib.extBut b1.extBut D.l2z).extBut b2.extBut D.l2i1).extBut b3.extBut D.l2TO) ey fun m4 i2' b4 => wpAny_pure ?_)
  have iw4 : IsPair m4 u2 x q := b4.extBut _ _ D.TOi2 iw3
  refine wpAny_bind (wpAny_seqItems iw4 rfl ?_)
  refine wpAny_bind (wpAny_updateSeq_pair iw4 fun m5 iw5 b5 => ?_)
  replace iw5 : IsPair m5 u2 x y := iw5
  refine wpAny_bind (wpAny_letGo (wpAny_pure (wpAny_pure ?_)))
  refine wpAny_bind (wpAny_seqItems iw5 rfl ?_)
  refine wpAny_bind (wpAny_newTuple ?_)
  have z5 : m5.objs.size = s.heap.objs.size := by rw [b5.1, b4.1, b3.1, b2.1, b1.1]
  have ig5 : ZipF m5 g u1 u2 .ellipsis f := b5.extBut _ _ D.TOz.symm (b4.extBut _ _ D.i2z.symm (b3.extBut _ _ D.TOz.symm (b2.extBut _ _ D.i1z.symm ig1)))
  have k5 : ∀ c o, c ≠ g → c ≠ u2 → c ≠ j1 → c ≠ j2 → s.heap.get? c = some o → m5.get? c = some o := fun c o c1 c2 c3 c4 e => b5.extBut _ _ c2 (b4.extBut _ _ c4 (b3.extBut _ _ c2 (b2.extBut _ _ c3 (b1.extBut _ _ c1 e))))
  have i15 : m5.IsTupleIter j1 a (n1 + 1) := ((i1'.extBut b3.extBut D.TOi1.symm).extBut b4.extBut D.i12).extBut b5.extBut D.TOi1.symm
  have i25 : m5.IsTupleIter j2 b (n2 + 1) := i2'.extBut b5.extBut D.TOi2.symm
  have lg : g < m5.objs.size := Heap.lt_size ig5
  show wpAny _ _ (Builtin.SmallTypes.ownedTupleHandOut (.ref g) (.ref m5.objs.size) >>= _) _ _ _
  refine wpAny_bind ?_
  unfold Builtin.SmallTypes.ownedTupleHandOut
  have ig6 : ZipF (m5.push { cls := .type "tuple", data := .seq #[x, y] }) g u1 u2 .ellipsis f := Heap.get?_push_of_some _ ig5
  refine wpAny_bind (wpAny_setField_rec ig6 (by simp) fun m7 ig7 b7 => ?_)
  replace ig7 : ZipF m7 g u1 u2 (rawInt m5.objs.size) f := ig7
  refine wpAny_setField_rec ig7 (by simp) fun m8 ig8 b8 => ?_
  replace ig8 : ZipF m8 g u1 u2 (rawInt m5.objs.size) false := ig8
  have up : ∀ c o, c ≠ g → m5.get? c = some o → m8.get? c = some o := fun c o c1 e => b8.extBut _ _ c1 (b7.extBut _ _ c1 (Heap.get?_push_of_some _ e))
  have pr : IsPair m8 m5.objs.size x y := b8.extBut _ _ (Nat.ne_of_gt lg) (b7.extBut _ _ (Nat.ne_of_gt lg) (Heap.get?_push_size _ rfl))
  rw [z5] at ig8 pr
  refine wpAny_pure ⟨_, rfl, ?_⟩
  show Q (.ref m5.objs.size) _
  rw [z5]
  exact k m8 ig8 (up _ _ D.TOz iw5) (i15.at fun o e => up _ o D.i1z e) (i25.at fun o e => up _ o D.i2z e) pr fun c o c1 c2 c3 c4 e => up c o c1 (k5 c o c1 c2 c3 c4 e)
theorem free_end {g u1 u2 j1 j2 a b : Addr} {f0 p q : Value} {f : Bool} {n1 n2 : Nat} {us vs : Array Value} {Q : Fin → Shared → Prop} (hh : A.handled = none) (D : ZipApart g u1 u2 j1 j2 a b)
    (ig : ZipF s.heap g u1 u2 f0 f) (fr : Free0 s.heap f0) (iu : IsPair s.heap u1 (.ref j1) (.ref j2)) (iw : IsPair s.heap u2 p q) (i1 : s.heap.IsTupleIter j1 a n1) (i2 : s.heap.IsTupleIter j2 b n2) (ia : s.heap.IsTuple a us) (ib : s.heap.IsTuple b vs) (stop : us[n1]? = none ∨ vs[n2]? = none)
    (k : ∀ h' e, (∀ c o, c ≠ g → c ≠ u2 → c ≠ j1 → c ≠ j2 → s.heap.get? c = some o → h'.get? c = some o) → (∃ o, h'.get? e = some o ∧ o.cls = .type "StopIteration") → E (.ref e) { s with heap := h' }) :
    wpAny (model prog w) A (Builtin.«zip.__next__» ⟨[.ref g], []⟩) Q E s := by
  show wpAny _ _ (field (.ref g) 2 >>= _) _ _ _
  refine wpAny_bind (wpAny_field ig rfl (x := .bool false) rfl ?_)
  show wpAny _ _ (field (.ref g) 3 >>= _) _ _ _
  refine wpAny_bind (wpAny_field ig rfl (x := .ref u1) rfl ?_)
  refine wpAny_bind (wpAny_seqItems iu rfl ?_)
  show wpAny _ _ (Builtin.SmallTypes.ownedTupleIsFree (.ref g) >>= _) _ _ _
  refine wpAny_bind (free_at ig fr ?_)
  simp only [if_true]
  refine wpAny_bind (wpAny_rule ?_)
  refine wpAny_bind (wpAny_field ig rfl (x := .ref u2) rfl ?_)
  refine wpAny_bind (wpAny_setField_rec ig (by simp) fun m1 ig1 b1 => ?_)
  replace ig1 : ZipF m1 g u1 u2 .ellipsis f := ig1
  refine wpAny_bind ?_
  simp only [List.forIn_cons, List.forIn_nil, List.zipIdx_cons, List.zipIdx_nil]
  refine wpAny_bind (wpAny_bind (wpAny_onRaise ?_))
  show wpAny _ _ (Builtin.SmallTypes.nextOf (.ref j1) >>= _) _ _ _
  cases ex : us[n1]? with
  | none =>
    refine wpAny_bind (nextOf_tuple_end hh (i1.extBut b1.extBut D.i1z) (ia.extBut b1.extBut D.l1z) ex fun m2 e b2 he => ?_)
    obtain ⟨oe, h1, h2⟩ := he
    have ig2 : ZipF m2 g u1 u2 .ellipsis f := b2 _ _ D.i1z.symm ig1
    have ne : e ≠ g := fun z => by
      subst z
      rw [ig2] at h1
      cases h1
      simp at h2
    exact wpAny_setField_rec ig2 (by simp) fun m3 _ b3 => k m3 e (fun c o c1 _ c3 _ z => b3.extBut _ _ c1 (b2 _ _ c3 (b1.extBut _ _ c1 z))) ⟨oe, b3.extBut _ _ ne h1, h2⟩
  | some x =>
    have ey : vs[n2]? = none := stop.elim (fun q => by rw [ex] at q; cases q) id
    refine wpAny_bind (nextOf_tuple_item (i1.extBut b1.extBut D.i1z) (ia.extBut b1.extBut D.l1z) ex fun m2 i1' b2 => wpAny_pure ?_)
    have iw2 : IsPair m2 u2 p q := b2.extBut _ _ D.TOi1 (b1.extBut _ _ D.TOz iw)
    refine wpAny_bind (wpAny_seqItems iw2 rfl ?_)
    refine wpAny_bind (wpAny_updateSeq_pair iw2 fun m3 iw3 b3 => ?_)
    refine wpAny_bind (wpAny_letGo (wpAny_pure ?_))
    refine wpAny_bind (wpAny_bind (wpAny_onRaise ?_))
    show wpAny _ _ (Builtin.SmallTypes.nextOf (.ref j2) >>= _) _ _ _
    refine wpAny_bind (nextOf_tuple_end hh (((i2.extBut b1.extBut D.i2z).extBut b2.extBut D.i12.symm).extBut b3.extBut D.TOi2.symm) (((ib.extBut b1.extBut D.l2z).extBut b2.extBut D.l2i1).extBut b3.extBut D.l2TO) ey fun m4 e b4 he => ?_)
    obtain ⟨oe, h1, h2⟩ := he
    have ig4 : ZipF m4 g u1 u2 .ellipsis f := b4 _ _ D.i2z.symm (b3.extBut _ _ D.TOz.symm (b2.extBut _ _ D.i1z.symm ig1))
    have ne : e ≠ g := fun z => by
      subst z
      rw [ig4] at h1
      cases h1
      simp at h2
    exact wpAny_setField_rec ig4 (by simp) fun m5 _ b5 => k m5 e (fun c o c1 c2 c3 c4 z => b5.extBut _ _ c1 (b4 _ _ c4 (b3.extBut _ _ c2 (b2.extBut _ _ c3 (b1.extBut _ _ c1 z))))) ⟨oe, b5.extBut _ _ ne h1, h2⟩
/-- where the zip of two tuples stands -/
def ZSt (g u1 u2 j1 j2 a b : Addr) (i : Nat) (h : Heap) : Prop := IsPair h u1 (.ref j1) (.ref j2) ∧ (∃ x y, IsPair h u2 x y) ∧ h.IsTupleIter j1 a i ∧ h.IsTupleIter j2 b i ∧ ∃ f0 f, ZipF h g u1 u2 f0 f ∧ (f0 = .none ∨ ∃ T : Addr, f0 = rawInt T)
theorem zst_next {g u1 u2 j1 j2 a b : Addr} {i : Nat} {us vs : Array Value} {x y : Value} {Q : Option Value → Shared → Prop} (D : ZipApart g u1 u2 j1 j2 a b) (st : ZSt g u1 u2 j1 j2 a b i s.heap) (ia : s.heap.IsTuple a us) (ib : s.heap.IsTuple b vs) (ex : us[i]? = some x) (ey : vs[i]? = some y)
    (k : ∀ h', ZSt g u1 u2 j1 j2 a b (i + 1) h' → IsPair h' s.heap.objs.size x y → (∀ c o, c ≠ g → c ≠ u2 → c ≠ j1 → c ≠ j2 → s.heap.get? c = some o → h'.get? c = some o) → Q (some (.ref s.heap.objs.size)) { s with heap := h' }) : wpAny (model prog w) A (pyNext (.ref g)) Q E s := by
  obtain ⟨iu, ⟨p, q, iw⟩, i1, i2, f0, f, ig, fr⟩ := st
  have ty : s.TypeIs (.ref g) "zip" := ⟨_, ig, rfl⟩
  have dec : Free0 s.heap f0 ∨ ∃ (T : Addr) (oT : Obj), f0 = rawInt T ∧ s.heap.get? T = some oT := by
    rcases fr with z | ⟨T, z⟩
    · exact .inl (.inl z)
    · cases e : s.heap.get? T with
      | none => exact .inl (.inr ⟨T, z, e⟩)
      | some oT => exact .inr ⟨T, oT, z, e⟩
  unfold pyNext
  refine wpAny_bind (wpAny_attempt (wpAny_callSpecial?_slot (name := Str.ofString "__next__") ty PySem.F.slot_zip_next (wpAny_call_entry PySem.F.slot_zip_next ty PySem.F.entry_zip_next ?_ (PySem.F.args_zip_next_1 _))))
  rcases dec with fr | ⟨T, oT, rfl, iT⟩
  · exact free_next D ig fr iu iw i1 i2 ia ib ex ey fun h' a1 a2 a3 a4 a5 a6 => wpAny_pure (k h' ⟨a6 _ _ D.TIz D.TITO D.TIi1 D.TIi2 iu, ⟨_, _, a2⟩, a3, a4, _, _, a1, .inr ⟨_, rfl⟩⟩ a5 a6)
  · exact pair_next D ig iT iu i1 i2 ia ib ex ey fun h' a1 a2 a3 a4 a5 => wpAny_pure (k h' ⟨a5 _ _ D.TIz D.TIi1 D.TIi2 iu, ⟨_, _, a5 _ _ D.TOz D.TOi1 D.TOi2 iw⟩, a2, a3, _, _, a1, .inr ⟨_, rfl⟩⟩ a4 fun c o c1 _ c3 c4 e => a5 c o c1 c3 c4 e)
theorem zst_end {g u1 u2 j1 j2 a b : Addr} {i : Nat} {us vs : Array Value} {Q : Option Value → Shared → Prop} (hh : A.handled = none) (D : ZipApart g u1 u2 j1 j2 a b) (st : ZSt g u1 u2 j1 j2 a b i s.heap) (ia : s.heap.IsTuple a us) (ib : s.heap.IsTuple b vs) (stop : us[i]? = none ∨ vs[i]? = none)
    (k : ∀ h', (∀ c o, c ≠ g → c ≠ u2 → c ≠ j1 → c ≠ j2 → s.heap.get? c = some o → h'.get? c = some o) → Q none { s with heap := h' }) : wpAny (model prog w) A (pyNext (.ref g)) Q E s := by
  obtain ⟨iu, ⟨p, q, iw⟩, i1, i2, f0, f, ig, fr⟩ := st
  have ty : s.TypeIs (.ref g) "zip" := ⟨_, ig, rfl⟩
  have dec : Free0 s.heap f0 ∨ ∃ (T : Addr) (oT : Obj), f0 = rawInt T ∧ s.heap.get? T = some oT := by
    rcases fr with z | ⟨T, z⟩
    · exact .inl (.inl z)
    · cases e : s.heap.get? T with
      | none => exact .inl (.inr ⟨T, z, e⟩)
      | some oT => exact .inr ⟨T, oT, z, e⟩
  unfold pyNext
  rcases dec with fr | ⟨T, oT, rfl, iT⟩
  · refine wpAny_bind (wpAny_attempt (wpAny_callSpecial?_slot (name := Str.ofString "__next__") ty PySem.F.slot_zip_next (wpAny_call_entry PySem.F.slot_zip_next ty PySem.F.entry_zip_next
      (free_end hh D ig fr iu iw i1 i2 ia ib stop fun h' e kp he => ?_) (PySem.F.args_zip_next_1 _))))
    obtain ⟨o, ho, hc⟩ := he
    exact wpAny_bind (wpAny_isInstance (T := "StopIteration") (b := true) ⟨o, ho, hc⟩ isSubtype_stop (wpAny_pure (k _ kp)))
  · refine wpAny_bind (wpAny_attempt (wpAny_callSpecial?_slot (name := Str.ofString "__next__") ty PySem.F.slot_zip_next (wpAny_call_entry PySem.F.slot_zip_next ty PySem.F.entry_zip_next
      (pair_end hh D ig iT iu i1 i2 ia ib stop fun h' e kp he => ?_) (PySem.F.args_zip_next_1 _))))
    obtain ⟨o, ho, hc⟩ := he
    exact wpAny_bind (wpAny_isInstance (T := "StopIteration") (b := true) ⟨o, ho, hc⟩ isSubtype_stop (wpAny_pure (k _ fun c o c1 _ c3 c4 e => kp c o c1 c3 c4 e)))
end
theorem turn_pairs {P : Program} {w : World} {K : PySem.W.Frag} {nm : Str} {npos : Pos} {a b g u1 u2 j1 j2 : Addr} (D : ZipApart g u1 u2 j1 j2 a b) : Turn P w K (.Name nm npos) (ItzT K a b) [g, u1, u2, j1, j2] g (ZSt g u1 u2 j1 j2 a b) where
  mem := by simp
  obj := fun i h st c hc => by
    obtain ⟨iu, ⟨p, q, iw⟩, ⟨o1, e1, _, d1⟩, ⟨o2, e2, _, d2⟩, f0, f, ig, _⟩ := st
    have cs : c = g ∨ c = u1 ∨ c = u2 ∨ c = j1 ∨ c = j2 := by simpa using hc
    rcases cs with z | z | z | z | z
    · rw [z]; exact ⟨_, ig, fun v y => nomatch y⟩
    · rw [z]; exact ⟨_, iu, fun v y => nomatch y⟩
    · rw [z]; exact ⟨_, iw, fun v y => nomatch y⟩
    · rw [z]; exact ⟨o1, e1, fun v y => by rw [d1] at y; cases y⟩
    · rw [z]; exact ⟨o2, e2, fun v y => by rw [d2] at y; cases y⟩
  keep := fun i h h' st k => by
    obtain ⟨iu, ⟨p, q, iw⟩, i1, i2, f0, f, ig, fr⟩ := st
    exact ⟨k u1 (by simp) _ iu, ⟨p, q, k u2 (by simp) _ iw⟩, i1.at fun o z => k j1 (by simp) o z, i2.at fun o z => k j2 (by simp) o z, f0, f, k g (by simp) _ ig, fr⟩
  item := by
    intro X hP hw hK hc i pins s σ H E I hf st hg
    subst hP hw hK
    obtain ⟨xs, ys, x, y, qx, qy, ex, ey⟩ := hg
    obtain ⟨its, rv, pa, _⟩ := I.tuple qx
    obtain ⟨its2, rv2, pb, _⟩ := I.tuple qy
    obtain ⟨v1, hv1, r1⟩ := rv.get ex
    obtain ⟨v2, hv2, r2⟩ := rv2.get ey
    have st0 := st
    obtain ⟨iu, ⟨p, q, iw⟩, i1, i2, f0, f, ig, fr⟩ := st
    refine zst_next D st0 pa pb (x := v1) (y := v2) (by simpa using hv1) (by simpa using hv2) fun h' st' pr kp => ?_
    refine ⟨_, rfl, ?_⟩
    unfold letOwnedTupleGo
    refine wpAny_pure ?_
    have new : ObjOk X.prog X.w (upd H s.heap.objs.size (.tup [x, y])) h' s.heap.objs.size (.tup [x, y]) := ⟨by show 2 ≤ sizeLine; decide, [v1, v2], .cons r1 (.cons r2 .nil), ⟨_, pr, rfl, _, rfl⟩⟩
    have I1 : Inv X pins σ (upd H s.heap.objs.size (.tup [x, y])) { s with heap := h' } :=
      I.turnedNew (t' := s.toks) (ch := [g, u1, u2, j1, j2]) (fun c o hb z => kp c o (fun e => hb (by simp [e])) (fun e => hb (by simp [e])) (fun e => hb (by simp [e])) (fun e => hb (by simp [e])) z) hf (Nat.le_refl _) new
    refine ⟨.ref s.heap.objs.size, _, I1, rfl, ⟨_, x, y, rfl, I.hok.fresh (Nat.le_refl _), rfl, fun l hl => by rw [I.tuple_inj hl qx]; exact ex, fun l hl => by rw [I.tuple_inj hl qy]; exact ey⟩, st', fun c hcm => ?_⟩
    have lt : c < s.heap.objs.size := by
      have cs : c = g ∨ c = u1 ∨ c = u2 ∨ c = j1 ∨ c = j2 := by simpa using hcm
      rcases cs with z | z | z | z | z
      · rw [z]; exact Heap.lt_size ig
      · rw [z]; exact Heap.lt_size iu
      · rw [z]; exact Heap.lt_size iw
      · rw [z]; obtain ⟨_, e1, _⟩ := i1; exact Heap.lt_size e1
      · rw [z]; obtain ⟨_, e2, _⟩ := i2; exact Heap.lt_size e2
    rw [upd_ne (Nat.ne_of_lt lt)]
    exact (hf c hcm).1
  done := by
    intro X hP hw hK hc i pins s σ H E I hf st hg
    subst hP hw hK
    obtain ⟨xs, ys, qx, qy, stop⟩ := hg
    obtain ⟨its, rv, pa, _⟩ := I.tuple qx
    obtain ⟨its2, rv2, pb, _⟩ := I.tuple qy
    have l1 := rv.length
    have l2 := rv2.length
    have he : its.toArray[i]? = none ∨ its2.toArray[i]? = none := stop.imp (fun z => by simp; omega) fun z => by simp; omega
    exact zst_end (I.ok.hd hc) D st pa pb he fun h' kp => ⟨rfl, I.turnedL (t' := s.toks) (ch := [g, u1, u2, j1, j2]) (fun c o hb z => kp c o (fun e => hb (by simp [e])) (fun e => hb (by simp [e])) (fun e => hb (by simp [e])) (fun e => hb (by simp [e])) z) hf⟩
  self := fun A i s Q E st h => by
    obtain ⟨_, _, _, _, f0, f, ig, _⟩ := st
    have ty : s.TypeIs (.ref g) "zip" := ⟨_, ig, rfl⟩
    refine wpAny_pyIter_slot ty PySem.F.slot_zip_iter (wpAny_call_entry PySem.F.slot_zip_iter ty PySem.F.entry_zip_iter ?_ (PySem.F.args_zip_iter_1 _))
    show wpAny _ _ (ret (.ref g)) _ _ s
    exact wpAny_pure ⟨_, rfl, "zip", _, ty, PySem.F.slot_zip_next.lookup, h⟩
def iZipP (K : PySem.W.Frag) (ta : TA) : TI := fun σ H R => ta σ H fun vs H1 => ∃ a b xs ys, vs = [.ref a, .ref b] ∧ SqT K H1 a xs ∧ SqT K H1 b ys ∧ R (ItzT K a b) H1
theorem pi_zipP {X : Cx} {e e2 : Expr} {ta : TA} {p pos npos : Pos} {nm : Str} (hg : Gl X "zip") (hm : X.mg "zip" = none) (ha : PA X [e, e2] ta)
    (hs : starEach [e, e2] X.env = (false, eval e X.env) :: starEach [e2] X.env := by rfl) (hpl : (backTo pos (starEach [e2] X.env)).any (·.1) = false := by rfl) :
    PI X (.Name nm npos) (.Call (.Name "zip" p) [e, e2] [] pos) (iZipP X.K ta) := by
  refine ⟨fun pins s σ H R I h => ?_⟩
  refine Call_ (ld_blt I hg hm PyProof.Rows.boot_zip (PyProof.Rows.callWith_type1 (thn (ha.run pos pins s σ H _ I h) fun us s1 ⟨vs, H1, I1, r1, q1⟩ => ?_) hs hpl))
  obtain ⟨a, b, xs, ys, rfl, qx, qy, q⟩ := q1
  cases r1 with
  | cons r rr => cases rr with
    | cons r' rr =>
      cases rr
      cases r
      cases r'
      obtain ⟨its, rv, pa, _⟩ := I1.tuple qx
      obtain ⟨its2, rv2, pb, _⟩ := I1.tuple qy
      have la : a < s1.heap.objs.size := by
        obtain ⟨o, ho, _⟩ := pa
        exact Heap.lt_size ho
      have lb : b < s1.heap.objs.size := by
        obtain ⟨o, ho, _⟩ := pb
        exact Heap.lt_size ho
      refine call_zipT (show s1.heap.IsTuple a its.toArray from pa) (show s1.heap.IsTuple b its2.toArray from pb) fun h' ig iu iw i1 i2 hz kp => wpAny_pyIter_zip ig ?_
      have I2 : Inv X pins σ H1 { s1 with heap := h' } := I1.kept (t' := s1.toks) kp
      refine ⟨_, [s1.heap.objs.size + 4, s1.heap.objs.size + 2, s1.heap.objs.size + 3, s1.heap.objs.size, s1.heap.objs.size + 1], _, _, H1, rfl, I2, turn_pairs (PySem.W.ktu_apart s1.heap.objs.size a b la lb), ⟨iu, ⟨_, _, iw⟩, i1, i2, _, _, ig, .inl rfl⟩, fun c hc => ?_, q⟩
      have le : s1.heap.objs.size ≤ c := by
        have cs : c = s1.heap.objs.size + 4 ∨ c = s1.heap.objs.size + 2 ∨ c = s1.heap.objs.size + 3 ∨ c = s1.heap.objs.size ∨ c = s1.heap.objs.size + 1 := by simpa using hc
        rcases cs with z | z | z | z | z <;> rw [z] <;> first | exact Nat.le_add_right _ _ | exact Nat.le_refl _
      exact I1.fpOk le (I1.hok.fresh le)
end RU

-- RU3
set_option maxRecDepth 100000
set_option maxHeartbeats 4000000
/-! list(d.values()); for i, x in enumerate(tuple, start=k) -/
namespace RU
open PySem PySem.Spec PyProof.Rows L2
section
variable {X : Cx} {o e : Expr} {p pos apos mpos tpos : Pos} {td : TE} {ta tk : TA}
/-- list(o.values()) -/
def tListVals (td : TE) : TE := fun σ H Q => td σ H fun x H1 => ∃ (a : Addr) (kvs : List (Key × V)), x = V.ref a ∧ H1 a = some (.dK kvs) ∧ ∀ q, H1 q = none → Q (.ref q) (upd H1 q (.lst (kvs.map (·.2))))
theorem pe_listVals (calm : X.calm = true) (hg : Gl X "list") (hm : X.mg "list" = none) (hv : bootBuiltins "list" = some (.type "list")) (he : PE X o td) (hbase : attributeBase o "values" X.env (eval o X.env) = eval o X.env := by rfl) (hline : (apos.endLine == mpos.line) = true := by rfl)
    (one : starEach [Expr.Call (.Attribute o "values" apos) [] [] mpos] X.env = (false, eval (Expr.Call (.Attribute o "values" apos) [] [] mpos) X.env) :: starEach [] X.env := by rfl) : PE X (.Call (.Name "list" p) [.Call (.Attribute o "values" apos) [] [] mpos] [] pos) (tListVals td) := by
  refine ⟨fun pins s σ H Q I h => ?_⟩
  refine wpAny_Call_Name_kw (ld_blt I hg hm hv ?_)
  refine PyProof.Rows.callWith_type1 ?_ one rfl
  rw [one]
  show wpAny _ _ (spliced ((false, eval (.Call (.Attribute o "values" apos) [] [] mpos) X.env) :: backTo pos (starEach [] X.env))) _ _ s
  refine Calls.spliced_cons ?_
  refine wpAny_Call_method (T := "dict") (id := "dict.values") hbase rfl hline PySem.F.plainAttrs_dict PySem.F.slot_dict_values PySem.F.type_dict_values (thn (he.run pins s σ H _ I h) fun v t ⟨x, G, J, r1, a, kvs, ex, ha, q⟩ => ?_)
  subst ex
  obtain rfl : v = Value.ref a := r1
  obtain ⟨hz, nsys, vs, rel, dof⟩ := J.hok a _ ha
  obtain ⟨ep, dat⟩ := dof.dictAt
  have len : kvs.length = vs.length := Paired.length rel
  have J2 : Inv X pins σ G { t with heap := t.heap.push { cls := .type "dict_values", data := .fields #[.ref a] } } := J.kept (t' := t.toks) fun _ _ z => Heap.get?_push_of_some _ z
  refine ⟨dof.typeIs, dof.mapOf.noDict, ?_⟩
  show wpAny _ _ (callWith mpos (.builtin "dict.values") [.ref a] [] []) _ X.xe t
  refine method_meetsIn PySem.F.slot_dict_values PySem.F.entry_dict_values rfl (PySem.evalArgs_none ⟨rfl, dof.typeIs, PySem.F.args_dict_values_1 _, _, meets_dict_values (mixKind X.prog X.w) a nsys, ⟨vs, dof⟩, ?_⟩)
  refine Calls.spliced_nil ?_
  refine PySem.W.kdl_call (PySem.W.kdl_values (knd := mixKind X.prog X.w) (kvs := vs) (ep := ep)) (J.ok.hd calm) ⟨⟨_, Heap.get?_push_size _ rfl, rfl, rfl⟩, dat.push _⟩ (by omega) fun h' tk acc c kp at_ items => ?_
  have new : Vals (kvs.map (·.2)) acc.toList := by
    refine vals_of_idx _ _ (by rw [Array.length_toList, items.1, List.length_map, len]) fun j u hj => ?_
    obtain ⟨k, hk⟩ := items.2 j u (by rw [← Array.getElem?_toList]; exact hj)
    obtain ⟨y, h1, h2⟩ := KV.at' rel hk
    exact ⟨y, by rw [List.getElem?_map, h1]; rfl, h2⟩
  have hz2 : (kvs.map (·.2)).length ≤ sizeLine := by rw [List.length_map]; exact hz
  exact ⟨.ref _, _, J2.laid (o := .lst (kvs.map (·.2))) (t' := tk) kp (Nat.le_refl _) ⟨hz2, acc.toList, c, new, by simpa using at_⟩, rfl, q _ (J2.hok.fresh (Nat.le_refl _))⟩
/-- the tuple at a as it stands at each turn, each item in a new pair behind its number from k0 on -/
def Itn1 (K : PySem.W.Frag) (a : Addr) (k0 : Int) : It :=
  ⟨fun i H => ∃ (xs : List V) (x : V), SqT K H a xs ∧ xs[i]? = some x, fun i H v H' => ∃ T x, v = .ref T ∧ H T = none ∧ H' = upd H T (.tup [.int (k0 + (i : Nat)), x]) ∧ ∀ xs, SqT K H a xs → xs[i]? = some x, fun i H => ∃ xs : List V, SqT K H a xs ∧ xs.length ≤ i⟩
theorem turn_num {P : Program} {w : World} {K : PySem.W.Frag} {elts : List Expr} {kk : Nat} {tpos : Pos} (a c it : Addr) (k0 : Int) :
    Turn P w K (.Tuple elts kk tpos) (Itn1 K a k0) [c, it] c (fun i h => (∃ old, IsEnum h c it (k0 + (i : Nat)) old) ∧ h.IsTupleIter it a i ∧ c ≠ it ∧ a ≠ it ∧ a ≠ c) where
  mem := by simp
  obj := fun i h st b hb => by
    obtain ⟨⟨old, he⟩, ⟨o, ho, hc, hd⟩, _⟩ := st
    have cs : b = c ∨ b = it := by simpa using hb
    rcases cs with z | z
    · rw [z]; exact ⟨_, he, fun v q => nomatch q⟩
    · rw [z]; exact ⟨o, ho, fun v q => by rw [hd] at q; cases q⟩
  keep := fun i h h' st k => by
    obtain ⟨⟨old, he⟩, hi, n1⟩ := st
    exact ⟨⟨old, k c (by simp) _ he⟩, hi.at fun o q => k it (by simp) o q, n1⟩
  item := by
    intro X hP hw hK hc i pins s σ H E I hf st hg
    subst hP hw hK
    obtain ⟨⟨old, he⟩, hit, n1, n2, n3⟩ := st
    obtain ⟨xs, x, hq, hx⟩ := hg
    obtain ⟨its, rv, pt, hz⟩ := I.tuple hq
    obtain ⟨u, hu, ru⟩ := rv.get hx
    have lc : c < s.heap.objs.size := Heap.lt_size he
    have li : it < s.heap.objs.size := by
      obtain ⟨_, q, _⟩ := hit
      exact Heap.lt_size q
    have li2 : i < its.toArray.size := by
      rw [List.size_toArray]
      exact (List.getElem?_eq_some_iff.mp hu).1
    refine wpAny_pyNext_enum_itemC (Draws.tuple (prog := X.prog) (w := X.w) (A := X.A.in1) (by simpa using I.ok.hd hc) it a n2 its.toArray) he ⟨hit, pt⟩ li2 n1 (by simp [n1, Ne.symm n3]) fun y h' tk hy ho st' hT hsz kp => ?_
    have ey : y = u := by
      have : its[i]? = some y := by simpa using hy
      rw [hu] at this
      exact (Option.some.inj this).symm
    subst ey
    refine ⟨_, rfl, wpAny_letOwnedTupleGo_enum (s := { s with heap := h', toks := tk + 1 }) ho fun h2 he' sb => ?_⟩
    have hT2 : h2.get? s.heap.objs.size = some { cls := .type "tuple", data := .seq #[.int (k0 + (i : Nat)) tk, y] } := (sb.2 _ (Nat.ne_of_gt lc)).trans hT
    have new : ObjOk X.prog X.w (upd H s.heap.objs.size (.tup [.int (k0 + (i : Nat)), x])) h2 s.heap.objs.size (.tup [.int (k0 + (i : Nat)), x]) := ⟨by show 2 ≤ sizeLine; decide, [.int (k0 + (i : Nat)) tk, y], .cons ⟨_, rfl⟩ (.cons ru .nil), ⟨_, hT2, rfl, _, rfl⟩⟩
    have I1 : Inv X pins σ (upd H s.heap.objs.size (.tup [.int (k0 + (i : Nat)), x])) { s with heap := h2, toks := tk + 1 } :=
      I.turnedNew (ch := [c, it]) (fun b ob hb q => (sb.2 b (fun z => hb (by simp [z]))).trans (kp b ob (fun z => hb (by simp [z])) (fun z => hb (by simp [z])) q)) hf (Nat.le_refl _) new
    refine ⟨.ref s.heap.objs.size, _, I1, rfl, ⟨_, x, rfl, I.hok.fresh (Nat.le_refl _), rfl, fun ys hy => by rw [I.tuple_inj hy hq]; exact hx⟩, ⟨⟨y, ?_⟩, st'.1.at fun o q => (sb.2 it (Ne.symm n1)).trans q, n1, n2, n3⟩, fun b hb => ?_⟩
    · have e1 : k0 + ((i + 1 : Nat) : Int) = k0 + (i : Int) + 1 := by omega
      rw [e1]; exact he'
    · have lt : b < s.heap.objs.size := by
        have cs : b = c ∨ b = it := by simpa using hb
        rcases cs with z | z
        · rw [z]; exact lc
        · rw [z]; exact li
      rw [upd_ne (Nat.ne_of_lt lt)]
      exact (hf b hb).1
  done := by
    intro X hP hw hK hc i pins s σ H E I hf st hg
    subst hP hw hK
    obtain ⟨⟨old, he⟩, hit, n1, n2, n3⟩ := st
    obtain ⟨xs, hq, hx⟩ := hg
    obtain ⟨its, rv, pt, hz⟩ := I.tuple hq
    obtain ⟨f0, f1, f2, f3, f4, f5⟩ := hf it (by simp)
    have hl := rv.length
    unfold pyNext
    have ty : s.TypeIs (.ref c) "enumerate" := ⟨_, he, rfl⟩
    refine wpAny_bind (wpAny_attempt (wpAny_callSpecial?_slot (name := Str.ofString "__next__") ty PySem.F.slot_enumerate_next (wpAny_call_entry PySem.F.slot_enumerate_next ty PySem.F.entry_enumerate_next ?_ (PySem.F.args_enumerate_next_1 _))))
    show wpAny _ _ (field (.ref c) 2 >>= _) _ _ _
    refine wpAny_bind (wpAny_field he rfl (x := .ref it) rfl ?_)
    refine wpAny_bind (RZ.nextOf_tuple_end (items := its.toArray) (by simpa using I.ok.hd hc) hit pt (by simp; omega) fun h' y eb hy => ?_)
    obtain ⟨oy, hoy, hcy⟩ := hy
    refine wpAny_bind (wpAny_isInstance (T := "StopIteration") (b := true) ⟨oy, hoy, hcy⟩ isSubtype_stop ?_)
    exact wpAny_pure ⟨rfl, I.turned (t' := s.toks) (fun b o hb q => eb b o hb q) f0 f1 f3 f4 f5⟩
  self := fun A i s Q E st h => by
    obtain ⟨⟨old, he⟩, _⟩ := st
    exact wpAny_pyIter_enum he h
theorem callWith_typeK {M : Model} {A : Around} {E : Value → Shared → Prop} {s : Shared} {env : Env} {T : String} {e : Expr} {rest : List Expr} {kws : List Keyword} {Q : Value → Shared → Prop}
    (h : wpAny M A (spliced (backTo pos (starEach (e :: rest) env))) (fun vs s1 => wpAny M A (evalAll ((backToKw pos (keywordEach kws env)).map (·.2))) (fun kvs s2 => wpAny M A (call (.type T) vs (((backToKw pos (keywordEach kws env)).filterMap (·.1)).zip kvs)) Q E s2) E s1) E s)
    (he : backTo pos (starEach (e :: rest) env) = (false, eval e env) :: backTo pos (starEach rest env) := by rfl) (hplain : (backTo pos (starEach (e :: rest) env)).any (·.1) = false := by rfl)
    (hall : (backToKw pos (keywordEach kws env)).all (·.1.isSome) = true := by rfl) (hkw : (backToKw pos (keywordEach kws env)).any (·.1.isNone) = false := by rfl) : wpAny M A (callWith pos (.type T) [] (backTo pos (starEach (e :: rest) env)) (backToKw pos (keywordEach kws env))) Q E s := by
  have h2 : wpAny M A (evalArgs (.type T) true (backTo pos (starEach (e :: rest) env)) (backToKw pos (keywordEach kws env))) (fun a s1 => wpAny M A (call (.type T) ([] ++ a.pos) a.kw) Q E s1) E s := by
    rw [he] at h ⊢
    exact evalArgs_kwB hall h
  unfold callWith
  refine wpAny_bind (wpAny_holding (wpAny_mono h2 (fun a s1 h1 => wpAny_bind (wpAny_standAt ?_)) fun _ _ x => x))
  simp only [hplain, hkw, Bool.or_false]
  refine wpAny_bind (wpAny_pure ?_)
  exact wpAny_bind (wpAny_mono h1 (fun r s2 hr => wpAny_bind (wpAny_holding (wpAny_point (wpAny_pure hr)))) fun _ _ x => x)
def iNum (K : PySem.W.Frag) (ta tk : TA) : TI := fun σ H R => ta σ H fun vs H1 => tk σ H1 fun zs H2 => ∃ (a : Addr) (xs : List V) (k0 : Int), vs = [.ref a] ∧ zs = [.int k0] ∧ (-(2 ^ 62) ≤ k0 ∧ k0 < 2 ^ 62) ∧ SqT K H2 a xs ∧ R (Itn1 K a k0) H2
theorem pi_num {elts : List Expr} {kk : Nat} {kws : List Keyword} (hg : Gl X "enumerate") (hm : X.mg "enumerate" = none) (ha : PA X [e] ta) (hk : PK X kws tk)
    (hs : backTo pos (starEach [e] X.env) = (false, eval e X.env) :: backTo pos (starEach [] X.env) := by rfl) (hpl : (backTo pos (starEach [e] X.env)).any (·.1) = false := by rfl)
    (hall : (backToKw pos (keywordEach kws X.env)).all (·.1.isSome) = true := by rfl) (hnone : (backToKw pos (keywordEach kws X.env)).any (·.1.isNone) = false := by rfl) (hks : (backToKw pos (keywordEach kws X.env)).filterMap (·.1) = [Str.ofString "start"] := by rfl) :
    PI X (.Tuple elts kk tpos) (.Call (.Name "enumerate" p) [e] kws pos) (iNum X.K ta tk) := by
  refine ⟨fun pins s σ H R I h => ?_⟩
  refine wpAny_Call_Name_kw (ld_blt I hg hm boot_enumerate ?_)
  refine callWith_typeK (thn (ha.run pos pins s σ H _ I h) fun us s1 ⟨vs, H1, I1, r1, q1⟩ => thn (hk.run pos pins s1 σ H1 _ I1 q1) fun ws s2 ⟨zs, H2, I2, r2, q2⟩ => ?_) hs hpl hall hnone
  rw [hks]
  obtain ⟨a, xs, k0, rfl, rfl, kb, hq, q⟩ := q2
  rw [Vals.ref1 r1]
  cases r2 with
  | cons r rr =>
    cases rr
    obtain ⟨tk0, rfl⟩ := r
    obtain ⟨its, rv, pt, hz⟩ := I2.tuple hq
    have la : a < s2.heap.objs.size := by
      obtain ⟨o, ho, _⟩ := pt
      exact Heap.lt_size ho
    show wpAny _ _ (call (.type "enumerate") [.ref a] [(Str.ofString "start", .int k0 tk0)]) _ _ _
    refine enum_begins_start (begins_tuple a its.toArray) pt (by omega) (by omega) fun h' he hi hsz kp => wpAny_pyIter_enum he ?_
    have I3 : Inv X pins σ H2 { s2 with heap := h' } := I2.kept (t' := s2.toks) kp
    refine ⟨_, [s2.heap.objs.size + 1, s2.heap.objs.size], _, _, H2, rfl, I3, turn_num a (s2.heap.objs.size + 1) s2.heap.objs.size k0, ⟨⟨.none, by simpa using he⟩, ⟨_, hi, rfl, rfl⟩, Nat.succ_ne_self _, Nat.ne_of_lt la, Nat.ne_of_lt (Nat.lt_succ_of_lt la)⟩, fun b hb => ?_, q⟩
    have cs : b = s2.heap.objs.size + 1 ∨ b = s2.heap.objs.size := by simpa using hb
    have le : s2.heap.objs.size ≤ b := by
      rcases cs with z | z
      · rw [z]; exact Nat.le_add_right _ _
      · rw [z]; exact Nat.le_refl _
    exact I2.fpOk le (I2.hok.fresh le)
end
end RU

-- RU4
set_option maxRecDepth 100000
set_option maxHeartbeats 4000000
/-! sorted(xs), xs of pairs of texts -/
namespace RU
open PySem PySem.Spec PyProof.Rows L2
/-- what a pair of texts is sorted by -/
def keyS (e : Addr × Str × Str) : List (Int ⊕ List Nat) := [.inr e.2.1.cps.toList, .inr e.2.2.cps.toList]
def ltS (e f : Addr × Str × Str) : Bool := PyProof.Rows.lexLt PyProof.Rows.itemOrd (keyS e) (keyS f)
def rSortSS (K : PySem.W.Frag) : List V → Hp → VK → Prop := fun vs H Q => ∃ (a : Addr) (l : List (Addr × Str × Str)), vs = [V.ref a] ∧ SqL K H a (l.map fun e => V.ref e.1) ∧ (∀ e ∈ l, H e.1 = some (.tup [.str e.2.1, .str e.2.2])) ∧
  ∀ (l' : List (Addr × Str × Str)) (p : Addr), l'.Perm l → l'.Pairwise (fun e f => ltS f e = false) → H p = none → Q (.ref p) (upd H p (.lst (l'.map fun e => V.ref e.1)))
theorem refs_are : ∀ {l : List (Addr × Str × Str)} {its : List Value}, Vals (l.map fun e => V.ref e.1) its → its = l.map fun e => Value.ref e.1
  | [], _, r => by cases r; rfl
  | e :: l, _, r => by
    rw [List.map_cons] at r
    cases r with
    | cons h t =>
      cases h
      rw [refs_are t, List.map_cons]
theorem vals_refsL : ∀ l : List (Addr × Str × Str), Vals (l.map fun e => V.ref e.1) (l.map fun e => Value.ref e.1)
  | [] => .nil
  | e :: l => .cons rfl (vals_refsL l)
def backS (H : Hp) : Value → Addr × Str × Str
  | .ref b => match H b with
    | some (.tup [.str x, .str y]) => (b, x, y)
    | _ => (b, Str.empty, Str.empty)
  | _ => (0, Str.empty, Str.empty)
theorem backS_ref {H : Hp} {e : Addr × Str × Str} (h : H e.1 = some (.tup [.str e.2.1, .str e.2.2])) : backS H (.ref e.1) = e := by
  show (match H e.1 with | some (.tup [.str x, .str y]) => (e.1, x, y) | _ => (e.1, Str.empty, Str.empty)) = e
  rw [h]
section
variable {X : Cx}
theorem cr_sortedSS : CallR X (.builtin "sorted") (rSortSS X.K) := by
  intro pins s σ H vs us Q I r h
  obtain ⟨a, l, rfl, hs, hall, q⟩ := h
  obtain ⟨its, rv, hl, hz⟩ := I.list hs
  rw [Vals.ref1 r]
  obtain rfl := refs_are rv
  have obj : ∀ e ∈ l, ∃ o n t u, s.heap.get? e.1 = some o ∧ o.cls = .type "tuple" ∧ o.data = .seq #[.str e.2.1 t, .str e.2.2 u] n := fun e he => by
    obtain ⟨_, its2, r2, o, ho, hc, n, hd⟩ := I.hok _ _ (hall e he)
    obtain ⟨u1, u2, rfl, ri, rj⟩ := vals2 r2
    obtain ⟨t1, rfl⟩ := ri
    obtain ⟨t2, rfl⟩ := rj
    exact ⟨o, n, t1, t2, ho, hc, hd⟩
  have key : ∀ e ∈ l, PyProof.Rows.G.tupKeyC s.heap (fun _ => true) (.ref e.1) = some (keyS e) := fun e he => by
    obtain ⟨o, n, t, u, ho, hc, hd⟩ := obj e he
    unfold PyProof.Rows.G.tupKeyC
    rw [if_pos (by simp [PyProof.Rows.G.isTupObj, ho, hc])]
    simp [PyProof.Rows.tupKey, ho, hd, PyProof.Rows.tupItems, keyS]
  have tups : ∀ l' : List (Addr × Str × Str), (∀ e ∈ l', e ∈ l) → ∃ fs, PyProof.Rows.TupsOf s.heap (fun _ => true) (l'.map fun e => Value.ref e.1) fs := by
    intro l'
    induction l' with
    | nil => intro _; exact ⟨[], .nil⟩
    | cons e r ih =>
      intro hs
      obtain ⟨fs, hf⟩ := ih fun x hx => hs x (List.mem_cons_of_mem _ hx)
      obtain ⟨o, n, t, u, ho, hc, hd⟩ := obj e (hs e (List.mem_cons_self ..))
      exact ⟨_ :: fs, .cons ⟨e.1, o, _, n, rfl, ho, hc, hd, rfl, fun z => (by cases z), fun _ => ⟨_, _, rfl⟩⟩ hf⟩
  obtain ⟨fs, ht⟩ := tups l fun e he => he
  refine PyProof.Rows.G.sorted_tups (shape := fun _ => true) hl.isList ht (fun v hv => ?_) (by rw [List.length_map]; rw [List.length_map] at hz; exact hz) fun st' a1 a2 _ => ?_
  · obtain ⟨e, he, rfl⟩ := List.mem_map.mp hv
    exact ⟨_, key e he⟩
  have p1 : (arrOf st').toList.Perm ((l.map fun e => Value.ref e.1).zip (l.map fun e => Value.ref e.1)) := by
    rw [← pairsOf_toList]
    exact a1.toList
  have same : ∀ p ∈ (arrOf st').toList, p.1 = p.2 ∧ p.2 ∈ l.map fun e => Value.ref e.1 := fun p hp => by
    obtain ⟨e1, m⟩ := mem_zip_self (p1.mem_iff.mp hp)
    exact ⟨e1, e1 ▸ m⟩
  let out := (arrOf st').map (·.2)
  let l' := out.toList.map (backS H)
  have eo : out.toList = (arrOf st').toList.map (·.2) := by
    show ((arrOf st').map (·.2)).toList = _
    rw [Array.toList_map]
  have po : out.toList.Perm (l.map fun e => Value.ref e.1) := by
    rw [eo]
    have h := p1.map (·.2)
    have e : ((l.map fun e => Value.ref e.1).zip (l.map fun e => Value.ref e.1)).map (·.2) = l.map fun e => Value.ref e.1 := by
      rw [List.map_snd_zip]
      exact Nat.le_refl _
    rw [e] at h
    exact h
  have pl : l'.Perm l := by
    have h := po.map (backS H)
    rw [List.map_map] at h
    have e : l.map (backS H ∘ fun e => Value.ref e.1) = l := by
      have : l.map (backS H ∘ fun e => Value.ref e.1) = l.map id := List.map_congr_left fun e he => backS_ref (hall e he)
      rw [this, List.map_id]
    rw [e] at h
    exact h
  have el : out.toList = l'.map fun e => Value.ref e.1 := by
    show out.toList = (out.toList.map (backS H)).map fun e => Value.ref e.1
    rw [List.map_map]
    refine (List.map_id _).symm.trans (List.map_congr_left fun v hv => ?_)
    obtain ⟨e, he, rfl⟩ := List.mem_map.mp (po.mem_iff.mp hv)
    show Value.ref e.1 = Value.ref (backS H (.ref e.1)).1
    rw [backS_ref (hall e he)]
  have pw : l'.Pairwise (fun e f => ltS f e = false) := by
    rw [List.pairwise_iff_getElem]
    intro i j hi hj ij
    have len : l'.length = (arrOf st').size := by
      show (out.toList.map (backS H)).length = _
      rw [List.length_map, eo, List.length_map, Array.length_toList]
    have hsz : (arrOf st').size = (pairsOf (l.map fun e => Value.ref e.1)).size := a1.size_eq
    have at_ : ∀ k (hk : k < l'.length), KK (PyProof.Rows.G.tupKindC s.heap fun _ => true) (arrOf st') k = keyS l'[k] := fun k hk => by
      have hk2 : k < (arrOf st').size := by omega
      have hk3 : k < out.toList.length := by rw [el, List.length_map]; exact hk
      have m := same ((arrOf st')[k]) (by rw [← Array.getElem_toList]; exact List.getElem_mem _)
      obtain ⟨e, he, ee⟩ := List.mem_map.mp m.2
      unfold KK
      rw [Array.getElem?_eq_getElem hk2]
      show (PyProof.Rows.G.tupKeyC s.heap (fun _ => true) (arrOf st')[k].1).getD [] = _
      rw [m.1, ← ee, key e he]
      have e1 : out.toList[k] = (arrOf st')[k].2 := by simp [out]
      have e2 : l'[k] = backS H out.toList[k] := by simp [l']
      rw [e2, e1, ← ee, backS_ref (hall e he)]
      rfl
    have h := a2 i j (Nat.le_of_lt ij) (by omega)
    rw [at_ i hi, at_ j hj] at h
    exact h
  obtain ⟨ep, he'⟩ := PyProof.Rows.sortedAll_at s.heap (l.map fun e => Value.ref e.1) out
  have hlen : (l'.map fun e => V.ref e.1).length ≤ sizeLine := by
    rw [List.length_map, pl.length_eq]
    rw [List.length_map] at hz
    exact hz
  exact ⟨.ref _, upd H (s.heap.objs.size + 1) (.lst (l'.map fun e => V.ref e.1)), I.laid (t' := s.toks) (fun _ _ => PyProof.Rows.sortedAll_old) (Nat.le_succ _) ⟨hlen, out.toList, ep, by rw [el]; exact vals_refsL l', he'⟩, rfl, q l' _ pl pw (I.hok.fresh (Nat.le_succ _))⟩
end
end RU

-- RU5
set_option maxRecDepth 100000
set_option maxHeartbeats 4000000
/-! min(xs, default=d), xs of texts, one at most -/
namespace RU
open PySem PySem.Spec PyProof.Rows L2
section
variable {X : Cx}
def rMinDfS (K : PySem.W.Frag) : List V → List V → Hp → VK → Prop := fun vs zs H Q => ∃ (a : Addr) (xs : List Str) (d : V), vs = [V.ref a] ∧ zs = [d] ∧ SqL K H a (xs.map V.str) ∧ (xs = [] → Q d H) ∧ (∀ x, x ∈ xs → (∀ y ∈ xs, y = x) → Q (.str x) H) ∧ (xs ≠ [] → ∃ x, x ∈ xs ∧ ∀ y ∈ xs, y = x)
theorem cr_minDfS (hc : X.calm = true) (hu : X.A.units + 64 < cLine) : CallRK X (.builtin "min") [Str.ofString "default"] (rMinDfS X.K) := by
  intro pins s σ H vs zs us ws Q I r rz h
  obtain ⟨a, xs, d, rfl, rfl, hs, q0, q1, q2⟩ := h
  obtain ⟨its, rv, hl, _⟩ := I.list hs
  rw [Vals.ref1 r]
  cases rz with
  | cons r1 rr =>
    cases rr
    rename_i ud
    show wpAny _ _ (call (.builtin "min") [.ref a] [(Str.ofString "default", ud)]) _ _ _
    refine PySem.W.min_list_datum_default (α := Str) (xs := xs) (I.ok.hd hc) hl.isList (PySem.W.HoldAll.of_strs (by simpa using rv.strs)) (by show X.A.units + 1 + 0 < cLine; omega) (fun e h' tk hk => ⟨d, H, I.kept hk, r1, q0 e⟩) fun y ys i v h' tk e hi hv hk => ?_
    have hi2 : its[i]? = some v := by simpa using hi
    obtain ⟨x0, m0, al⟩ := q2 (by rw [e]; simp)
    have hlen := rv.length
    have hlt : i < (xs.map V.str).length := by
      rw [hlen]
      exact (List.getElem?_eq_some_iff.mp hi2).1
    obtain ⟨u, hu2, ru⟩ := rv.get (List.getElem?_eq_getElem hlt)
    rw [hi2] at hu2
    cases hu2
    rw [List.getElem_map] at ru
    have ex : xs[i]'(by rw [List.length_map] at hlt; exact hlt) = x0 := al _ (List.getElem_mem _)
    rw [ex] at ru
    exact ⟨.str x0, H, I.kept hk, ru, q1 x0 m0 al⟩
end
end RU

-- DX1
set_option maxRecDepth 100000
set_option maxHeartbeats 4000000
namespace SK
open PySem PySem.Spec PyProof.Rows L2
variable {X : Cx}
/-- name = {..} on one line, the name a local -/
theorem ps_setDc {i : Nat} {y : Str} {py : Pos} {kx vx tg iter : Expr} {ifs : List Expr} {scope : Scope} {own : List (Str × Nat)} {pos spos : Pos} {wi : TI} {g : TG} {tt : TT} {tk tv : TE} (calm : X.calm = true) (nd : X.N.Nodup) (atY : X.N[i]? = some y) (loc : X.env.scope.names.lookup y = some .local)
    (hsw : swapsWith (.DictComp kx vx [⟨tg, iter, ifs, 0⟩] scope pos) (some (.Name y py)) spos.line X.env = pure true) (hi : PI X tg iter wi) (ok : BlkOk X.N X.env.scope scope own)
    (pg : ∀ (s : Shared) (H : Hp) (C : Addr) (cl : List (Str × Addr)) (fp : List Addr), PG (X.blk s H scope (compEnvC scope cl C X.env) fp) tg g) (pt : ∀ (s : Shared) (H : Hp) (C : Addr) (cl : List (Str × Addr)) (fp : List Addr), PTs (X.blk s H scope (compEnvC scope cl C X.env) fp) ifs tt)
    (pk : ∀ (s : Shared) (H : Hp) (C : Addr) (cl : List (Str × Addr)) (fp : List Addr), PE (X.blk s H scope (compEnvC scope cl C X.env) fp) kx tk) (pe : ∀ (s : Shared) (H : Hp) (C : Addr) (cl : List (Str × Addr)) (fp : List Addr), PE (X.blk s H scope (compEnvC scope cl C X.env) fp) vx tv)
    (hs : ∀ x, foldedSetIterable iter X.env x = pure x := by intro _; rfl) : PS X (.Assign [.Name y py] (.DictComp kx vx [⟨tg, iter, ifs, 0⟩] scope pos) spos) (tAsg (tDc wi g tt tk tv (own.map (·.2))) (gName i)) := by
  refine ⟨fun pins s σ H D I h => ?_⟩
  rw [exec_Assign_Name_used _ _ _ _ hsw]
  refine wpAny_bind (wpAny_standAt (wpAny_bind ?_))
  have h : tDc wi g tt tk tv (own.map (·.2)) σ H fun x H1 => gName i x σ H1 D.nx := h
  refine wpAny_bind (thn (dc_core (use := some (assign (.Name y py) X.env)) (Qf := fun _ t => SP X pins D .next t) calm nd I hi ok pg pt pk pe hs h fun L C t m G J q hn f => ?_) fun _ t hq => wpAny_pure (wpAny_pure hq))
  show wpAny _ _ (assign (.Name y py) X.env (.ref L)) _ _ _
  refine wpAny_assign_Name (store_ok2 (v := V.ref L) J nd atY (.inl loc) rfl (fun t2 J2 ⟨a, sb, ha⟩ => ?_) (.inr loc))
  obtain ⟨f0, f1, _, f3, f4, f5⟩ := f
  have ne : C ≠ a := ha.elim (fun z => by rw [z]; exact f1) fun z e => f4 y a z e.symm
  exact ⟨m, hn.sameBut sb ne, fun t3 sb3 => ⟨_, G, J2.turned (t' := t2.toks) (fun b o hb e => (sb3.2 b hb).trans e) f0 f1 f3 f4 f5, q⟩⟩
theorem sw_dict {kx vx : Expr} {gs : List Comprehension} {scope : Scope} {pos py : Pos} {y : Str} {l : Nat} {env : Env} (fk : env.scope.kind = .function) (loc : env.scope.names.lookup y = some .local) (line : (py.line == pos.line) = true)
    (free : (scope.names.any fun (n, k) => n == y && (k == .local || k == .cell)) = false) : swapsWith (.DictComp kx vx gs scope pos) (some (.Name y py)) l env = pure true := by
  have e1 : env.kindOf y = some .local := loc
  have e2 : env.blockKind = .function := by
    unfold Env.blockKind
    rw [fk]
    rfl
  unfold swapsWith
  simp only [e1, e2, free, Expr.pos, line]
  rfl
end SK

-- RPa
set_option maxRecDepth 100000
set_option maxHeartbeats 4000000
/-! what a value tells, by a frozen part F of the heap; states by slots (G) and things that may change (M) -/
namespace RP
open PySem PySem.Spec PyProof.Rows L2
/-- code objects' tables; one whose code objects' name is told -/
abbrev Tbs := List (Addr × Option Str)
abbrev tk (Ps : Tbs) : List Addr := Ps.map (·.1)
def TbOk (H : Hp) (P : Addr) : Option Str → Prop
  | none => GxR.TabG H P
  | some q => LamX.TabS H P q
def Tb (Ps : Tbs) (H : Hp) : Prop := ∀ e ∈ Ps, TbOk H e.1 e.2
/-- F tells o at a: it stands in H, a dict maybe locked -/
def Hs (H : Hp) (a : Addr) (o : HO) : Prop := H a = some o ∨ ∃ od kvs, o = .dK kvs ∧ H a = some (.frz od o)
def Sub (F H : Hp) : Prop := ∀ a o, F a = some o → Hs H a o
def Le (F F' : Hp) : Prop := ∀ a o, F a = some o → F' a = some o
theorem Le.refl (F : Hp) : Le F F := fun _ _ e => e
theorem Le.trans {F G K : Hp} (h : Le F G) (k : Le G K) : Le F K := fun a o e => k a o (h a o e)
structure VRel where
  R : Hp → V → Prop
  mono : ∀ F F' v, Le F F' → R F v → R F' v
structure MRel where
  R : Hp → HO → Prop
  mono : ∀ F F' o, Le F F' → R F o → R F' o
  own : Bool
  nc : ∀ F o, R F o → ∀ φ, o ≠ .ext φ
/-- the heap by itself -/
structure Sh (Ps : Tbs) (M : List (Addr × MRel)) (F H : Hp) : Prop where
  sub : Sub F H
  tb : Tb Ps H
  fp : ∀ a ∈ tk Ps, F a = none
  mu : ∀ e ∈ M, ∃ o, H e.1 = some o ∧ e.2.R F o
  ow : ∀ e ∈ M, e.1 ∉ tk Ps ∧ (e.2.own = true → F e.1 = none)
  nd : (M.map (·.1)).Nodup
  fz : ∀ a kvs, F a = some (.dK kvs) → (∀ e ∈ M, e.1 = a → e.2.own = true) → H a = some (.dK kvs)
structure Evo (Ps : Tbs) (M : List (Addr × MRel)) (F H F' H' : Hp) : Prop where
  le : Le F F'
  sub : Sub F' H'
  keep : ∀ a o, H a = some o → a ∉ tk Ps → a ∉ M.map (·.1) → H' a = some o
  nw : ∀ a o, F' a = some o → F a = some o ∨ H a = none
  tb : Tb Ps H'
  mu : ∀ e ∈ M, ∃ o, H' e.1 = some o ∧ e.2.R F' o
  fz : ∀ a kvs, F' a = some (.dK kvs) → (∀ e ∈ M, e.1 = a → e.2.own = true) → H' a = some (.dK kvs)
variable {Ps : Tbs} {M : List (Addr × MRel)} {F H F' H' F'' H'' : Hp}
theorem TbOk.at {P : Addr} {o : Option Str} (h : TbOk H P o) : ∃ ps, H P = some (.tbl ps) := by
  cases o with
  | none => obtain ⟨ps, e, _⟩ := h; exact ⟨ps, e⟩
  | some q => obtain ⟨ps, e, _⟩ := h; exact ⟨ps, e⟩
theorem Tb.has {a : Addr} (t : Tb Ps H) (h : a ∈ tk Ps) : ∃ o, H a = some o := by
  obtain ⟨e, he, rfl⟩ := List.mem_map.mp h
  obtain ⟨ps, e⟩ := (t e he).at
  exact ⟨_, e⟩
/-- what isn't a table, nor told to be a code object, is written -/
theorem TbOk.upd {P b : Addr} {o : Option Str} {u : HO} (h : TbOk H P o) (n : P ≠ b) (nc : ∀ φ, H b ≠ Option.some (.ext φ)) : TbOk (upd H b u) P o := by
  cases o with
  | none =>
    obtain ⟨ps, e, k⟩ := h
    exact ⟨ps, by rw [upd_ne n]; exact e, k⟩
  | some q =>
    obtain ⟨ps, e, k, l⟩ := h
    refine ⟨ps, by rw [upd_ne n]; exact e, k, fun pos cv hc => ?_⟩
    obtain ⟨c, e1, e2⟩ := l pos cv hc
    exact ⟨c, e1, by rw [upd_ne (fun z => nc _ (by rw [← z]; exact e2))]; exact e2⟩
theorem Sh.refl (s : Sh Ps M F H) : Evo Ps M F H F H := ⟨Le.refl F, s.sub, fun _ _ e _ _ => e, fun _ _ e => .inl e, s.tb, s.mu, s.fz⟩
theorem Evo.dom (e : Evo Ps M F H F' H') {a : Addr} {o : HO} (h : H a = some o) : ∃ o', H' a = some o' := by
  by_cases hp : a ∈ tk Ps
  · exact e.tb.has hp
  · by_cases hm : a ∈ M.map (·.1)
    · obtain ⟨x, hx, rfl⟩ := List.mem_map.mp hm
      obtain ⟨o', h1, _⟩ := e.mu x hx
      exact ⟨o', h1⟩
    · exact ⟨o, e.keep a o h hp hm⟩
theorem Evo.gone (e : Evo Ps M F H F' H') {a : Addr} (h : H' a = none) : H a = none := by
  cases q : H a with
  | none => rfl
  | some o =>
    obtain ⟨o', h'⟩ := e.dom q
    rw [h] at h'
    cases h'
theorem Evo.trans (e : Evo Ps M F H F' H') (f : Evo Ps M F' H' F'' H'') : Evo Ps M F H F'' H'' :=
  ⟨e.le.trans f.le, f.sub, fun a o h p m => f.keep a o (e.keep a o h p m) p m, fun a o h => (f.nw a o h).elim (fun h => e.nw a o h) (fun h => .inr (e.gone h)), f.tb, f.mu, f.fz⟩
theorem Sh.some_of (s : Sh Ps M F H) {a : Addr} {o : HO} (h : F a = some o) : ∃ u, H a = some u := by
  rcases s.sub a o h with h | ⟨od, _, _, h⟩
  · exact ⟨_, h⟩
  · exact ⟨_, h⟩
theorem Sh.new_none (s : Sh Ps M F H) {a : Addr} (h : H a = none) : F a = none := by
  cases q : F a with
  | none => rfl
  | some o =>
    obtain ⟨u, e⟩ := s.some_of q
    rw [h] at e
    cases e
theorem Sh.evo (s : Sh Ps M F H) (e : Evo Ps M F H F' H') : Sh Ps M F' H' :=
  { sub := e.sub, tb := e.tb, mu := e.mu, nd := s.nd, fz := e.fz
    fp := fun a ha => by
      cases q : F' a with
      | none => rfl
      | some o =>
        rcases e.nw a o q with h | h
        · rw [s.fp a ha] at h
          cases h
        · obtain ⟨u, hu⟩ := s.tb.has ha
          rw [h] at hu
          cases hu
    ow := fun x hx => ⟨(s.ow x hx).1, fun h => by
      cases q : F' x.1 with
      | none => rfl
      | some o =>
        rcases e.nw _ o q with h' | h'
        · rw [(s.ow x hx).2 h] at h'
          cases h'
        · obtain ⟨u, hu, _⟩ := s.mu x hx
          rw [h'] at hu
          cases hu⟩ }
/-- less may change -/
theorem Sh.tail {e : Addr × MRel} (s : Sh Ps (e :: M) F H) (ow : e.2.own = true) : Sh Ps M F H :=
  ⟨s.sub, s.tb, s.fp, fun x hx => s.mu x (List.mem_cons_of_mem _ hx), fun x hx => s.ow x (List.mem_cons_of_mem _ hx), (List.nodup_cons.mp s.nd).2, fun a kvs h k => s.fz a kvs h fun x hx z => (List.mem_cons.mp hx).elim (fun y => y ▸ ow) (fun hx => k x hx z)⟩
theorem Sh.bare (s : Sh Ps M F H) (ow : ∀ e ∈ M, e.2.own = true) : Sh Ps [] F H := ⟨s.sub, s.tb, s.fp, (fun _ h => nomatch h), (fun _ h => nomatch h), List.nodup_nil, fun a kvs h _ => s.fz a kvs h fun e he _ => ow e he⟩
theorem Evo.more {e : Addr × MRel} (s : Sh Ps (e :: M) F H) (ow : e.2.own = true) (v : Evo Ps M F H F' H') : Evo Ps (e :: M) F H F' H' := by
  refine ⟨v.le, v.sub, fun a o h p m => v.keep a o h p fun q => m (List.mem_cons_of_mem _ q), v.nw, v.tb, fun x hx => ?_, fun a kvs h k => v.fz a kvs h fun x hx => k x (List.mem_cons_of_mem _ hx)⟩
  rcases List.mem_cons.mp hx with rfl | hx
  · obtain ⟨o, h1, h2⟩ := s.mu x (List.mem_cons_self ..)
    exact ⟨o, v.keep _ o h1 (s.ow x (List.mem_cons_self ..)).1 (List.nodup_cons.mp s.nd).1, x.2.mono _ _ _ v.le h2⟩
  · exact v.mu x hx
theorem Evo.of_bare (s : Sh Ps M F H) (v : Evo Ps [] F H F' H') : Evo Ps M F H F' H' := by
  refine ⟨v.le, v.sub, fun a o h p _ => v.keep a o h p (fun q => nomatch q), v.nw, v.tb, fun x hx => ?_, fun a kvs h _ => v.fz a kvs h fun _ z => nomatch z⟩
  obtain ⟨o, h1, h2⟩ := s.mu x hx
  exact ⟨o, v.keep _ o h1 (s.ow x hx).1 (fun q => nomatch q), x.2.mono _ _ _ v.le h2⟩
/-- a new object, frozen at once -/
theorem Hs.upd {a b : Addr} {o u : HO} (h : Hs H a o) (n : a ≠ b) : Hs (upd H b u) a o := by
  rcases h with h | ⟨od, kvs, e, h⟩
  · exact .inl (by rw [upd_ne n]; exact h)
  · exact .inr ⟨od, kvs, e, by rw [upd_ne n]; exact h⟩
theorem Hs.some_ {a : Addr} {o : HO} (h : Hs H a o) : ∃ u, H a = some u := by
  rcases h with h | ⟨od, kvs, e, h⟩
  · exact ⟨_, h⟩
  · exact ⟨_, h⟩
theorem Hs.ne {a b : Addr} {o : HO} (h : Hs H a o) (n : H b = none) : a ≠ b := fun z => by
  obtain ⟨u, e⟩ := h.some_
  rw [z, n] at e
  cases e
theorem Tb.not {a : Addr} (t : Tb Ps H) (h : H a = none) : a ∉ tk Ps := fun m => by
  obtain ⟨o, e⟩ := t.has m
  rw [h] at e
  cases e
theorem Tb.upd {b : Addr} {u : HO} (t : Tb Ps H) (n : b ∉ tk Ps) (nc : ∀ φ, H b ≠ Option.some (.ext φ)) : Tb Ps (upd H b u) := fun e he => (t e he).upd (fun z => n (by rw [← z]; exact List.mem_map.mpr ⟨e, he, rfl⟩)) nc
theorem nc_none {b : Addr} (h : H b = Option.none) : ∀ φ, H b ≠ Option.some (.ext φ) := fun φ z => by rw [h] at z; cases z
theorem Sh.new (s : Sh Ps M F H) {p : Addr} {o : HO} (n : H p = none) : Evo Ps M F H (upd F p o) (upd H p o) :=
  { le := fun a u e => by rw [upd_ne (ne_of_none e (s.new_none n))]; exact e
    sub := fun a u e => by
      by_cases h : a = p
      · subst h
        rw [upd_same] at e
        cases e
        exact .inl upd_same
      · rw [upd_ne h] at e
        exact (s.sub a u e).upd h
    keep := fun a u e _ _ => by rw [upd_ne (ne_of_none e n)]; exact e
    nw := fun a u e => by
      by_cases h : a = p
      · subst h
        exact .inr n
      · rw [upd_ne h] at e
        exact .inl e
    tb := s.tb.upd (s.tb.not n) (nc_none n)
    mu := fun x hx => by
      obtain ⟨u, h1, h2⟩ := s.mu x hx
      exact ⟨u, by rw [upd_ne (ne_of_none h1 n)]; exact h1, x.2.mono _ _ _ (fun a u e => by rw [upd_ne (ne_of_none e (s.new_none n))]; exact e) h2⟩
    fz := fun a kvs h k => by
      by_cases z : a = p
      · subst z
        rw [upd_same] at h
        cases h
        exact upd_same
      · rw [upd_ne z] at h
        rw [upd_ne z]
        exact s.fz a kvs h k }
/-- a new object that isn't told -/
theorem Sh.new0 (s : Sh Ps M F H) {p : Addr} {o : HO} (n : H p = none) : Evo Ps M F H F (upd H p o) :=
  ⟨Le.refl F, fun a u e => (s.sub a u e).upd ((s.sub a u e).ne n), fun a u e _ _ => by rw [upd_ne (ne_of_none e n)]; exact e, fun a u e => .inl e, s.tb.upd (s.tb.not n) (nc_none n), fun x hx => by
    obtain ⟨u, h1, h2⟩ := s.mu x hx
    exact ⟨u, by rw [upd_ne (ne_of_none h1 n)]; exact h1, h2⟩, fun a kvs h k => by
    have e := s.fz a kvs h k
    rw [upd_ne (ne_of_none e n)]
    exact e⟩
/-- the slots -/
def EnvOk (F : Hp) (σ : L2.St) (G : List (Option VRel)) : Prop := σ.length = G.length ∧ ∀ (i : Nat) (R : VRel), G[i]? = some (some R) → ∃ v, σ[i]? = some (some v) ∧ R.R F v
theorem EnvOk.mono {σ : L2.St} {G : List (Option VRel)} (h : EnvOk F σ G) (l : Le F F') : EnvOk F' σ G := ⟨h.1, fun i R e => by
  obtain ⟨v, h1, h2⟩ := h.2 i R e
  exact ⟨v, h1, R.mono _ _ _ l h2⟩⟩
theorem EnvOk.set {σ : L2.St} {G : List (Option VRel)} {i : Nat} {R : VRel} {v : V} (h : EnvOk F σ G) (r : R.R F v) : EnvOk F (σ.set i (some v)) (G.set i (some R)) := ⟨by rw [List.length_set, List.length_set]; exact h.1, fun j R' e => by
  by_cases hj : i = j
  · subst hj
    have hl : i < G.length := by
      have := (List.getElem?_eq_some_iff.mp e).1
      rw [List.length_set] at this
      exact this
    rw [List.getElem?_set_self hl] at e
    cases e
    exact ⟨v, List.getElem?_set_self (by rw [h.1]; exact hl), r⟩
  · rw [List.getElem?_set_ne hj] at e
    obtain ⟨u, h1, h2⟩ := h.2 j R' e
    exact ⟨u, by rw [List.getElem?_set_ne hj]; exact h1, h2⟩⟩
theorem EnvOk.del {σ : L2.St} {G : List (Option VRel)} {i : Nat} {o : Option V} (h : EnvOk F σ G) : EnvOk F (σ.set i o) (G.set i none) := ⟨by rw [List.length_set, List.length_set]; exact h.1, fun j R' e => by
  by_cases hj : i = j
  · subst hj
    have hl : i < G.length := by
      have := (List.getElem?_eq_some_iff.mp e).1
      rw [List.length_set] at this
      exact this
    rw [List.getElem?_set_self hl] at e
    cases e
  · rw [List.getElem?_set_ne hj] at e
    obtain ⟨u, h1, h2⟩ := h.2 j R' e
    exact ⟨u, by rw [List.getElem?_set_ne hj]; exact h1, h2⟩⟩
/-- a weaker word of the slots -/
def GLe (G G' : List (Option VRel)) : Prop := G.length = G'.length ∧ ∀ (i : Nat) (R' : VRel), G'[i]? = some (some R') → ∃ R : VRel, G[i]? = some (some R) ∧ ∀ F v, R.R F v → VRel.R R' F v
theorem EnvOk.le {σ : L2.St} {G G' : List (Option VRel)} (h : EnvOk F σ G) (l : GLe G G') : EnvOk F σ G' := ⟨h.1.trans l.1, fun i R' e => by
  obtain ⟨R, h1, h2⟩ := l.2 i R' e
  obtain ⟨v, h3, h4⟩ := h.2 i R h1
  exact ⟨v, h3, h2 _ _ h4⟩⟩
/-! ### expressions -/
abbrev Gm := List (Option VRel)
abbrev Mu := List (Addr × MRel)
def Ev (Ps : Tbs) (G : Gm) (M : Mu) (te : TE) (R : VRel) : Prop := ∀ σ F H Q, EnvOk F σ G → Sh Ps M F H → (∀ v F' H', Evo Ps M F H F' H' → R.R F' v → Q v H') → te σ H Q
def Et (Ps : Tbs) (G : Gm) (M : Mu) (tt : TT) (P : Bool → Prop) : Prop := ∀ σ F H Q, EnvOk F σ G → Sh Ps M F H → (∀ b F' H', Evo Ps M F H F' H' → P b → Q b H') → tt σ H Q
def RsOk (F : Hp) (Rs : List VRel) (vs : List V) : Prop := Paired (fun (R : VRel) v => R.R F v) Rs vs
def Ea (Ps : Tbs) (G : Gm) (M : Mu) (ta : TA) (Rs : List VRel) : Prop := ∀ σ F H Q, EnvOk F σ G → Sh Ps M F H → (∀ vs F' H', Evo Ps M F H F' H' → RsOk F' Rs vs → Q vs H') → ta σ H Q
theorem RsOk.mono {Rs : List VRel} {vs : List V} (h : RsOk F Rs vs) (l : Le F F') : RsOk F' Rs vs := by
  unfold RsOk at *
  induction h with
  | nil => exact .nil
  | cons a _ ih => exact .cons (VRel.mono _ _ _ _ l a) ih
variable {G : Gm} {ta tb tc te : TE} {tt tu : TT} {R Ra Rb Rc R' : VRel} {Rs : List VRel}
theorem Ev.imp (h : Ev Ps G M te R) (k : ∀ F v, R.R F v → R'.R F v) : Ev Ps G M te R' := fun σ F H Q e s q => h σ F H Q e s fun v F' H' ev r => q v F' H' ev (k _ _ r)
theorem Et.imp {P P' : Bool → Prop} (h : Et Ps G M tt P) (k : ∀ b, P b → P' b) : Et Ps G M tt P' := fun σ F H Q e s q => h σ F H Q e s fun v F' H' ev r => q v F' H' ev (k _ r)
theorem Ev.more {x : Addr × MRel} (h : Ev Ps G M te R) (ow : x.2.own = true) : Ev Ps G (x :: M) te R := fun σ F H Q e s q => h σ F H Q e (s.tail ow) fun v F' H' ev r => q v F' H' (ev.more s ow) r
theorem Ev.gle {G' : Gm} (h : Ev Ps G' M te R) (l : GLe G G') : Ev Ps G M te R := fun σ F H Q e s q => h σ F H Q (e.le l) s q
theorem Ev.var {i : Nat} (h : G[i]? = some (some R)) : Ev Ps G M (tVar i) R := fun σ F H Q e s q => by
  obtain ⟨v, h1, h2⟩ := e.2 i R h
  exact ⟨v, h1, q v F H s.refl h2⟩
theorem Ev.c {v : V} (h : ∀ F, R.R F v) : Ev Ps G M (tC v) R := fun σ F H Q e s q => q v F H s.refl (h F)
def O2 (Ps : Tbs) (M : Mu) (r : R2) (Ra Rb R : VRel) : Prop := ∀ F H v w Q, Sh Ps M F H → Ra.R F v → Rb.R F w → (∀ z F' H', Evo Ps M F H F' H' → R.R F' z → Q z H') → r v w H Q
theorem Ev.op {r : R2} (ha : Ev Ps G M ta Ra) (hb : Ev Ps G M tb Rb) (o : O2 Ps M r Ra Rb R) : Ev Ps G M (tOp r ta tb) R := fun σ F H Q e s q =>
  ha σ F H _ e s fun v F1 H1 e1 r1 => hb σ F1 H1 _ (e.mono e1.le) (s.evo e1) fun w F2 H2 e2 r2 => o F2 H2 v w Q ((s.evo e1).evo e2) (Ra.mono _ _ _ e2.le r1) r2 fun z F3 H3 e3 r3 => q z F3 H3 ((e1.trans e2).trans e3) r3
def O1 (Ps : Tbs) (M : Mu) (r : V → Hp → VK → Prop) (Ra R : VRel) : Prop := ∀ F H v Q, Sh Ps M F H → Ra.R F v → (∀ z F' H', Evo Ps M F H F' H' → R.R F' z → Q z H') → r v H Q
theorem Ev.un {r : V → Hp → VK → Prop} (ha : Ev Ps G M ta Ra) (o : O1 Ps M r Ra R) : Ev Ps G M (tUn r ta) R := fun σ F H Q e s q =>
  ha σ F H _ e s fun v F1 H1 e1 r1 => o F1 H1 v Q (s.evo e1) r1 fun z F3 H3 e3 r3 => q z F3 H3 (e1.trans e3) r3
theorem Ea.nil : Ea Ps G M tNil [] := fun σ F H Q e s q => q [] F H s.refl .nil
theorem Ea.cons {tr : TA} (ha : Ev Ps G M ta Ra) (hr : Ea Ps G M tr Rs) : Ea Ps G M (tCons ta tr) (Ra :: Rs) := fun σ F H Q e s q =>
  ha σ F H _ e s fun v F1 H1 e1 r1 => hr σ F1 H1 _ (e.mono e1.le) (s.evo e1) fun vs F2 H2 e2 r2 => q (v :: vs) F2 H2 (e1.trans e2) (.cons (Ra.mono _ _ _ e2.le r1) r2)
def Oc (Ps : Tbs) (M : Mu) (r : List V → Hp → VK → Prop) (Rs : List VRel) (R : VRel) : Prop := ∀ F H vs Q, Sh Ps M F H → RsOk F Rs vs → (∀ z F' H', Evo Ps M F H F' H' → R.R F' z → Q z H') → r vs H Q
theorem Ev.cb {r : List V → Hp → VK → Prop} {t : TA} (ha : Ea Ps G M t Rs) (o : Oc Ps M r Rs R) : Ev Ps G M (tCB r t) R := fun σ F H Q e s q =>
  ha σ F H _ e s fun vs F1 H1 e1 r1 => o F1 H1 vs Q (s.evo e1) r1 fun z F3 H3 e3 r3 => q z F3 H3 (e1.trans e3) r3
theorem Ev.call {sp : Sp} {E : XK} {t : TA} (ha : Ea Ps G M t Rs) (o : Oc Ps M (fun vs H Q => sp (vs ++ []) H Q E) Rs R) : Ev Ps G M (tCall sp [] E t) R := fun σ F H Q e s q =>
  ha σ F H _ e s fun vs F1 H1 e1 r1 => o F1 H1 vs Q (s.evo e1) r1 fun z F3 H3 e3 r3 => q z F3 H3 (e1.trans e3) r3
theorem Et.val {P : Bool → Prop} (ha : Ev Ps G M ta ⟨fun _ v => ∃ b, v = .bl b ∧ P b, fun _ _ _ _ h => h⟩) : Et Ps G M (tB ta) P := fun σ F H Q e s q => ha σ F H _ e s fun v F1 H1 e1 ⟨b, r1, r2⟩ => ⟨b, r1, q b F1 H1 e1 r2⟩
theorem Et.test {P : Bool → Prop} (ha : Ev Ps G M ta ⟨fun _ v => ∃ b, v = .bl b ∧ P b, fun _ _ _ _ h => h⟩) : Et Ps G M (tTest ta) P := fun σ F H Q e s q => ha σ F H _ e s fun v F1 H1 e1 ⟨b, r1, r2⟩ => ⟨b, r1, q b F1 H1 e1 r2⟩
theorem Et.not {P : Bool → Prop} (h : Et Ps G M tt fun b => P (!b)) : Et Ps G M (tNot tt) P := fun σ F H Q e s q => h σ F H _ e s fun b F1 H1 e1 r1 => q _ F1 H1 e1 r1
theorem Et.and {P P1 : Bool → Prop} (h : Et Ps G M tt P1) (h1 : P1 false → P false) (h2 : P1 true → Et Ps G M tu P) : Et Ps G M (tAnd tt tu) P := fun σ F H Q e s q => h σ F H _ e s fun b F1 H1 e1 r1 => by
  cases b with
  | false => exact q _ F1 H1 e1 (h1 r1)
  | true => exact h2 r1 σ F1 H1 _ (e.mono e1.le) (s.evo e1) fun b F2 H2 e2 r2 => q _ F2 H2 (e1.trans e2) r2
theorem Et.or {P P1 : Bool → Prop} (h : Et Ps G M tt P1) (h1 : P1 true → P true) (h2 : P1 false → Et Ps G M tu P) : Et Ps G M (tOr tt tu) P := fun σ F H Q e s q => h σ F H _ e s fun b F1 H1 e1 r1 => by
  cases b with
  | true => exact q _ F1 H1 e1 (h1 r1)
  | false => exact h2 r1 σ F1 H1 _ (e.mono e1.le) (s.evo e1) fun b F2 H2 e2 r2 => q _ F2 H2 (e1.trans e2) r2
theorem Et.yes : Et Ps G M tYes (· = true) := fun σ F H Q e s q => q true F H s.refl rfl
theorem Ev.ite {P : Bool → Prop} (h : Et Ps G M tt P) (h1 : P true → Ev Ps G M ta R) (h2 : P false → Ev Ps G M tb R) : Ev Ps G M (tIf tt ta tb) R := fun σ F H Q e s q => h σ F H _ e s fun b F1 H1 e1 r1 => by
  cases b with
  | true => exact h1 r1 σ F1 H1 _ (e.mono e1.le) (s.evo e1) fun b F2 H2 e2 r2 => q _ F2 H2 (e1.trans e2) r2
  | false => exact h2 r1 σ F1 H1 _ (e.mono e1.le) (s.evo e1) fun b F2 H2 e2 r2 => q _ F2 H2 (e1.trans e2) r2
def BlP (P : Bool → Prop) : VRel := ⟨fun _ v => ∃ b, v = .bl b ∧ P b, fun _ _ _ _ h => h⟩
theorem Ev.andV {P P1 : Bool → Prop} (h : Ev Ps G M ta (BlP P1)) (h1 : P1 false → P false) (h2 : P1 true → Ev Ps G M tb (BlP P)) : Ev Ps G M (tAndV ta tb) (BlP P) := fun σ F H Q e s q => h σ F H _ e s fun v F1 H1 e1 ⟨b, r0, r1⟩ => by
  subst r0
  refine ⟨b, rfl, ?_⟩
  cases b with
  | false => exact q _ F1 H1 e1 ⟨false, rfl, h1 r1⟩
  | true => exact h2 r1 σ F1 H1 _ (e.mono e1.le) (s.evo e1) fun b F2 H2 e2 r2 => q _ F2 H2 (e1.trans e2) r2
theorem Ev.orV {P P1 : Bool → Prop} (h : Ev Ps G M ta (BlP P1)) (h1 : P1 true → P true) (h2 : P1 false → Ev Ps G M tb (BlP P)) : Ev Ps G M (tOrV ta tb) (BlP P) := fun σ F H Q e s q => h σ F H _ e s fun v F1 H1 e1 ⟨b, r0, r1⟩ => by
  subst r0
  refine ⟨b, rfl, ?_⟩
  cases b with
  | true => exact q _ F1 H1 e1 ⟨true, rfl, h1 r1⟩
  | false => exact h2 r1 σ F1 H1 _ (e.mono e1.le) (s.evo e1) fun b F2 H2 e2 r2 => q _ F2 H2 (e1.trans e2) r2
theorem Ev.notV {P : Bool → Prop} (h : Ev Ps G M ta (BlP fun b => P (!b))) : Ev Ps G M (tNotV ta) (BlP P) := fun σ F H Q e s q => h σ F H _ e s fun v F1 H1 e1 ⟨b, r0, r1⟩ => ⟨b, r0, q _ F1 H1 e1 ⟨_, rfl, r1⟩⟩
theorem Ev.tup {t : TA} (ha : Ea Ps G M t Rs) (l : Rs.length ≤ 100) (h : ∀ F p vs, F p = some (.tup vs) → RsOk F Rs vs → R.R F (.ref p)) : Ev Ps G M (tTup t) R := fun σ F H Q e s q =>
  ha σ F H _ e s fun vs F1 H1 e1 r1 => ⟨by rw [← Paired.length r1]; exact Nat.le_trans l (by decide), fun p hp => q _ _ _ (e1.trans ((s.evo e1).new hp)) (h _ p vs upd_same (r1.mono ((s.evo e1).new (o := .tup vs) hp).le))⟩
theorem Ev.lst {t : TA} (ha : Ea Ps G M t Rs) (l : Rs.length ≤ 100) (h : ∀ F p vs, F p = some (.lst vs) → RsOk F Rs vs → R.R F (.ref p)) : Ev Ps G M (tLst t) R := fun σ F H Q e s q =>
  ha σ F H _ e s fun vs F1 H1 e1 r1 => ⟨by rw [← Paired.length r1]; exact Nat.le_trans l (by decide), fun p hp => q _ _ _ (e1.trans ((s.evo e1).new hp)) (h _ p vs upd_same (r1.mono ((s.evo e1).new (o := .lst vs) hp).le))⟩
end RP

-- RPb
set_option maxRecDepth 100000
set_option maxHeartbeats 4000000
namespace RP
open PySem PySem.Spec PyProof.Rows L2
/-- what a value is, by the frozen part -/
class Rp (α : Type) where
  rp : PySem.W.Frag → Hp → V → α → Prop
  mono : ∀ K F F' v x, Le F F' → rp K F v x → rp K F' v x
open Rp (rp)
instance : Rp Int := ⟨fun _ _ v n => v = .int n, fun _ _ _ _ _ _ h => h⟩
instance : Rp Nat := ⟨fun _ _ v n => v = .int (n : Int), fun _ _ _ _ _ _ h => h⟩
instance : Rp Bool := ⟨fun _ _ v b => v = .bl b, fun _ _ _ _ _ _ h => h⟩
instance : Rp Str := ⟨fun _ _ v t => v = .str t, fun _ _ _ _ _ _ h => h⟩
instance : Rp Unit := ⟨fun _ _ v _ => v = .non, fun _ _ _ _ _ _ h => h⟩
/-- an address as it is -/
def At (a : Addr) : VRel := ⟨fun _ v => v = .ref a, fun _ _ _ _ h => h⟩
instance {α : Type} [Rp α] : Rp (Option α) := ⟨fun K F v o => match o with | none => v = .non | some x => rp K F v x, fun K F F' v o l h => by
  cases o with
  | none => exact h
  | some x => exact Rp.mono K F F' v x l h⟩
def Ps2 {α : Type} [Rp α] (K : PySem.W.Frag) (F : Hp) (vs : List V) (xs : List α) : Prop := Paired (fun v x => rp K F v x) vs xs
theorem Ps2.mono {α : Type} [Rp α] {K : PySem.W.Frag} {F F' : Hp} (l : Le F F') {vs : List V} {xs : List α} (h : Ps2 K F vs xs) : Ps2 K F' vs xs := by
  unfold Ps2 at *
  induction h with
  | nil => exact .nil
  | cons a _ ih => exact .cons (Rp.mono K F F' _ _ l a) ih
theorem Le.sqT {K : PySem.W.Frag} {F F' : Hp} {a : Addr} {vs : List V} (l : Le F F') (h : SqT K F a vs) : SqT K F' a vs :=
  h.elim (fun h => .inl (h.elim (fun h => .inl (l _ _ h)) fun ⟨o, h⟩ => .inr ⟨o, l _ _ h⟩)) .inr
instance {α : Type} [Rp α] : Rp (List α) := ⟨fun K F v xs => ∃ a vs, v = .ref a ∧ F a = some (.lst vs) ∧ Ps2 K F vs xs, fun K F F' v xs l ⟨a, vs, e, h, p⟩ => ⟨a, vs, e, l _ _ h, p.mono l⟩⟩
/-- a tuple of like things -/
structure Tl (α : Type) where
  l : List α
instance {α : Type} [Rp α] : Rp (Tl α) := ⟨fun K F v xs => ∃ a vs, v = .ref a ∧ SqT K F a vs ∧ Ps2 K F vs xs.l, fun K F F' v xs l ⟨a, vs, e, h, p⟩ => ⟨a, vs, e, l.sqT h, p.mono l⟩⟩
instance {α β : Type} [Rp α] [Rp β] : Rp (α × β) := ⟨fun K F v x => ∃ a u w, v = .ref a ∧ F a = some (.tup [u, w]) ∧ rp K F u x.1 ∧ rp K F w x.2, fun K F F' v x l ⟨a, u, w, e, h, p, q⟩ => ⟨a, u, w, e, l _ _ h, Rp.mono K F F' _ _ l p, Rp.mono K F F' _ _ l q⟩⟩
class Ky (κ : Type) where
  key : κ → Key
  inj : ∀ x y, key x = key y → x = y
instance : Ky Str := ⟨.inr, fun _ _ h => Sum.inr.inj h⟩
instance : Ky Int := ⟨.inl, fun _ _ h => Sum.inl.inj h⟩
instance : Ky Nat := ⟨fun n => .inl (n : Int), fun _ _ h => Int.ofNat.inj (Sum.inl.inj h)⟩
/-- a table: its pairs in order -/
structure Dc (κ α : Type) where
  l : List (κ × α)
def Kvs {κ α : Type} [Ky κ] [Rp α] (K : PySem.W.Frag) (F : Hp) (kvs : List (Key × V)) (l : List (κ × α)) : Prop := Paired (fun (kv : Key × V) (e : κ × α) => kv.1 = Ky.key e.1 ∧ rp K F kv.2 e.2) kvs l
theorem Kvs.mono {κ α : Type} [Ky κ] [Rp α] {K : PySem.W.Frag} {F F' : Hp} (l : Le F F') {kvs : List (Key × V)} {xs : List (κ × α)} (h : Kvs K F kvs xs) : Kvs K F' kvs xs := by
  unfold Kvs at *
  induction h with
  | nil => exact .nil
  | cons a _ ih => exact .cons ⟨a.1, Rp.mono K F F' _ _ l a.2⟩ ih
instance {κ α : Type} [Ky κ] [Rp α] : Rp (Dc κ α) := ⟨fun K F v d => ∃ a kvs, v = .ref a ∧ F a = some (.dK kvs) ∧ Kvs K F kvs d.l, fun K F F' v d l ⟨a, kvs, e, h, p⟩ => ⟨a, kvs, e, l _ _ h, p.mono l⟩⟩
def Is (K : PySem.W.Frag) {α : Type} [Rp α] (x : α) : VRel := ⟨fun F v => rp K F v x, fun F F' v l h => Rp.mono K F F' v x l h⟩
def Exi (K : PySem.W.Frag) {α : Type} [Rp α] (P : α → Prop) : VRel := ⟨fun F v => ∃ x, P x ∧ rp K F v x, fun F F' v l ⟨x, p, h⟩ => ⟨x, p, Rp.mono K F F' v x l h⟩⟩
section
variable {Ps : Tbs} {M : Mu} {G : Gm} {K : PySem.W.Frag} {ta tb tc te : TE} {tt tu : TT} {R Ra Rb : VRel} {F H : Hp}
theorem Ev.to {α : Type} [Rp α] {x y : α} (h : Ev Ps G M te (Is K x)) (e : x = y) : Ev Ps G M te (Is K y) := e ▸ h
theorem Ev.int {n : Int} : Ev Ps G M (tC (.int n)) (Is K n) := Ev.c fun _ => rfl
theorem Ev.str {t : Str} : Ev Ps G M (tC (.str t)) (Is K t) := Ev.c fun _ => rfl
theorem Ev.bl {b : Bool} : Ev Ps G M (tC (.bl b)) (Is K b) := Ev.c fun _ => rfl
theorem Ev.non {α : Type} [Rp α] : Ev Ps G M (tC .non) (Is K (none : Option α)) := Ev.c fun _ => rfl
theorem Ev.opt {α : Type} [Rp α] {x : α} (h : Ev Ps G M te (Is K x)) : Ev Ps G M te (Is K (some x)) := h.imp fun _ _ r => r
theorem Ev.exi {α : Type} [Rp α] {x : α} {P : α → Prop} (h : Ev Ps G M te (Is K x)) (p : P x) : Ev Ps G M te (Exi K P) := h.imp fun _ _ r => ⟨x, p, r⟩
theorem Ev.blp {b : Bool} (h : Ev Ps G M te (Is K b)) : Ev Ps G M te (BlP (· = b)) := h.imp fun _ _ r => ⟨b, r, rfl⟩
theorem Ev.of_blp {P : Bool → Prop} {b : Bool} (h : Ev Ps G M te (BlP P)) (k : ∀ c, P c → c = b) : Ev Ps G M te (Is K b) := h.imp fun _ _ ⟨c, e, p⟩ => by
  rw [k c p] at e
  exact e
theorem Et.is {b : Bool} (h : Ev Ps G M te (Is K b)) : Et Ps G M (tTest te) (· = b) := Et.test h.blp
theorem Et.isB {b : Bool} (h : Ev Ps G M te (Is K b)) : Et Ps G M (tB te) (· = b) := Et.val h.blp
/-! ### operators -/
theorem o2_int {g : Int → Int → Int} {i j : Int} : O2 Ps M (rI0 fun i j => .int (g i j)) (Is K i) (Is K j) (Is K (g i j)) := fun F H v w Q s a b q => by
  cases a
  cases b
  exact ⟨i, j, rfl, rfl, q _ F H s.refl rfl⟩
theorem o2_intC {C : Int → Int → Prop} {g : Int → Int → Int} {i j : Int} (h : C i j) : O2 Ps M (rI C fun i j => .int (g i j)) (Is K i) (Is K j) (Is K (g i j)) := fun F H v w Q s a b q => by
  cases a
  cases b
  exact ⟨i, j, rfl, rfl, h, q _ F H s.refl rfl⟩
theorem o2_cmp {g : Int → Int → Bool} {i j : Int} : O2 Ps M (rI0 fun i j => .bl (g i j)) (Is K i) (Is K j) (Is K (g i j)) := fun F H v w Q s a b q => by
  cases a
  cases b
  exact ⟨i, j, rfl, rfl, q _ F H s.refl rfl⟩
theorem o1_int {g : Int → Int} {i : Int} : O1 Ps M (rU fun i => .int (g i)) (Is K i) (Is K (g i)) := fun F H v Q s a q => by
  cases a
  exact ⟨i, rfl, q _ F H s.refl rfl⟩
/-- scalars that == tells apart -/
class Sc (α : Type) [Rp α] where
  v : α → V
  eq : ∀ K F w x, rp K F w x → w = v x
  inj : ∀ x y, v x = v y → x = y
  sc : ∀ x y, scal (v x) (v y) = true
instance : Sc Int := ⟨.int, fun _ _ _ _ h => h, fun _ _ h => V.int.inj h, fun _ _ => rfl⟩
instance : Sc Nat := ⟨fun n => .int (n : Int), fun _ _ _ _ h => h, fun _ _ h => Int.ofNat.inj (V.int.inj h), fun _ _ => rfl⟩
instance : Sc Bool := ⟨.bl, fun _ _ _ _ h => h, fun _ _ h => V.bl.inj h, fun _ _ => rfl⟩
instance : Sc Str := ⟨.str, fun _ _ _ _ h => h, fun _ _ h => V.str.inj h, fun _ _ => rfl⟩
instance : Sc (Option Str) := ⟨fun o => match o with | none => .non | some x => .str x, fun _ _ _ o h => by cases o <;> exact h, fun x y h => by
  cases x <;> cases y <;> simp_all, fun x y => by cases x <;> cases y <;> rfl⟩
instance : Sc (Option Int) := ⟨fun o => match o with | none => .non | some x => .int x, fun _ _ _ o h => by cases o <;> exact h, fun x y h => by
  cases x <;> cases y <;> simp_all, fun x y => by cases x <;> cases y <;> rfl⟩
theorem o2_eq {α : Type} [Rp α] [DecidableEq α] [Sc α] {x y : α} : O2 Ps M rEq (Is K x) (Is K y) (Is K (decide (x = y))) := fun F H v w Q s a b q => by
  have e1 := Sc.eq K F v x a
  have e2 := Sc.eq K F w y b
  subst e1 e2
  refine ⟨Sc.sc x y, q _ F H s.refl ?_⟩
  exact congrArg V.bl (decide_eq_decide.mpr ⟨fun h => Sc.inj _ _ h, fun h => by rw [h]⟩)
theorem o2_ne {α : Type} [Rp α] [DecidableEq α] [Sc α] {x y : α} : O2 Ps M rNe (Is K x) (Is K y) (Is K (!decide (x = y))) := fun F H v w Q s a b q => by
  have e1 := Sc.eq K F v x a
  have e2 := Sc.eq K F w y b
  subst e1 e2
  refine ⟨Sc.sc x y, q _ F H s.refl ?_⟩
  exact congrArg (fun b => V.bl (!b)) (decide_eq_decide.mpr ⟨fun h => Sc.inj _ _ h, fun h => by rw [h]⟩)
/-- data that == tells apart at any depth -/
class Dq (α : Type) [Rp α] where
  d : α → PyData
  dp : ∀ (K : PySem.W.Frag) (F H : Hp) (v : V) (x : α), Sub F H → rp K F v x → Dp K H v (d x)
  eqv : ∀ x y, PyData.eqv (d x) (d y) = true ↔ x = y
  ok : α → Prop
  lay : ∀ x, ok x → PyData.canLay0 (d x) = true
  n : Nat
  dep : ∀ x, PyData.depth (d x) ≤ n
instance : Dq Int := ⟨.int, fun _ _ _ _ x _ h => by cases h; exact .int x, fun x y => by simp [PyData.eqv], fun _ => True, fun _ _ => rfl, 0, fun _ => Nat.le_refl _⟩
instance : Dq Nat := ⟨fun n => .int n, fun _ _ _ _ x _ h => by cases h; exact .int _, fun x y => by simp [PyData.eqv]; omega, fun _ => True, fun _ _ => rfl, 0, fun _ => Nat.le_refl _⟩
instance : Dq Bool := ⟨.bool, fun _ _ _ _ x _ h => by cases h; exact .bl x, fun x y => by simp [PyData.eqv], fun _ => True, fun _ _ => rfl, 0, fun _ => Nat.le_refl _⟩
instance : Dq Str := ⟨.str, fun _ _ _ _ x _ h => by cases h; exact .str x, fun x y => by simp [PyData.eqv], fun x => PyData.strOk x = true, fun x h => by simp [PyData.canLay0, h], 0, fun _ => Nat.le_refl _⟩
instance : Dq (Option Str) := ⟨fun o => match o with | none => .none | some x => .str x, fun _ _ _ _ x _ h => by cases x <;> cases h <;> first | exact .non | exact .str _, fun x y => by cases x <;> cases y <;> simp [PyData.eqv], fun o => ∀ x, o = some x → PyData.strOk x = true, fun o h => by
  cases o with
  | none => rfl
  | some x => simp [PyData.canLay0, h x rfl], 0, fun o => by cases o <;> exact Nat.le_refl _⟩
theorem dpAll {α : Type} [Rp α] [Dq α] {vs : List V} {xs : List α} (s : Sub F H) (h : Ps2 K F vs xs) : DpAll K H vs (xs.map Dq.d) := by
  unfold Ps2 at h
  induction h with
  | nil => exact .nil
  | cons a _ ih => exact .cons (Dq.dp K F H _ _ s a) ih
theorem eqvAll {α : Type} [Rp α] [Dq α] : ∀ xs ys : List α, PyData.eqvAll (xs.map Dq.d) (ys.map Dq.d) = true ↔ xs = ys
  | [], [] => by simp [PyData.eqvAll]
  | [], _ :: _ => by simp [PyData.eqvAll]
  | _ :: _, [] => by simp [PyData.eqvAll]
  | x :: r, y :: q => by simp [PyData.eqvAll, eqvAll r q, Dq.eqv]
theorem layAll {α : Type} [Rp α] [Dq α] : ∀ xs : List α, (∀ x ∈ xs, Dq.ok x) → PyData.canLayAll0 (xs.map Dq.d) = true
  | [], _ => rfl
  | x :: r, h => by
    rw [List.map_cons]
    simp [PyData.canLayAll0, Dq.lay x (h x (List.mem_cons_self ..)), layAll r fun y hy => h y (List.mem_cons_of_mem _ hy)]
theorem depAll {α : Type} [Rp α] [Dq α] : ∀ xs : List α, PyData.depthAll (xs.map Dq.d) ≤ Dq.n α
  | [] => Nat.zero_le _
  | x :: r => by
    rw [List.map_cons]
    simp only [PyData.depthAll]
    exact Nat.max_le.mpr ⟨Dq.dep x, depAll r⟩
theorem Sub.lst {a : Addr} {vs : List V} (s : Sub F H) (h : F a = some (.lst vs)) : H a = some (.lst vs) := by
  rcases s _ _ h with h | ⟨_, _, e, _⟩
  · exact h
  · cases e
theorem Sub.tup {a : Addr} {vs : List V} (s : Sub F H) (h : F a = some (.tup vs)) : H a = some (.tup vs) := by
  rcases s _ _ h with h | ⟨_, _, e, _⟩
  · exact h
  · cases e
theorem Sub.sqT {a : Addr} {vs : List V} (s : Sub F H) (h : SqT K F a vs) : SqT K H a vs := by
  rcases h with (h | ⟨o, h⟩) | h
  · exact .inl (.inl (s.tup h))
  · rcases s _ _ h with h | ⟨_, _, e, _⟩
    · exact .inl (.inr ⟨o, h⟩)
    · cases e
  · exact .inr h
theorem Sub.rdK {a : Addr} {kvs : List (Key × V)} (s : Sub F H) (h : F a = some (.dK kvs)) : Rd H a (.dK kvs) := by
  rcases s _ _ h with h | ⟨od, _, _, h⟩
  · exact .inl h
  · exact .inr ⟨od, h⟩
instance {α : Type} [Rp α] [Dq α] : Dq (List α) := ⟨fun xs => .list (xs.map Dq.d), fun K F H v x s ⟨a, vs, e, h, p⟩ => by subst e; exact .lst (SqL.of (s.lst h)) (dpAll s p), fun x y => by simp [PyData.eqv, eqvAll], fun xs => ∀ x ∈ xs, Dq.ok x, fun x h => by simp [PyData.canLay0, layAll x h], Dq.n α + 1, fun x => by
  simp only [PyData.depth]
  exact Nat.succ_le_succ (depAll x)⟩
instance {α : Type} [Rp α] [Dq α] : Dq (Tl α) := ⟨fun xs => .tuple (xs.l.map Dq.d), fun K F H v x s ⟨a, vs, e, h, p⟩ => by subst e; exact .tup (s.sqT h) (dpAll s p), fun ⟨x⟩ ⟨y⟩ => by simp [PyData.eqv, eqvAll], fun xs => ∀ x ∈ xs.l, Dq.ok x, fun x h => by simp [PyData.canLay0, layAll x.l h], Dq.n α + 1, fun x => by
  simp only [PyData.depth]
  exact Nat.succ_le_succ (depAll x.l)⟩
instance {α β : Type} [Rp α] [Dq α] [Rp β] [Dq β] : Dq (α × β) := ⟨fun x => .tuple [Dq.d x.1, Dq.d x.2], fun K F H v x s ⟨a, u, w, e, h, p, q⟩ => by subst e; exact .tup (SqT.of (s.tup h)) (.cons (Dq.dp K F H _ _ s p) (.cons (Dq.dp K F H _ _ s q) .nil)), fun x y => by
  obtain ⟨x1, x2⟩ := x
  obtain ⟨y1, y2⟩ := y
  simp [PyData.eqv, PyData.eqvAll, Dq.eqv], fun x => Dq.ok x.1 ∧ Dq.ok x.2, fun x h => by simp [PyData.canLay0, PyData.canLayAll0, Dq.lay _ h.1, Dq.lay _ h.2], max (Dq.n α) (Dq.n β) + 1, fun x => by
  simp only [PyData.depth, PyData.depthAll]
  refine Nat.succ_le_succ (Nat.max_le.mpr ⟨Nat.le_trans (Dq.dep x.1) (Nat.le_max_left _ _), Nat.max_le.mpr ⟨Nat.le_trans (Dq.dep x.2) (Nat.le_max_right _ _), Nat.zero_le _⟩⟩)⟩
theorem Dq.shaped {α : Type} [Rp α] [Dq α] {x : α} (h : Dq.ok x) (n : Dq.n α ≤ 64) : SeqAt.shaped (Dq.d x) = true := by
  have := Dq.dep x
  simp [SeqAt.shaped, Dq.lay x h]
  omega
theorem o2_eqD {α : Type} [Rp α] [DecidableEq α] [Dq α] {x y : α} (hx : Dq.ok x) (hy : Dq.ok y) (n : Dq.n α ≤ 64 := by decide) : O2 Ps M (rEqD K) (Is K x) (Is K y) (Is K (decide (x = y))) := fun F H v w Q s a b q =>
  ⟨_, _, Dq.dp K F H v x s.sub a, Dq.dp K F H w y s.sub b, Dq.shaped hx n, Dq.shaped hy n, q _ F H s.refl (congrArg V.bl (by rw [Bool.eq_iff_iff, Dq.eqv, decide_eq_true_iff]))⟩
theorem o2_neD {α : Type} [Rp α] [DecidableEq α] [Dq α] {x y : α} (hx : Dq.ok x) (hy : Dq.ok y) (n : Dq.n α ≤ 64 := by decide) : O2 Ps M (rNeD K) (Is K x) (Is K y) (Is K (!decide (x = y))) := fun F H v w Q s a b q =>
  ⟨_, _, Dq.dp K F H v x s.sub a, Dq.dp K F H w y s.sub b, Dq.shaped hx n, Dq.shaped hy n, q _ F H s.refl (congrArg (fun b => V.bl (!b)) (by rw [Bool.eq_iff_iff, Dq.eqv, decide_eq_true_iff]))⟩
end
end RP

-- RPc
set_option maxRecDepth 100000
set_option maxHeartbeats 4000000
namespace RP
open PySem PySem.Spec PyProof.Rows L2
open Rp (rp)
/-! ### what is walked -/
/-- J walks n turns; at turn i comes what Rs i tells; F1 tells where it walks -/
structure Wk (Ps : Tbs) (L : Mu) (F1 : Hp) (J : It) (n : Nat) (Rs : Nat → VRel) : Prop where
  goes : ∀ M i F H, (∀ e ∈ L, e ∈ M) → i < n → Le F1 F → Sh Ps M F H → J.go i H
  stops : ∀ M F H, (∀ e ∈ L, e ∈ M) → Le F1 F → Sh Ps M F H → J.stop n H
  yields : ∀ M i F H x H', (∀ e ∈ L, e ∈ M) → i < n → Le F1 F → Sh Ps M F H → J.yld i H x H' → ∃ F', Evo Ps M F H F' H' ∧ (Rs i).R F' x
def Ei (Ps : Tbs) (G : Gm) (M L : Mu) (wi : TI) (n : Nat) (Rs : Nat → VRel) : Prop := ∀ σ F H (R : It → Hp → Prop), EnvOk F σ G → Sh Ps M F H → (∀ J F1 H1, Evo Ps M F H F1 H1 → Wk Ps L F1 J n Rs → R J H1) → wi σ H R
section
variable {Ps : Tbs} {M : Mu} {G : Gm} {K : PySem.W.Frag} {ta tb tc te : TE} {tt tu : TT} {R Ra Rb : VRel} {F H : Hp} {wi : TI} {n : Nat} {Rs : Nat → VRel}
theorem Paired.get? {α β : Type} {P : α → β → Prop} : ∀ {l : List α} {r : List β}, Paired P l r → ∀ {i : Nat} {x : α} {y : β}, l[i]? = some x → r[i]? = some y → P x y
  | _, _, .nil, _, _, _, h, _ => by simp at h
  | _, _, .cons h t, 0, _, _, h1, h2 => by
    simp at h1 h2
    rw [← h1, ← h2]
    exact h
  | _, _, .cons h t, i + 1, _, _, h1, h2 => by
    simp at h1 h2
    exact Paired.get? t h1 h2
/-- the i-th of xs -/
def Nth (K : PySem.W.Frag) {α : Type} [Rp α] (xs : List α) : Nat → VRel := fun i => ⟨fun F v => ∃ x, xs[i]? = some x ∧ rp K F v x, fun F F' v l ⟨x, e, h⟩ => ⟨x, e, Rp.mono K F F' v x l h⟩⟩
theorem Ei.list {α : Type} [Rp α] {xs : List α} (h : Ev Ps G M te (Is K xs)) : Ei Ps G M [] (iList K te) xs.length (Nth K xs) := fun σ F H R e s q => h σ F H _ e s fun v F1 H1 e1 ⟨a, vs, ev, hF, hp⟩ => by
  subst ev
  have ln := Paired.length hp
  refine ⟨a, rfl, ⟨vs, SqL.of ((s.evo e1).sub.lst hF)⟩, q _ F1 H1 e1 ⟨fun _ i F' H' _ hi l s' => ?_, fun _ F' H' _ l s' => ?_, fun _ i F' H' x H'' _ hi l s' y => ?_⟩⟩
  · exact ⟨vs, vs[i], SqL.of (s'.sub.lst (l _ _ hF)), by simp [show i < vs.length by omega]⟩
  · exact ⟨vs, SqL.of (s'.sub.lst (l _ _ hF)), by omega⟩
  · obtain ⟨rfl, y⟩ := y
    have := y vs (SqL.of (s'.sub.lst (l _ _ hF)))
    exact ⟨F', s'.refl, xs[i], by simp [hi], Rp.mono K _ _ _ _ l (Paired.get? hp this (by simp [hi]))⟩
theorem Ei.tup {α : Type} [Rp α] {xs : Tl α} (h : Ev Ps G M te (Is K xs)) : Ei Ps G M [] (iTup K te) xs.l.length (Nth K xs.l) := fun σ F H R e s q => h σ F H _ e s fun v F1 H1 e1 ⟨a, vs, ev, hF, hp⟩ => by
  subst ev
  have ln := Paired.length hp
  refine ⟨a, rfl, ⟨vs, (s.evo e1).sub.sqT hF⟩, q _ F1 H1 e1 ⟨fun _ i F' H' _ hi l s' => ?_, fun _ F' H' _ l s' => ?_, fun _ i F' H' x H'' _ hi l s' y => ?_⟩⟩
  · exact ⟨vs, vs[i], s'.sub.sqT (l.sqT hF), by simp [show i < vs.length by omega]⟩
  · exact ⟨vs, s'.sub.sqT (l.sqT hF), by omega⟩
  · obtain ⟨rfl, y⟩ := y
    have := y vs (s'.sub.sqT (l.sqT hF))
    exact ⟨F', s'.refl, xs.l[i], by simp [hi], Rp.mono K _ _ _ _ l (Paired.get? hp this (by simp [hi]))⟩
theorem Ei.range1 {t : TA} {j : Int} (h : Ea Ps G M t [Is K j]) (hb : -(2 ^ 62) ≤ j ∧ j < 2 ^ 62) : Ei Ps G M [] (iRng1 t) j.toNat (fun i => Is K (i : Int)) := fun σ F H R e s q => h σ F H _ e s fun vs F1 H1 e1 r1 => by
  obtain ⟨v, rfl, hv⟩ : ∃ v, vs = [v] ∧ (Is K j).R F1 v := by
    cases r1 with
    | cons a t => cases t; exact ⟨_, rfl, a⟩
  cases hv
  refine ⟨j, rfl, hb.1, hb.2, q _ F1 H1 e1 ⟨fun _ i F' H' _ hi l s' => hi, fun _ F' H' _ l s' => Nat.le_refl _, fun _ i F' H' x H'' _ hi l s' y => ?_⟩⟩
  obtain ⟨rfl, rfl⟩ := y
  exact ⟨F', s'.refl, by show V.int (0 + (i : Int)) = V.int (i : Int); rw [Int.zero_add]⟩
theorem Ei.range2 {t : TA} {a b : Int} (h : Ea Ps G M t [Is K a, Is K b]) (hb : -(2 ^ 62) ≤ a ∧ a < 2 ^ 62 ∧ -(2 ^ 62) ≤ b ∧ b < 2 ^ 62) : Ei Ps G M [] (iRng2 t) (b - a).toNat (fun i => Is K (a + (i : Int))) := fun σ F H R e s q => h σ F H _ e s fun vs F1 H1 e1 r1 => by
  obtain ⟨v, w, rfl, hv, hw⟩ : ∃ v w, vs = [v, w] ∧ (Is K a).R F1 v ∧ (Is K b).R F1 w := by
    cases r1 with
    | cons x t => cases t with
      | cons y t => cases t; exact ⟨_, _, rfl, x, y⟩
  cases hv
  cases hw
  refine ⟨a, b, rfl, hb, q _ F1 H1 e1 ⟨fun _ i F' H' _ hi l s' => hi, fun _ F' H' _ l s' => Nat.le_refl _, fun _ i F' H' x H'' _ hi l s' y => ?_⟩⟩
  obtain ⟨rfl, rfl⟩ := y
  exact ⟨F', s'.refl, rfl⟩
theorem Ei.str {t : Str} (h : Ev Ps G M te (Is K t)) : Ei Ps G M [] (iStr te) t.cps.size (fun i => ⟨fun _ v => ∃ c, t.cps[i]? = some c ∧ v = .str ⟨#[c]⟩, fun _ _ _ _ h => h⟩) := fun σ F H R e s q => h σ F H _ e s fun v F1 H1 e1 r1 => by
  cases r1
  refine ⟨t, rfl, q _ F1 H1 e1 ⟨fun _ i F' H' _ hi l s' => hi, fun _ F' H' _ l s' => Nat.le_refl _, fun _ i F' H' x H'' _ hi l s' y => ?_⟩⟩
  obtain ⟨rfl, c, h1, h2⟩ := y
  exact ⟨F', s'.refl, c, h1, h2⟩
/-- a store to a target: what it needs of the value, what the slots are then -/
def Eg (Ps : Tbs) (G : Gm) (M : Mu) (g : TG) (R : VRel) (G' : Gm) (sl : List Nat) : Prop := ∀ (v : V) (σ : L2.St) (F H : Hp) (Q : L2.St → Hp → Prop), EnvOk F σ G → Sh Ps M F H → R.R F v → (∀ σ' : L2.St, EnvOk F σ' G' → σ'.length = σ.length → (∀ k : Nat, k ∉ sl → σ'[k]? = σ[k]?) → Q σ' H) → g v σ H Q
theorem Eg.name {i : Nat} : Eg Ps G M (gName i) R (G.set i (some R)) [i] := fun v σ F H Q e s r q => q _ (e.set r) (List.length_set ..) fun k hk => List.getElem?_set_ne fun z => hk (by rw [z]; exact List.mem_singleton.mpr rfl)
/-- a, b = .. -/
theorem Eg.two {g1 g2 : TG} {R1 R2 : VRel} {G1 G2 : Gm} {s1 s2 : List Nat} (hR : ∀ F v, R.R F v → ∃ a u w, v = .ref a ∧ F a = some (.tup [u, w]) ∧ R1.R F u ∧ R2.R F w) (h1 : Eg Ps G M g1 R1 G1 s1) (h2 : Eg Ps G1 M g2 R2 G2 s2) : Eg Ps G M (gTup K 2 (gCons g1 (gCons g2 gNil))) R G2 (s1 ++ s2) := fun v σ F H Q e s r q => by
  obtain ⟨a, u, w, rfl, ht, r1, r2⟩ := hR F v r
  refine ⟨a, _, rfl, SqT.of (s.sub.tup ht), rfl, u, [w], rfl, h1 u σ F H _ e s r1 fun σ1 e1 l1 k1 => ⟨w, [], rfl, h2 w σ1 F H _ e1 s r2 fun σ2 e2 l2 k2 => ⟨rfl, q σ2 e2 (l2.trans l1) fun k hk => ?_⟩⟩⟩
  rw [k2 k fun z => hk (List.mem_append_right _ z), k1 k fun z => hk (List.mem_append_left _ z)]
theorem pair_two {α β : Type} [Rp α] [Rp β] {x : α × β} : ∀ F v, (Is K x).R F v → ∃ a u w, v = .ref a ∧ F a = some (.tup [u, w]) ∧ (Is K x.1).R F u ∧ (Is K x.2).R F w := fun F v h => h
theorem Eg.pair {α β : Type} [Rp α] [Rp β] {x : α × β} {g1 g2 : TG} {G1 G2 : Gm} {s1 s2 : List Nat} (h1 : Eg Ps G M g1 (Is K x.1) G1 s1) (h2 : Eg Ps G1 M g2 (Is K x.2) G2 s2) : Eg Ps G M (gTup K 2 (gCons g1 (gCons g2 gNil))) (Is K x) G2 (s1 ++ s2) := Eg.two pair_two h1 h2
end
end RP

-- RPd
set_option maxRecDepth 100000
set_option maxHeartbeats 4000000
namespace RP
open PySem PySem.Spec PyProof.Rows L2
open Rp (rp)
def wipeG (G : Gm) : List Nat → Gm
  | [] => G
  | v :: vs => (wipeG G vs).set v none
section
variable {Ps : Tbs} {M L : Mu} {G : Gm} {K : PySem.W.Frag} {ta tb tc te : TE} {tt tu : TT} {R Ra Rb : VRel} {F H : Hp} {wi : TI} {n : Nat} {Rs : Nat → VRel} {g : TG} {vs sl : List Nat}
theorem EnvOk.wipe {σ : L2.St} (h : EnvOk F σ G) : ∀ vs : List Nat, EnvOk F (wipe σ vs) (wipeG G vs)
  | [] => h
  | v :: vs => (EnvOk.wipe h vs).del
theorem wipe_eq {σ : L2.St} : ∀ {vs : List Nat} {σ' : L2.St}, σ'.length = σ.length → (∀ k : Nat, k ∉ vs → σ'[k]? = (L2.wipe σ vs)[k]?) → L2.wipe σ' vs = L2.wipe σ vs := by
  have out : ∀ (vs : List Nat) (σ : L2.St) (k : Nat), k ∉ vs → (L2.wipe σ vs)[k]? = σ[k]? := by
    intro vs
    induction vs with
    | nil => exact fun _ _ _ => rfl
    | cons v vs ih =>
      intro σ k hk
      unfold L2.wipe
      rw [List.getElem?_set_ne (fun z => hk (by rw [z]; exact List.mem_cons_self ..)), ih σ k fun z => hk (List.mem_cons_of_mem _ z)]
  have inn : ∀ (vs : List Nat) (σ : L2.St) (k : Nat), k ∈ vs → k < σ.length → (L2.wipe σ vs)[k]? = some none := by
    intro vs
    induction vs with
    | nil => exact fun _ _ h => nomatch h
    | cons v vs ih =>
      intro σ k hk hl
      unfold L2.wipe
      by_cases e : v = k
      · subst e
        rw [List.getElem?_set_self (by rw [wipe_length]; exact hl)]
      · rw [List.getElem?_set_ne e]
        exact ih σ k ((List.mem_cons.mp hk).resolve_left fun z => e z.symm) hl
  intro vs σ' hl h
  apply List.ext_getElem?
  intro k
  by_cases hk : k ∈ vs
  · by_cases hb : k < σ.length
    · rw [inn vs σ' k hk (by omega), inn vs σ k hk hb]
    · rw [List.getElem?_eq_none (by rw [wipe_length]; omega), List.getElem?_eq_none (by rw [wipe_length]; omega)]
  · rw [out vs σ' k hk, h k hk]
theorem wipe_out {σ : L2.St} : ∀ (vs : List Nat) (k : Nat), k ∉ vs → (L2.wipe σ vs)[k]? = σ[k]? := by
  intro vs
  induction vs with
  | nil => exact fun _ _ => rfl
  | cons v vs ih =>
    intro k hk
    unfold L2.wipe
    rw [List.getElem?_set_ne (fun z => hk (by rw [z]; exact List.mem_cons_self ..)), ih k fun z => hk (List.mem_cons_of_mem _ z)]
theorem Sh.mono_new (s : Sh Ps M F H) {D : Addr} (hD : H D = none) {F' H' : Hp} (e : Evo Ps M F (upd H D (.lst [])) F' H') : D ∉ tk Ps ∧ D ∉ M.map (·.1) ∧ F' D = none := by
  have nP := s.tb.not hD
  have nM : D ∉ M.map (·.1) := fun h => by
    obtain ⟨x, hx, rfl⟩ := List.mem_map.mp h
    obtain ⟨o, h1, _⟩ := s.mu x hx
    rw [hD] at h1
    cases h1
  refine ⟨nP, nM, ?_⟩
  cases q : F' D with
  | none => rfl
  | some o =>
    rcases e.nw D o q with h | h
    · rw [s.new_none hD] at h
      cases h
    · rw [upd_same] at h
      cases h
/-- the object at D, new since, is written -/
theorem Evo.wr {D : Addr} {o : HO} (e : Evo Ps M F H F' H') (hD : H D = none) (nP : D ∉ tk Ps) (nM : D ∉ M.map (·.1)) (nF : F' D = none) (nc : ∀ φ, H' D ≠ some (.ext φ)) : Evo Ps M F H F' (upd H' D o) :=
  { le := e.le
    sub := fun a u h => (e.sub a u h).upd fun z => by rw [z, nF] at h; cases h
    keep := fun a u h p m => by rw [upd_ne (ne_of_none h hD)]; exact e.keep a u h p m
    nw := e.nw
    tb := e.tb.upd nP nc
    mu := fun x hx => by
      obtain ⟨u, h1, h2⟩ := e.mu x hx
      exact ⟨u, by rw [upd_ne fun z => nM (by rw [← z]; exact List.mem_map.mpr ⟨x, hx, rfl⟩)]; exact h1, h2⟩
    fz := fun a kvs h k => by
      rw [upd_ne (fun z => by rw [z, nF] at h; cases h)]
      exact e.fz a kvs h k }
/-- what stands at D is told from now on -/
theorem Evo.frz {D : Addr} {o : HO} (e : Evo Ps M F H F' H') (hD : H D = none) (nF : F' D = none) (h : H' D = some o) : Evo Ps M F H (upd F' D o) H' :=
  have l : Le F' (upd F' D o) := fun a u e => by rw [upd_ne (ne_of_none e nF)]; exact e
  { le := e.le.trans l
    sub := fun a u h' => by
      by_cases z : a = D
      · subst z
        rw [upd_same] at h'
        cases h'
        exact .inl h
      · rw [upd_ne z] at h'
        exact e.sub a u h'
    keep := e.keep
    nw := fun a u h' => by
      by_cases z : a = D
      · subst z
        exact .inr hD
      · rw [upd_ne z] at h'
        exact e.nw a u h'
    tb := e.tb
    mu := fun x hx => by
      obtain ⟨u, h1, h2⟩ := e.mu x hx
      exact ⟨u, h1, x.2.mono _ _ _ l h2⟩
    fz := fun a kvs h' k => by
      by_cases z : a = D
      · subst z
        rw [upd_same] at h'
        rw [h]
        exact h'
      · rw [upd_ne z] at h'
        exact e.fz a kvs h' k }
theorem Ps2.snoc {β : Type} [Rp β] {ws : List V} {ys : List β} {w : V} {y : β} (h : Ps2 K F ws ys) (r : rp K F w y) : Ps2 K F (ws ++ [w]) (ys ++ [y]) := Paired.snoc h r
/-- [te for g in wi if tt]: γ tells more of each item -/
theorem Ev.lc0 {β γ : Type} [Rp β] (hi : Ei Ps G M L wi n Rs) (hL : ∀ e ∈ L, e ∈ M) (hn : n ≤ 100000) (Pg : Nat → γ → Prop) (Rg : Nat → γ → VRel) (hx : ∀ i, i < n → ∀ F v, (Rs i).R F v → ∃ c, Pg i c ∧ (Rg i c).R F v) (Gb : Nat → γ → Gm)
    (hg : ∀ i c, i < n → Pg i c → Eg Ps (wipeG G vs) M g (Rg i c) (Gb i c) sl) (hsl : ∀ k ∈ sl, k ∈ vs) {P : Nat → γ → Bool → Prop} (ht : ∀ i c, i < n → Pg i c → Et Ps (Gb i c) M tt (P i c)) {Pe : Nat → γ → β → Prop} (he : ∀ i c, i < n → Pg i c → P i c true → Ev Ps (Gb i c) M te (Exi K (Pe i c)))
    (Pr : Nat → List β → Prop) (p0 : Pr 0 []) (p1 : ∀ i c ys y, i < n → Pg i c → P i c true → Pe i c y → Pr i ys → Pr (i + 1) (ys ++ [y])) (p2 : ∀ i c ys, i < n → Pg i c → P i c false → Pr i ys → Pr (i + 1) ys) : Ev Ps G M (tLc wi g tt te vs) (Exi K (Pr n)) := fun σ F H Q e s q => hi σ F H _ e s fun J F1 H1 e1 wk D hD => by
  have s1 := s.evo e1
  have e0 : Evo Ps M F1 H1 F1 (upd H1 D (.lst [])) := s1.new0 hD
  obtain ⟨nP, nM, _⟩ := s1.mono_new hD (s1.evo e0).refl
  refine ⟨fun i m H' => m = n - i ∧ i ≤ n ∧ ∃ F' ws ys, Evo Ps M F1 H1 F' H' ∧ F' D = none ∧ H' D = some (.lst ws) ∧ Ps2 K F' ws ys ∧ ys.length ≤ i ∧ Pr i ys, ⟨n, rfl, Nat.zero_le _, F1, [], [], e0, s1.new_none hD, upd_same, .nil, Nat.le_refl _, p0⟩, ?_⟩
  rintro i m H' ⟨rfl, hin, F', ws, ys, e2, nF, hw, hp, hl, pr⟩
  have s2 := s1.evo e2
  by_cases hlt : i < n
  · refine .inr ⟨wk.goes M i F' H' hL hlt e2.le s2, fun H'' => ∃ F' ws ys, Evo Ps M F1 H1 F' H'' ∧ F' D = none ∧ H'' D = some (.lst ws) ∧ Ps2 K F' ws ys ∧ ys.length ≤ i + 1 ∧ Pr (i + 1) ys, fun H'' h => ⟨n - (i + 1), by omega, rfl, hlt, h⟩, fun x H3 y => ?_⟩
    obtain ⟨F3, e3, r3⟩ := wk.yields M i F' H' x H3 hL hlt e2.le s2 y
    obtain ⟨c, pc, rc⟩ := hx i hlt F3 x r3
    have e3' := e2.trans e3
    have nF3 : F3 D = none := by
      cases z : F3 D with
      | none => rfl
      | some o =>
        rcases e3.nw D o z with h | h
        · rw [nF] at h; cases h
        · rw [hw] at h; cases h
    have hw3 := e3.keep D _ hw nP nM
    refine hg i c hlt pc x (L2.wipe σ vs) F3 H3 _ ((e.mono (e1.le.trans e3'.le)).wipe vs) (s1.evo e3') rc fun σ2 en l2 k2 => ⟨?_, ?_⟩
    · refine wipe_eq (l2.trans (wipe_length ..)) fun k hk => ?_
      exact k2 k fun z => hk (hsl k z)
    · refine ht i c hlt pc σ2 F3 H3 _ en (s1.evo e3') fun b F4 H4 e4 pb => ?_
      have nF4 : F4 D = none := by
        cases z : F4 D with
        | none => rfl
        | some o =>
          rcases e4.nw D o z with h | h
          · rw [nF3] at h; cases h
          · rw [hw3] at h; cases h
      have hw4 := e4.keep D _ hw3 nP nM
      cases b with
      | false => exact ⟨F4, ws, ys, e3'.trans e4, nF4, hw4, hp.mono (e3.le.trans e4.le), Nat.le_succ_of_le hl, p2 i c ys hlt pc pb pr⟩
      | true =>
        refine he i c hlt pc pb σ2 F4 H4 _ (en.mono e4.le) ((s1.evo e3').evo e4) fun w F5 H5 e5 ⟨yy, py, ry⟩ => ?_
        have nF5 : F5 D = none := by
          cases z : F5 D with
          | none => rfl
          | some o =>
            rcases e5.nw D o z with h | h
            · rw [nF4] at h; cases h
            · rw [hw4] at h; cases h
        have hw5 := e5.keep D _ hw4 nP nM
        have hln := Paired.length hp
        refine ⟨ws, hw5, ?_, F5, ws ++ [w], ys ++ [yy], ((e3'.trans e4).trans e5).wr hD nP nM nF5 (by rw [hw5]; exact fun φ z => nomatch z), nF5, upd_same, (hp.mono ((e3.le.trans e4.le).trans e5.le)).snoc ry, ?_, p1 i c ys yy hlt pc pb py pr⟩
        · have : 200000 ≤ sizeLine := by decide
          omega
        · rw [List.length_append]
          exact Nat.add_le_add_right hl 1
  · have ei : i = n := by omega
    subst ei
    refine .inl ⟨wk.stops M F' H' hL e2.le s2, ?_⟩
    exact q _ _ _ (e1.trans (e2.frz hD nF hw)) ⟨ys, pr, D, ws, rfl, upd_same, hp.mono fun a u h => by rw [upd_ne (ne_of_none h nF)]; exact h⟩
theorem filter_take {α : Type} {p : α → Bool} {xs : List α} {i : Nat} {x : α} (h : xs[i]? = some x) : (xs.take (i + 1)).filter p = (xs.take i).filter p ++ (if p x = true then [x] else []) := by
  rw [List.take_add_one, h, List.filter_append]
  congr 1
  show [x].filter p = _
  rw [List.filter_cons]
  rfl
theorem mem_of? {α : Type} {xs : List α} {i : Nat} {x : α} (h : xs[i]? = some x) : x ∈ xs := List.mem_of_getElem? h
/-- over a list, each item by x; as a list -/
theorem Ev.lcOf {α β : Type} [Rp α] [Rp β] {xs : List α} (hi : Ei Ps G M L wi xs.length (Nth K xs)) (hL : ∀ e ∈ L, e ∈ M) (hn : xs.length ≤ 100000) (Gb : α → Gm) {p : α → Bool} {f : α → β}
    (hg : ∀ x ∈ xs, Eg Ps (wipeG G vs) M g (Is K x) (Gb x) sl) (hsl : ∀ k ∈ sl, k ∈ vs) (ht : ∀ x ∈ xs, Et Ps (Gb x) M tt (· = p x)) (he : ∀ x ∈ xs, p x = true → Ev Ps (Gb x) M te (Is K (f x))) : Ev Ps G M (tLc wi g tt te vs) (Is K ((xs.filter p).map f)) := by
  have h := Ev.lc0 (K := K) (β := β) (γ := α) hi hL hn (fun i x => xs[i]? = some x) (fun _ x => Is K x) (fun i _ F v r => r) (fun _ x => Gb x) (fun i x _ hx => hg x (mem_of? hx)) hsl (P := fun _ x b => b = p x) (fun i x _ hx => ht x (mem_of? hx)) (Pe := fun _ x y => y = f x)
    (fun i x _ hx pb => (he x (mem_of? hx) pb.symm).exi rfl) (fun i ys => ys = ((xs.take i).filter p).map f) rfl (fun i x ys y _ hx pb py pr => ?_) (fun i x ys _ hx pb pr => ?_)
  · refine h.imp fun F v ⟨ys, e, r⟩ => ?_
    rw [List.take_length] at e
    subst e
    exact r
  · rw [filter_take hx, ← pb, List.map_append, ← pr, py]
    rfl
  · rw [filter_take hx, ← pb, List.map_append, ← pr]
    simp
/-- the slots of a plain name -/
theorem Ev.lcL {α β : Type} [Rp α] [Rp β] {xs : List α} {i : Nat} (h : Ev Ps G M ta (Is K xs)) (hn : xs.length ≤ 100000) {p : α → Bool} {f : α → β}
    (ht : ∀ x ∈ xs, Et Ps ((wipeG G [i]).set i (some (Is K x))) M tt (· = p x)) (he : ∀ x ∈ xs, p x = true → Ev Ps ((wipeG G [i]).set i (some (Is K x))) M te (Is K (f x))) : Ev Ps G M (tLc (iList K ta) (gName i) tt te [i]) (Is K ((xs.filter p).map f)) :=
  Ev.lcOf (Ei.list h) (fun _ h => nomatch h) hn (fun x => (wipeG G [i]).set i (some (Is K x))) (fun x _ => Eg.name) (fun k hk => hk) ht he
theorem Ev.lcLy {α β : Type} [Rp α] [Rp β] {xs : List α} {i : Nat} (h : Ev Ps G M ta (Is K xs)) (hn : xs.length ≤ 100000) {f : α → β}
    (he : ∀ x ∈ xs, Ev Ps ((wipeG G [i]).set i (some (Is K x))) M te (Is K (f x))) : Ev Ps G M (tLc (iList K ta) (gName i) tYes te [i]) (Is K (xs.map f)) :=
  (Ev.lcL (p := fun _ => true) h hn (fun x _ => Et.yes) (fun x hx _ => he x hx)).to (congrArg (List.map f) (List.filter_eq_self.mpr fun _ _ => rfl))
/-- [e for k in range(n)], what may be rolled -/
theorem Ev.lcR {β : Type} [Rp β] {j : Int} {i : Nat} {t : TA} (h : Ea Ps G M t [Is K j]) (h0 : 0 ≤ j) (hn : j ≤ 100000) {Pe : Nat → β → Prop} (he : ∀ k : Nat, (k : Int) < j → Ev Ps ((wipeG G [i]).set i (some (Is K (k : Int)))) M te (Exi K (Pe k))) :
    Ev Ps G M (tLc (iRng1 t) (gName i) tYes te [i]) (Exi K fun ys : List β => ys.length = j.toNat ∧ ∀ k y, ys[k]? = some y → Pe k y) := by
  have := Ev.lc0 (K := K) (β := β) (γ := Unit) (Ei.range1 h ⟨by omega, by omega⟩) (fun _ h => nomatch h) (by omega) (fun _ _ => True) (fun i _ => Is K (i : Int)) (fun i _ F v r => ⟨(), trivial, r⟩) (fun k _ => (wipeG G [i]).set i (some (Is K (k : Int)))) (fun k _ _ _ => Eg.name) (fun k hk => hk) (P := fun _ _ b => b = true) (fun k _ _ _ => Et.yes) (Pe := fun k _ y => Pe k y)
    (fun k _ hk _ _ => he k (by omega)) (fun i ys => ys.length = i ∧ ∀ k y, ys[k]? = some y → Pe k y) ⟨rfl, fun k y h => nomatch h⟩ (fun k _ ys y hk _ _ py ⟨l, al⟩ => ⟨by rw [List.length_append, l]; rfl, fun k' y' h' => ?_⟩) (fun k _ ys hk _ pb => by cases pb)
  · exact this
  · by_cases z : k' < ys.length
    · rw [List.getElem?_append_left z] at h'
      exact al k' y' h'
    · rw [List.getElem?_append_right (by omega)] at h'
      have : k' = k := by
        have := (List.getElem?_eq_some_iff.mp h').1
        simp at this
        omega
      subst this
      rw [show k' - ys.length = 0 by omega] at h'
      simp at h'
      rw [← h']
      exact py
end
end RP

-- RPe
set_option maxRecDepth 100000
set_option maxHeartbeats 4000000
namespace RP
open PySem PySem.Spec PyProof.Rows L2
open Rp (rp)
/-- where a call begins; W: what it may change -/
structure Bs where
  F0 : Hp
  H0 : Hp
  W : Addr → Prop
structure Sa (Ps : Tbs) (B : Bs) (G : Gm) (M : Mu) (σ : L2.St) (F H : Hp) : Prop where
  en : EnvOk F σ G
  sh : Sh Ps M F H
  le : Le B.F0 F
  keep : ∀ a o, B.H0 a = some o → a ∉ tk Ps → ¬ B.W a → H a = some o
  dom : ∀ a o, B.H0 a = some o → ∃ o', H a = some o'
  nw : ∀ a o, F a = some o → B.F0 a = some o ∨ B.H0 a = none
  mw : ∀ e ∈ M, B.W e.1 ∨ B.H0 e.1 = none
def Nx (Ps : Tbs) (B : Bs) (G : Gm) (M : Mu) (k : L2.St → Hp → Prop) : Prop := ∀ σ F H, Sa Ps B G M σ F H → k σ H
theorem List.Nodup.getElem?_inj_ {α : Type} {l : List α} (h : l.Nodup) {i j : Nat} (hi : i < l.length) (e : l[i]? = l[j]?) : i = j := by
  rw [List.getElem?_eq_getElem hi] at e
  have hj : j < l.length := by
    rcases Nat.lt_or_ge j l.length with h | h
    · exact h
    · rw [List.getElem?_eq_none h] at e
      cases e
  rw [List.getElem?_eq_getElem hj] at e
  have e := Option.some.inj e
  rcases Nat.lt_trichotomy i j with z | z | z
  · exact absurd e ((List.pairwise_iff_getElem.mp h) i j hi hj z)
  · exact z
  · exact absurd e.symm ((List.pairwise_iff_getElem.mp h) j i hj hi z)
section
variable {Ps : Tbs} {B : Bs} {M L : Mu} {G G' : Gm} {K : PySem.W.Frag} {ta tb tc te : TE} {t u : TS} {D : L2.Ends} {tt tu : TT} {R Ra Rb R' : VRel} {F H F' H' : Hp} {wi : TI} {n : Nat} {Rs : Nat → VRel} {g : TG} {vs sl : List Nat} {σ : L2.St} {k : L2.St → Hp → Prop}
theorem Sa.evo (s : Sa Ps B G M σ F H) (e : Evo Ps M F H F' H') : Sa Ps B G M σ F' H' := by
  refine ⟨s.en.mono e.le, s.sh.evo e, s.le.trans e.le, fun a o h p w => ?_, fun a o h => ?_, fun a o h => ?_, s.mw⟩
  · refine e.keep a o (s.keep a o h p w) p fun m => ?_
    obtain ⟨x, hx, rfl⟩ := List.mem_map.mp m
    rcases s.mw x hx with h' | h'
    · exact w h'
    · rw [h] at h'
      cases h'
  · obtain ⟨o', h'⟩ := s.dom a o h
    exact e.dom h'
  · rcases e.nw a o h with h | h
    · exact s.nw a o h
    · refine .inr ?_
      cases q : B.H0 a with
      | none => rfl
      | some o' =>
        obtain ⟨o2, h2⟩ := s.dom a o' q
        rw [h] at h2
        cases h2
theorem Sa.env (s : Sa Ps B G M σ F H) {σ' : L2.St} (e : EnvOk F σ' G') : Sa Ps B G' M σ' F H := ⟨e, s.sh, s.le, s.keep, s.dom, s.nw, s.mw⟩
theorem Sa.tail {x : Addr × MRel} (s : Sa Ps B G (x :: M) σ F H) (ow : x.2.own = true) : Sa Ps B G M σ F H := ⟨s.en, s.sh.tail ow, s.le, s.keep, s.dom, s.nw, fun e h => s.mw e (List.mem_cons_of_mem _ h)⟩
theorem Nx.gle (h : Nx Ps B G' M k) (l : GLe G G') : Nx Ps B G M k := fun σ F H s => h σ F H (s.env (s.en.le l))
theorem Nx.tail {x : Addr × MRel} (ow : x.2.own = true) (h : Nx Ps B G M k) : Nx Ps B G (x :: M) k := fun σ F H s => h σ F H (s.tail ow)
theorem Nx.seq (h : Nx Ps B G M (t { D with nx := u D })) : Nx Ps B G M (tSeq t u D) := h
theorem Nx.set {i : Nat} (h : Ev Ps G M te R) (k : Nx Ps B (G.set i (some R)) M D.nx) : Nx Ps B G M (tAsg te (gName i) D) := fun σ F H s => h σ F H _ s.en s.sh fun v F' H' e r =>
  k _ F' H' ((s.evo e).env ((s.evo e).en.set r))
/-- what a value is, opened -/
theorem Nx.setX {α : Type} [Rp α] {P : α → Prop} {i : Nat} (h : Ev Ps G M te (Exi K P)) (k : ∀ x, P x → Nx Ps B (G.set i (some (Is K x))) M D.nx) : Nx Ps B G M (tAsg te (gName i) D) := fun σ F H s => h σ F H _ s.en s.sh fun v F' H' e ⟨x, p, r⟩ =>
  k x p _ F' H' ((s.evo e).env ((s.evo e).en.set (R := Is K x) r))
theorem Nx.asg (h : Ev Ps G M te R) (hg : Eg Ps G M g R G' sl) (k : Nx Ps B G' M D.nx) : Nx Ps B G M (tAsg te g D) := fun σ F H s => h σ F H _ s.en s.sh fun v F' H' e r =>
  hg v σ F' H' _ (s.evo e).en (s.evo e).sh r fun σ' en _ _ => k σ' F' H' ((s.evo e).env en)
theorem Nx.drop (h : Ev Ps G M te R) (k : Nx Ps B G M D.nx) : Nx Ps B G M (tDrop te D) := fun σ F H s => h σ F H _ s.en s.sh fun v F' H' e r => k σ F' H' (s.evo e)
theorem Nx.ite {P : Bool → Prop} (h : Et Ps G M tt P) (h1 : P true → Nx Ps B G M (t D)) (h2 : P false → Nx Ps B G M (u D)) : Nx Ps B G M (tIfS tt t u D) := fun σ F H s => h σ F H _ s.en s.sh fun b F' H' e p => by
  cases b with
  | true => exact h1 p σ F' H' (s.evo e)
  | false => exact h2 p σ F' H' (s.evo e)
/-- what a call hands back -/
structure Fin (Ps : Tbs) (B : Bs) (F H : Hp) : Prop where
  le : Le B.F0 F
  sub : Sub F H
  tb : Tb Ps H
  keep : ∀ a o, B.H0 a = some o → a ∉ tk Ps → ¬ B.W a → H a = some o
  nw : ∀ a o, F a = some o → B.F0 a = some o ∨ B.H0 a = none
  fz : ∀ a kvs, F a = some (.dK kvs) → H a = some (.dK kvs)
theorem Sa.fin (s : Sa Ps B G M σ F H) (ow : ∀ e ∈ M, e.2.own = true) : Fin Ps B F H := ⟨s.le, s.sh.sub, s.sh.tb, s.keep, s.nw, fun a kvs h => s.sh.fz a kvs h fun e he _ => ow e he⟩
theorem Nx.ret (h : Ev Ps G M te R) (q : ∀ v σ F H, Sa Ps B G M σ F H → R.R F v → D.rt v H) : Nx Ps B G M (tRet te D) := fun σ F H s => h σ F H _ s.en s.sh fun v F' H' e r => q v σ F' H' (s.evo e) r
/-- a call that changes nothing -/
theorem Fin.evo {F0 H0 : Hp} (f : Fin Ps ⟨F0, H0, fun _ => False⟩ F H) : Evo Ps [] F0 H0 F H := ⟨f.le, f.sub, fun a o h p _ => f.keep a o h p fun z => z, f.nw, f.tb, (fun _ h => nomatch h), fun a kvs h _ => f.fz a kvs h⟩
theorem Nx.retS {F0 H0 : Hp} (ow : ∀ e ∈ M, e.2.own = true) (h : Ev Ps G M te R) (l : ∀ F v, R.R F v → R'.R F v) (q : ∀ v F' H', Evo Ps [] F0 H0 F' H' → R'.R F' v → D.rt v H') : Nx Ps ⟨F0, H0, fun _ => False⟩ G M (tRet te D) :=
  Nx.ret h fun v σ F H s r => q v F H (s.fin ow).evo (l _ _ r)
/-- an object of M is written -/
theorem Sa.wr {j : Nat} {d : Addr} {r r' : MRel} {o : HO} (s : Sa Ps B G M σ F H) (hj : M[j]? = some (d, r)) (ow : r.own = true) (h : r'.R F o) : Sa Ps B G (M.set j (d, r')) σ F (upd H d o) := by
  have hm : (d, r) ∈ M := List.mem_of_getElem? hj
  have hl : j < M.length := (List.getElem?_eq_some_iff.mp hj).1
  have nF := (s.sh.ow _ hm).2 ow
  have nP := (s.sh.ow _ hm).1
  have nc : ∀ φ, H d ≠ some (.ext φ) := fun φ z => by
    obtain ⟨v, h1, h2⟩ := s.sh.mu _ hm
    exact r.nc _ _ h2 φ (Option.some.inj (h1.symm.trans z))
  have keys : (M.set j (d, r')).map (·.1) = M.map (·.1) := by
    rw [List.map_set]
    refine List.ext_getElem? fun i => ?_
    by_cases hi : j = i
    · subst hi
      rw [List.getElem?_set_self (by rw [List.length_map]; exact hl), List.getElem?_map, hj]
      rfl
    · rw [List.getElem?_set_ne hi]
  have mem : ∀ e ∈ M.set j (d, r'), e = (d, r') ∨ (e ∈ M ∧ e.1 ≠ d) := fun e he => by
    obtain ⟨i, hi⟩ := List.getElem?_of_mem he
    by_cases hij : j = i
    · subst hij
      rw [List.getElem?_set_self hl] at hi
      exact .inl (Option.some.inj hi).symm
    · rw [List.getElem?_set_ne hij] at hi
      refine .inr ⟨List.mem_of_getElem? hi, fun z => hij ?_⟩
      have h1 : (M.map (·.1))[i]? = some d := by rw [List.getElem?_map, hi]; exact congrArg some z
      have h2 : (M.map (·.1))[j]? = some d := by rw [List.getElem?_map, hj]; rfl
      have hil : i < (M.map (·.1)).length := (List.getElem?_eq_some_iff.mp h1).1
      have hjl : j < (M.map (·.1)).length := (List.getElem?_eq_some_iff.mp h2).1
      exact (List.Nodup.getElem?_inj_ s.sh.nd hjl (h2.trans h1.symm))
  refine ⟨s.en, ⟨fun a v h' => (s.sh.sub a v h').upd (fun z => by rw [z, nF] at h'; exact nomatch h'), s.sh.tb.upd nP nc, s.sh.fp, fun e he => ?_, fun e he => ?_, by rw [keys]; exact s.sh.nd, fun a kvs h' k => ?_⟩, s.le, fun a v h' p w => ?_, fun a v h' => ?_, s.nw, fun e he => ?_⟩
  · rcases mem e he with rfl | ⟨he, ne⟩
    · exact ⟨o, upd_same, h⟩
    · obtain ⟨v, h1, h2⟩ := s.sh.mu e he
      exact ⟨v, by rw [upd_ne ne]; exact h1, h2⟩
  · rcases mem e he with rfl | ⟨he, ne⟩
    · exact ⟨nP, fun _ => nF⟩
    · exact s.sh.ow e he
  · have ne : a ≠ d := fun z => by rw [z, nF] at h'; exact nomatch h'
    rw [upd_ne ne]
    refine s.sh.fz a kvs h' fun e he z => ?_
    obtain ⟨i, hi⟩ := List.getElem?_of_mem he
    have hij : j ≠ i := fun y => by
      subst y
      rw [hj] at hi
      cases hi
      exact ne z.symm
    exact k e (List.mem_of_getElem? (i := i) (by rw [List.getElem?_set_ne hij]; exact hi)) z
  · have ne : a ≠ d := fun z => by
      subst z
      rcases s.mw _ hm with h2 | h2
      · exact w h2
      · rw [h'] at h2
        cases h2
    rw [upd_ne ne]
    exact s.keep a v h' p w
  · by_cases z : a = d
    · exact ⟨o, by rw [z]; exact upd_same⟩
    · obtain ⟨v', h2⟩ := s.dom a v h'
      exact ⟨v', by rw [upd_ne z]; exact h2⟩
  · rcases mem e he with rfl | ⟨he, ne⟩
    · exact s.mw (d, r) hm
    · exact s.mw e he
/-- a new object that may change -/
theorem Sa.new {d : Addr} {r : MRel} {o : HO} (s : Sa Ps B G M σ F H) (n : H d = none) (h : r.R F o) : Sa Ps B G ((d, r) :: M) σ F (upd H d o) := by
  have nP := s.sh.tb.not n
  have nF := s.sh.new_none n
  have nM : d ∉ M.map (·.1) := fun h => by
    obtain ⟨x, hx, rfl⟩ := List.mem_map.mp h
    obtain ⟨o, h1, _⟩ := s.sh.mu x hx
    rw [n] at h1
    cases h1
  have e := s.sh.new0 (o := o) n
  have s' := s.evo e
  refine ⟨s'.en, ⟨s'.sh.sub, s'.sh.tb, s'.sh.fp, fun x hx => ?_, fun x hx => ?_, List.nodup_cons.mpr ⟨nM, s.sh.nd⟩, fun a kvs h k => s'.sh.fz a kvs h fun x hx => k x (List.mem_cons_of_mem _ hx)⟩, s'.le, s'.keep, s'.dom, s'.nw, fun x hx => ?_⟩
  · rcases List.mem_cons.mp hx with rfl | hx
    · exact ⟨o, upd_same, h⟩
    · exact s'.sh.mu x hx
  · rcases List.mem_cons.mp hx with rfl | hx
    · exact ⟨nP, fun _ => nF⟩
    · exact s'.sh.ow x hx
  · rcases List.mem_cons.mp hx with rfl | hx
    · refine .inr ?_
      cases q : B.H0 d with
      | none => rfl
      | some o' =>
        obtain ⟨o2, h2⟩ := s.dom d o' q
        rw [n] at h2
        cases h2
    · exact s.mw x hx
/-- an object of M is told from now on -/
theorem Sa.frz {j : Nat} {d : Addr} {r : MRel} {o : HO} (s : Sa Ps B G M σ F H) (hj : M[j]? = some (d, r)) (ow : r.own = true) (nw : B.H0 d = none) (h : H d = some o) : Sa Ps B G (M.eraseIdx j) σ (upd F d o) H := by
  have hm : (d, r) ∈ M := List.mem_of_getElem? hj
  have nF := (s.sh.ow _ hm).2 ow
  have nP := (s.sh.ow _ hm).1
  have l : Le F (upd F d o) := fun a u e => by rw [upd_ne (ne_of_none e nF)]; exact e
  have mem : ∀ e ∈ M.eraseIdx j, e ∈ M ∧ e.1 ≠ d := fun e he => by
    obtain ⟨i, hi, he2⟩ := List.mem_eraseIdx_iff_getElem?.mp he
    refine ⟨List.mem_of_getElem? he2, fun z => hi ?_⟩
    have h1 : (M.map (·.1))[i]? = some d := by rw [List.getElem?_map, he2]; exact congrArg some z
    have h2 : (M.map (·.1))[j]? = some d := by rw [List.getElem?_map, hj]; rfl
    have hjl : j < (M.map (·.1)).length := (List.getElem?_eq_some_iff.mp h2).1
    exact (List.Nodup.getElem?_inj_ s.sh.nd hjl (h2.trans h1.symm)).symm
  refine ⟨s.en.mono l, ⟨fun a v h' => ?_, s.sh.tb, fun a ha => ?_, fun e he => ?_, fun e he => ?_, ?_, fun a kvs h' k => ?_⟩, s.le.trans l, s.keep, s.dom, fun a v h' => ?_, fun e he => s.mw e (mem e he).1⟩
  · by_cases z : a = d
    · subst z
      rw [upd_same] at h'
      cases h'
      exact .inl h
    · rw [upd_ne z] at h'
      exact s.sh.sub a v h'
  · rw [upd_ne (fun z => nP (by rw [← z]; exact ha))]
    exact s.sh.fp a ha
  · obtain ⟨v, h1, h2⟩ := s.sh.mu e (mem e he).1
    exact ⟨v, h1, e.2.mono _ _ _ l h2⟩
  · exact ⟨(s.sh.ow e (mem e he).1).1, fun w => by rw [upd_ne (mem e he).2]; exact (s.sh.ow e (mem e he).1).2 w⟩
  · exact s.sh.nd.sublist ((List.eraseIdx_sublist ..).map _)
  · by_cases z : a = d
    · subst z
      rw [upd_same] at h'
      rw [h]
      exact h'
    · rw [upd_ne z] at h'
      refine s.sh.fz a kvs h' fun e he y => ?_
      obtain ⟨i, hi⟩ := List.getElem?_of_mem he
      have hij : i ≠ j := fun x => by
        subst x
        rw [hj] at hi
        cases hi
        exact z y.symm
      exact k e (List.mem_eraseIdx_iff_getElem?.mpr ⟨i, hij, hi⟩) y
  · by_cases z : a = d
    · subst z
      exact .inr nw
    · rw [upd_ne z] at h'
      exact s.nw a v h'
end
end RP

-- RPf
set_option maxRecDepth 100000
set_option maxHeartbeats 4000000
namespace RP
open PySem PySem.Spec PyProof.Rows L2
open Rp (rp)
section
variable {Ps : Tbs} {B B' B'' : Bs} {M M' L : Mu} {G G' : Gm} {K : PySem.W.Frag} {ta tb tc te : TE} {t u : TS} {D : L2.Ends} {tt tu : TT} {R Ra Rb R' : VRel} {F H F' H' : Hp} {wi : TI} {n : Nat} {Rs : Nat → VRel} {g : TG} {vs sl : List Nat} {σ : L2.St} {k : L2.St → Hp → Prop}
theorem GLe.refl : GLe G G := ⟨rfl, fun i R' e => ⟨R', e, fun _ _ h => h⟩⟩
/-- B' says more than B -/
def BLe (Ps : Tbs) (B' B : Bs) : Prop := ∀ G M σ F H, Sa Ps B' G M σ F H → Sa Ps B G M σ F H
theorem BLe.refl : BLe Ps B B := fun _ _ _ _ _ s => s
theorem BLe.trans (a : BLe Ps B'' B') (b : BLe Ps B' B) : BLe Ps B'' B := fun _ _ _ _ _ s => b _ _ _ _ _ (a _ _ _ _ _ s)
theorem BLe.up (s : Sa Ps B G M σ F H) : BLe Ps ⟨F, B.H0, B.W⟩ B := fun G' M' σ' F' H' s' => ⟨s'.en, s'.sh, s.le.trans s'.le, s'.keep, s'.dom, fun a o h => by
  rcases s'.nw a o h with h | h
  · exact s.nw a o h
  · exact .inr h, s'.mw⟩
theorem Sa.up (s : Sa Ps B G M σ F H) : Sa Ps ⟨F, B.H0, B.W⟩ G M σ F H := ⟨s.en, s.sh, Le.refl F, s.keep, s.dom, fun a o h => .inl h, s.mw⟩
/-- for g in wi: Iv, Gf, Mf by the turn and c; γ tells more of each item -/
theorem Nx.for0 {γ δ : Type} (hi : Ei Ps G M L wi n Rs) (Iv : Nat → δ → Prop) (Gf : Nat → δ → Gm) (Mf : Nat → δ → Mu) (hL : ∀ i c, Iv i c → ∀ e ∈ L, e ∈ Mf i c) (Pg : Nat → γ → Prop) (Rg : Nat → γ → VRel) (hx : ∀ i, i < n → ∀ F v, (Rs i).R F v → ∃ c, Pg i c ∧ (Rg i c).R F v)
    (c0 : δ) (i0 : Iv 0 c0) (g0 : GLe G (Gf 0 c0)) (m0 : M = Mf 0 c0) (Gb : Nat → δ → γ → Gm) (hg : ∀ i c x, i < n → Iv i c → Pg i x → Eg Ps (Gf i c) (Mf i c) g (Rg i x) (Gb i c x) sl)
    (hb : ∀ B', BLe Ps B' B → ∀ i c x, i < n → Iv i c → Pg i x → ∀ N : L2.St → Hp → Prop, (∀ c', Iv (i + 1) c' → Nx Ps B' (Gf (i + 1) c') (Mf (i + 1) c') N) → Nx Ps B' (Gb i c x) (Mf i c) (t { D with nx := N, ct := N, bk := D.nx }))
    (hd : ∀ c, Iv n c → Nx Ps B (Gf n c) (Mf n c) D.nx) : Nx Ps B G M (tFor wi g t D) := fun σ F H s => hi σ F H _ s.en s.sh fun J F1 H1 e1 wk => by
  have s1 := s.evo e1
  have dn := BLe.up s1
  refine ⟨fun i m σ' H' => m = n - i ∧ i ≤ n ∧ ∃ c F', Iv i c ∧ Sa Ps ⟨F1, B.H0, B.W⟩ (Gf i c) (Mf i c) σ' F' H', ⟨n, rfl, Nat.zero_le _, c0, F1, i0, by
    have := s1.up.env (s1.en.le g0)
    rw [m0] at this
    exact this⟩, ?_⟩
  rintro i m σ' H' ⟨rfl, hin, c, F', iv, s2⟩
  by_cases hlt : i < n
  · refine .inr ⟨wk.goes _ i F' H' (hL i c iv) hlt s2.le s2.sh, fun σ'' H'' => ∃ c F', Iv (i + 1) c ∧ Sa Ps ⟨F1, B.H0, B.W⟩ (Gf (i + 1) c) (Mf (i + 1) c) σ'' F' H'', fun σ'' H'' h => ⟨n - (i + 1), by omega, rfl, hlt, h⟩, fun x H3 y => ?_⟩
    obtain ⟨F3, e3, r3⟩ := wk.yields _ i F' H' x H3 (hL i c iv) hlt s2.le s2.sh y
    obtain ⟨q, pq, rq⟩ := hx i hlt F3 x r3
    have s3 := s2.evo e3
    exact hg i c q hlt iv pq x σ' F3 H3 _ s3.en s3.sh rq fun σ4 en _ _ => hb _ dn i c q hlt iv pq _ (fun c' iv' σ5 F5 H5 s5 => ⟨c', F5, iv', s5⟩) σ4 F3 H3 (s3.env en)
  · have ei : i = n := by omega
    subst ei
    exact .inl ⟨wk.stops _ F' H' (hL i c iv) s2.le s2.sh, hd c iv σ' F' H' (dn _ _ _ _ _ s2)⟩
theorem Nx.while0 {δ : Type} (Iv : δ → Prop) (μ : δ → Nat) (Gf : δ → Gm) (Mf : δ → Mu) (c0 : δ) (i0 : Iv c0) (g0 : GLe G (Gf c0)) (m0 : M = Mf c0) {P : δ → Bool → Prop} (ht : ∀ c, Iv c → Et Ps (Gf c) (Mf c) tt (P c))
    (hb : ∀ c, Iv c → P c true → ∀ N : L2.St → Hp → Prop, (∀ c', Iv c' → μ c' < μ c → Nx Ps B (Gf c') (Mf c') N) → Nx Ps B (Gf c) (Mf c) (t { D with nx := N, ct := N, bk := D.nx }))
    (hd : ∀ c, Iv c → P c false → Nx Ps B (Gf c) (Mf c) D.nx) : Nx Ps B G M (tWhile tt t D) := fun σ F H s => by
  refine ⟨fun m σ H => ∃ c F, Iv c ∧ m = μ c ∧ Sa Ps B (Gf c) (Mf c) σ F H, ⟨_, c0, F, i0, rfl, by
    have := s.env (s.en.le g0)
    rw [m0] at this
    exact this⟩, ?_⟩
  rintro m σ H ⟨c, F, iv, rfl, s⟩
  refine ht c iv σ F H _ s.en s.sh fun b F' H' e p => ?_
  cases b with
  | true => exact ⟨fun σ' H' => ∃ c' F, Iv c' ∧ μ c' < μ c ∧ Sa Ps B (Gf c') (Mf c') σ' F H', fun σ' H' ⟨c', F, iv', lt, s'⟩ => ⟨_, lt, c', F, iv', rfl, s'⟩, hb c iv p _ (fun c' iv' lt σ' F' H' s' => ⟨c', F', iv', lt, s'⟩) σ F' H' (s.evo e)⟩
  | false => exact hd c iv p σ F' H' (s.evo e)
/-! ### calls -/
/-- what a def that changes nothing promises; er: what it raises -/
def Spx {γ : Type} (Ps : Tbs) (Rs : γ → List VRel) (pre : γ → Prop) (R : γ → VRel) (er : γ → Option Addr) : Sp := fun vs H Q E => ∃ c F, Sh Ps [] F H ∧ pre c ∧ RsOk F (Rs c) vs ∧ (er c = none → ∀ v F' H', Evo Ps [] F H F' H' → (R c).R F' v → Q v H') ∧ ∀ a, er c = some a → ∀ F' H', Evo Ps [] F H F' H' → E (.ref a) none H'
theorem Oc.spx {γ : Type} (ow : ∀ e ∈ M, e.2.own = true) {Rs : γ → List VRel} {pre : γ → Prop} {R : γ → VRel} {er : γ → Option Addr} {E : XK} (c : γ) (p : pre c) (e : er c = none) : Oc Ps M (fun vs H Q => Spx Ps Rs pre R er (vs ++ []) H Q E) (Rs c) (R c) := fun F H vs Q s r q => by
  show Spx Ps Rs pre R er (vs ++ []) H Q E
  rw [List.append_nil]
  exact ⟨c, F, s.bare ow, p, r, fun _ v F' H' ev rr => q v F' H' (Evo.of_bare s ev) rr, fun a ha => by rw [e] at ha; cases ha⟩
theorem Ev.callx {γ : Type} {Rs : γ → List VRel} {pre : γ → Prop} {R : γ → VRel} {er : γ → Option Addr} {E : XK} {t : TA} (ow : ∀ e ∈ M, e.2.own = true) (c : γ) (ha : Ea Ps G M t (Rs c)) (p : pre c) (e : er c = none) : Ev Ps G M (tCall (Spx Ps Rs pre R er) [] E t) (R c) := Ev.call ha (Oc.spx ow c p e)
def startG (N : List Str) (Rs : List VRel) : Gm := Rs.map some ++ List.replicate (N.length - Rs.length) none
theorem EnvOk.start {N : List Str} {Rs : List VRel} {us : List V} (h : RsOk F Rs us) : EnvOk F (L2.start N us) (startG N Rs) := by
  have ln := Paired.length h
  refine ⟨by unfold L2.start startG; rw [List.length_append, List.length_append, List.length_map, List.length_map, List.length_replicate, List.length_replicate, ln], fun i R e => ?_⟩
  unfold startG at e
  by_cases hi : i < Rs.length
  · rw [List.getElem?_append_left (by rw [List.length_map]; exact hi), List.getElem?_map, List.getElem?_eq_getElem hi] at e
    have e := Option.some.inj (Option.some.inj e)
    subst e
    refine ⟨us[i]'(by omega), ?_, Paired.get? h (by rw [List.getElem?_eq_getElem hi]) (by rw [List.getElem?_eq_getElem (by omega)])⟩
    unfold L2.start
    rw [List.getElem?_append_left (by rw [List.length_map]; omega), List.getElem?_map, List.getElem?_eq_getElem (by omega)]
    rfl
  · rw [List.getElem?_append_right (by rw [List.length_map]; omega), List.getElem?_replicate] at e
    split at e <;> cases e
theorem Sa.start {N : List Str} {Rs : List VRel} {us : List V} (s : Sh Ps M F H) (h : RsOk F Rs us) : Sa Ps ⟨F, H, fun a => a ∈ M.map (·.1)⟩ (startG N Rs) M (L2.start N us) F H :=
  ⟨EnvOk.start h, s, Le.refl F, fun _ _ e _ _ => e, fun a o e => ⟨o, e⟩, fun a o e => .inl e, fun e he => .inl (List.mem_map.mpr ⟨e, he, rfl⟩)⟩
theorem Fin.evo0 {F0 H0 : Hp} (f : Fin Ps ⟨F0, H0, fun a => a ∈ ([] : Mu).map (·.1)⟩ F H) : Evo Ps [] F0 H0 F H := ⟨f.le, f.sub, fun a o h p _ => f.keep a o h p (fun z => nomatch z), f.nw, f.tb, (fun _ h => nomatch h), fun a kvs h _ => f.fz a kvs h⟩
end
section
variable {P : Program} {w : World} {K : PySem.W.Frag} {mg : Str → Option Value} {base : Heap} {Ps : Tbs}
/-- a def keeps its promise: its body by rules, then from the slots -/
theorem Fun.okP {γ : Type} {x qual : Str} {st : Stmt} {f : Addr} {fd : FuncData} {N ps : List Str} {k : Nat} {Rs : γ → List VRel} {pre : γ → Prop} {R : γ → VRel} {er : γ → Option Addr} (Fn : L2.Fun K x qual st f fd) (S : FnScope N ps (defScope st)) (len : ∀ c, (Rs c).length = ps.length)
    (hbody : ∀ (cdv : Value) (A : Around) (outer : List Env) (s : Shared) (H0 : Hp) (E : XK), Room k (A.deeper (envOfC qual (defScope st) s.heap.objs.size f cdv)) →
      ∃ t, PSs (cxOf (L2.CX P w) P w K mg base N qual (defScope st) f cdv A outer s H0 E) (defBody st) t ∧ ∀ (c : γ) (B : Bs) (D : L2.Ends), pre c → (er c = none → ∀ v G M σ F H, (∀ e ∈ M, e.2.own = true) → Sa Ps B G M σ F H → (R c).R F v → D.rt v H) → (∀ a, er c = some a → ∀ G M σ F H, (∀ e ∈ M, e.2.own = true) → Sa Ps B G M σ F H → E (.ref a) none H) →
        (er c = none → ∀ G M σ F H, (∀ e ∈ M, e.2.own = true) → Sa Ps B G M σ F H → (R c).R F .non → D.nx σ H) → Nx Ps B (startG N (Rs c)) [] (t D)) : FnOk P w K mg base (L2.CX P w) (k + 1) f fd ps (Spx Ps Rs pre R er) := by
  refine L2.Fun.okX Fn S (fun vs H Q E h => ?_) (fun cdv A outer s H vs Q E hr h => ?_)
  · obtain ⟨c, F, _, _, r, _⟩ := h
    rw [← Paired.length r, len]
  · obtain ⟨c, F, sh, p, r, q, e⟩ := h
    obtain ⟨t, ht, h⟩ := hbody cdv A outer s H E hr
    exact ⟨t, ht, h c ⟨F, H, fun a => a ∈ ([] : Mu).map (·.1)⟩ _ p (fun hn v G M σ F' H' ow s' rr => q hn v F' H' (s'.fin ow).evo0 rr) (fun a ha G M σ F' H' ow s' => e a ha F' H' (s'.fin ow).evo0) (fun hn G M σ F' H' ow s' rr => q hn .non F' H' (s'.fin ow).evo0 rr) _ F H (Sa.start sh r)⟩
end
end RP

-- RPg
set_option maxRecDepth 100000
set_option maxHeartbeats 4000000
namespace RP
open PySem PySem.Spec PyProof.Rows L2
open Rp (rp)
/-- a list, a table that may change -/
def LstM (K : PySem.W.Frag) {α : Type} [Rp α] (xs : List α) : MRel := ⟨fun F o => ∃ vs, o = .lst vs ∧ Ps2 K F vs xs, fun F F' o l ⟨vs, e, h⟩ => ⟨vs, e, h.mono l⟩, true, fun _ _ ⟨_, e, _⟩ φ z => by rw [e] at z; cases z⟩
def DicM (K : PySem.W.Frag) {κ α : Type} [Ky κ] [Rp α] (l : List (κ × α)) : MRel := ⟨fun F o => ∃ kv, o = .dK kv ∧ Kvs K F kv l, fun F F' o l' ⟨kv, e, h⟩ => ⟨kv, e, h.mono l'⟩, true, fun _ _ ⟨_, e, _⟩ φ z => by rw [e] at z; cases z⟩
/-- what stands is that -/
def EqM (o0 : HO) (w : Bool) (nc : ∀ φ, o0 ≠ .ext φ) : MRel := ⟨fun _ o => o = o0, fun _ _ _ _ h => h, w, fun _ _ e φ z => nc φ (e.symm.trans z)⟩
def DiceM : MRel := ⟨fun _ o => ∃ a b c : Int, o = .lst [.int a, .int b, .int c], fun _ _ _ _ h => h, true, fun _ _ ⟨_, _, _, e⟩ φ z => by rw [e] at z; cases z⟩
section
variable {Ps : Tbs} {B : Bs} {M L : Mu} {G G' : Gm} {K : PySem.W.Frag} {ta tb tc te td ty tv : TE} {t u : TS} {D : L2.Ends} {tt tu : TT} {R Ra Rb R' : VRel} {F H F' H' : Hp} {g : TG} {σ : L2.St} {k : L2.St → Hp → Prop}
/-- R tells a list of xs, that stands or may change -/
def Ls (Ps : Tbs) (M : Mu) (K : PySem.W.Frag) (R : VRel) {α : Type} [Rp α] (xs : List α) : Prop := ∀ F H v, Sh Ps M F H → R.R F v → ∃ a vs, v = .ref a ∧ H a = some (.lst vs) ∧ Ps2 K F vs xs
def Sq (Ps : Tbs) (M : Mu) (K : PySem.W.Frag) (R : VRel) {α : Type} [Rp α] (xs : List α) : Prop := ∀ F H v, Sh Ps M F H → R.R F v → ∃ a vs, v = .ref a ∧ (SqL K H a vs ∨ SqT K H a vs) ∧ Ps2 K F vs xs
def Ds (Ps : Tbs) (M : Mu) (K : PySem.W.Frag) (R : VRel) {κ α : Type} [Ky κ] [Rp α] (l : List (κ × α)) : Prop := ∀ F H v, Sh Ps M F H → R.R F v → ∃ a kv, v = .ref a ∧ Rd H a (.dK kv) ∧ Kvs K F kv l
theorem Ls.fz {α : Type} [Rp α] {xs : List α} : Ls Ps M K (Is K xs) xs := fun F H v s ⟨a, vs, e, h, p⟩ => ⟨a, vs, e, s.sub.lst h, p⟩
theorem Ls.mu {α : Type} [Rp α] {xs : List α} {a : Addr} (h : (a, LstM K xs) ∈ M) : Ls Ps M K (At a) xs := fun F H v s e => by
  obtain ⟨o, h1, vs, rfl, p⟩ := s.mu _ h
  exact ⟨a, vs, e, h1, p⟩
theorem Ls.sq {α : Type} [Rp α] {xs : List α} (h : Ls Ps M K R xs) : Sq Ps M K R xs := fun F H v s r => by
  obtain ⟨a, vs, e, h1, p⟩ := h F H v s r
  exact ⟨a, vs, e, .inl (SqL.of h1), p⟩
theorem Sq.tl {α : Type} [Rp α] {xs : Tl α} : Sq Ps M K (Is K xs) xs.l := fun F H v s ⟨a, vs, e, h, p⟩ => ⟨a, vs, e, .inr (s.sub.sqT h), p⟩
theorem Ds.fz {κ α : Type} [Ky κ] [Rp α] {l : Dc κ α} : Ds Ps M K (Is K l) l.l := fun F H v s ⟨a, kv, e, h, p⟩ => ⟨a, kv, e, s.sub.rdK h, p⟩
theorem Ds.mu {κ α : Type} [Ky κ] [Rp α] {l : List (κ × α)} {a : Addr} (h : (a, DicM K l) ∈ M) : Ds Ps M K (At a) l := fun F H v s e => by
  obtain ⟨o, h1, kv, rfl, p⟩ := s.mu _ h
  exact ⟨a, kv, e, .inl h1, p⟩
theorem Ds.lk {κ α : Type} [Ky κ] [Rp α] {l : List (κ × α)} {a : Addr} {od : Obj} {kv : List (Key × V)} {nc : ∀ φ, HO.frz od (.dK kv) ≠ .ext φ} (h : (a, EqM (.frz od (.dK kv)) false nc) ∈ M) (p : ∀ F H, Sh Ps M F H → Kvs K F kv l) : Ds Ps M K (At a) l := fun F H v s e => by
  obtain ⟨o, h1, rfl⟩ := s.mu _ h
  exact ⟨a, kv, e, .inr ⟨od, h1⟩, p F H s⟩
/-! ### tables -/
def lookD {κ α : Type} [DecidableEq κ] (l : List (κ × α)) (k : κ) : Option α := (l.find? fun e => decide (e.1 = k)).map (·.2)
class KyR (κ : Type) [Ky κ] [Rp κ] : Prop where
  r : ∀ K F (v : V) (x : κ), rp K F v x ↔ v = kV (Ky.key x)
instance : KyR Str := ⟨fun _ _ _ _ => Iff.rfl⟩
instance : KyR Int := ⟨fun _ _ _ _ => Iff.rfl⟩
instance : KyR Nat := ⟨fun _ _ _ _ => Iff.rfl⟩
theorem Kvs.val {κ α : Type} [Ky κ] [DecidableEq κ] [Rp α] {kv : List (Key × V)} {l : List (κ × α)} (h : Kvs K F kv l) (k : κ) : (lookD l k = none ∧ valV kv (Ky.key k) = none) ∨ ∃ x v, lookD l k = some x ∧ valV kv (Ky.key k) = some v ∧ rp K F v x := by
  unfold Kvs at h
  induction h with
  | nil => exact .inl ⟨rfl, rfl⟩
  | @cons a b l1 l2 r t ih =>
    obtain ⟨e, r⟩ := r
    by_cases hk : b.1 = k
    · refine .inr ⟨b.2, a.2, ?_, ?_, r⟩
      · simp [lookD, hk]
      · simp [valV, e, hk]
    · have hk' : ¬ a.1 = Ky.key k := fun z => hk (Ky.inj _ _ (e.symm.trans z))
      have e1 : lookD (b :: l2) k = lookD l2 k := by simp [lookD, hk]
      have e2 : valV (a :: l1) (Ky.key k) = valV l1 (Ky.key k) := by simp [valV, hk']
      rw [e1, e2]
      exact ih
theorem Ev.dget {κ α : Type} [Ky κ] [Rp κ] [KyR κ] [DecidableEq κ] [Rp α] {l : List (κ × α)} {k : κ} {x : α} (hd : Ev Ps G M td R) (hs : Ds Ps M K R l) (hk : Ev Ps G M ty (Is K k)) (e : lookD l k = some x) : Ev Ps G M (tDGet td ty) (Is K x) := fun σ F H Q en s q =>
  hd σ F H _ en s fun v F1 H1 e1 r1 => hk σ F1 H1 _ (en.mono e1.le) (s.evo e1) fun w F2 H2 e2 r2 => by
    have s2 := (s.evo e1).evo e2
    obtain ⟨a, kv, rfl, h, p⟩ := hs F2 H2 v s2 (R.mono _ _ _ e2.le r1)
    rcases p.val k with ⟨z, _⟩ | ⟨x', v', h1, h2, r⟩
    · rw [e] at z; cases z
    · rw [e] at h1
      cases h1
      exact ⟨a, v', rfl, .inl ⟨kv, Ky.key k, h, (KyR.r ..).mp r2, h2.symm⟩, q _ F2 H2 (e1.trans e2) r⟩
theorem Ev.din {κ α : Type} [Ky κ] [Rp κ] [KyR κ] [DecidableEq κ] [Rp α] {l : List (κ × α)} {k : κ} (hk : Ev Ps G M ty (Is K k)) (hd : Ev Ps G M td R) (hs : Ds Ps M K R l) : Ev Ps G M (tDIn ty td) (Is K (lookD l k).isSome) := fun σ F H Q en s q =>
  hk σ F H _ en s fun w F1 H1 e1 r1 => hd σ F1 H1 _ (en.mono e1.le) (s.evo e1) fun v F2 H2 e2 r2 => by
    have s2 := (s.evo e1).evo e2
    obtain ⟨a, kv, rfl, h, p⟩ := hs F2 H2 v s2 r2
    refine ⟨a, _, rfl, .inl ⟨kv, Ky.key k, h, (KyR.r ..).mp r1, rfl⟩, q _ F2 H2 (e1.trans e2) ?_⟩
    rcases p.val k with ⟨z, z2⟩ | ⟨x', v', h1, h2, r⟩
    · rw [z, z2]; rfl
    · rw [h1, h2]; rfl
theorem Ev.dnotin {κ α : Type} [Ky κ] [Rp κ] [KyR κ] [DecidableEq κ] [Rp α] {l : List (κ × α)} {k : κ} (hk : Ev Ps G M ty (Is K k)) (hd : Ev Ps G M td R) (hs : Ds Ps M K R l) : Ev Ps G M (tDNotIn ty td) (Is K (!(lookD l k).isSome)) := fun σ F H Q en s q =>
  hk σ F H _ en s fun w F1 H1 e1 r1 => hd σ F1 H1 _ (en.mono e1.le) (s.evo e1) fun v F2 H2 e2 r2 => by
    have s2 := (s.evo e1).evo e2
    obtain ⟨a, kv, rfl, h, p⟩ := hs F2 H2 v s2 r2
    refine ⟨a, _, rfl, .inl ⟨kv, Ky.key k, h, (KyR.r ..).mp r1, rfl⟩, q _ F2 H2 (e1.trans e2) ?_⟩
    rcases p.val k with ⟨z, z2⟩ | ⟨x', v', h1, h2, r⟩
    · rw [z, z2]; rfl
    · rw [h1, h2]; rfl
def putD {κ α : Type} [DecidableEq κ] (l : List (κ × α)) (k : κ) (x : α) : List (κ × α) := if l.any (fun e => decide (e.1 = k)) then l.map fun e => if e.1 = k then (k, x) else e else l ++ [(k, x)]
theorem Paired.map_ {α β γ δ : Type} {P : α → β → Prop} {Q : γ → δ → Prop} {f : α → γ} {g : β → δ} : ∀ {l : List α} {r : List β}, Paired P l r → (∀ x y, P x y → Q (f x) (g y)) → Paired Q (l.map f) (r.map g)
  | _, _, .nil, _ => .nil
  | _, _, .cons h t, k => .cons (k _ _ h) (Paired.map_ t k)
theorem Kvs.any {κ α : Type} [Ky κ] [DecidableEq κ] [Rp α] {kv : List (Key × V)} {l : List (κ × α)} (h : Kvs K F kv l) (k : κ) : (kv.any fun e => decide (e.1 = Ky.key k)) = l.any fun e => decide (e.1 = k) := by
  unfold Kvs at h
  induction h with
  | nil => rfl
  | @cons a b l1 l2 r t ih =>
    rw [List.any_cons, List.any_cons, ih]
    congr 1
    exact decide_eq_decide.mpr ⟨fun z => Ky.inj _ _ (r.1.symm.trans z), fun z => by rw [r.1, z]⟩
theorem Kvs.put {κ α : Type} [Ky κ] [DecidableEq κ] [Rp α] {kv : List (Key × V)} {l : List (κ × α)} {k : κ} {x : α} {v : V} (h : Kvs K F kv l) (r : rp K F v x) : Kvs K F (putK kv (Ky.key k) v) (putD l k x) := by
  unfold putK putD
  rw [h.any k]
  split
  · refine Paired.map_ h fun a b ⟨e, r'⟩ => ?_
    by_cases z : b.1 = k
    · rw [if_pos (by rw [e, z]), if_pos z]
      exact ⟨by rw [e, z], r⟩
    · rw [if_neg (fun z' => z (Ky.inj _ _ (e.symm.trans z'))), if_neg z]
      exact ⟨e, r'⟩
  · exact Paired.snoc h ⟨rfl, r⟩
theorem Nx.dput {κ α : Type} [Ky κ] [Rp κ] [KyR κ] [DecidableEq κ] [Rp α] {l : List (κ × α)} {k : κ} {x : α} {j : Nat} {a : Addr} (hv : Ev Ps G M tv (Is K x)) (hd : Ev Ps G M td (At a)) (hy : Ev Ps G M ty (Is K k)) (hj : M[j]? = some (a, DicM K l)) (ln : l.length ≤ 100000) (nx : Nx Ps B G (M.set j (a, DicM K (putD l k x))) D.nx) : Nx Ps B G M (sDPut td ty tv D) := fun σ F H s =>
  hv σ F H _ s.en s.sh fun v F1 H1 e1 r1 => hd σ F1 H1 _ (s.en.mono e1.le) (s.sh.evo e1) fun d F2 H2 e2 r2 => hy σ F2 H2 _ ((s.en.mono e1.le).mono e2.le) ((s.sh.evo e1).evo e2) fun y F3 H3 e3 r3 => by
    have s3 := ((s.evo e1).evo e2).evo e3
    cases r2
    obtain ⟨o, h1, kv, rfl, p⟩ := s3.sh.mu _ (List.mem_of_getElem? hj)
    have ek := (KyR.r ..).mp r3
    subst ek
    have ll := Paired.length p
    refine ⟨a, _, rfl, DPut.k h1 (by have : 200000 ≤ sizeLine := by decide
                                     omega), nx σ F3 _ (s3.wr hj rfl ⟨_, rfl, p.put (Rp.mono K _ _ _ _ (e2.le.trans e3.le) r1)⟩)⟩
/-- x.append(e) -/
theorem Nx.app {α : Type} [Rp α] {xs : List α} {x : α} {j : Nat} {a : Addr} (hd : Ev Ps G M td (At a)) (hx : Ev Ps G M te (Is K x)) (hj : M[j]? = some (a, LstM K xs)) (ln : xs.length ≤ 100000) (nx : Nx Ps B G (M.set j (a, LstM K (xs ++ [x]))) D.nx) : Nx Ps B G M (tDrop (tBM K "list" rAppend td (tCons te tNil)) D) := fun σ F H s =>
  hd σ F H _ s.en s.sh fun d F1 H1 e1 r1 => by
    cases r1
    obtain ⟨o, h1, vs, rfl, p⟩ := (s.sh.evo e1).mu _ (List.mem_of_getElem? hj)
    refine ⟨.inl ⟨rfl, _, SqL.of h1⟩, hx σ F1 H1 _ (s.en.mono e1.le) (s.sh.evo e1) fun y F2 H2 e2 r2 => ?_⟩
    have s2 := (s.evo e1).evo e2
    obtain ⟨o, h1, vs, rfl, p⟩ := s2.sh.mu _ (List.mem_of_getElem? hj)
    have ll := Paired.length p
    exact ⟨a, vs, y, rfl, rfl, h1, by have : 200000 ≤ sizeLine := by decide
                                      omega, nx σ F2 _ (s2.wr hj rfl ⟨_, rfl, p.snoc r2⟩)⟩
/-- x = [], x = {}: what may change -/
theorem Nx.newL {α : Type} [Rp α] {i : Nat} (nx : ∀ a, Nx Ps B (G.set i (some (At a))) ((a, LstM K ([] : List α)) :: M) D.nx) : Nx Ps B G M (tAsg (tLst tNil) (gName i) D) := fun σ F H s =>
  ⟨Nat.zero_le _, fun p hp => nx p _ F _ (((s.new (r := LstM K ([] : List α)) hp ⟨_, rfl, .nil⟩)).env (s.en.set rfl))⟩
theorem Nx.newD {κ α : Type} [Ky κ] [Rp α] {i : Nat} (nx : ∀ a, Nx Ps B (G.set i (some (At a))) ((a, DicM K ([] : List (κ × α))) :: M) D.nx) : Nx Ps B G M (tAsg tDNewK (gName i) D) := fun σ F H s =>
  fun p hp => nx p _ F _ (((s.new (r := DicM K ([] : List (κ × α))) hp ⟨_, rfl, .nil⟩)).env (s.en.set rfl))
end
end RP

-- RPh
set_option maxRecDepth 100000
set_option maxHeartbeats 4000000
namespace RP
open PySem PySem.Spec PyProof.Rows L2
open Rp (rp)
section
variable {Ps : Tbs} {B : Bs} {M L : Mu} {G G' : Gm} {K : PySem.W.Frag} {ta tb tc te td ty tv : TE} {t u : TS} {D : L2.Ends} {tt tu : TT} {R Ra Rb R' : VRel} {F H F' H' : Hp} {g : TG} {σ : L2.St} {k : L2.St → Hp → Prop} {α β κ : Type} [Rp α] [Rp β] [Ky κ] [Rp κ]
theorem rs1 {vs : List V} (h : RsOk F [R] vs) : ∃ v, vs = [v] ∧ R.R F v := by
  cases h with
  | cons a t => cases t; exact ⟨_, rfl, a⟩
theorem rs2 {vs : List V} (h : RsOk F [Ra, Rb] vs) : ∃ v w, vs = [v, w] ∧ Ra.R F v ∧ Rb.R F w := by
  cases h with
  | cons a t => cases t with
    | cons b t => cases t; exact ⟨_, _, rfl, a, b⟩
theorem rs3 {Rc : VRel} {vs : List V} (h : RsOk F [Ra, Rb, Rc] vs) : ∃ v w x, vs = [v, w, x] ∧ Ra.R F v ∧ Rb.R F w ∧ Rc.R F x := by
  cases h with
  | cons a t => cases t with
    | cons b t => cases t with
      | cons c t => cases t; exact ⟨_, _, _, rfl, a, b, c⟩
/-- a new list of what is told -/
theorem Evo.newL (s : Sh Ps M F H) {vs : List V} {xs : List α} (p : Ps2 K F vs xs) {l : Addr} (hl : H l = none) : Evo Ps M F H (upd F l (.lst vs)) (upd H l (.lst vs)) ∧ (Is K xs).R (upd F l (.lst vs)) (.ref l) :=
  have e := s.new (o := .lst vs) hl
  ⟨e, l, vs, rfl, upd_same, p.mono e.le⟩
theorem Evo.newT (s : Sh Ps M F H) {vs : List V} {xs : List α} (p : Ps2 K F vs xs) {l : Addr} (hl : H l = none) : Evo Ps M F H (upd F l (.tup vs)) (upd H l (.tup vs)) ∧ (Is K (Tl.mk xs)).R (upd F l (.tup vs)) (.ref l) :=
  have e := s.new (o := .tup vs) hl
  ⟨e, l, vs, rfl, SqT.of upd_same, p.mono e.le⟩
theorem Evo.newD (s : Sh Ps M F H) {kv : List (Key × V)} {xs : List (κ × α)} (p : Kvs K F kv xs) {l : Addr} (hl : H l = none) : Evo Ps M F H (upd F l (.dK kv)) (upd H l (.dK kv)) ∧ (Is K (Dc.mk xs)).R (upd F l (.dK kv)) (.ref l) :=
  have e := s.new (o := .dK kv) hl
  ⟨e, l, kv, rfl, upd_same, p.mono e.le⟩
/-! ### built-ins -/
theorem oc_len {xs : List α} (h : Sq Ps M K R xs) : Oc Ps M (fun vs H Q => ∃ p ys, vs = [.ref p] ∧ (SqL K H p ys ∨ SqT K H p ys) ∧ Q (.int ys.length) H) [R] (Is K xs.length) := fun F H vs Q s r q => by
  obtain ⟨v, ev, rr⟩ := rs1 r
  subst ev
  replace r := rr
  clear rr
  obtain ⟨a, ws, rfl, h1, p⟩ := h F H v s r
  refine ⟨a, ws, rfl, h1, q _ F H s.refl ?_⟩
  show V.int _ = V.int _
  rw [Paired.length p]
theorem oc_lenS {z : Str} (h : z.length ≤ 100000) : Oc Ps M (fun vs H Q => ∃ z, vs = [.str z] ∧ z.length ≤ sizeLine ∧ Q (.int z.length) H) [Is K z] (Is K z.length) := fun F H vs Q s r q => by
  obtain ⟨v, ev, rr⟩ := rs1 r
  subst ev
  replace r := rr
  clear rr
  cases r
  exact ⟨z, rfl, Nat.le_trans h (by decide), q _ F H s.refl rfl⟩
theorem oc_lenD {l : List (κ × α)} {a : Addr} (h : (a, DicM K l) ∈ M) : Oc Ps M (fun vs H Q => ∃ a kvs, vs = [V.ref a] ∧ H a = some (.dK kvs) ∧ Q (.int kvs.length) H) [At a] (Is K l.length) := fun F H vs Q s r q => by
  obtain ⟨v, ev, rr⟩ := rs1 r
  subst ev
  replace r := rr
  clear rr
  cases r
  obtain ⟨o, h1, kv, rfl, p⟩ := s.mu _ h
  refine ⟨a, kv, rfl, h1, q _ F H s.refl ?_⟩
  show V.int _ = V.int _
  rw [Paired.length p]
theorem oc_list {xs : List α} (h : Sq Ps M K R xs) : Oc Ps M (fun vs H Q => ∃ p ys, vs = [.ref p] ∧ (SqL K H p ys ∨ SqT K H p ys) ∧ ∀ l, H l = none → Q (.ref l) (upd H l (.lst ys))) [R] (Is K xs) := fun F H vs Q s r q => by
  obtain ⟨v, ev, rr⟩ := rs1 r
  subst ev
  replace r := rr
  clear rr
  obtain ⟨a, ws, rfl, h1, p⟩ := h F H v s r
  exact ⟨a, ws, rfl, h1, fun l hl => q _ _ _ (Evo.newL s p hl).1 (Evo.newL s p hl).2⟩
theorem oc_tuple {xs : List α} (h : Ls Ps M K R xs) : Oc Ps M (fun vs H Q => ∃ p ys, vs = [.ref p] ∧ ((SqL K H p ys ∧ ∀ l, H l = none → Q (.ref l) (upd H l (.tup ys))) ∨ (SqT K H p ys ∧ Q (.ref p) H))) [R] (Is K (Tl.mk xs)) := fun F H vs Q s r q => by
  obtain ⟨v, ev, rr⟩ := rs1 r
  subst ev
  replace r := rr
  clear rr
  obtain ⟨a, ws, rfl, h1, p⟩ := h F H v s r
  exact ⟨a, ws, rfl, .inl ⟨SqL.of h1, fun l hl => q _ _ _ (Evo.newT s p hl).1 (Evo.newT s p hl).2⟩⟩
theorem oc_tupleT {xs : Tl α} : Oc Ps M (fun vs H Q => ∃ p ys, vs = [.ref p] ∧ ((SqL K H p ys ∧ ∀ l, H l = none → Q (.ref l) (upd H l (.tup ys))) ∨ (SqT K H p ys ∧ Q (.ref p) H))) [Is K xs] (Is K xs) := fun F H vs Q s r q => by
  obtain ⟨v, ev, rr⟩ := rs1 r
  subst ev
  replace r := rr
  clear rr
  obtain ⟨a, ws, rfl, h1, p⟩ := r
  exact ⟨a, ws, rfl, .inr ⟨s.sub.sqT h1, q _ F H s.refl ⟨a, ws, rfl, h1, p⟩⟩⟩
theorem ps2_str {vs : List V} {xs : List Str} (h : Ps2 K F vs xs) : vs = xs.map V.str := by
  unfold Ps2 at h
  induction h with
  | nil => rfl
  | cons a _ ih => rw [List.map_cons, ← ih]; cases a; rfl
theorem str_ps2 : ∀ xs : List Str, Ps2 K F (xs.map V.str) xs
  | [] => .nil
  | _ :: r => .cons rfl (str_ps2 r)
theorem ps2_int {vs : List V} {xs : List Int} (h : Ps2 K F vs xs) : vs = xs.map V.int := by
  unfold Ps2 at h
  induction h with
  | nil => rfl
  | cons a _ ih => rw [List.map_cons, ← ih]; cases a; rfl
theorem int_ps2 : ∀ xs : List Int, Ps2 K F (xs.map V.int) xs
  | [] => .nil
  | _ :: r => .cons rfl (int_ps2 r)
theorem ps2_nat {vs : List V} {xs : List Nat} (h : Ps2 K F vs xs) : vs = (xs.map (Int.ofNat)).map V.int := by
  unfold Ps2 at h
  induction h with
  | nil => rfl
  | cons a _ ih => rw [List.map_cons, List.map_cons, ← ih]; cases a; rfl
/-- sorted(a list of texts) -/
theorem oc_sortS {xs : List Str} (h : Ls Ps M K R xs) (n : xs.length < 64) : Oc Ps M (rSortedS K) [R] (Exi K fun ys : List Str => ys.Perm xs ∧ sortedS ys = true) := fun F H vs Q s r q => by
  obtain ⟨v, ev, rr⟩ := rs1 r
  subst ev
  replace r := rr
  clear rr
  obtain ⟨a, ws, rfl, h1, p⟩ := h F H v s r
  rw [ps2_str p] at h1
  exact ⟨a, xs, rfl, SqL.of h1, n, fun ys p pm so hp => q _ _ _ (Evo.newL s (str_ps2 (K := K) ys) hp).1 ⟨ys, ⟨pm, so⟩, (Evo.newL s (str_ps2 (K := K) ys) hp).2⟩⟩
theorem oc_sum {xs : List Int} (h : Ls Ps M K R xs) : Oc Ps M (rSum K) [R] (Is K xs.sum) := fun F H vs Q s r q => by
  obtain ⟨v, ev, rr⟩ := rs1 r
  subst ev
  replace r := rr
  clear rr
  obtain ⟨a, ws, rfl, h1, p⟩ := h F H v s r
  rw [ps2_int p] at h1
  exact ⟨a, xs, rfl, SqL.of h1, q _ F H s.refl rfl⟩
theorem oc_strI {n : Int} (h : n.natAbs.log2 < 1920) : Oc Ps M (fun vs H Q => ∃ i, vs = [.int i] ∧ i.natAbs.log2 < 1920 ∧ Q (.str (toString i)) H) [Is K n] (Is K (Str.ofString (toString n))) := fun F H vs Q s r q => by
  obtain ⟨v, ev, rr⟩ := rs1 r
  subst ev
  replace r := rr
  clear rr
  cases r
  exact ⟨n, rfl, h, q _ F H s.refl rfl⟩
/-- sorted(a list of pairs of texts) -/
theorem oc_sortSS {xs : List (Str × Str)} (h : Ls Ps M K R xs) : Oc Ps M (RU.rSortSS K) [R] (Exi K fun ys : List (Str × Str) => ∃ l l' : List (Addr × Str × Str), l.map (·.2) = xs ∧ l'.map (·.2) = ys ∧ l'.Perm l ∧ l'.Pairwise (fun e f => RU.ltS f e = false)) := fun F H vs Q s r q => by
  obtain ⟨v, ev, rr⟩ := rs1 r
  subst ev
  replace r := rr
  clear rr
  obtain ⟨a, ws, rfl, h1, p⟩ := h F H v s r
  obtain ⟨l, e1, e2, hl⟩ : ∃ l : List (Addr × Str × Str), l.map (fun e => V.ref e.1) = ws ∧ l.map (·.2) = xs ∧ ∀ e ∈ l, F e.1 = some (.tup [.str e.2.1, .str e.2.2]) := by
    clear h1 r h q
    unfold Ps2 at p
    induction p with
    | nil => exact ⟨[], rfl, rfl, fun _ h => nomatch h⟩
    | @cons v x vs xs h t ih =>
      obtain ⟨l, h1, h2, h3⟩ := ih
      obtain ⟨b, u, w, rfl, hb, hu, hw⟩ := h
      cases hu
      cases hw
      refine ⟨(b, x) :: l, by rw [List.map_cons, h1], by rw [List.map_cons, h2], fun e he => ?_⟩
      rcases List.mem_cons.mp he with rfl | he
      · exact hb
      · exact h3 e he
  refine ⟨a, l, rfl, SqL.of (by rw [e1]; exact h1), fun e he => s.sub.tup (hl e he), fun l' b pm pw hb => ?_⟩
  have e := s.new (o := .lst (l'.map fun e => V.ref e.1)) hb
  refine q _ _ _ e ⟨l'.map (·.2), ⟨l, l', e2, rfl, pm, pw⟩, b, _, rfl, upd_same, ?_⟩
  have hl' : ∀ e ∈ l', F e.1 = some (.tup [.str e.2.1, .str e.2.2]) := fun e he => hl e (pm.mem_iff.mp he)
  clear pm pw
  have : ∀ m : List (Addr × Str × Str), (∀ e ∈ m, F e.1 = some (.tup [.str e.2.1, .str e.2.2])) → Ps2 K (upd F b (.lst (l'.map fun e => V.ref e.1))) (m.map fun e => V.ref e.1) (m.map (·.2)) := by
    intro m
    induction m with
    | nil => exact fun _ => .nil
    | cons x m ih => exact fun h => .cons ⟨x.1, _, _, rfl, e.le _ _ (h x (List.mem_cons_self ..)), rfl, rfl⟩ (ih fun y hy => h y (List.mem_cons_of_mem _ hy))
  exact this l' hl'
/-- dict(a list of pairs) -/
def mergeD {κ α : Type} [DecidableEq κ] (l : List (κ × α)) : List (κ × α) := l.foldl (fun acc e => putD acc e.1 e.2) []
theorem oc_dict [KyR κ] [DecidableEq κ] {xs : List (κ × α)} (h : Ls Ps M K R xs) : Oc Ps M (fun vs H Q => ∃ (a : Addr) (ps : List Addr) (kvs : List (Key × V)), vs = [.ref a] ∧ SqL K H a (ps.map V.ref) ∧ Paired (fun p kv => SqT K H p [kV kv.1, kv.2]) ps kvs ∧
    ∀ p, H p = none → Q (.ref p) (upd H p (.dK (mergeK [] kvs)))) [R] (Is K (Dc.mk (mergeD xs))) := fun F H vs Q s r q => by
  obtain ⟨v, ev, rr⟩ := rs1 r
  subst ev
  replace r := rr
  clear rr
  obtain ⟨a, ws, rfl, h1, p⟩ := h F H v s r
  obtain ⟨ps, kvs, e1, e2, e3⟩ : ∃ (ps : List Addr) (kvs : List (Key × V)), ps.map V.ref = ws ∧ Paired (fun p kv => F p = some (.tup [kV kv.1, kv.2])) ps kvs ∧ Kvs K F kvs xs := by
    clear h1 r h q
    unfold Ps2 at p
    induction p with
    | nil => exact ⟨[], [], rfl, .nil, .nil⟩
    | @cons v x vs xs h t ih =>
      obtain ⟨ps, kvs, h1, h2, h3⟩ := ih
      obtain ⟨b, u, w, rfl, hb, hu, hw⟩ := h
      have hu := (KyR.r ..).mp hu
      subst hu
      exact ⟨b :: ps, (Ky.key x.1, w) :: kvs, by rw [List.map_cons, h1], .cons hb h2, .cons ⟨rfl, hw⟩ h3⟩
  refine ⟨a, ps, kvs, rfl, SqL.of (by rw [e1]; exact h1), ?_, fun b hb => ?_⟩
  · clear e1 e3
    induction e2 with
    | nil => exact .nil
    | cons h _ ih => exact .cons (SqT.of (s.sub.tup h)) ih
  · have : ∀ (kvs : List (Key × V)) (xs : List (κ × α)) (acc : List (Key × V)) (acc' : List (κ × α)), Kvs K F kvs xs → Kvs K F acc acc' → Kvs K F (kvs.foldl (fun acc kv => putK acc kv.1 kv.2) acc) (xs.foldl (fun acc e => putD acc e.1 e.2) acc') := by
      intro kvs xs acc acc' h
      unfold Kvs at h
      induction h generalizing acc acc' with
      | nil => exact fun h => h
      | @cons x y l1 l2 r t ih =>
        intro h
        rw [List.foldl_cons, List.foldl_cons]
        refine ih _ _ ?_
        rw [r.1]
        exact h.put r.2
    have k := this kvs xs [] [] e3 .nil
    exact q _ _ _ (Evo.newD s k hb).1 (Evo.newD s k hb).2
theorem kvs_vals {kv : List (Key × V)} {l : List (κ × α)} (h : Kvs K F kv l) : Ps2 K F (kv.map (·.2)) (l.map (·.2)) := Paired.map_ h fun _ _ r => r.2
theorem kvs_keys {kv : List (Key × V)} {l : List (κ × α)} (h : Kvs K F kv l) : kv.map (·.1) = (l.map (·.1)).map Ky.key := by
  unfold Kvs at h
  induction h with
  | nil => rfl
  | cons a _ ih => rw [List.map_cons, List.map_cons, List.map_cons, ih, a.1]
/-- a table that isn't locked -/
def Du (Ps : Tbs) (M : Mu) (K : PySem.W.Frag) (R : VRel) {κ α : Type} [Ky κ] [Rp α] (l : List (κ × α)) : Prop := ∀ F H v, Sh Ps M F H → R.R F v → ∃ a kv, v = .ref a ∧ H a = some (.dK kv) ∧ Kvs K F kv l
theorem Du.mu {l : List (κ × α)} {a : Addr} (h : (a, DicM K l) ∈ M) : Du Ps M K (At a) l := fun F H v s e => by
  obtain ⟨o, h1, kv, rfl, p⟩ := s.mu _ h
  exact ⟨a, kv, e, h1, p⟩
theorem Ev.listVals {l : List (κ × α)} (h : Ev Ps G M td R) (d : Du Ps M K R l) : Ev Ps G M (RU.tListVals td) (Is K (l.map (·.2))) := fun σ F H Q en s q => h σ F H _ en s fun v F1 H1 e1 r1 => by
  obtain ⟨a, kv, rfl, h1, p⟩ := d F1 H1 v (s.evo e1) r1
  exact ⟨a, kv, rfl, h1, fun b hb => q _ _ _ (e1.trans (Evo.newL (s.evo e1) (kvs_vals p) hb).1) (Evo.newL (s.evo e1) (kvs_vals p) hb).2⟩
/-- sorted(a table by texts) -/
theorem oc_sortD {l : List (Str × α)} (h : Ds Ps M K R l) (n : l.length < 64) : Oc Ps M (fun vs H Q => ∃ (a : Addr) (kvs : List (Key × V)) (ks : List Str), vs = [.ref a] ∧ Rd H a (.dK kvs) ∧ kvs.map (·.1) = ks.map Sum.inr ∧ ks.length < 64 ∧ ∀ ys p, ys.Perm ks → sortedS ys = true → H p = none → Q (.ref p) (upd H p (.lst (ys.map V.str)))) [R]
    (Exi K fun ys : List Str => ys.Perm (l.map (·.1)) ∧ sortedS ys = true) := fun F H vs Q s r q => by
  obtain ⟨v, ev, rr⟩ := rs1 r
  subst ev
  replace r := rr
  clear rr
  obtain ⟨a, kv, rfl, h1, p⟩ := h F H v s r
  exact ⟨a, kv, l.map (·.1), rfl, h1, kvs_keys p, by rw [List.length_map]; exact n, fun ys p pm so hp => q _ _ _ (Evo.newL s (str_ps2 (K := K) ys) hp).1 ⟨ys, ⟨pm, so⟩, (Evo.newL s (str_ps2 (K := K) ys) hp).2⟩⟩
/-! ### subscripts, slices, in, + -/
theorem Paired.at {α β : Type} {P : α → β → Prop} : ∀ {l : List α} {r : List β}, Paired P l r → ∀ {i : Nat} {y : β}, r[i]? = some y → ∃ x, l[i]? = some x ∧ P x y
  | _, _, .nil, _, _, h => by simp at h
  | _, _, .cons h t, 0, _, e => by
    simp at e
    subst e
    exact ⟨_, by simp, h⟩
  | _, _, .cons h t, i + 1, _, e => by
    simp at e
    obtain ⟨x, h1, h2⟩ := Paired.at t e
    exact ⟨x, by simpa using h1, h2⟩
theorem atI_P {vs : List V} {xs : List α} (p : Ps2 K F vs xs) {i : Int} {x : α} (h : atI xs i = some x) : ∃ v, atI vs i = some v ∧ rp K F v x := by
  unfold atI at *
  rw [Paired.length p]
  cases q : ixN xs.length i with
  | none => rw [q] at h; cases h
  | some j =>
    rw [q] at h
    obtain ⟨v, h1, h2⟩ := Paired.at p h
    exact ⟨v, h1, h2⟩
theorem o2_ixL {xs : List α} {i : Int} {x : α} (h : Ls Ps M K R xs) (e : atI xs i = some x) : O2 Ps M (rIxL K) R (Is K i) (Is K x) := fun F H v w Q s a b q => by
  obtain ⟨p, vs, rfl, h1, pp⟩ := h F H v s a
  cases b
  obtain ⟨y, hy, r⟩ := atI_P pp e
  exact ⟨p, vs, i, y, rfl, rfl, SqL.of h1, hy, q _ F H s.refl r⟩
/-- xs[an index that isn't told] -/
theorem o2_ixLx {xs : List α} {P : Int → Prop} (h : Ls Ps M K R xs) (e : ∀ i, P i → 0 ≤ i ∧ i < xs.length) : O2 Ps M (rIxL K) R (Exi K P) (Exi K (· ∈ xs)) := fun F H v w Q s a ⟨i, hi, b⟩ q => by
  obtain ⟨p, vs, rfl, h1, pp⟩ := h F H v s a
  cases b
  obtain ⟨i0, i1⟩ := e i hi
  have hx : xs[i.toNat]? = some (xs[i.toNat]'(by omega)) := List.getElem?_eq_getElem _
  have hx2 : atI xs i = some (xs[i.toNat]'(by omega)) := by
    have := atI_nat hx
    rw [show ((i.toNat : Nat) : Int) = i by omega] at this
    exact this
  obtain ⟨y, hy, r⟩ := atI_P pp hx2
  exact ⟨p, vs, i, y, rfl, rfl, SqL.of h1, hy, q _ F H s.refl ⟨_, List.getElem_mem _, r⟩⟩
theorem o2_ixT {xs : List α} {i : Int} {x : α} (h : ∀ F H v, Sh Ps M F H → R.R F v → ∃ a vs, v = .ref a ∧ SqT K H a vs ∧ Ps2 K F vs xs) (e : atI xs i = some x) : O2 Ps M (rIxT K) R (Is K i) (Is K x) := fun F H v w Q s a b q => by
  obtain ⟨p, vs, rfl, h1, pp⟩ := h F H v s a
  cases b
  obtain ⟨y, hy, r⟩ := atI_P pp e
  exact ⟨p, vs, i, y, rfl, rfl, h1, hy, q _ F H s.refl r⟩
theorem Tl.st {xs : Tl α} : ∀ F H v, Sh Ps M F H → (Is K xs).R F v → ∃ a vs, v = .ref a ∧ SqT K H a vs ∧ Ps2 K F vs xs.l := fun F H v s ⟨a, vs, e, h, p⟩ => ⟨a, vs, e, s.sub.sqT h, p⟩
theorem o2_addS {a b : Str} (h : a.length + b.length ≤ 100000) : O2 Ps M (fun x y H Q => ∃ i j, x = .str i ∧ y = .str j ∧ i.length + j.length ≤ sizeLine ∧ Q (.str (i ++ j)) H) (Is K a) (Is K b) (Is K (a ++ b)) := fun F H v w Q s r1 r2 q => by
  cases r1
  cases r2
  exact ⟨a, b, rfl, rfl, Nat.le_trans h (by decide), q _ F H s.refl rfl⟩
theorem o2_cat {xs ys : List α} (h1 : Ls Ps M K Ra xs) (h2 : Ls Ps M K Rb ys) (n : xs.length + ys.length ≤ 100000) : O2 Ps M rCat Ra Rb (Is K (xs ++ ys)) := fun F H v w Q s a b q => by
  obtain ⟨p, vs, rfl, e1, p1⟩ := h1 F H v s a
  obtain ⟨p', ws, rfl, e2, p2⟩ := h2 F H w s b
  have l1 := Paired.length p1
  have l2 := Paired.length p2
  have p3 : Ps2 K F (vs ++ ws) (xs ++ ys) := by
    clear e1 l1 n a q h1
    unfold Ps2 at *
    induction p1 with
    | nil => exact p2
    | cons h _ ih => exact .cons h ih
  exact ⟨p, p', vs, ws, rfl, rfl, e1, e2, by rw [l1, l2]; exact Nat.le_trans n (by decide), fun l hl => q _ _ _ (Evo.newL s p3 hl).1 (Evo.newL s p3 hl).2⟩
theorem inV_str {x : Str} {xs : List Str} : inV (.str x) (xs.map V.str) = decide (x ∈ xs) := by
  unfold inV
  induction xs with
  | nil => rfl
  | cons y r ih =>
    rw [List.map_cons, List.any_cons, ih]
    show ((y == x) || _) = _
    rw [Bool.eq_iff_iff]
    simp
    constructor
    · rintro (h | h)
      · exact .inl h.symm
      · exact .inr h
    · rintro (h | h)
      · exact .inl h.symm
      · exact .inr h
theorem flat_str {xs : List Str} : (xs.map V.str).all flatV = true := by
  induction xs with
  | nil => rfl
  | cons y r ih => rw [List.map_cons, List.all_cons, ih]; rfl
theorem o2_inS {x : Str} {xs : List Str} {neg : Bool} (h : Sq Ps M K R xs) : O2 Ps M (rIn K neg) (Is K x) R (Is K (if neg then !decide (x ∈ xs) else decide (x ∈ xs))) := fun F H v w Q s a b q => by
  obtain ⟨p, vs, rfl, e1, p1⟩ := h F H w s b
  cases a
  have ev := ps2_str p1
  subst ev
  exact ⟨p, _, rfl, e1, rfl, flat_str, q _ F H s.refl (by rw [inV_str]; rfl)⟩
theorem o1_slS {z : Str} {lo hi : Option Int} : True := trivial
end
end RP

-- RPi
set_option maxRecDepth 100000
set_option maxHeartbeats 4000000
namespace RP
open PySem PySem.Spec PyProof.Rows L2
open Rp (rp)
section
variable {Ps : Tbs} {B : Bs} {M L : Mu} {G G' : Gm} {K : PySem.W.Frag} {ta tb tc te td ty tv : TE} {t u : TS} {D : L2.Ends} {tt tu : TT} {R Ra Rb R' : VRel} {Rs : List VRel} {F H F' H' : Hp} {g : TG} {σ : L2.St} {k : L2.St → Hp → Prop} {α β κ : Type} [Rp α] [Rp β] [Ky κ] [Rp κ]
/-! ### a table, held while it is walked -/
/-- the table at a is kv, that tells l -/
def AtK (K : PySem.W.Frag) (a : Addr) (kv : List (Key × V)) (l : List (κ × α)) : VRel := ⟨fun F v => v = .ref a ∧ Kvs K F kv l, fun F F' v le ⟨e, h⟩ => ⟨e, h.mono le⟩⟩
abbrev lkM (od : Obj) (kv : List (Key × V)) : MRel := EqM (.frz od (.dK kv)) false (fun _ z => nomatch z)
theorem EnvOk.re {i : Nat} {v : V} (h : EnvOk F σ G) (hv : σ[i]? = some (some v)) (r : R.R F v) : EnvOk F σ (G.set i (some R)) := ⟨by rw [List.length_set]; exact h.1, fun j R' e => by
  by_cases hj : i = j
  · subst hj
    have hl : i < G.length := by
      have := (List.getElem?_eq_some_iff.mp e).1
      rw [List.length_set] at this
      exact this
    rw [List.getElem?_set_self hl] at e
    cases e
    exact ⟨v, hv, r⟩
  · rw [List.getElem?_set_ne hj] at e
    exact h.2 j R' e⟩
/-- the heap with a told table locked -/
theorem Sh.lock (s : Sh Ps M F H) (ow : ∀ e ∈ M, e.2.own = true) {a : Addr} {kv : List (Key × V)} (h : F a = some (.dK kv)) (od : Obj) : H a = some (.dK kv) ∧ a ∉ tk Ps ∧ Sh Ps ((a, lkM od kv) :: M) F (upd H a (.frz od (.dK kv))) := by
  have hH := s.fz a kv h fun e he _ => ow e he
  have nP : a ∉ tk Ps := fun z => by
    rw [s.fp a z] at h
    cases h
  have ne : ∀ e ∈ M, e.1 ≠ a := fun e he z => by
    have := (s.ow e he).2 (ow e he)
    rw [z, h] at this
    cases this
  refine ⟨hH, nP, fun b u hb => ?_, s.tb.upd nP (by rw [hH]; exact fun _ z => nomatch z), s.fp, fun e he => ?_, fun e he => ?_, ?_, fun b kvs hb c => ?_⟩
  · by_cases z : b = a
    · subst z
      rw [h] at hb
      cases hb
      exact .inr ⟨od, kv, rfl, upd_same⟩
    · exact (s.sub b u hb).upd z
  · rcases List.mem_cons.mp he with rfl | he
    · exact ⟨_, upd_same, rfl⟩
    · obtain ⟨o, h1, h2⟩ := s.mu e he
      exact ⟨o, by rw [upd_ne (ne e he)]; exact h1, h2⟩
  · rcases List.mem_cons.mp he with rfl | he
    · exact ⟨nP, fun z => nomatch z⟩
    · exact s.ow e he
  · refine List.nodup_cons.mpr ⟨fun z => ?_, s.nd⟩
    obtain ⟨e, he, z⟩ := List.mem_map.mp z
    exact ne e he z
  · have z : b ≠ a := fun z => by
      have := c _ (List.mem_cons_self ..) z.symm
      exact nomatch this
    rw [upd_ne z]
    exact s.fz b kvs hb fun e he => c e (List.mem_cons_of_mem _ he)
theorem Evo.unlock (s : Sh Ps M F H) (ow : ∀ e ∈ M, e.2.own = true) {a : Addr} {kv : List (Key × V)} (h : F a = some (.dK kv)) {od : Obj} (v : Evo Ps ((a, lkM od kv) :: M) F (upd H a (.frz od (.dK kv))) F' H') : H' a = some (.frz od (.dK kv)) ∧ Evo Ps M F H F' (upd H' a (.dK kv)) := by
  obtain ⟨hH, nP, _⟩ := s.lock ow h od
  obtain ⟨o, hl, rfl⟩ := v.mu _ (List.mem_cons_self ..)
  have hF' := v.le _ _ h
  have ne : ∀ e ∈ M, e.1 ≠ a := fun e he z => by
    have := (s.ow e he).2 (ow e he)
    rw [z, h] at this
    cases this
  refine ⟨hl, v.le, fun b u hb => ?_, fun b u hb p m => ?_, fun b u hb => ?_, v.tb.upd nP (by rw [hl]; exact fun _ z => nomatch z), fun e he => ?_, fun b kvs hb c => ?_⟩
  · by_cases z : b = a
    · subst z
      rw [hF'] at hb
      cases hb
      exact .inl upd_same
    · exact (v.sub b u hb).upd z
  · by_cases z : b = a
    · subst z
      rw [hH] at hb
      cases hb
      exact upd_same
    · rw [upd_ne z]
      refine v.keep b u (by rw [upd_ne z]; exact hb) p fun q => ?_
      rcases List.mem_cons.mp q with q | q
      · exact z q
      · exact m q
  · rcases v.nw b u hb with h' | h'
    · exact .inl h'
    · by_cases z : b = a
      · subst z
        rw [upd_same] at h'
        cases h'
      · rw [upd_ne z] at h'
        exact .inr h'
  · obtain ⟨o, h1, h2⟩ := v.mu e (List.mem_cons_of_mem _ he)
    exact ⟨o, by rw [upd_ne (ne e he)]; exact h1, h2⟩
  · by_cases z : b = a
    · subst z
      rw [hF'] at hb
      cases hb
      exact upd_same
    · rw [upd_ne z]
      refine v.fz b kvs hb fun e he y => ?_
      rcases List.mem_cons.mp he with rfl | he
      · exact absurd y.symm z
      · exact c e he y
/-- an expression over a told table in a slot, that is locked meanwhile -/
theorem Ev.lockF {l : Dc κ α} {i : Nat} (hi : G[i]? = some (some (Is K l))) (ow : ∀ e ∈ M, e.2.own = true) (h : ∀ a kv od, kv.map (·.1) = (l.l.map (·.1)).map Ky.key → Ev Ps (G.set i (some (AtK K a kv l.l))) ((a, lkM od kv) :: M) te R) : Ev Ps G M (tLockE te) R := fun σ F H Q en s q => by
  obtain ⟨v, hv, a, kv, rfl, hF, hk⟩ := en.2 i _ hi
  obtain ⟨hH, _, _⟩ := s.lock ow hF ⟨.none, none, .fields #[], #[]⟩
  refine ⟨a, .dK kv, hH, True.intro, fun od => ?_⟩
  refine h a kv od (kvs_keys hk) σ F _ _ (en.re hv ⟨rfl, hk⟩) (s.lock ow hF od).2.2 fun v F' H' ev r => ?_
  obtain ⟨h1, h2⟩ := Evo.unlock s ow hF ev
  exact ⟨h1, q v F' _ h2 r⟩
/-- a table that may change, locked meanwhile -/
theorem Sh.lockM {j : Nat} {a : Addr} {l : List (κ × α)} (s : Sh Ps M F H) (hj : M[j]? = some (a, DicM K l)) : ∃ kv, H a = some (.dK kv) ∧ Kvs K F kv l ∧ ∀ od, Sh Ps (M.set j (a, lkM od kv)) F (upd H a (.frz od (.dK kv))) ∧
    ∀ F' H', Evo Ps (M.set j (a, lkM od kv)) F (upd H a (.frz od (.dK kv))) F' H' → H' a = some (.frz od (.dK kv)) ∧ Evo Ps M F H F' (upd H' a (.dK kv)) := by
  have hm : (a, DicM K l) ∈ M := List.mem_of_getElem? hj
  have hl : j < M.length := (List.getElem?_eq_some_iff.mp hj).1
  obtain ⟨o, h1, kv, rfl, hk⟩ := s.mu _ hm
  obtain ⟨nP, nF⟩ := s.ow _ hm
  have nF := nF rfl
  have keys : ∀ r : MRel, (M.set j (a, r)).map (·.1) = M.map (·.1) := fun r => by
    rw [List.map_set]
    refine List.ext_getElem? fun i => ?_
    by_cases hi : j = i
    · subst hi
      rw [List.getElem?_set_self (by rw [List.length_map]; exact hl), List.getElem?_map, hj]
      rfl
    · rw [List.getElem?_set_ne hi]
  have mem : ∀ (r : MRel), ∀ e ∈ M.set j (a, r), e = (a, r) ∨ (e ∈ M ∧ e.1 ≠ a) := fun r e he => by
    obtain ⟨i, hi⟩ := List.getElem?_of_mem he
    by_cases hij : j = i
    · subst hij
      rw [List.getElem?_set_self hl] at hi
      exact .inl (Option.some.inj hi).symm
    · rw [List.getElem?_set_ne hij] at hi
      refine .inr ⟨List.mem_of_getElem? hi, fun z => hij ?_⟩
      have g1 : (M.map (·.1))[i]? = some a := by rw [List.getElem?_map, hi]; exact congrArg some z
      have g2 : (M.map (·.1))[j]? = some a := by rw [List.getElem?_map, hj]; rfl
      have hjl : j < (M.map (·.1)).length := (List.getElem?_eq_some_iff.mp g2).1
      exact List.Nodup.getElem?_inj_ s.nd hjl (g2.trans g1.symm)
  have mem2 : ∀ r : MRel, ∀ e ∈ M, e = (a, DicM K l) ∨ (e ∈ M.set j (a, r) ∧ e.1 ≠ a) := fun r e he => by
    obtain ⟨i, hi⟩ := List.getElem?_of_mem he
    by_cases hij : j = i
    · subst hij
      rw [hj] at hi
      exact .inl (Option.some.inj hi).symm
    · refine .inr ⟨List.mem_of_getElem? (i := i) (by rw [List.getElem?_set_ne hij]; exact hi), fun z => hij ?_⟩
      have g1 : (M.map (·.1))[i]? = some a := by rw [List.getElem?_map, hi]; exact congrArg some z
      have g2 : (M.map (·.1))[j]? = some a := by rw [List.getElem?_map, hj]; rfl
      have hjl : j < (M.map (·.1)).length := (List.getElem?_eq_some_iff.mp g2).1
      exact List.Nodup.getElem?_inj_ s.nd hjl (g2.trans g1.symm)
  refine ⟨kv, h1, hk, fun od => ⟨⟨fun b u hb => (s.sub b u hb).upd (fun z => by rw [z, nF] at hb; exact nomatch hb), s.tb.upd nP (by rw [h1]; exact fun _ z => nomatch z), s.fp, fun e he => ?_, fun e he => ?_, by rw [keys]; exact s.nd, fun b kvs hb c => ?_⟩, fun F' H' v => ?_⟩⟩
  · rcases mem _ e he with rfl | ⟨he, ne⟩
    · exact ⟨_, upd_same, rfl⟩
    · obtain ⟨o, g1, g2⟩ := s.mu e he
      exact ⟨o, by rw [upd_ne ne]; exact g1, g2⟩
  · rcases mem _ e he with rfl | ⟨he, ne⟩
    · exact ⟨nP, fun z => nomatch z⟩
    · exact s.ow e he
  · have z : b ≠ a := fun z => by rw [z, nF] at hb; exact nomatch hb
    rw [upd_ne z]
    refine s.fz b kvs hb fun e he y => ?_
    rcases mem2 (lkM od kv) e he with rfl | ⟨he, ne⟩
    · rfl
    · exact c e he y
  · have hlk : (a, lkM od kv) ∈ M.set j (a, lkM od kv) := List.mem_of_getElem? (i := j) (by rw [List.getElem?_set_self hl])
    obtain ⟨o, hl2, rfl⟩ := v.mu _ hlk
    have nF' : F' a = none := by
      cases z : F' a with
      | none => rfl
      | some o =>
        rcases v.nw _ _ z with y | y
        · rw [nF] at y; cases y
        · rw [upd_same] at y; cases y
    refine ⟨hl2, v.le, fun b u hb => (v.sub b u hb).upd (fun z => by rw [z, nF'] at hb; exact nomatch hb), fun b u hb p m => ?_, fun b u hb => ?_, v.tb.upd nP (by rw [hl2]; exact fun _ z => nomatch z), fun e he => ?_, fun b kvs hb c => ?_⟩
    · have z : b ≠ a := fun z => m (by rw [z]; exact List.mem_map.mpr ⟨_, hm, rfl⟩)
      rw [upd_ne z]
      exact v.keep b u (by rw [upd_ne z]; exact hb) p (by rw [keys]; exact m)
    · rcases v.nw b u hb with y | y
      · exact .inl y
      · by_cases z : b = a
        · rw [z, upd_same] at y; cases y
        · rw [upd_ne z] at y
          exact .inr y
    · rcases mem2 (lkM od kv) e he with rfl | ⟨he, ne⟩
      · exact ⟨_, upd_same, kv, rfl, hk.mono v.le⟩
      · obtain ⟨o, g1, g2⟩ := v.mu e he
        exact ⟨o, by rw [upd_ne ne]; exact g1, g2⟩
    · have z : b ≠ a := fun z => by rw [z, nF'] at hb; exact nomatch hb
      rw [upd_ne z]
      refine v.fz b kvs hb fun e he y => ?_
      rcases mem _ e he with rfl | ⟨he, ne⟩
      · exact absurd y.symm z
      · exact c e he y
theorem Ev.lockM {i j : Nat} {a : Addr} {l : List (κ × α)} (hi : G[i]? = some (some (At a))) (hj : M[j]? = some (a, DicM K l)) (h : ∀ kv od, kv.map (·.1) = (l.map (·.1)).map Ky.key → Ev Ps (G.set i (some (AtK K a kv l))) (M.set j (a, lkM od kv)) te R) : Ev Ps G M (tLockE te) R := fun σ F H Q en s q => by
  obtain ⟨v, hv, hr⟩ := en.2 i _ hi
  cases hr
  obtain ⟨kv, hH, hk, lk⟩ := s.lockM hj
  refine ⟨a, .dK kv, hH, True.intro, fun od => ?_⟩
  refine h kv od (kvs_keys hk) σ F _ _ (en.re hv ⟨rfl, hk⟩) (lk od).1 fun v F' H' ev r => ?_
  obtain ⟨h1, h2⟩ := (lk od).2 F' H' ev
  exact ⟨h1, q v F' _ h2 r⟩
/-! ### what is walked: a locked table -/
theorem lk_at {a : Addr} {od : Obj} {kv : List (Key × V)} (s : Sh Ps M F H) (hM : (a, lkM od kv) ∈ M) : H a = some (.frz od (.dK kv)) := by
  obtain ⟨o, h1, rfl⟩ := s.mu _ hM
  exact h1
theorem Ei.keys [KyR κ] {a : Addr} {od : Obj} {kv : List (Key × V)} {l : List (κ × α)} (hd : Ev Ps G M td (AtK K a kv l)) (hM : (a, lkM od kv) ∈ M) (hk : kv.map (·.1) = (l.map (·.1)).map Ky.key) : Ei Ps G M [(a, lkM od kv)] (iKeys td) (l.map (·.1)).length (Nth K (l.map (·.1))) := fun σ F H R e s q => hd σ F H _ e s fun v F1 H1 e1 ⟨ev, hp⟩ => by
  subst ev
  have ln : kv.length = (l.map (·.1)).length := by
    have := congrArg List.length hk
    simpa using this
  have lk : ∀ {M' : Mu} {F' H' : Hp}, (∀ e ∈ [(a, lkM od kv)], e ∈ M') → Sh Ps M' F' H' → H' a = some (.frz od (.dK kv)) := fun h s' => lk_at s' (h _ (List.mem_singleton.mpr rfl))
  refine ⟨a, od, rfl, .inl ⟨kv, lk_at (s.evo e1) hM, q _ F1 H1 e1 ⟨fun _ i F' H' h hi _ s' => ?_, fun _ F' H' h _ s' => ?_, fun _ i F' H' x H'' h hi _ s' y => ?_⟩⟩⟩
  · rw [← ln] at hi
    exact walk_keys.goes i H' hi (lk h s')
  · rw [← ln]
    exact walk_keys.stops H' (lk h s')
  · obtain ⟨rfl, k, w, h1, h2⟩ := walk_keys.yields i H' x H'' (by rw [ln]; exact hi) (lk h s') y
    refine ⟨F', s'.refl, (l.map (·.1))[i], List.getElem?_eq_getElem hi, (KyR.r ..).mpr ?_⟩
    have h3 : (kv.map (·.1))[i]? = some k := by rw [List.getElem?_map, h1]; rfl
    rw [hk, List.getElem?_map, List.getElem?_eq_getElem hi] at h3
    rw [h2, ← Option.some.inj h3]
theorem Ei.vals {a : Addr} {od : Obj} {kv : List (Key × V)} {l : List (κ × α)} (hd : Ev Ps G M td (AtK K a kv l)) (hM : (a, lkM od kv) ∈ M) : Ei Ps G M [(a, lkM od kv)] (iVals td) (l.map (·.2)).length (Nth K (l.map (·.2))) := fun σ F H R e s q => hd σ F H _ e s fun v F1 H1 e1 ⟨ev, hp⟩ => by
  subst ev
  have ln : kv.length = (l.map (·.2)).length := by rw [Paired.length hp, List.length_map]
  have lk : ∀ {M' : Mu} {F' H' : Hp}, (∀ e ∈ [(a, lkM od kv)], e ∈ M') → Sh Ps M' F' H' → H' a = some (.frz od (.dK kv)) := fun h s' => lk_at s' (h _ (List.mem_singleton.mpr rfl))
  refine ⟨a, od, kv, rfl, lk_at (s.evo e1) hM, q _ F1 H1 e1 ⟨fun _ i F' H' h hi _ s' => ?_, fun _ F' H' h _ s' => ?_, fun _ i F' H' x H'' h hi le s' y => ?_⟩⟩
  · rw [← ln] at hi
    exact walk_values.goes i H' hi (lk h s')
  · rw [← ln]
    exact walk_values.stops H' (lk h s')
  · obtain ⟨rfl, k, h1⟩ := walk_values.yields i H' x H'' (by rw [ln]; exact hi) (lk h s') y
    refine ⟨F', s'.refl, (l.map (·.2))[i], List.getElem?_eq_getElem hi, Rp.mono K _ _ _ _ le ?_⟩
    exact Paired.get? (kvs_vals hp) (by rw [List.getElem?_map, h1]; rfl) (List.getElem?_eq_getElem hi)
theorem Ei.items [KyR κ] {a : Addr} {od : Obj} {kv : List (Key × V)} {l : List (κ × α)} (hd : Ev Ps G M td (AtK K a kv l)) (hM : (a, lkM od kv) ∈ M) : Ei Ps G M [(a, lkM od kv)] (iItems td) l.length (Nth K l) := fun σ F H R e s q => hd σ F H _ e s fun v F1 H1 e1 ⟨ev, hp⟩ => by
  subst ev
  have ln : kv.length = l.length := Paired.length hp
  have lk : ∀ {M' : Mu} {F' H' : Hp}, (∀ e ∈ [(a, lkM od kv)], e ∈ M') → Sh Ps M' F' H' → H' a = some (.frz od (.dK kv)) := fun h s' => lk_at s' (h _ (List.mem_singleton.mpr rfl))
  refine ⟨a, od, kv, rfl, lk_at (s.evo e1) hM, q _ F1 H1 e1 ⟨fun _ i F' H' h hi _ s' => ?_, fun _ F' H' h _ s' => ?_, fun _ i F' H' x H'' h hi le s' y => ?_⟩⟩
  · rw [← ln] at hi
    exact walk_items.goes i H' hi (lk h s')
  · rw [← ln]
    exact walk_items.stops H' (lk h s')
  · obtain ⟨T, u, w, rfl, hT, rfl, h1, h2⟩ := walk_items.yields i H' x H'' (by rw [ln]; exact hi) (lk h s') y
    have he : kv[i]? = some (kv[i]'(by omega)) := List.getElem?_eq_getElem _
    have h1 : kv[i]?.map (fun kv => kV kv.1) = some u := h1
    have h2 : kv[i]?.map Prod.snd = some w := h2
    rw [he] at h1 h2
    have r := Paired.get? hp he (List.getElem?_eq_getElem hi)
    have e' := s'.new (o := .tup [u, w]) hT
    refine ⟨_, e', l[i], List.getElem?_eq_getElem hi, T, u, w, rfl, upd_same, (KyR.r ..).mpr ?_, ?_⟩
    · rw [← Option.some.inj h1, ← r.1]
    · have e2 : (kv[i]'(by omega)).2 = w := Option.some.inj h2
      have r2 := r.2
      rw [e2] at r2
      exact Rp.mono K _ _ _ _ (le.trans e'.le) r2
end
end RP

-- RPj
set_option maxRecDepth 100000
set_option maxHeartbeats 4000000
namespace RP
open PySem PySem.Spec PyProof.Rows L2
open Rp (rp)
section
variable {Ps : Tbs} {B : Bs} {M L : Mu} {G G' : Gm} {K : PySem.W.Frag} {ta tb tc te td ty tv : TE} {t u : TS} {D : L2.Ends} {tt tu : TT} {R Ra Rb R' : VRel} {Rs : List VRel} {F H F' H' : Hp} {g : TG} {σ : L2.St} {k : L2.St → Hp → Prop} {α β κ : Type} [Rp α] [Rp β] [Ky κ] [Rp κ]
/-! ### own objects -/
/-- an instance with its fields -/
def Obj (a C : Addr) (fs : List (Str × V)) : VRel := ⟨fun F v => v = .ref a ∧ ∃ dx, F a = some (.ins C dx fs), fun F F' v l ⟨e, dx, h⟩ => ⟨e, dx, l _ _ h⟩⟩
theorem Sub.ins {a C dx : Addr} {fs : List (Str × V)} (s : Sub F H) (h : F a = some (.ins C dx fs)) : H a = some (.ins C dx fs) := by
  rcases s _ _ h with h | ⟨_, _, e, _⟩
  · exact h
  · cases e
theorem Ev.fld {a C : Addr} {fs : List (Str × V)} {f : Str} {v : V} (ho : Ev Ps G M ta (Obj a C fs)) (cl : Cls K C) (na : NoAttr K C f) (e : fs.lookup f = some v) (hR : ∀ F, R.R F v) : Ev Ps G M (tFld K ta f) R := fun σ F H Q en s q => ho σ F H _ en s fun w F1 H1 e1 ⟨ew, dx, h⟩ =>
  ⟨a, C, dx, fs, v, ew, (s.evo e1).sub.ins h, cl, na, e, q v F1 H1 e1 (hR F1)⟩
/-- a method's promise, by what is told of its arguments -/
theorem Ev.meth {a C : Addr} {fs : List (Str × V)} {m : Str} {sp : Sp} {E : XK} {t : TA} (ho : Ev Ps G M ta (Obj a C fs)) (nm : fs.lookup m = none) (ha : Ea Ps G M t Rs) (o : Oc Ps M (fun vs H Q => sp (vs ++ []) H Q E) (Obj a C fs :: Rs) R) : Ev Ps G M (tMeth C m sp [] E ta t) R := fun σ F H Q en s q => ho σ F H _ en s fun w F1 H1 e1 r1 => by
  obtain ⟨ew, dx, h⟩ := id r1
  exact ⟨a, dx, fs, ew, (s.evo e1).sub.ins h, nm, ha σ F1 H1 _ (en.mono e1.le) (s.evo e1) fun vs F2 H2 e2 r2 => o F2 H2 (w :: vs) Q ((s.evo e1).evo e2) (.cons ((Obj a C fs).mono _ _ _ e2.le r1) r2) fun z F3 H3 e3 r3 => q z F3 H3 ((e1.trans e2).trans e3) r3⟩
/-! ### promises that tell of the heap alone -/
/-- all but the tables Ps0 stays -/
def Gw0 (Ps0 : List Addr) (H H' : Hp) : Prop := (∀ P ∈ Ps0, GxR.TabG H' P) ∧ ∀ b o, b ∉ Ps0 → H b = some o → H' b = some o
def mkPs (Ps0 : List Addr) (pT : Addr) (q : Str) : Tbs := (pT, some q) :: Ps0.map fun p => (p, none)
theorem tk_mk {Ps0 : List Addr} {pT : Addr} {q : Str} : tk (mkPs Ps0 pT q) = pT :: Ps0 := by
  unfold tk mkPs
  rw [List.map_cons, List.map_map]
  congr 1
  show Ps0.map (fun p => p) = Ps0
  exact List.map_id' _
theorem Tb.tb0 {Ps0 : List Addr} {pT : Addr} {q : Str} (t : Tb (mkPs Ps0 pT q) H) : ∀ P ∈ Ps0, GxR.TabG H P := fun P hP => t (P, none) (List.mem_cons_of_mem _ (List.mem_map.mpr ⟨P, hP, rfl⟩))
/-- behind a call that changes but the things that are told -/
theorem tb_gp {Ps0 : List Addr} {pT : Addr} {q : Str} (t : Tb (mkPs Ps0 pT q) H) (nP : pT ∉ Ps0) {ex : Addr → Prop} (tb : ∀ P ∈ Ps0, GxR.TabG H' P) (keep : ∀ b o, b ∉ Ps0 → ¬ ex b → H b = some o → H' b = some o) (exT : ¬ ex pT) (exC : ∀ b φ, ex b → H b ≠ some (.ext φ)) : Tb (mkPs Ps0 pT q) H' := fun e he => by
  rcases List.mem_cons.mp he with rfl | he
  · obtain ⟨ps, h1, h2, h3⟩ := t (pT, some q) (List.mem_cons_self ..)
    refine ⟨ps, keep _ _ nP exT h1, h2, fun pos cv hc => ?_⟩
    obtain ⟨c, e1, e2⟩ := h3 pos cv hc
    refine ⟨c, e1, keep _ _ (fun z => ?_) (fun z => exC c _ z e2) e2⟩
    obtain ⟨ps', h4, _⟩ := Tb.tb0 t c z
    rw [h4] at e2
    cases e2
  · obtain ⟨P, hP, rfl⟩ := List.mem_map.mp he
    exact tb P hP
theorem Evo.gw {Ps0 : List Addr} {pT : Addr} {q : Str} (s : Sh (mkPs Ps0 pT q) M F H) (nP : pT ∉ Ps0) (g : Gw0 Ps0 H H') : Evo (mkPs Ps0 pT q) M F H F H' := by
  have out : ∀ {a : Addr}, a ∉ tk (mkPs Ps0 pT q) → a ∉ Ps0 := fun h z => h (by rw [tk_mk]; exact List.mem_cons_of_mem _ z)
  have nF : ∀ {a : Addr} {o : HO}, F a = some o → a ∉ tk (mkPs Ps0 pT q) := fun h z => by
    rw [s.fp _ z] at h
    cases h
  refine ⟨Le.refl F, fun a o h => ?_, fun a o h p _ => g.2 a o (out p) h, fun a o h => .inl h, ?_, fun e he => ?_, fun a kvs h c => g.2 _ _ (out (nF h)) (s.fz a kvs h c)⟩
  · rcases s.sub a o h with h' | ⟨od, kvs, e, h'⟩
    · exact .inl (g.2 _ _ (out (nF h)) h')
    · exact .inr ⟨od, kvs, e, g.2 _ _ (out (nF h)) h'⟩
  · exact tb_gp s.tb nP (ex := fun _ => False) g.1 (fun b o n _ h => g.2 b o n h) (fun z => z) (fun b φ z => z.elim)
  · obtain ⟨o, h1, h2⟩ := s.mu e he
    exact ⟨o, g.2 _ _ (out (s.ow e he).1) h1, h2⟩
/-- the object at d, that is of M, and no other has changed -/
theorem Sa.gp {Ps0 : List Addr} {pT : Addr} {q : Str} {j : Nat} {d : Addr} {r r' : MRel} {o : HO} (s : Sa (mkPs Ps0 pT q) B G M σ F H) (nP : pT ∉ Ps0) (hj : M[j]? = some (d, r)) (ow : r.own = true) (tb : ∀ P ∈ Ps0, GxR.TabG H' P) (keep : ∀ b o, b ∉ Ps0 → b ≠ d → H b = some o → H' b = some o) (hd : H' d = some o) (hr : r'.R F o) : Sa (mkPs Ps0 pT q) B G (M.set j (d, r')) σ F H' := by
  have hm : (d, r) ∈ M := List.mem_of_getElem? hj
  -- as if d were written at once, then all that is new came
  have s1 := s.wr (r' := r') hj ow hr
  have nd : d ∉ tk (mkPs Ps0 pT q) := (s.sh.ow _ hm).1
  have ex : Evo (mkPs Ps0 pT q) (M.set j (d, r')) F (upd H d o) F H' := by
    refine Evo.gw s1.sh nP ⟨tb, fun b u n h => ?_⟩
    by_cases z : b = d
    · subst z
      rw [upd_same] at h
      rw [hd, Option.some.inj h]
    · rw [upd_ne z] at h
      exact keep b u n z h
  exact s1.evo ex
/-! ### a lambda told -/
/-- what is called with the lambda tells its refusals by Ef -/
def EvX (Ps : Tbs) (G : Gm) (M : Mu) (t : XK → TE) (Ef : VK → XK) (R : VRel) : Prop := ∀ σ F H Q, EnvOk F σ G → Sh Ps M F H → (∀ v F' H', Evo Ps M F H F' H' → R.R F' v → Q v H') → t (Ef Q) σ H Q
theorem Ev.told {pT : Addr} {q : Str} {t : XK → TE} {Ef : VK → XK} (hT : (pT, some q) ∈ Ps) (un : ∀ e ∈ Ps, e.1 = pT → e.2 = some q) (h : EvX Ps G M t Ef R) : Ev Ps G M (LX.tLam3 [(pT, q)] pT (fun tl H Q => tl (Ef Q) H Q) t) R := fun σ F H Q en s qq => by
  have tab : LamX.TabS H pT q := s.tb _ hT
  refine ⟨fun p hp => by rw [List.mem_singleton.mp hp]; exact tab, fun H1 _ tab1 kp => ?_⟩
  have tab1 : LamX.TabS H1 pT q := tab1 (pT, q) (List.mem_singleton.mpr rfl)
  obtain ⟨ps0, hp0, _⟩ := tab
  have inP : pT ∈ tk Ps := List.mem_map.mpr ⟨_, hT, rfl⟩
  have neF : ∀ {a : Addr} {o : HO}, F a = some o → a ≠ pT := fun h z => by
    rw [z, s.fp _ inP] at h
    cases h
  have ev : Evo Ps M F H F H1 := by
    refine ⟨Le.refl F, fun a o h => ?_, fun a o h p _ => kp a o (fun z => p (by rw [z]; exact inP)) h, fun a o h => .inl h, fun e he => ?_, fun e he => ?_, fun a kvs h c => kp _ _ (neF h) (s.fz a kvs h c)⟩
    · rcases s.sub a o h with h' | ⟨od, kvs, e, h'⟩
      · exact .inl (kp _ _ (neF h) h')
      · exact .inr ⟨od, kvs, e, kp _ _ (neF h) h'⟩
    · by_cases z : e.1 = pT
      · rw [un e he z, z]
        exact tab1
      · have t0 := s.tb e he
        obtain ⟨P, o⟩ := e
        cases o with
        | none =>
          obtain ⟨ps, h1, h2⟩ := t0
          exact ⟨ps, kp _ _ z h1, h2⟩
        | some q' =>
          obtain ⟨ps, h1, h2, h3⟩ := t0
          refine ⟨ps, kp _ _ z h1, h2, fun pos cv hc => ?_⟩
          obtain ⟨c, e1, e2⟩ := h3 pos cv hc
          exact ⟨c, e1, kp _ _ (fun y => by rw [y, hp0] at e2; cases e2) e2⟩
    · obtain ⟨o, h1, h2⟩ := s.mu e he
      exact ⟨o, kp _ _ (fun z => (s.ow e he).1 (by rw [z]; exact inP)) h1, h2⟩
  exact h σ F H1 Q en (s.evo ev) fun v F' H' e2 r => qq v F' H' (ev.trans e2) r
/-- a call within it -/
theorem EvX.call {sp : Sp} {Ef : VK → XK} {t : TA} (ha : Ea Ps G M t Rs) (o : ∀ F H vs Q, Sh Ps M F H → RsOk F Rs vs → (∀ z F' H', Evo Ps M F H F' H' → R.R F' z → Q z H') → sp (vs ++ []) H Q (Ef Q)) : EvX Ps G M (fun E => tCall sp [] E t) Ef R := fun σ F H Q en s q =>
  ha σ F H _ en s fun vs F1 H1 e1 r1 => o F1 H1 vs Q (s.evo e1) r1 fun z F3 H3 e3 r3 => q z F3 H3 (e1.trans e3) r3
theorem EvX.meth {a C : Addr} {fs : List (Str × V)} {m : Str} {sp : Sp} {Ef : VK → XK} {t : TA} (ho : Ev Ps G M ta (Obj a C fs)) (nm : fs.lookup m = none) (ha : Ea Ps G M t Rs) (o : ∀ F H vs Q, Sh Ps M F H → RsOk F (Obj a C fs :: Rs) vs → (∀ z F' H', Evo Ps M F H F' H' → R.R F' z → Q z H') → sp (vs ++ []) H Q (Ef Q)) : EvX Ps G M (fun E => tMeth C m sp [] E ta t) Ef R := fun σ F H Q en s q => ho σ F H _ en s fun w F1 H1 e1 r1 => by
  obtain ⟨ew, dx, h⟩ := id r1
  exact ⟨a, dx, fs, ew, (s.evo e1).sub.ins h, nm, ha σ F1 H1 _ (en.mono e1.le) (s.evo e1) fun vs F2 H2 e2 r2 => o F2 H2 (w :: vs) Q ((s.evo e1).evo e2) (.cons ((Obj a C fs).mono _ _ _ e2.le r1) r2) fun z F3 H3 e3 r3 => q z F3 H3 ((e1.trans e2).trans e3) r3⟩
/-! ### dice -/
theorem DiceM.at {d : Addr} (s : Sh Ps M F H) (hM : (d, DiceM) ∈ M) : ∃ a b c : Int, H d = some (.lst [.int a, .int b, .int c]) := by
  obtain ⟨o, h1, a, b, c, rfl⟩ := s.mu _ hM
  exact ⟨a, b, c, h1⟩
/-- the dice are rolled -/
theorem Evo.roll {d : Addr} (s : Sh Ps M F H) (hM : (d, DiceM) ∈ M) (a b c : Int) : Evo Ps M F H F (upd H d (.lst [.int a, .int b, .int c])) := by
  obtain ⟨x, y, z, hd⟩ := DiceM.at s hM
  obtain ⟨nP, nF⟩ := s.ow _ hM
  have nF := nF rfl
  have inM : d ∈ M.map (·.1) := List.mem_map.mpr ⟨_, hM, rfl⟩
  refine ⟨Le.refl F, fun b u h => (s.sub b u h).upd (fun z => by rw [z, nF] at h; exact nomatch h), fun b u h p m => by rw [upd_ne (fun z => m (by rw [z]; exact inM))]; exact h, fun b u h => .inl h, s.tb.upd nP (by rw [hd]; exact fun _ z => nomatch z), fun e he => ?_, fun b kvs h k => by rw [upd_ne (fun z => by rw [z, nF] at h; exact nomatch h)]; exact s.fz b kvs h k⟩
  by_cases q : e.1 = d
  · have : e = (d, DiceM) := by
      obtain ⟨i, hi⟩ := List.getElem?_of_mem he
      obtain ⟨j, hj⟩ := List.getElem?_of_mem hM
      have g1 : (M.map (·.1))[i]? = some d := by rw [List.getElem?_map, hi]; exact congrArg some q
      have g2 : (M.map (·.1))[j]? = some d := by rw [List.getElem?_map, hj]; rfl
      have := List.Nodup.getElem?_inj_ s.nd (List.getElem?_eq_some_iff.mp g1).1 (g1.trans g2.symm)
      subst this
      rw [hi] at hj
      exact Option.some.inj hj
    subst this
    exact ⟨_, upd_same, a, b, c, rfl⟩
  · obtain ⟨o, h1, h2⟩ := s.mu e he
    exact ⟨o, by rw [upd_ne q]; exact h1, h2⟩
theorem Oc.roll {d : Addr} {n : Int} {sp : Sp} {E : XK} (hM : (d, DiceM) ∈ M) (n1 : 1 ≤ n) (n2 : n ≤ 1000) (h : ∀ H Q E, (∃ a b c : Int, H d = some (.lst [.int a, .int b, .int c])) → (∀ (r : Nat) a b c, (r : Int) < n → Q (.int (r : Nat)) (upd H d (.lst [.int a, .int b, .int c]))) → sp [.ref d, .int n] H Q E) :
    Oc Ps M (fun vs H Q => sp (vs ++ []) H Q E) [At d, Is K n] (Exi K fun r : Int => 0 ≤ r ∧ r < n) := fun F H vs Q s r q => by
  obtain ⟨v, w, rfl, h1, h2⟩ := rs2 r
  cases h1
  cases h2
  refine h H Q E (DiceM.at s hM) fun r a b c hr => q _ F _ (Evo.roll s hM a b c) ⟨(r : Int), ⟨by omega, hr⟩, rfl⟩
end
end RP

-- RU6
set_option maxRecDepth 100000
set_option maxHeartbeats 4000000
/-! x in d.values(), texts; d == e, flat -/
namespace RU
open PySem PySem.Spec PyProof.Rows L2
section
theorem plain_ci : plainId "proto.contains_iter" = true := by decide +kernel
theorem entry_ci : entryFor table "proto.contains_iter" = some Builtin.«proto.contains_iter» := entryFor_of_fast (by kernel_rfl)
theorem noContains_vals : typeLookup (.type "dict_values") "__contains__" = pure none := by rw [typeLookup_type, builtinLookup_eq_fast]; kernel_rfl
variable {P : Program} {w : World} {A : Around} {E : Value → Shared → Prop}
abbrev vview (a : Addr) : Obj := ⟨.type "dict_values", none, .fields #[.ref a], #[]⟩
/-- the walk over values, until the text is met -/
theorem seek {R : Result → Shared → Prop} {I : Addr} {fp wr : List Addr} {n : Nat} {Pv : Nat → Value → Prop} {St : Nat → Heap → Prop} (W : Walks P w A.in1 I fp wr n Pv St) (ts : List Str) (hn : ts.length = n) (hP : ∀ i v, Pv i v → ∃ t u, ts[i]? = some t ∧ v = .str t u) {k : Str} {u : Tok} :
    ∀ (m i : Nat), n - i = m → i ≤ n → ∀ s : Shared, St i s.heap → (∀ h' tk, (∀ b o, b ∉ wr → s.heap.get? b = some o → h'.get? b = some o) → R (.ok (.ret (.bool (decide (k ∈ ts.drop i))))) { s with heap := h', toks := tk }) →
      codeAny (model P w) A (.builtin "proto.contains_iter" ⟨[.ref I, .str k u], []⟩) R s := by
  intro m
  induction m with
  | zero =>
    intro i hm hi s st h
    have e : i = n := by omega
    subst e
    refine codeAny_builtin entry_ci ?_
    rw [Around.under_plainId plain_ci _]
    show wpAny _ A.in1 (pyNext (.ref I) >>= _) _ _ s
    refine wpAny_bind (W.done s _ _ st fun h' tk hk => ?_)
    refine wpAny_bind (wpAny_rule ?_)
    refine wpAny_pure ?_
    have := h h' tk hk
    rw [← hn, List.drop_length] at this
    exact this
  | succ m ih =>
    intro i hm hi s st h
    have hlt : i < n := by omega
    refine codeAny_builtin entry_ci ?_
    rw [Around.under_plainId plain_ci _]
    show wpAny _ A.in1 (pyNext (.ref I) >>= _) _ _ s
    refine wpAny_bind (W.item i s _ _ hlt st fun v h' tk hv st' hk => ?_)
    obtain ⟨t, u', ht, rfl⟩ := hP i v hv
    have ed : ts.drop i = t :: ts.drop (i + 1) := by
      rw [List.drop_eq_getElem_cons (by omega)]
      congr 1
      rw [List.getElem?_eq_getElem (by omega)] at ht
      exact Option.some.inj ht
    dsimp only
    refine wpAny_bind (wpAny_eqBool_str ?_)
    by_cases c : t = k
    · rw [decide_eq_true c]
      refine wpAny_ite ?_
      rw [if_pos rfl]
      refine wpAny_bind (wpAny_rule (wpAny_pure ?_))
      have := h h' tk hk
      rw [ed, decide_eq_true (by rw [c]; exact List.mem_cons_self ..)] at this
      exact this
    · rw [decide_eq_false c]
      refine wpAny_ite ?_
      rw [if_neg (by simp)]
      refine wpAny_pure ⟨plainId_quiet plain_ci _, ih (i + 1) (by omega) hlt _ st' fun h2 tk2 hk2 => ?_⟩
      have := h h2 tk2 fun b o hb e => hk2 b o hb (hk b o hb e)
      rw [ed] at this
      have e2 : decide (k ∈ t :: ts.drop (i + 1)) = decide (k ∈ ts.drop (i + 1)) := decide_eq_decide.mpr ⟨fun z => (List.mem_cons.mp z).resolve_left fun y => c y.symm, fun z => List.mem_cons_of_mem _ z⟩
      rw [e2] at this
      exact this
/-- k in a view of values -/
theorem contains_view {s : Shared} {K : Type} [DecidableEq K] {knd : KeyKind P w K} {v d : Addr} {kvs : List (K × Value)} {ep : Nat} {k : Str} {u : Tok} {Q : Bool → Shared → Prop} (calm : A.handled = none) (hv : s.heap.get? v = some (vview d)) (hd : s.heap.DictAt knd d kvs ep)
    (ts : List Str) (hl : ts.length = kvs.length) (ht : ∀ (i : Nat) (key : K) (x : Value), kvs[i]? = some (key, x) → ∃ t u, ts[i]? = some t ∧ x = Value.str t u) (go : ∀ h' tk, (∀ b o, s.heap.get? b = some o → h'.get? b = some o) → Q (decide (k ∈ ts)) { s with heap := h', toks := tk }) : wpAny (model P w) A (contains (.ref v) (.str k u)) Q E s := by
  have ty : s.TypeIs (.ref v) "dict_values" := ⟨_, hv, rfl⟩
  unfold contains
  refine wpAny_holding ?_
  rw [stdlibNamesSay?_of_typeIs ty]
  refine wpAny_bind (wpAny_specialOf ty noContains_vals ?_)
  refine wpAny_ite ?_
  rw [if_neg (by simp)]
  refine wpAny_bind (wpAny_callSpecialUnlessNone?_none ty noContains_vals ?_)
  dsimp only
  refine wpAny_bind (wpAny_rule ?_)
  have lt : d < s.heap.objs.size := by
    obtain ⟨o, es, ho, _⟩ := id hd
    exact Heap.lt_size ho
  refine wpAny_bind (wpAny_tryCatch (wpAny_pyIter_values (v := v) (d := d) ⟨_, hv, rfl, rfl⟩ hd ?_))
  have keep : ∀ b o, s.heap.get? b = some o → (s.heap.push { cls := .type "dict_valueiterator", data := .fields #[.ref d, .int 0 0, .int kvs.length 0, .int ep 0] }).get? b = some o := fun b o e => Heap.get?_push_of_some _ e
  refine wpAny_bind (wpAny_runValue (seek (Walks.dictValues (knd := knd) (A := A.in1) calm s.heap.objs.size d (Nat.ne_of_lt lt) kvs ep) ts hl (fun i x ⟨key, hx⟩ => ht i key x hx) _ 0 rfl (Nat.zero_le _) _ ⟨⟨_, Heap.get?_push_size _ rfl, rfl, rfl⟩, hd.keep keep⟩ fun h' tk hk => ?_))
  refine wpAny_pure ?_
  rw [List.drop_zero]
  exact go h' tk fun b o e => hk b o (fun z => by
    have := Heap.lt_size e
    rw [List.mem_singleton.mp z] at this
    exact Nat.lt_irrefl _ this) (keep b o e)
end
section
variable {X : Cx} {o : Expr} {p pos apos mpos : Pos} {td : TE}
/-- a view of the values of the dict at d -/
def ViewO (v d : Addr) : HO := .ext fun h => h.get? v = some (vview d)
def tVals (td : TE) : TE := fun σ H Q => td σ H fun x H1 => ∃ (d : Addr) (kvs : List (Key × V)), x = V.ref d ∧ Rd H1 d (.dK kvs) ∧ ∀ v, H1 v = none → Q (.ref v) (upd H1 v (ViewO v d))
theorem pe_vals (hd : PE X o td) (hbase : attributeBase o "values" X.env (eval o X.env) = eval o X.env := by rfl) (hline : (apos.endLine == mpos.line) = true := by rfl) : PE X (.Call (.Attribute o "values" apos) [] [] mpos) (tVals td) := by
  refine ⟨fun pins s σ H Q I h => ?_⟩
  refine wpAny_Call_method0_late hbase hline (thn (hd.run pins s σ H _ I h) fun v t ⟨x, G, J, r1, a, kvs, ex, ha, q⟩ => ?_)
  subst ex
  obtain rfl : v = Value.ref a := r1
  obtain ⟨_, nsys, vs, rel, dof⟩ := dk_rd J.hok ha
  obtain ⟨ep, dat⟩ := dof.dictAt
  obtain ⟨ob, es, at_a, ex, _, _, _, _⟩ := id dat
  refine ⟨"dict", "dict.values", F.plainAttrs_dict, F.slot_dict_values, F.type_dict_values, ⟨ob, at_a, ex.1⟩, fun b e => ?_, Calls.callWith_builtin rfl (PySem.evalArgs_none ?_)⟩
  · cases e
    exact ⟨ob, at_a, ex.2.1⟩
  refine call_meetsIn F.slot_dict_values ⟨ob, at_a, ex.1⟩ F.entry_dict_values (F.args_dict_values_1 _) (meets_dict_values (mixKind X.prog X.w) a nsys) ⟨⟨vs, dof⟩, ?_⟩
  refine ⟨.ref t.heap.objs.size, upd G t.heap.objs.size (ViewO t.heap.objs.size a), J.laid (t' := t.toks) (fun b o e => Heap.get?_push_of_some _ e) (Nat.le_refl _) ⟨Heap.get?_push_size _ rfl, ⟨_, Heap.get?_push_size _ rfl⟩, fun h1 h2 q k => k _ q⟩, rfl, q _ (J.hok.fresh (Nat.le_refl _))⟩
/-- in, not in, of a text and a view -/
def rInVals (neg : Bool) : R2 := fun x y H Q => ∃ (k : Str) (v d : Addr) (kvs : List (Key × V)) (ts : List Str), x = .str k ∧ y = .ref v ∧ H v = some (ViewO v d) ∧ Rd H d (.dK kvs) ∧ kvs.map (·.2) = ts.map V.str ∧ Q (.bl (if neg then !decide (k ∈ ts) else decide (k ∈ ts))) H
theorem view_in {pins : List (Addr × Obj)} {σ : L2.St} {H : Hp} {s : Shared} {k : Str} {tk : Tok} {v d : Addr} {kvs : List (Key × V)} {ts : List Str} {Q : Bool → Shared → Prop} {E : Value → Shared → Prop} (calm : X.calm = true) (I : Inv X pins σ H s) (hv : H v = some (ViewO v d)) (hd : Rd H d (.dK kvs)) (ht : kvs.map (·.2) = ts.map V.str)
    (go : ∀ s', Inv X pins σ H s' → Q (decide (k ∈ ts)) s') : wpAny (model X.prog X.w) X.A (contains (.ref v) (.str k tk)) Q E s := by
  have e1 : s.heap.get? v = some (vview d) := (I.hok v _ hv).1
  obtain ⟨_, nsys, vs, rel, dof⟩ := dk_rd I.hok hd
  obtain ⟨ep, dat⟩ := dof.dictAt
  have lv : ts.length = vs.length := by
    have e1 := congrArg List.length ht
    simp only [List.length_map] at e1
    rw [← e1, KV.length rel]
  refine contains_view (I.ok.hd calm) e1 dat ts lv (fun i key x hx => ?_) fun h' t' hk => go _ (I.kept (t' := t') hk)
  obtain ⟨y, h1, h2⟩ := KV.at' rel hx
  have e2 : (kvs.map (·.2))[i]? = some y := by
    rw [List.getElem?_map, h1]
    rfl
  rw [ht, List.getElem?_map] at e2
  obtain ⟨t, h3, rfl⟩ := Option.map_eq_some_iff.mp e2
  obtain ⟨u, e3⟩ := h2
  exact ⟨t, u, h3, e3⟩
theorem op_inVals (calm : X.calm = true) : OpR X (compareOp .In) (rInVals false) := by
  intro pins s σ H x y v u Q I rx ry h
  obtain ⟨k, vv, d, kvs, ts, rfl, rfl, hv, hd, ht, q⟩ := h
  obtain ⟨tk, rfl⟩ := rx
  cases ry
  show wpAny _ _ (do return Value.bool (← contains _ _)) _ _ s
  exact wpAny_bind (view_in calm I hv hd ht fun s' I' => wpAny_pure ⟨.bl _, H, I', rfl, q⟩)
theorem op_notInVals (calm : X.calm = true) : OpR X (compareOp .NotIn) (rInVals true) := by
  intro pins s σ H x y v u Q I rx ry h
  obtain ⟨k, vv, d, kvs, ts, rfl, rfl, hv, hd, ht, q⟩ := h
  obtain ⟨tk, rfl⟩ := rx
  cases ry
  show wpAny _ _ (do return Value.bool (!(← contains _ _))) _ _ s
  exact wpAny_bind (view_in calm I hv hd ht fun s' I' => wpAny_pure ⟨.bl _, H, I', rfl, q⟩)
/-- == and != of dicts of flat values -/
def deqV (ks ls : List (Key × V)) : Bool := decide (ks.length = ls.length) && ks.all fun e => match valV ls e.1 with | none => false | some w => eqV e.2 w
def rDeq (neg : Bool) : R2 := fun x y H Q => ∃ (a b : Addr) (ks ls : List (Key × V)), x = .ref a ∧ y = .ref b ∧ Rd H a (.dK ks) ∧ Rd H b (.dK ls) ∧ (∀ e ∈ ks, flatV e.2 = true) ∧ (∀ e ∈ ls, flatV e.2 = true) ∧ Q (.bl (if neg then !deqV ks ls else deqV ks ls)) H
theorem kv_val {ls : List (Key × V)} {vs : List (Key × Value)} (r : KV ls vs) (k : Key) : (valV ls k = none ∧ valueAt vs k = none) ∨ ∃ w y, valV ls k = some w ∧ valueAt vs k = some y ∧ RelV w y := by
  unfold KV at r
  induction r with
  | nil => exact .inl ⟨rfl, rfl⟩
  | @cons a b l1 l2 h t ih =>
    obtain ⟨e, h⟩ := h
    by_cases c : a.1 = k
    · refine .inr ⟨a.2, b.2, by simp [valV, c], ?_, h⟩
      have c2 : b.1 = k := e ▸ c
      simp [valueAt, c2]
    · have c2 : ¬ b.1 = k := fun z => c (e.trans z)
      have e1 : valV (a :: l1) k = valV l1 k := by simp [valV, c]
      have e2 : valueAt (b :: l2) k = valueAt l2 k := by simp [valueAt, c2]
      rw [e1, e2]
      exact ih
theorem val_mem {ls : List (Key × V)} {k : Key} {w : V} (h : valV ls k = some w) : ∃ e ∈ ls, e.2 = w := by
  unfold valV at h
  obtain ⟨e, he, rfl⟩ := Option.map_eq_some_iff.mp h
  exact ⟨e, List.mem_of_find?_eq_some he, rfl⟩
theorem hits_flat {A : Around} {s : Shared} {ls : List (Key × V)} {vs : List (Key × Value)} (r : KV ls vs) (fl : ∀ e ∈ ls, flatV e.2 = true) : ∀ {ks : List (Key × V)} {us : List (Key × Value)}, KV ks us → (∀ e ∈ ks, flatV e.2 = true) → PySem.W.KeqHits A s vs us (ks.all fun e => match valV ls e.1 with | none => false | some w => eqV e.2 w)
  | _, _, .nil, _ => .nil
  | (k, v) :: ks, (k', u) :: us, .cons h t, f => by
    obtain ⟨e, h⟩ := h
    simp only at e
    subst e
    have ih := hits_flat (A := A) (s := s) r fl t fun e he => f e (List.mem_cons_of_mem _ he)
    rw [List.all_cons]
    rcases kv_val r k with ⟨z1, z2⟩ | ⟨w, y, z1, z2, z3⟩
    · simp only [z1, Bool.false_and]
      exact .miss z2
    · simp only [z1]
      obtain ⟨e2, he2, rfl⟩ := val_mem z1
      exact .hit z2 (eqAt_V h z3 (f _ (List.mem_cons_self ..)) (fl e2 he2)) ih
theorem op_eqF (hu : X.A.units < cLine) : OpR X (compareOp .Eq) (rDeq false) := by
  intro pins s σ H x y v u Q I rx ry h
  obtain ⟨a, b, ks, ls, rfl, rfl, ea, eb, f1, f2, q⟩ := h
  obtain rfl : v = Value.ref a := rx
  obtain rfl : u = Value.ref b := ry
  obtain ⟨_, ya, va, ra, da⟩ := dk_rd I.hok ea
  obtain ⟨_, yb, vb, rb, db⟩ := dk_rd I.hok eb
  refine PySem.W.keq_eq (knd := mixKind X.prog X.w) ya yb da db hu (fun _ => hits_flat rb f2 ra f1) (fin_bl I q ?_)
  unfold deqV
  rw [← KV.length ra, ← KV.length rb]
  rfl
theorem op_neF (hu : X.A.units < cLine) : OpR X (compareOp .NotEq) (rDeq true) := by
  intro pins s σ H x y v u Q I rx ry h
  obtain ⟨a, b, ks, ls, rfl, rfl, ea, eb, f1, f2, q⟩ := h
  obtain rfl : v = Value.ref a := rx
  obtain rfl : u = Value.ref b := ry
  obtain ⟨_, ya, va, ra, da⟩ := dk_rd I.hok ea
  obtain ⟨_, yb, vb, rb, db⟩ := dk_rd I.hok eb
  refine PySem.W.keq_ne (knd := mixKind X.prog X.w) ya yb da db hu (fun _ => hits_flat rb f2 ra f1) (fin_bl I q ?_)
  unfold deqV
  rw [← KV.length ra, ← KV.length rb]
  rfl
end
end RU

-- RPk
set_option maxRecDepth 100000
set_option maxHeartbeats 4000000
namespace RP
open PySem PySem.Spec PyProof.Rows L2
open Rp (rp)
/-- flat values that == tells -/
class Fl (α : Type) [Rp α] extends Sc α where
  fl : ∀ x, flatV (v x) = true
  eqf : ∀ x y, eqV (v x) (v y) = true ↔ x = y
instance : Fl Int := ⟨fun _ => rfl, fun x y => beq_iff_eq⟩
instance : Fl Nat := ⟨fun _ => rfl, fun x y => by show ((x : Int) == (y : Int)) = true ↔ _; rw [beq_iff_eq]; omega⟩
instance : Fl Bool := ⟨fun _ => rfl, fun x y => beq_iff_eq⟩
instance : Fl Str := ⟨fun _ => rfl, fun x y => beq_iff_eq⟩
instance : Fl (Option Str) := ⟨fun o => by cases o <;> rfl, fun x y => by
  cases x <;> cases y
  · exact ⟨fun _ => rfl, fun _ => rfl⟩
  · exact ⟨fun z => absurd (show false = true from z) Bool.false_ne_true, fun z => nomatch z⟩
  · exact ⟨fun z => absurd (show false = true from z) Bool.false_ne_true, fun z => nomatch z⟩
  · rename_i a b
    show (a == b) = true ↔ _
    rw [beq_iff_eq, Option.some.injEq]⟩
def deqL {κ α : Type} [DecidableEq κ] [DecidableEq α] (l m : List (κ × α)) : Bool := decide (l.length = m.length) && l.all fun e => decide (lookD m e.1 = some e.2)
section
variable {Ps : Tbs} {B : Bs} {M L : Mu} {G G' : Gm} {K : PySem.W.Frag} {ta tb tc te td ty tv : TE} {t u : TS} {D : L2.Ends} {tt tu : TT} {R Ra Rb R' : VRel} {Rs : List VRel} {F H F' H' : Hp} {g : TG} {σ : L2.St} {k : L2.St → Hp → Prop} {α β κ : Type} [Rp α] [Rp β] [Ky κ] [Rp κ]
theorem Kvs.flat [Fl α] {kv : List (Key × V)} {l : List (κ × α)} (h : Kvs K F kv l) : ∀ e ∈ kv, flatV e.2 = true := by
  unfold Kvs at h
  induction h with
  | nil => exact fun _ z => nomatch z
  | @cons a b l1 l2 r _ ih =>
    intro e he
    rcases List.mem_cons.mp he with rfl | he
    · have := Sc.eq K F e.2 b.2 r.2
      rw [this]
      exact Fl.fl b.2
    · exact ih e he
theorem deq_is [Fl α] [DecidableEq κ] [DecidableEq α] {kv kw : List (Key × V)} {l m : List (κ × α)} (h : Kvs K F kv l) (h2 : Kvs K F kw m) : RU.deqV kv kw = deqL l m := by
  unfold RU.deqV deqL
  rw [Paired.length h, Paired.length h2]
  congr 1
  unfold Kvs at h
  induction h with
  | nil => rfl
  | @cons a b l1 l2 r _ ih =>
    rw [List.all_cons, List.all_cons, ih]
    congr 1
    have e1 := Sc.eq K F a.2 b.2 r.2
    rcases h2.val b.1 with ⟨z1, z2⟩ | ⟨x, v, z1, z2, z3⟩
    · rw [r.1, z2, z1]
      simp
    · rw [r.1, z2, z1]
      have e2 := Sc.eq K F v x z3
      rw [e1, e2, Bool.eq_iff_iff]
      show eqV (Sc.v b.2) (Sc.v x) = true ↔ _
      rw [Fl.eqf, decide_eq_true_iff, Option.some.injEq]
      exact eq_comm
theorem o2_deq [Fl α] [DecidableEq κ] [DecidableEq α] {l m : List (κ × α)} {neg : Bool} (h1 : Ds Ps M K Ra l) (h2 : Ds Ps M K Rb m) : O2 Ps M (RU.rDeq neg) Ra Rb (Is K (if neg then !deqL l m else deqL l m)) := fun F H v w Q s a b q => by
  obtain ⟨p, kv, rfl, e1, k1⟩ := h1 F H v s a
  obtain ⟨p', kw, rfl, e2, k2⟩ := h2 F H w s b
  exact ⟨p, p', kv, kw, rfl, rfl, e1, e2, k1.flat, k2.flat, q _ F H s.refl (by rw [deq_is k1 k2]; rfl)⟩
/-- a view of the values of the table at d -/
def Vw (d : Addr) : VRel := ⟨fun F v => ∃ a, v = .ref a ∧ F a = some (RU.ViewO a d), fun F F' v l ⟨a, e, h⟩ => ⟨a, e, l _ _ h⟩⟩
theorem Ev.vals {l : List (κ × α)} {d : Addr} (h : Ev Ps G M td (At d)) (hd : (d, DicM K l) ∈ M) : Ev Ps G M (RU.tVals td) (Vw d) := fun σ F H Q en s q => h σ F H _ en s fun v F1 H1 e1 r1 => by
  cases r1
  obtain ⟨o, h1, kv, rfl, p⟩ := (s.evo e1).mu _ hd
  exact ⟨d, kv, rfl, .inl h1, fun a ha => q _ _ _ (e1.trans ((s.evo e1).new ha)) ⟨a, rfl, upd_same⟩⟩
theorem Sub.view {a d : Addr} (s : Sub F H) (h : F a = some (RU.ViewO a d)) : H a = some (RU.ViewO a d) := by
  rcases s _ _ h with h | ⟨_, _, e, _⟩
  · exact h
  · unfold RU.ViewO at e
    cases e
theorem kvs_str {kv : List (Key × V)} {l : List (κ × Str)} (h : Kvs K F kv l) : kv.map (·.2) = (l.map (·.2)).map V.str := ps2_str (K := K) (F := F) (kvs_vals h)
theorem o2_inVals {l : List (κ × Str)} {d : Addr} {x : Str} {neg : Bool} (hd : (d, DicM K l) ∈ M) : O2 Ps M (RU.rInVals neg) (Is K x) (Vw d) (Is K (if neg then !decide (x ∈ l.map (·.2)) else decide (x ∈ l.map (·.2)))) := fun F H v w Q s a b q => by
  cases a
  obtain ⟨vv, rfl, hv⟩ := b
  obtain ⟨o, h1, kv, rfl, p⟩ := s.mu _ hd
  have ts : List Str := l.map (·.2)
  exact ⟨x, vv, d, kv, List.map (fun (e : κ × Str) => e.2) l, rfl, rfl, s.sub.view hv, .inl h1, kvs_str p, q _ F H s.refl rfl⟩
/-- sorted(d.values()), sum, list of them: a view walked as a list -/
theorem Sh.same {d : Addr} (s : Sh Ps M F H) : Evo Ps M F H F H := s.refl
end
end RP

-- RU7
set_option maxRecDepth 100000
set_option maxHeartbeats 4000000
/-! sorted(d.values()), texts -/
namespace RU
open PySem PySem.Spec PyProof.Rows L2
section
variable {X : Cx}
def rSortVals : List V → Hp → VK → Prop := fun xs H Q => ∃ (v d : Addr) (kvs : List (Key × V)) (ks : List Str), xs = [.ref v] ∧ H v = some (ViewO v d) ∧ Rd H d (.dK kvs) ∧ kvs.map (·.2) = ks.map V.str ∧ ks.length < 64 ∧
  ∀ (ys : List Str) (p : Addr), ys.Perm ks → sortedS ys = true → H p = none → Q (.ref p) (upd H p (.lst (ys.map V.str)))
theorem cr_sortVals (calm : X.calm = true) : CallR X (.builtin "sorted") rSortVals := by
  intro pins s σ H xs us Q I r q
  obtain ⟨v, d, kvs, ks, rfl, hv, hd, hks, few, q⟩ := q
  rw [Vals.ref1 r]
  have e1 : s.heap.get? v = some (vview d) := (I.hok v _ hv).1
  obtain ⟨z, lo, vs, rel, dd⟩ := dk_rd I.hok hd
  obtain ⟨ep, dat⟩ := dd.dictAt
  have lv : vs.length = ks.length := by
    have e1 := congrArg List.length hks
    simp only [List.length_map] at e1
    rw [← e1, KV.length rel]
  refine Calls.call_function_entry kind_sorted plain_sorted entry_sorted (args_sorted1 _) ?_
  unfold Builtin.«sorted»
  refine wpAny_bind (m := checkCount "sorted" 1 1 _) (wpAny_pure ?_)
  refine wpAny_bind (PySem.W.kdu_collect (A := X.A.in1) (PySem.W.kdl_values (knd := mixKind X.prog X.w) (r := v) (d := d) (kvs := vs) (ep := ep)) (I.ok.hd calm) ⟨⟨_, e1, rfl, rfl⟩, dat⟩ (by rw [lv, sizeLine_eq]; omega) fun h' tk acc keep got => ?_)
  have la : acc.toList.length = ks.length := by rw [Array.length_toList, got.1, lv]
  have tx : StrsAre acc.toList ks := strs_at la fun j x e => by
    obtain ⟨k, hk⟩ := got.2 j x (by rw [← Array.getElem?_toList]; exact e)
    obtain ⟨y, h1, h2⟩ := KV.at' rel hk
    have e2 : (kvs.map (·.2))[j]? = some y := by
      rw [List.getElem?_map, h1]
      rfl
    rw [hks, List.getElem?_map] at e2
    obtain ⟨t, h3, rfl⟩ := Option.map_eq_some_iff.mp e2
    obtain ⟨u, e3⟩ := h2
    exact ⟨t, u, h3, e3⟩
  have I1 : Inv X pins σ H { s with heap := h', toks := tk } := I.kept keep
  refine wpAny_bind (wpAny_newList ?_ (by rw [la, sizeLine_eq]; omega))
  have hoL : (h'.push (seqObj "list" acc.toList.toArray 0)).get? h'.objs.size = some (seqObj "list" acc.toList.toArray 0) := Heap.get?_push_size _ rfl
  show wpAny _ _ _ _ _ { s with heap := h'.push (seqObj "list" acc.toList.toArray 0), toks := tk }
  refine wpAny_bind (wpAny_holding (wpAny_call_entry slot_list_sort ⟨_, hoL, rfl⟩ entry_list_sort (list_sort_treeK strKind_oneLt (s := { s with heap := h'.push (seqObj "list" acc.toList.toArray 0), toks := tk }) hoL tx.keysOf (fun v1 v2 rest e => keyKind_strs (by rw [← e]; exact tx)) (by rw [la]; exact few) fun st' hp hs => ⟨_, rfl, ?_⟩) (args_list_sort _)))
  obtain ⟨ys, g3, g4, g5⟩ := sorted_out_str tx hp hs
  obtain ⟨c, hc⟩ := sortedHeap_at (vs := acc.toList) (out := (arrOf st').map (·.2)) hoL
  have ln : (ys.map V.str).length ≤ sizeLine := by rw [List.length_map, g4.length_eq, sizeLine_eq]; omega
  refine wpAny_pure ⟨_, rfl, .ref h'.objs.size, upd H h'.objs.size (.lst (ys.map V.str)), I1.laid (t' := tk) (fun b u e => ?_) (Nat.le_refl _) (show ObjOk X.prog X.w _ _ _ (.lst (ys.map V.str)) from ⟨ln, ((arrOf st').map (·.2)).toList, c, vals_of_strs g3, by rw [Array.toArray_toList]; exact hc⟩), rfl, q ys _ g4 g5 (I1.hok.fresh (Nat.le_refl _))⟩
  have lt : b < h'.objs.size := Heap.lt_size e
  rw [sortedHeap_old (Nat.ne_of_lt lt) (by rw [size_push']; exact Nat.lt_succ_of_lt lt)]
  exact Heap.get?_push_of_some _ e
end
end RU

-- RPl
set_option maxRecDepth 100000
set_option maxHeartbeats 4000000
/-! what changes on the way: expressions and tests that leave another M -/
namespace RP
open PySem PySem.Spec PyProof.Rows L2
open Rp (rp)
section
variable {Ps : Tbs} {B : Bs} {M M' L : Mu} {G G' : Gm} {K : PySem.W.Frag} {ta tb tc te td ty tv : TE} {t u : TS} {D : L2.Ends} {tt tu : TT} {R Ra Rb R' : VRel} {Rs : List VRel} {F H F' H' : Hp} {g : TG} {σ : L2.St} {k : L2.St → Hp → Prop} {α β κ : Type} [Rp α] [Rp β] [Ky κ] [Rp κ]
def EvS (Ps : Tbs) (B : Bs) (G : Gm) (M : Mu) (te : TE) (P : VRel → Mu → Prop) : Prop := ∀ (σ : L2.St) (F H : Hp) (Q : VK), Sa Ps B G M σ F H → (∀ (R : VRel) (M' : Mu) (v : V) (F' H' : Hp), P R M' → Sa Ps B G M' σ F' H' → Le F F' → R.R F' v → Q v H') → te σ H Q
def EtS (Ps : Tbs) (B : Bs) (G : Gm) (M : Mu) (tt : TT) (P : Bool → Mu → Prop) : Prop := ∀ (σ : L2.St) (F H : Hp) (Q : Bool → Hp → Prop), Sa Ps B G M σ F H → (∀ (b : Bool) (M' : Mu) (F' H' : Hp), P b M' → Sa Ps B G M' σ F' H' → Le F F' → Q b H') → tt σ H Q
theorem Ev.toS {P : VRel → Mu → Prop} (h : Ev Ps G M te R) (p : P R M) : EvS Ps B G M te P := fun σ F H Q s q => h σ F H Q s.en s.sh fun v F' H' e r => q R M v F' H' p (s.evo e) e.le r
theorem Et.toS {P1 : Bool → Prop} {P : Bool → Mu → Prop} (h : Et Ps G M tt P1) (p : ∀ b, P1 b → P b M) : EtS Ps B G M tt P := fun σ F H Q s q => h σ F H Q s.en s.sh fun b F' H' e r => q b M F' H' (p b r) (s.evo e) e.le
theorem EvS.opL {r : R2} {P P2 : VRel → Mu → Prop} (ha : EvS Ps B G M ta P) (h : ∀ Ra M', P Ra M' → ∃ Rb R, Ev Ps G M' tb Rb ∧ O2 Ps M' r Ra Rb R ∧ P2 R M') : EvS Ps B G M (tOp r ta tb) P2 := fun σ F H Q s q => ha σ F H _ s fun Ra M' v F1 H1 p s1 l1 r1 => by
  obtain ⟨Rb, R, hb, o, p2⟩ := h Ra M' p
  exact hb σ F1 H1 _ s1.en s1.sh fun w F2 H2 e2 r2 => o F2 H2 v w Q (s1.sh.evo e2) (Ra.mono _ _ _ e2.le r1) r2 fun z F3 H3 e3 r3 => q R M' z F3 H3 p2 ((s1.evo e2).evo e3) (l1.trans (e2.le.trans e3.le)) r3
theorem EtS.test {P : VRel → Mu → Prop} {P2 : Bool → Mu → Prop} (h : EvS Ps B G M te P) (k : ∀ R M', P R M' → ∃ b, R = Is K b ∧ P2 b M') : EtS Ps B G M (tTest te) P2 := fun σ F H Q s q => h σ F H _ s fun R M' v F1 H1 p s1 l1 r1 => by
  obtain ⟨b, rfl, p2⟩ := k R M' p
  exact ⟨b, r1, q b M' F1 H1 p2 s1 l1⟩
theorem EtS.or {P1 P : Bool → Mu → Prop} (h : EtS Ps B G M tt P1) (h1 : ∀ M', P1 true M' → P true M') (h2 : ∀ M', P1 false M' → EtS Ps B G M' tu P) : EtS Ps B G M (tOr tt tu) P := fun σ F H Q s q => h σ F H _ s fun b M' F1 H1 p s1 l1 => by
  cases b with
  | true => exact q true M' F1 H1 (h1 M' p) s1 l1
  | false => exact h2 M' p σ F1 H1 _ s1 fun b M2 F2 H2 p2 s2 l2 => q b M2 F2 H2 p2 s2 (l1.trans l2)
theorem Nx.iteS {P : Bool → Mu → Prop} (h : EtS Ps B G M tt P) (h1 : ∀ M', P true M' → Nx Ps B G M' (t D)) (h2 : ∀ M', P false M' → Nx Ps B G M' (u D)) : Nx Ps B G M (tIfS tt t u D) := fun σ F H s => h σ F H _ s fun b M' F' H' p s' _ => by
  cases b with
  | true => exact h1 M' p σ F' H' s'
  | false => exact h2 M' p σ F' H' s'
/-- a test that is false, as it must be -/
theorem Nx.ifF {P : Bool → Mu → Prop} (h : EtS Ps B G M tt P) (f : ∀ M', ¬ P true M') (h2 : ∀ M', P false M' → Nx Ps B G M' D.nx) : Nx Ps B G M (tIfS tt t tNext D) := Nx.iteS h (fun M' p => absurd p (f M')) h2
theorem Nx.ifFp {b : Bool} (h : Et Ps G M tt (· = b)) (f : b = false) (h2 : Nx Ps B G M D.nx) : Nx Ps B G M (tIfS tt t tNext D) := Nx.ite h (fun z => by rw [f] at z; cases z) fun _ => h2
theorem Nx.setS {P : VRel → Mu → Prop} {i : Nat} (h : EvS Ps B G M te P) (h2 : ∀ R M', P R M' → Nx Ps B (G.set i (some R)) M' D.nx) : Nx Ps B G M (tAsg te (gName i) D) := fun σ F H s => h σ F H _ s fun R M' v F' H' p s' _ r => h2 R M' p _ F' H' (s'.env (s'.en.set r))
theorem Nx.dropS {P : VRel → Mu → Prop} (h : EvS Ps B G M te P) (h2 : ∀ R M', P R M' → Nx Ps B G M' D.nx) : Nx Ps B G M (tDrop te D) := fun σ F H s => h σ F H _ s fun R M' v F' H' p s' _ _ => h2 R M' p σ F' H' s'
/-- a, b = x, y -/
theorem Nx.par {P : VRel → Mu → Prop} {P2 : VRel → VRel → Mu → Prop} {i j : Nat} (ha : EvS Ps B G M ta P) (hb : ∀ Ra M', P Ra M' → EvS Ps B G M' tb (fun Rb M'' => P2 Ra Rb M'')) (h2 : ∀ Ra Rb M', P2 Ra Rb M' → Nx Ps B ((G.set i (some Ra)).set j (some Rb)) M' D.nx) : Nx Ps B G M (tAsg (tTup (tCons ta (tCons tb tNil))) (gTup K 2 (gCons (gName i) (gCons (gName j) gNil))) D) := fun σ F H s =>
  ha σ F H _ s fun Ra M1 v F1 H1 p s1 l1 r1 => hb Ra M1 p σ F1 H1 _ s1 fun Rb M2 w F2 H2 p2 s2 l2 r2 => by
    refine ⟨by show 2 ≤ sizeLine; decide, fun a ha => ?_⟩
    have e := s2.sh.new (o := .tup [v, w]) ha
    refine ⟨a, _, rfl, SqT.of upd_same, rfl, v, [w], rfl, w, [], rfl, rfl, h2 Ra Rb M2 p2 _ _ _ ((s2.evo e).env (((s2.en.mono e.le).set (Ra.mono _ _ _ (l2.trans e.le) r1)).set (Rb.mono _ _ _ e.le r2)))⟩
/-- {} that may change -/
theorem EvS.newD {P : VRel → Mu → Prop} (p : ∀ a, P (At a) ((a, DicM K ([] : List (κ × α))) :: M)) : EvS Ps B G M tDNewK P := fun σ F H Q s q => fun a ha => q _ _ _ F _ (p a) (s.new (r := DicM K ([] : List (κ × α))) ha ⟨_, rfl, .nil⟩) (Le.refl F) rfl
theorem oc_sortVals {l : List (κ × Str)} {d : Addr} (hd : (d, DicM K l) ∈ M) (n : l.length < 64) : Oc Ps M RU.rSortVals [Vw d] (Exi K fun ys : List Str => ys.Perm (l.map (·.2)) ∧ sortedS ys = true) := fun F H vs Q s r q => by
  obtain ⟨v, ev, rr⟩ := rs1 r
  subst ev
  obtain ⟨a, rfl, hv⟩ := rr
  obtain ⟨o, h1, kv, rfl, p⟩ := s.mu _ hd
  exact ⟨a, d, kv, l.map (fun e => e.2), rfl, s.sub.view hv, .inl h1, kvs_str p, by rw [List.length_map]; exact n, fun ys p pm so hp => q _ _ _ (Evo.newL s (str_ps2 (K := K) ys) hp).1 ⟨ys, ⟨pm, so⟩, (Evo.newL s (str_ps2 (K := K) ys) hp).2⟩⟩
/-- d.get(k) -/
theorem Ev.dget1 [KyR κ] [DecidableEq κ] {l : List (κ × α)} {k : κ} (hd : Ev Ps G M td R) (hs : Ds Ps M K R l) (hk : Ev Ps G M ty (Is K k)) : Ev Ps G M (tDGet1 td ty) (Is K (lookD l k)) := fun σ F H Q en s q =>
  hd σ F H _ en s fun v F1 H1 e1 r1 => by
    obtain ⟨a, kv, rfl, h, p⟩ := hs F1 H1 v (s.evo e1) r1
    refine ⟨a, rfl, .inl ⟨kv, h⟩, hk σ F1 H1 _ (en.mono e1.le) (s.evo e1) fun w F2 H2 e2 r2 => ?_⟩
    have s2 := (s.evo e1).evo e2
    obtain ⟨a', kv', e', h, p⟩ := hs F2 H2 (.ref a) s2 (R.mono _ _ _ e2.le r1)
    cases e'
    refine ⟨_, .inl ⟨kv', Ky.key k, h, (KyR.r ..).mp r2, rfl⟩, q _ F2 H2 (e1.trans e2) ?_⟩
    rcases p.val k with ⟨z, z2⟩ | ⟨x, v, h1, h2, r⟩
    · rw [z, z2]; rfl
    · rw [h1, h2]; exact r
end
end RP

-- RPm
set_option maxRecDepth 100000
set_option maxHeartbeats 4000000
/-! fewer things that may change; calls that change; new tuples and lists seen at once -/
namespace RP
open PySem PySem.Spec PyProof.Rows L2
open Rp (rp)
section
variable {Ps : Tbs} {B : Bs} {M M' L : Mu} {G G' : Gm} {K : PySem.W.Frag} {ta tb tc te td ty tv : TE} {t u : TS} {D : L2.Ends} {tt tu : TT} {R Ra Rb R' : VRel} {Rs : List VRel} {F H F' H' : Hp} {g : TG} {σ : L2.St} {k : L2.St → Hp → Prop} {α β κ : Type} [Rp α] [Rp β] [Ky κ] [Rp κ]
theorem Sh.less (s : Sh Ps M F H) (h : M'.Sublist M) (ow : ∀ e ∈ M, e ∈ M' ∨ e.2.own = true) : Sh Ps M' F H :=
  ⟨s.sub, s.tb, s.fp, fun e he => s.mu e (h.subset he), fun e he => s.ow e (h.subset he), s.nd.sublist (h.map _), fun a kvs hF c => s.fz a kvs hF fun e he z => (ow e he).elim (fun y => c e y z) id⟩
theorem Sa.less (s : Sa Ps B G M σ F H) (h : M'.Sublist M) (ow : ∀ e ∈ M, e ∈ M' ∨ e.2.own = true) : Sa Ps B G M' σ F H :=
  ⟨s.en, s.sh.less h ow, s.le, s.keep, s.dom, s.nw, fun e he => s.mw e (h.subset he)⟩
theorem Nx.less (h : M'.Sublist M) (ow : ∀ e ∈ M, e ∈ M' ∨ e.2.own = true) (n : Nx Ps B G M' k) : Nx Ps B G M k := fun σ F H s => n σ F H (s.less h ow)
/-- all that stands in M is own -/
theorem ow_all (h : ∀ e ∈ M, e.2.own = true) : ∀ e ∈ M, e ∈ M' ∨ e.2.own = true := fun e he => .inr (h e he)
/-! ### arguments that change -/
def EaS (Ps : Tbs) (B : Bs) (G : Gm) (M : Mu) (ta : TA) (P : List VRel → Mu → Prop) : Prop := ∀ (σ : L2.St) (F H : Hp) (Q : List V → Hp → Prop), Sa Ps B G M σ F H → (∀ (Rs : List VRel) (M' : Mu) (vs : List V) (F' H' : Hp), P Rs M' → Sa Ps B G M' σ F' H' → Le F F' → RsOk F' Rs vs → Q vs H') → ta σ H Q
theorem Ea.toS {ta : TA} {P : List VRel → Mu → Prop} (h : Ea Ps G M ta Rs) (p : P Rs M) : EaS Ps B G M ta P := fun σ F H Q s q => h σ F H _ s.en s.sh fun vs F' H' e r => q Rs M vs F' H' p (s.evo e) e.le r
/-- what a call does to the state -/
def OcS (Ps : Tbs) (B : Bs) (G : Gm) (M : Mu) (r : List V → Hp → VK → Prop) (Rs : List VRel) (P : VRel → Mu → Prop) : Prop := ∀ (σ : L2.St) (F H : Hp) (vs : List V) (Q : VK), Sa Ps B G M σ F H → RsOk F Rs vs → (∀ (R : VRel) (M' : Mu) (v : V) (F' H' : Hp), P R M' → Sa Ps B G M' σ F' H' → Le F F' → R.R F' v → Q v H') → r vs H Q
theorem EvS.meth {a C : Addr} {fs : List (Str × V)} {m : Str} {sp : Sp} {E : XK} {t : TA} {P : VRel → Mu → Prop} (ho : Ev Ps G M ta (Obj a C fs)) (nm : fs.lookup m = none) (ha : Ea Ps G M t Rs) (o : OcS Ps B G M (fun vs H Q => sp (vs ++ []) H Q E) (Obj a C fs :: Rs) P) : EvS Ps B G M (tMeth C m sp [] E ta t) P := fun σ F H Q s q => ho σ F H _ s.en s.sh fun w F1 H1 e1 r1 => by
  obtain ⟨ew, dx, h⟩ := id r1
  have s1 := s.evo e1
  exact ⟨a, dx, fs, ew, s1.sh.sub.ins h, nm, ha σ F1 H1 _ s1.en s1.sh fun vs F2 H2 e2 r2 => o σ F2 H2 (w :: vs) Q (s1.evo e2) (.cons ((Obj a C fs).mono _ _ _ e2.le r1) r2) fun R M' v F' H' p s' le r => q R M' v F' H' p s' ((e1.le.trans e2.le).trans le) r⟩
theorem EvS.call {sp : Sp} {E : XK} {t : TA} {P : VRel → Mu → Prop} (ha : Ea Ps G M t Rs) (o : OcS Ps B G M (fun vs H Q => sp (vs ++ []) H Q E) Rs P) : EvS Ps B G M (tCall sp [] E t) P := fun σ F H Q s q => ha σ F H _ s.en s.sh fun vs F1 H1 e1 r1 => o σ F1 H1 vs Q (s.evo e1) r1 fun R M' v F' H' p s' le r => q R M' v F' H' p s' (e1.le.trans le) r
/-- dict(list of pairs), that may change -/
theorem EvS.dict [KyR κ] [DecidableEq κ] {xs : List (κ × α)} {t : TA} {P : VRel → Mu → Prop} (ha : Ea Ps G M t [Is K xs]) (hl : xs.length ≤ 10000) (uk : (xs.map (·.1)).Nodup) {r : List V → Hp → VK → Prop}
    (hr : ∀ F H vs Q, Sh Ps M F H → RsOk F [Is K xs] vs → (∀ l kv, H l = none → Kvs K F kv xs → Q (.ref l) (upd H l (.dK kv))) → r vs H Q) (p : ∀ a, P (At a) ((a, DicM K xs) :: M)) : EvS Ps B G M (tCB r t) P := fun σ F H Q s q => ha σ F H _ s.en s.sh fun vs F1 H1 e1 r1 =>
  hr F1 H1 vs Q (s.sh.evo e1) r1 fun l kv hl hk => q _ _ _ F1 _ (p l) ((s.evo e1).new (r := DicM K xs) hl ⟨kv, rfl, hk⟩) e1.le rfl
/-! ### what is new, frozen at once -/
def fzN (F H H' : Hp) : Hp := fun a => match H a with
  | none => (match H' a with
    | some (.tup vs) => some (.tup vs)
    | some (.lst vs) => some (.lst vs)
    | _ => none)
  | some _ => F a
theorem fzN_tup {a : Addr} {vs : List V} (h : H a = none) (h' : H' a = some (.tup vs)) : fzN F H H' a = some (.tup vs) := by unfold fzN; rw [h, h']
theorem fzN_lst {a : Addr} {vs : List V} (h : H a = none) (h' : H' a = some (.lst vs)) : fzN F H H' a = some (.lst vs) := by unfold fzN; rw [h, h']
theorem fzN_cases {a : Addr} {o : HO} (h : fzN F H H' a = some o) : (H a = none ∧ H' a = some o ∧ ∀ kvs, o ≠ .dK kvs) ∨ ((∃ u, H a = some u) ∧ F a = some o) := by
  unfold fzN at h
  cases e : H a with
  | some u => rw [e] at h; exact .inr ⟨⟨u, rfl⟩, h⟩
  | none =>
    rw [e] at h
    cases e' : H' a with
    | none => rw [e'] at h; cases h
    | some o' =>
      rw [e'] at h
      cases o' <;> first | (cases h; done) | (cases h; exact .inl ⟨rfl, rfl, fun _ z => nomatch z⟩)
theorem Evo.gwN {Ps0 : List Addr} {pT : Addr} {q : Str} (s : Sh (mkPs Ps0 pT q) M F H) (nP : pT ∉ Ps0) (g : Gw0 Ps0 H H') : Evo (mkPs Ps0 pT q) M F H (fzN F H H') H' := by
  have e := Evo.gw s nP g
  have le : Le F (fzN F H H') := fun a o h => by
    obtain ⟨u, hu⟩ := s.some_of h
    unfold fzN
    rw [hu]
    exact h
  refine ⟨le, fun a o h => ?_, e.keep, fun a o h => ?_, e.tb, fun x hx => ?_, fun a kvs h c => ?_⟩
  · rcases fzN_cases h with ⟨_, h', _⟩ | ⟨_, h'⟩
    · exact .inl h'
    · exact e.sub a o h'
  · rcases fzN_cases h with ⟨h', _, _⟩ | ⟨_, h'⟩
    · exact .inr h'
    · exact .inl h'
  · obtain ⟨o, h1, h2⟩ := e.mu x hx
    exact ⟨o, h1, x.2.mono _ _ _ le h2⟩
  · rcases fzN_cases h with ⟨_, _, n⟩ | ⟨_, h'⟩
    · exact absurd rfl (n _)
    · exact e.fz a kvs h' c
/-- behind a call that changed the object at d alone, all new tuples and lists seen -/
theorem Sa.gpN {Ps0 : List Addr} {pT : Addr} {q : Str} {j : Nat} {d : Addr} {r r' : MRel} {o : HO} (s : Sa (mkPs Ps0 pT q) B G M σ F H) (nP : pT ∉ Ps0) (hj : M[j]? = some (d, r)) (ow : r.own = true) (tb : ∀ P ∈ Ps0, GxR.TabG H' P) (keep : ∀ b o, b ∉ Ps0 → b ≠ d → H b = some o → H' b = some o) (hd : H' d = some o) (hr : r'.R F o) : ∃ F', Sa (mkPs Ps0 pT q) B G (M.set j (d, r')) σ F' H' ∧ Le F F' ∧ (∀ a vs, H a = none → H' a = some (.tup vs) → F' a = some (.tup vs)) ∧ (∀ a vs, H a = none → H' a = some (.lst vs) → F' a = some (.lst vs)) := by
  have hm : (d, r) ∈ M := List.mem_of_getElem? hj
  obtain ⟨o0, hd0, _⟩ := s.sh.mu _ hm
  have s1 := s.wr (r' := r') hj ow hr
  have g : Gw0 Ps0 (upd H d o) H' := ⟨tb, fun b u n h => by
    by_cases z : b = d
    · subst z
      rw [upd_same] at h
      rw [hd, Option.some.inj h]
    · rw [upd_ne z] at h
      exact keep b u n z h⟩
  have ex := Evo.gwN s1.sh nP g
  refine ⟨_, s1.evo ex, ex.le, fun a vs h h' => fzN_tup ?_ h', fun a vs h h' => fzN_lst ?_ h'⟩
  · rw [upd_ne (fun z => by rw [z, hd0] at h; cases h)]; exact h
  · rw [upd_ne (fun z => by rw [z, hd0] at h; cases h)]; exact h
theorem Sh.gwN {Ps0 : List Addr} {pT : Addr} {q : Str} (s : Sh (mkPs Ps0 pT q) M F H) (nP : pT ∉ Ps0) (g : Gw0 Ps0 H H') : ∃ F', Evo (mkPs Ps0 pT q) M F H F' H' ∧ (∀ a vs, H a = none → H' a = some (.tup vs) → F' a = some (.tup vs)) ∧ (∀ a vs, H a = none → H' a = some (.lst vs) → F' a = some (.lst vs)) :=
  ⟨_, Evo.gwN s nP g, fun _ _ h h' => fzN_tup h h', fun _ _ h h' => fzN_lst h h'⟩
end
end RP

-- RPn
set_option maxRecDepth 100000
set_option maxHeartbeats 4000000
namespace RP
open PySem PySem.Spec PyProof.Rows L2
open Rp (rp)
section
variable {Ps : Tbs} {B : Bs} {M M' L : Mu} {G G' : Gm} {K : PySem.W.Frag} {ta tb tc te td ty tv : TE} {t u : TS} {D : L2.Ends} {tt tu : TT} {R Ra Rb R' : VRel} {Rs : List VRel} {F H F' H' : Hp} {g : TG} {σ : L2.St} {k : L2.St → Hp → Prop} {α β κ : Type} [Rp α] [Rp β] [Ky κ] [Rp κ]
theorem putD_new [DecidableEq κ] {l : List (κ × α)} {k : κ} {x : α} (h : k ∉ l.map (·.1)) : putD l k x = l ++ [(k, x)] := by
  unfold putD
  rw [if_neg]
  intro z
  obtain ⟨e, he, z⟩ := List.any_eq_true.mp z
  exact h (List.mem_map.mpr ⟨e, he, of_decide_eq_true z⟩)
theorem mergeD_nodup [DecidableEq κ] {l : List (κ × α)} (h : (l.map (·.1)).Nodup) : mergeD l = l := by
  have : ∀ (l acc : List (κ × α)), ((acc ++ l).map (·.1)).Nodup → l.foldl (fun acc e => putD acc e.1 e.2) acc = acc ++ l := by
    intro l
    induction l with
    | nil => intro acc _; simp
    | cons e r ih =>
      intro acc hn
      rw [List.foldl_cons, putD_new, ih]
      · simp
      · simpa using hn
      · intro z
        rw [List.map_append, List.map_cons] at hn
        exact (List.nodup_append.mp hn).2.2 _ z _ (List.mem_cons_self ..) rfl
  exact this l [] h
theorem EvS.dictP [KyR κ] [DecidableEq κ] {xs : List (κ × α)} {t : TA} {P : VRel → Mu → Prop} (ha : Ea Ps G M t [Is K xs]) (uk : (xs.map (·.1)).Nodup) (p : ∀ a, P (At a) ((a, DicM K xs) :: M)) :
    EvS Ps B G M (tCB (fun vs H Q => ∃ (a : Addr) (ps : List Addr) (kvs : List (Key × V)), vs = [.ref a] ∧ SqL K H a (ps.map V.ref) ∧ Paired (fun p kv => SqT K H p [kV kv.1, kv.2]) ps kvs ∧
    ∀ p, H p = none → Q (.ref p) (upd H p (.dK (mergeK [] kvs)))) t) P := fun σ F0 H0 Q s0 q => ha σ F0 H0 _ s0.en s0.sh fun vs F H e1 r => by
  have s := (s0.evo e1).sh
  obtain ⟨v, ev, rr⟩ := rs1 r
  subst ev
  replace r := rr
  clear rr
  obtain ⟨a, ws, rfl, h1, p2⟩ := Ls.fz F H v s r
  obtain ⟨ps, kvs, e1', e2, e3⟩ : ∃ (ps : List Addr) (kvs : List (Key × V)), ps.map V.ref = ws ∧ Paired (fun p kv => F p = some (.tup [kV kv.1, kv.2])) ps kvs ∧ Kvs K F kvs xs := by
    clear h1 r q uk p ha
    unfold Ps2 at p2
    induction p2 with
    | nil => exact ⟨[], [], rfl, .nil, .nil⟩
    | @cons v x vs xs h t ih =>
      obtain ⟨ps, kvs, h1, h2, h3⟩ := ih
      obtain ⟨b, u, w, rfl, hb, hu, hw⟩ := h
      have hu := (KyR.r ..).mp hu
      subst hu
      exact ⟨b :: ps, (Ky.key x.1, w) :: kvs, by rw [List.map_cons, h1], .cons hb h2, .cons ⟨rfl, hw⟩ h3⟩
  refine ⟨a, ps, kvs, rfl, SqL.of (by rw [e1']; exact h1), ?_, fun b hb => ?_⟩
  · clear e1' e3
    induction e2 with
    | nil => exact .nil
    | cons h _ ih => exact .cons (SqT.of (s.sub.tup h)) ih
  · have : ∀ (kvs : List (Key × V)) (xs : List (κ × α)) (acc : List (Key × V)) (acc' : List (κ × α)), Kvs K F kvs xs → Kvs K F acc acc' → Kvs K F (kvs.foldl (fun acc kv => putK acc kv.1 kv.2) acc) (xs.foldl (fun acc e => putD acc e.1 e.2) acc') := by
      intro kvs xs acc acc' h
      unfold Kvs at h
      induction h generalizing acc acc' with
      | nil => exact fun h => h
      | @cons x y l1 l2 r t ih =>
        intro h
        rw [List.foldl_cons, List.foldl_cons]
        refine ih _ _ ?_
        rw [r.1]
        exact h.put r.2
    have k := this kvs xs [] [] e3 .nil
    have k2 : Kvs K F (mergeK [] kvs) xs := by
      have e := mergeD_nodup uk
      unfold mergeD at e
      rw [e] at k
      exact k
    exact q (At b) ((b, DicM K xs) :: M) _ F _ (p b) ((s0.evo e1).new (r := DicM K xs) hb ⟨_, rfl, k2⟩) e1.le rfl
end
end RP

-- RPo
set_option maxRecDepth 100000
set_option maxHeartbeats 4000000
namespace RP
open PySem PySem.Spec PyProof.Rows L2
open Rp (rp)
section
variable {Ps : Tbs} {B : Bs} {M M' L : Mu} {G G' : Gm} {K : PySem.W.Frag} {ta tb tc te td ty tv : TE} {t u : TS} {D : L2.Ends} {tt tu : TT} {R Ra Rb R' : VRel} {Rs : List VRel} {F H F' H' : Hp} {g : TG} {σ : L2.St} {k : L2.St → Hp → Prop} {α β κ : Type} [Rp α] [Rp β] [Ky κ] [Rp κ] {wi : TI} {n : Nat} {Rt : Nat → VRel} {sl : List Nat}
theorem O2.exi {r : R2} {p : α → Prop} (h : ∀ x, p x → O2 Ps M r (Is K x) Rb R) : O2 Ps M r (Exi K p) Rb R := fun F H v w Q s ⟨x, px, rx⟩ b q => h x px F H v w Q s rx b q
theorem O2.imp {r : R2} (h : O2 Ps M r Ra Rb R) (k : ∀ F v, R.R F v → R'.R F v) : O2 Ps M r Ra Rb R' := fun F H v w Q s a b q => h F H v w Q s a b fun z F' H' e rr => q z F' H' e (k _ _ rr)
theorem O2.bl {r : R2} {b : Bool} {p : Bool → Prop} (h : O2 Ps M r Ra Rb (Is K b)) (hp : p b) : O2 Ps M r Ra Rb (BlP p) := h.imp fun _ _ e => ⟨b, e, hp⟩
theorem Et.of {p : Bool → Prop} (h : Ev Ps G M te (BlP p)) : Et Ps G M (tTest te) p := Et.test h
theorem Oc.exi {r : List V → Hp → VK → Prop} {p : α → Prop} (h : ∀ x, p x → Oc Ps M r [Is K x] R) : Oc Ps M r [Exi K p] R := fun F H vs Q s rr q => by
  obtain ⟨v, rfl, x, px, rx⟩ := rs1 rr
  exact h x px F H [v] Q s (.cons rx .nil) q
theorem Oc.exi2 {r : List V → Hp → VK → Prop} {p : α → Prop} (h : ∀ x, p x → Oc Ps M r [Ra, Is K x] R) : Oc Ps M r [Ra, Exi K p] R := fun F H vs Q s rr q => by
  obtain ⟨v, w, rfl, r1, x, px, rx⟩ := rs2 rr
  exact h x px F H [v, w] Q s (.cons r1 (.cons rx .nil)) q
theorem GLe.nil : GLe [] [] := ⟨rfl, fun i R' e => by simp at e⟩
theorem GLe.keep {a : Option VRel} (h : GLe G G') : GLe (a :: G) (a :: G') := ⟨congrArg Nat.succ h.1, fun i R' e => by
  cases i with
  | zero => exact ⟨R', e, fun _ _ h => h⟩
  | succ i => exact h.2 i R' e⟩
theorem GLe.drop {a : Option VRel} (h : GLe G G') : GLe (a :: G) (none :: G') := ⟨congrArg Nat.succ h.1, fun i R' e => by
  cases i with
  | zero => cases e
  | succ i => exact h.2 i R' e⟩
/-- what is walked may have come with things that change -/
def EiS (Ps : Tbs) (B : Bs) (G : Gm) (M L : Mu) (wi : TI) (n : Nat) (Rs : Nat → VRel) (P : Mu → Prop) : Prop := ∀ (σ : L2.St) (F H : Hp) (R : It → Hp → Prop), Sa Ps B G M σ F H → (∀ J M1 F1 H1, P M1 → Sa Ps B G M1 σ F1 H1 → Wk Ps L F1 J n Rs → R J H1) → wi σ H R
theorem EvS.walkL {xs : List α} {P : VRel → Mu → Prop} {P2 : Mu → Prop} (h : EvS Ps B G M te P) (k : ∀ R M', P R M' → R = Is K xs ∧ P2 M') : EiS Ps B G M [] (iList K te) xs.length (Nth K xs) P2 := fun σ F H R s q => h σ F H _ s fun Rr M1 v F1 H1 p s1 l1 r1 => by
  obtain ⟨rfl, p2⟩ := k Rr M1 p
  obtain ⟨a, vs, ev, hF, hp⟩ := r1
  subst ev
  have ln := Paired.length hp
  refine ⟨a, rfl, ⟨vs, SqL.of (s1.sh.sub.lst hF)⟩, q _ M1 F1 H1 p2 s1 ⟨fun _ i F' H' _ hi l s' => ?_, fun _ F' H' _ l s' => ?_, fun _ i F' H' x H'' _ hi l s' y => ?_⟩⟩
  · exact ⟨vs, vs[i], SqL.of (s'.sub.lst (l _ _ hF)), by simp [show i < vs.length by omega]⟩
  · exact ⟨vs, SqL.of (s'.sub.lst (l _ _ hF)), by omega⟩
  · obtain ⟨rfl, y⟩ := y
    have := y vs (SqL.of (s'.sub.lst (l _ _ hF)))
    exact ⟨F', s'.refl, xs[i], by simp [hi], Rp.mono K _ _ _ _ l (Paired.get? hp this (by simp [hi]))⟩
theorem Nx.for1 {γ δ : Type} {Pm : Mu → Prop} (hi : EiS Ps B G M L wi n Rt Pm) (Iv : Nat → δ → Prop) (Gf : Nat → δ → Gm) (Mf : Nat → δ → Mu) (hL : ∀ i c, Iv i c → ∀ e ∈ L, e ∈ Mf i c) (Pg : Nat → γ → Prop) (Rg : Nat → γ → VRel) (hx : ∀ i, i < n → ∀ F v, (Rt i).R F v → ∃ c, Pg i c ∧ (Rg i c).R F v)
    (h0 : ∀ M1, Pm M1 → ∃ c0, Iv 0 c0 ∧ GLe G (Gf 0 c0) ∧ M1 = Mf 0 c0) (Gb : Nat → δ → γ → Gm) (hg : ∀ i c x, i < n → Iv i c → Pg i x → Eg Ps (Gf i c) (Mf i c) g (Rg i x) (Gb i c x) sl)
    (hb : ∀ B', BLe Ps B' B → ∀ i c x, i < n → Iv i c → Pg i x → ∀ N : L2.St → Hp → Prop, (∀ c', Iv (i + 1) c' → Nx Ps B' (Gf (i + 1) c') (Mf (i + 1) c') N) → Nx Ps B' (Gb i c x) (Mf i c) (t { D with nx := N, ct := N, bk := D.nx }))
    (hd : ∀ c, Iv n c → Nx Ps B (Gf n c) (Mf n c) D.nx) : Nx Ps B G M (tFor wi g t D) := fun σ F H s => hi σ F H _ s fun J M1 F1 H1 pm s1 wk => by
  have dn := BLe.up s1
  obtain ⟨c0, i0, g0, m0⟩ := h0 M1 pm
  refine ⟨fun i m σ' H' => m = n - i ∧ i ≤ n ∧ ∃ c F', Iv i c ∧ Sa Ps ⟨F1, B.H0, B.W⟩ (Gf i c) (Mf i c) σ' F' H', ⟨n, rfl, Nat.zero_le _, c0, F1, i0, by
    have := s1.up.env (s1.en.le g0)
    rw [m0] at this
    exact this⟩, ?_⟩
  rintro i m σ' H' ⟨rfl, hin, c, F', iv, s2⟩
  by_cases hlt : i < n
  · refine .inr ⟨wk.goes _ i F' H' (hL i c iv) hlt s2.le s2.sh, fun σ'' H'' => ∃ c F', Iv (i + 1) c ∧ Sa Ps ⟨F1, B.H0, B.W⟩ (Gf (i + 1) c) (Mf (i + 1) c) σ'' F' H'', fun σ'' H'' h => ⟨n - (i + 1), by omega, rfl, hlt, h⟩, fun x H3 y => ?_⟩
    obtain ⟨F3, e3, r3⟩ := wk.yields _ i F' H' x H3 (hL i c iv) hlt s2.le s2.sh y
    obtain ⟨q, pq, rq⟩ := hx i hlt F3 x r3
    have s3 := s2.evo e3
    exact hg i c q hlt iv pq x σ' F3 H3 _ s3.en s3.sh rq fun σ4 en _ _ => hb _ dn i c q hlt iv pq _ (fun c' iv' σ5 F5 H5 s5 => ⟨c', F5, iv', s5⟩) σ4 F3 H3 (s3.env en)
  · have ei : i = n := by omega
    subst ei
    exact .inl ⟨wk.stops _ F' H' (hL i c iv) s2.le s2.sh, hd c iv σ' F' H' (dn _ _ _ _ _ s2)⟩
/-- range(n), n one of those -/
theorem EvS.walkR1 {p : Int → Prop} {ta : TA} (h : Ea Ps G M ta [Exi K p]) (hp : ∀ n, p n → -(2 ^ 62) ≤ n ∧ n < 2 ^ 62) {t : TS} {g : TG} (k : ∀ j, p j → ∀ t0 : TI, Ei Ps G M [] t0 j.toNat (fun i => Is K (i : Int)) → Nx Ps B G M (tFor t0 g t D)) : Nx Ps B G M (tFor (iRng1 ta) g t D) := fun σ F H s => h σ F H _ s.en s.sh fun vs F1 H1 e1 r1 => by
  obtain ⟨v, rfl, j, pj, hv⟩ := rs1 r1
  cases hv
  refine ⟨j, rfl, (hp j pj).1, (hp j pj).2, ?_⟩
  have s1 := s.evo e1
  exact k j pj (fun σ H R => R (Itr 0 j.toNat) H) (fun σ F H R e s q => q _ F H s.refl ⟨fun _ i F' H' _ hi l s' => hi, fun _ F' H' _ l s' => Nat.le_refl _, fun _ i F' H' x H'' _ hi l s' y => by
    obtain ⟨rfl, rfl⟩ := y
    exact ⟨F', s'.refl, by show V.int (0 + (i : Int)) = V.int (i : Int); rw [Int.zero_add]⟩⟩) σ F1 H1 s1
end
end RP

-- RPp
set_option maxRecDepth 100000
set_option maxHeartbeats 4000000
namespace RP
open PySem PySem.Spec PyProof.Rows L2
open Rp (rp)
section
variable {Ps : Tbs} {B : Bs} {M M' L : Mu} {G G' : Gm} {K : PySem.W.Frag} {ta tb tc te td ty tv : TE} {t u : TS} {D : L2.Ends} {tt tu : TT} {R Ra Rb R' : VRel} {Rs : List VRel} {F H F' H' : Hp} {g : TG} {σ : L2.St} {k : L2.St → Hp → Prop} {α β κ : Type} [Rp α] [Rp β] [Ky κ] [Rp κ] {wi : TI} {n : Nat} {Rt : Nat → VRel} {sl : List Nat}
theorem Ev.pair {x : α} {y : β} (ha : Ev Ps G M ta (Is K x)) (hb : Ev Ps G M tb (Is K y)) : Ev Ps G M (tTup (tCons ta (tCons tb tNil))) (Is K (x, y)) := Ev.tup (Ea.cons ha (Ea.cons hb Ea.nil)) (show 2 ≤ 100 by decide) fun F p vs h r => by
  obtain ⟨v, w, rfl, h1, h2⟩ := rs2 r
  exact ⟨p, v, w, rfl, h, h1, h2⟩
theorem Ea.like {t : TA} {Rs : List VRel} {xs : List α} (h : Ea Ps G M t Rs) (hR : Rs = xs.map fun x => Is K x) : ∀ {F : Hp} {vs : List V}, RsOk F Rs vs → Ps2 K F vs xs := by
  subst hR
  intro F vs r
  clear h
  unfold RsOk at r
  unfold Ps2
  revert vs
  induction xs with
  | nil => intro vs r; cases r; exact .nil
  | cons x l ih =>
    intro vs r
    cases r with
    | cons a t => exact .cons a (ih t)
/-- a list, a tuple written out, of like things -/
theorem Ev.lstL {t : TA} {xs : List α} (h : Ea Ps G M t (xs.map fun x => Is K x)) (l : xs.length ≤ 100) : Ev Ps G M (tLst t) (Is K xs) := Ev.lst h (by rw [List.length_map]; exact l) fun F p vs e r => ⟨p, vs, rfl, e, Ea.like h rfl r⟩
theorem Ev.tupL {t : TA} {xs : List α} (h : Ea Ps G M t (xs.map fun x => Is K x)) (l : xs.length ≤ 100) : Ev Ps G M (tTup t) (Is K (Tl.mk xs)) := Ev.tup h (by rw [List.length_map]; exact l) fun F p vs e r => ⟨p, vs, rfl, SqT.of e, Ea.like h rfl r⟩
theorem Ds.atk {a : Addr} {od : PySem.Obj} {kv : List (Key × V)} {l : List (κ × α)} (hM : (a, lkM od kv) ∈ M) : Ds Ps M K (AtK K a kv l) l := fun F H v s ⟨e, h⟩ => by
  obtain ⟨o, h1, rfl⟩ := s.mu _ hM
  exact ⟨a, kv, e, .inr ⟨od, h1⟩, h⟩
theorem range_take {i n : Nat} (h : i < n) : (List.range n)[i]? = some i := by rw [List.getElem?_range h]
/-- [e for k in range(n) if tt] -/
theorem Ev.lcRf {j : Int} {i : Nat} {t : TA} (h : Ea Ps G M t [Is K j]) (h0 : 0 ≤ j) (hn : j ≤ 100000) {p : Nat → Bool} {f : Nat → β}
    (ht : ∀ k : Nat, (k : Int) < j → Et Ps ((wipeG G [i]).set i (some (Is K (k : Int)))) M tt (· = p k)) (he : ∀ k : Nat, (k : Int) < j → p k = true → Ev Ps ((wipeG G [i]).set i (some (Is K (k : Int)))) M te (Is K (f k))) :
    Ev Ps G M (tLc (iRng1 t) (gName i) tt te [i]) (Is K (((List.range j.toNat).filter p).map f)) := by
  have := Ev.lc0 (K := K) (β := β) (γ := Unit) (Ei.range1 h ⟨by omega, by omega⟩) (fun _ h => nomatch h) (by omega) (fun _ _ => True) (fun i _ => Is K (i : Int)) (fun i _ F v r => ⟨(), trivial, r⟩) (fun k _ => (wipeG G [i]).set i (some (Is K (k : Int)))) (fun k _ _ _ => Eg.name) (fun k hk => hk) (P := fun k _ b => b = p k) (fun k _ hk _ => ht k (by omega)) (Pe := fun k _ y => y = f k)
    (fun k _ hk _ pb => (he k (by omega) pb.symm).exi rfl) (fun i ys => ys = (((List.range j.toNat).take i).filter p).map f) rfl (fun k _ ys y hk _ pb py pr => ?_) (fun k _ ys hk _ pb pr => ?_)
  · refine this.imp fun F v ⟨ys, e, r⟩ => ?_
    rw [List.take_of_length_le (by rw [List.length_range]; exact Nat.le_refl _)] at e
    subst e
    exact r
  · rw [filter_take (range_take hk), if_pos pb.symm, List.map_append, ← pr, py]
    rfl
  · rw [filter_take (range_take hk), if_neg (by rw [← pb]; exact Bool.false_ne_true), List.append_nil, ← pr]
end
end RP

-- RPq
set_option maxRecDepth 100000
set_option maxHeartbeats 4000000
namespace RP
open PySem PySem.Spec PyProof.Rows L2
open Rp (rp)
instance {α : Type} [DecidableEq α] : DecidableEq (Tl α) := fun x y => decidable_of_iff (x.l = y.l) ⟨fun h => by cases x; cases y; exact congrArg Tl.mk h, fun h => by rw [h]⟩
section
variable {Ps : Tbs} {B : Bs} {M M' L : Mu} {G G' : Gm} {K : PySem.W.Frag} {ta tb tc te td ty tv : TE} {t u : TS} {D : L2.Ends} {tt tu : TT} {R Ra Rb R' : VRel} {Rs : List VRel} {F H F' H' : Hp} {g : TG} {σ : L2.St} {k : L2.St → Hp → Prop} {α β κ : Type} [Rp α] [Rp β] [Ky κ] [Rp κ] {wi : TI} {n : Nat} {Rt : Nat → VRel} {sl vs : List Nat}
/-- a test that comes out false -/
theorem Et.isF {b : Bool} (h : Ev Ps G M te (Is K b)) (e : b = false) : Et Ps G M (tTest te) (· = false) := (Et.is h).imp fun c z => by rw [z, e]
theorem Et.isT {b : Bool} (h : Ev Ps G M te (Is K b)) (e : b = true) : Et Ps G M (tTest te) (· = true) := (Et.is h).imp fun c z => by rw [z, e]
theorem Et.orF (h : Et Ps G M tt (· = false)) (h2 : Et Ps G M tu (· = false)) : Et Ps G M (tOr tt tu) (· = false) := Et.or h (fun z => by cases z) fun _ => h2
theorem Nx.noIf (h : Et Ps G M tt (· = false)) (h2 : Nx Ps B G M D.nx) : Nx Ps B G M (tIfS tt t tNext D) := Nx.ite h (fun z => by cases z) fun _ => h2
theorem Ev.exiIs {p : α → Prop} {y : α} (h : Ev Ps G M te (Exi K p)) (e : ∀ x, p x → x = y) : Ev Ps G M te (Is K y) := h.imp fun F v ⟨x, px, r⟩ => by
  rw [e x px] at r
  exact r
theorem Ev.natI {n : Nat} (h : Ev Ps G M te (Is K n)) : Ev Ps G M te (Is K (n : Int)) := h.imp fun _ _ r => r
theorem ne_self {α : Type} [DecidableEq α] {x y : α} (e : x = y) : (!decide (x = y)) = false := by rw [e]; simp
/-- [x for x in xs if ..], whatever the test says -/
theorem Ev.lcSub {xs : List α} (hi : Ei Ps G M L wi xs.length (Nth K xs)) (hL : ∀ e ∈ L, e ∈ M) (hn : xs.length ≤ 100000) (Gb : α → Gm)
    (hg : ∀ x ∈ xs, Eg Ps (wipeG G vs) M g (Is K x) (Gb x) sl) (hsl : ∀ k ∈ sl, k ∈ vs) (ht : ∀ x ∈ xs, Et Ps (Gb x) M tt fun _ => True) (he : ∀ x ∈ xs, Ev Ps (Gb x) M te (Is K x)) : Ev Ps G M (tLc wi g tt te vs) (Exi K fun ys : List α => ys.Sublist xs) := by
  have h := Ev.lc0 (K := K) (β := α) (γ := α) hi hL hn (fun i x => xs[i]? = some x) (fun _ x => Is K x) (fun i _ F v r => r) (fun _ x => Gb x) (fun i x _ hx => hg x (mem_of? hx)) hsl (P := fun _ x b => True) (fun i x _ hx => ht x (mem_of? hx)) (Pe := fun _ x y => y = x)
    (fun i x _ hx pb => (he x (mem_of? hx)).exi rfl) (fun i ys => ys.Sublist (xs.take i)) (List.Sublist.refl _) (fun i x ys y _ hx pb py pr => ?_) (fun i x ys _ hx pb pr => ?_)
  · refine h.imp fun F v ⟨ys, e, r⟩ => ⟨ys, ?_, r⟩
    rw [List.take_length] at e
    exact e
  · rw [List.take_add_one, hx, py]
    exact pr.append (List.Sublist.refl _)
  · rw [List.take_add_one, hx]
    exact pr.trans (List.sublist_append_left _ _)
theorem o2_ixTx {xs : List α} {P : Int → Prop} (e : ∀ i, P i → 0 ≤ i ∧ i < xs.length) : O2 Ps M (rIxT K) (Is K (Tl.mk xs)) (Exi K P) (Exi K (· ∈ xs)) := fun F H v w Q s a ⟨i, hi, b⟩ q => by
  obtain ⟨h1, h2⟩ := e i hi
  have hj : i.toNat < xs.length := by omega
  have hx : xs[i.toNat]? = some xs[i.toNat] := List.getElem?_eq_getElem hj
  have ha : atI xs i = some xs[i.toNat] := by
    have := atI_nat (j := i.toNat) hx
    rw [show ((i.toNat : Nat) : Int) = i by omega] at this
    exact this
  exact o2_ixT (K := K) (x := xs[i.toNat]) (R := Is K (Tl.mk xs)) Tl.st ha F H v w Q s a b fun z F' H' ev r => q z F' H' ev ⟨_, List.getElem_mem hj, r⟩
theorem EtS.orF {P : Bool → Mu → Prop} {P1 : Mu → Prop} (h : EtS Ps B G M tt fun b M' => b = false ∧ P1 M') (h2 : ∀ M', P1 M' → EtS Ps B G M' tu P) : EtS Ps B G M (tOr tt tu) P := EtS.or h (fun M' z => nomatch z.1) fun M' z => h2 M' z.2
/-- a test of something that changes the state, false -/
theorem EtS.isF {P1 : Mu → Prop} {b : Bool} (h : EvS Ps B G M te fun R M' => R = Is K b ∧ P1 M') (e : b = false) : EtS Ps B G M (tTest te) fun b M' => b = false ∧ P1 M' := EtS.test h fun R M' z => ⟨b, z.1, e, z.2⟩
theorem Et.toSF {P1 : Mu → Prop} (h : Et Ps G M tt (· = false)) (p : P1 M) : EtS Ps B G M tt fun b M' => b = false ∧ P1 M' := h.toS fun b e => ⟨e, p⟩
theorem Nx.noIfS {P1 : Mu → Prop} (h : EtS Ps B G M tt fun b M' => b = false ∧ P1 M') (h2 : ∀ M', P1 M' → Nx Ps B G M' D.nx) : Nx Ps B G M (tIfS tt t tNext D) := Nx.ifF h (fun M' z => nomatch z.1) fun M' z => h2 M' z.2
theorem EvS.opR {r : R2} {P1 : Mu → Prop} {y : VRel} (ha : EvS Ps B G M ta fun R M' => R = Ra ∧ P1 M') (hb : ∀ M', P1 M' → Ev Ps G M' tb Rb) (o : ∀ M', P1 M' → O2 Ps M' r Ra Rb y) : EvS Ps B G M (tOp r ta tb) fun R M' => R = y ∧ P1 M' := EvS.opL ha fun R M' h => ⟨Rb, y, hb M' h.2, by rw [h.1]; exact o M' h.2, rfl, h.2⟩
end
end RP

-- RPr
set_option maxRecDepth 100000
set_option maxHeartbeats 4000000
/-! generator expressions: any, all, tuple, sum -/
namespace RP
open PySem PySem.Spec PyProof.Rows L2
open Rp (rp)
open GxR (TabG Tabbed)
def captG (ix : List (Option Nat)) (G : Gm) : Gm := ix.map fun o => match o with
  | none => none
  | some i => (G[i]?).getD none
section
variable {Ps : Tbs} {B : Bs} {M M' L : Mu} {G G' : Gm} {K : PySem.W.Frag} {ta tb tc te td ty tv : TE} {t u : TS} {D : L2.Ends} {tt tu : TT} {R Ra Rb R' : VRel} {Rs : List VRel} {F H F' H' : Hp} {g : TG} {σ : L2.St} {k : L2.St → Hp → Prop} {α β κ : Type} [Rp α] [Rp β] [Ky κ] [Rp κ] {wi : TI} {n : Nat} {Rt : Nat → VRel} {sl vs : List Nat} {ix : List (Option Nat)} {P : Addr}
theorem EnvOk.capt (h : EnvOk F σ G) : EnvOk F (GX.capt ix σ) (captG ix G) := by
  refine ⟨by unfold GX.capt captG; rw [List.length_map, List.length_map], fun j R e => ?_⟩
  unfold captG at e
  rw [List.getElem?_map] at e
  cases q : ix[j]? with
  | none => rw [q] at e; cases e
  | some o =>
    rw [q] at e
    cases o with
    | none => cases e
    | some i =>
      have e : (G[i]?).getD none = some R := Option.some.inj e
      cases q2 : G[i]? with
      | none => rw [q2] at e; cases e
      | some x =>
        rw [q2] at e
        have e : x = some R := e
        subst e
        obtain ⟨v, h1, h2⟩ := h.2 i R q2
        refine ⟨v, ?_, h2⟩
        unfold GX.capt
        rw [List.getElem?_map, q]
        show some ((σ[i]?).getD none) = _
        rw [h1]
        rfl
/-- a table of code has grown -/
theorem Evo.tab {H2 : Hp} (s : Sh Ps M F H) (hP : (P, none) ∈ Ps) (un : ∀ e ∈ Ps, e.1 = P → e.2 = none) (tb : Tabbed P H H2) : Evo Ps M F H F H2 := by
  have inP : P ∈ tk Ps := List.mem_map.mpr ⟨_, hP, rfl⟩
  have kp : ∀ {b : Addr} {o : HO}, b ≠ P → H b = some o → H2 b = some o := fun n e => by rw [tb.2 _ n]; exact e
  have neF : ∀ {a : Addr} {o : HO}, F a = some o → a ≠ P := fun h z => by
    rw [z, s.fp _ inP] at h
    cases h
  obtain ⟨ps0, hp0⟩ := (s.tb _ hP).at
  refine ⟨Le.refl F, fun a o h => ?_, fun a o h p _ => kp (fun z => p (by rw [z]; exact inP)) h, fun a o h => .inl h, fun e he => ?_, fun e he => ?_, fun a kvs h c => kp (neF h) (s.fz a kvs h c)⟩
  · rcases s.sub a o h with h' | ⟨od, kvs, e, h'⟩
    · exact .inl (kp (neF h) h')
    · exact .inr ⟨od, kvs, e, kp (neF h) h'⟩
  · by_cases z : e.1 = P
    · rw [un e he z, z]
      exact tb.1
    · have t0 := s.tb e he
      obtain ⟨P', o⟩ := e
      cases o with
      | none =>
        obtain ⟨ps, h1, h2⟩ := t0
        exact ⟨ps, kp z h1, h2⟩
      | some q' =>
        obtain ⟨ps, h1, h2, h3⟩ := t0
        refine ⟨ps, kp z h1, h2, fun pos cv hc => ?_⟩
        obtain ⟨c, e1, e2⟩ := h3 pos cv hc
        exact ⟨c, e1, kp (fun y => by rw [y] at e2; have hp0 : H P = some (.tbl ps0) := hp0; rw [hp0] at e2; cases e2) e2⟩
  · obtain ⟨o, h1, h2⟩ := s.mu e he
    exact ⟨o, kp (fun z => (s.ow e he).1 (by rw [z]; exact inP)) h1, h2⟩
theorem Sh.tabG (s : Sh Ps M F H) (hP : (P, none) ∈ Ps) : TabG H P := s.tb _ hP
/-- any (q = false), all (q = true) -/
theorem Ev.quant {q : Bool} {xs : List α} {p f : α → Bool} (hP : (P, none) ∈ Ps) (un : ∀ e ∈ Ps, e.1 = P → e.2 = none) (hi : Ei Ps G M L wi xs.length (Nth K xs)) (hL : ∀ e ∈ L, e ∈ M) (Gb : α → Gm) (hg : ∀ x ∈ xs, Eg Ps (wipeG (captG ix G) vs) M g (Is K x) (Gb x) sl) (hsl : ∀ k ∈ sl, k ∈ vs)
    (ht : ∀ x ∈ xs, Et Ps (Gb x) M tt (· = p x)) (he : ∀ x ∈ xs, p x = true → Ev Ps (Gb x) M te (Is K (f x))) : Ev Ps G M (GX.tQuant q P wi g tt te ix vs) (Is K (if (xs.filter p).any (fun x => f x == !q) = true then !q else q)) := fun σ F H Q e s qq => hi σ F H _ e s fun J F1 H1 e1 wk => by
  have s1 := s.evo e1
  refine ⟨s1.tabG hP, fun H2 tb => ?_⟩
  have e2 := Evo.tab s1 hP un tb
  refine ⟨fun i m H' => m = xs.length - i ∧ i ≤ xs.length ∧ ((xs.take i).filter p).any (fun x => f x == !q) = false ∧ ∃ F', Evo Ps M F1 H1 F' H', ⟨xs.length, rfl, Nat.zero_le _, rfl, F1, e2⟩, ?_⟩
  rintro i m H' ⟨rfl, hin, hno, F', e3⟩
  have s3 := s1.evo e3
  by_cases hlt : i < xs.length
  · have hx : xs[i]? = some xs[i] := List.getElem?_eq_getElem hlt
    have hmem : xs[i] ∈ xs := List.getElem_mem hlt
    have tk1 := filter_take (p := p) hx
    refine .inr ⟨wk.goes M i F' H' hL hlt e3.le s3, fun H'' => ((xs.take (i + 1)).filter p).any (fun x => f x == !q) = false ∧ ∃ F', Evo Ps M F1 H1 F' H'', fun H'' h => ⟨xs.length - (i + 1), by omega, rfl, hlt, h⟩, fun x H3 y => ?_⟩
    obtain ⟨F3, e4, r3⟩ := wk.yields M i F' H' x H3 hL hlt e3.le s3 y
    obtain ⟨x', ex, rx⟩ := r3
    rw [hx] at ex
    cases ex
    have e5 := e3.trans e4
    refine hg _ hmem x (L2.wipe (GX.capt ix σ) vs) F3 H3 _ (((e.mono (e1.le.trans e5.le)).capt).wipe vs) (s1.evo e5) rx fun σ2 en l2 k2 => ⟨?_, ?_⟩
    · refine wipe_eq (l2.trans (wipe_length ..)) fun k hk => ?_
      exact k2 k fun z => hk (hsl k z)
    · refine ht _ hmem σ2 F3 H3 _ en (s1.evo e5) fun b F4 H4 e6 pb => ?_
      cases b with
      | false =>
        refine ⟨?_, F4, e5.trans e6⟩
        rw [tk1, if_neg (by rw [← pb]; exact Bool.false_ne_true), List.append_nil]
        exact hno
      | true =>
        refine he _ hmem pb.symm σ2 F4 H4 _ (en.mono e6.le) ((s1.evo e5).evo e6) fun w F5 H5 e7 r5 => ?_
        cases r5
        refine ⟨f xs[i], rfl, ?_⟩
        by_cases c : f xs[i] = q
        · rw [if_pos c]
          refine ⟨?_, F5, (e5.trans e6).trans e7⟩
          rw [tk1, if_pos pb.symm, List.any_append, hno, Bool.false_or, List.any_cons, List.any_nil, Bool.or_false, c]
          cases q <;> rfl
        · rw [if_neg c]
          refine qq _ F5 H5 (e1.trans ((e5.trans e6).trans e7)) ?_
          have : (xs.filter p).any (fun x => f x == !q) = true := List.any_eq_true.mpr ⟨xs[i], List.mem_filter.mpr ⟨hmem, pb.symm⟩, by cases q <;> cases z : f xs[i] <;> simp_all⟩
          rw [if_pos this]
          rfl
  · have ei : i = xs.length := by omega
    subst ei
    refine .inl ⟨wk.stops M F' H' hL e3.le s3, qq _ F' H' (e1.trans e3) ?_⟩
    rw [List.take_length] at hno
    rw [if_neg (by rw [hno]; exact Bool.false_ne_true)]
    rfl
/-- tuple(.. for ..) -/
theorem Ev.tupG {xs : List α} {p : α → Bool} {f : α → β} (hP : (P, none) ∈ Ps) (un : ∀ e ∈ Ps, e.1 = P → e.2 = none) (hi : Ei Ps G M L wi xs.length (Nth K xs)) (hL : ∀ e ∈ L, e ∈ M) (hn : xs.length ≤ 100000) (Gb : α → Gm) (hg : ∀ x ∈ xs, Eg Ps (wipeG (captG ix G) vs) M g (Is K x) (Gb x) sl) (hsl : ∀ k ∈ sl, k ∈ vs)
    (ht : ∀ x ∈ xs, Et Ps (Gb x) M tt (· = p x)) (he : ∀ x ∈ xs, p x = true → Ev Ps (Gb x) M te (Is K (f x))) : Ev Ps G M (GX.tTupG (GX.tGenL P wi g tt te ix vs)) (Is K (Tl.mk ((xs.filter p).map f))) := fun σ F H Q e s qq => hi σ F H _ e s fun J F1 H1 e1 wk => by
  have s1 := s.evo e1
  refine ⟨s1.tabG hP, fun H2 tb => ?_⟩
  have e2 := Evo.tab s1 hP un tb
  refine ⟨fun i m ys H' => m = xs.length - i ∧ i ≤ xs.length ∧ ys.length ≤ i ∧ ∃ F', Evo Ps M F1 H1 F' H' ∧ Ps2 K F' ys (((xs.take i).filter p).map f), ⟨xs.length, rfl, Nat.zero_le _, Nat.zero_le _, F1, e2, .nil⟩, ?_⟩
  rintro i m ys H' ⟨rfl, hin, hl, F', e3, hp⟩
  have s3 := s1.evo e3
  by_cases hlt : i < xs.length
  · have hx : xs[i]? = some xs[i] := List.getElem?_eq_getElem hlt
    have hmem : xs[i] ∈ xs := List.getElem_mem hlt
    have tk1 := filter_take (p := p) hx
    refine .inr ⟨wk.goes M i F' H' hL hlt e3.le s3, fun ys' H'' => ys'.length ≤ i + 1 ∧ ∃ F', Evo Ps M F1 H1 F' H'' ∧ Ps2 K F' ys' (((xs.take (i + 1)).filter p).map f), fun ys' H'' h => ⟨xs.length - (i + 1), by omega, rfl, hlt, h⟩, fun x H3 y => ?_⟩
    obtain ⟨F3, e4, r3⟩ := wk.yields M i F' H' x H3 hL hlt e3.le s3 y
    obtain ⟨x', ex, rx⟩ := r3
    rw [hx] at ex
    cases ex
    have e5 := e3.trans e4
    refine hg _ hmem x (L2.wipe (GX.capt ix σ) vs) F3 H3 _ (((e.mono (e1.le.trans e5.le)).capt).wipe vs) (s1.evo e5) rx fun σ2 en l2 k2 => ⟨?_, ?_⟩
    · refine wipe_eq (l2.trans (wipe_length ..)) fun k hk => ?_
      exact k2 k fun z => hk (hsl k z)
    · refine ht _ hmem σ2 F3 H3 _ en (s1.evo e5) fun b F4 H4 e6 pb => ?_
      cases b with
      | false =>
        refine ⟨Nat.le_succ_of_le hl, F4, e5.trans e6, ?_⟩
        rw [tk1, if_neg (by rw [← pb]; exact Bool.false_ne_true), List.append_nil]
        exact hp.mono (e4.le.trans e6.le)
      | true =>
        refine he _ hmem pb.symm σ2 F4 H4 _ (en.mono e6.le) ((s1.evo e5).evo e6) fun w F5 H5 e7 r5 => ?_
        refine ⟨?_, ?_, F5, (e5.trans e6).trans e7, ?_⟩
        · have : 200000 ≤ sizeLine := by decide
          omega
        · rw [List.length_append]
          exact Nat.add_le_add_right hl 1
        · rw [tk1, if_pos pb.symm, List.map_append]
          exact (hp.mono ((e4.le.trans e6.le).trans e7.le)).snoc r5
  · have ei : i = xs.length := by omega
    subst ei
    rw [List.take_length] at hp
    refine .inl ⟨wk.stops M F' H' hL e3.le s3, fun b hb => ?_⟩
    have e9 := s3.new (o := .tup ys) hb
    exact qq _ _ _ ((e1.trans e3).trans e9) ⟨b, ys, rfl, SqT.of upd_same, hp.mono e9.le⟩
end
end RP

-- RPs
set_option maxRecDepth 100000
set_option maxHeartbeats 4000000
/-! texts: methods, slices, messages; refusals -/
namespace RP
open PySem PySem.Spec PyProof.Rows L2
open Rp (rp)
section
variable {Ps : Tbs} {B : Bs} {M M' L : Mu} {G G' : Gm} {K : PySem.W.Frag} {ta tb tc te to td ty tv : TE} {t u : TS} {D : L2.Ends} {tt tu : TT} {R Ra Rb R' : VRel} {Rs : List VRel} {F H F' H' : Hp} {g : TG} {σ : L2.St} {k : L2.St → Hp → Prop} {α β κ : Type} [Rp α] [Rp β] [Ky κ] [Rp κ]
theorem Ev.m0 {r : V → List V → Hp → VK → Prop} {a : Str} (ho : Ev Ps G M to (Is K a)) (o : ∀ F H Q, Sh Ps M F H → (∀ z F' H', Evo Ps M F H F' H' → R.R F' z → Q z H') → r (.str a) [] H Q) : Ev Ps G M (tM0 r to) R := fun σ F H Q e s q => ho σ F H _ e s fun v F1 H1 e1 r1 => by
  cases r1
  exact ⟨⟨a, rfl⟩, o F1 H1 Q (s.evo e1) fun z F' H' e2 r2 => q z F' H' (e1.trans e2) r2⟩
theorem Ev.m1 {r : V → List V → Hp → VK → Prop} {a : Str} (ho : Ev Ps G M to (Is K a)) (he : Ev Ps G M te Rb) (o : ∀ F H w Q, Sh Ps M F H → Rb.R F w → (∀ z F' H', Evo Ps M F H F' H' → R.R F' z → Q z H') → r (.str a) [w] H Q) : Ev Ps G M (tM1 r to te) R := fun σ F H Q e s q => ho σ F H _ e s fun v F1 H1 e1 r1 => by
  cases r1
  refine ⟨⟨a, rfl⟩, he σ F1 H1 _ (e.mono e1.le) (s.evo e1) fun w F2 H2 e2 r2 => o F2 H2 w Q ((s.evo e1).evo e2) r2 fun z F' H' e3 r3 => q z F' H' ((e1.trans e2).trans e3) r3⟩
theorem Ev.split {a b : Str} (ho : Ev Ps G M to (Is K a)) (he : Ev Ps G M te (Is K b)) (hb : (b.length == 0) = false) (ha : a.length ≤ 10000) : Ev Ps G M (tM1 (fun x xs H Q => ∃ a b, x = .str a ∧ xs = [.str b] ∧ (b.length == 0) = false ∧ a.length + 2 ≤ sizeLine ∧ rNewStrs (Txt.split a b) H Q) to te) (Is K (Txt.split a b)) := Ev.m1 ho he fun F H w Q s r q => by
  cases r
  have big : 200000 ≤ sizeLine := by decide
  exact ⟨a, b, rfl, rfl, hb, by omega, fun p hp => q _ _ _ (Evo.newL s (str_ps2 (K := K) _) hp).1 (Evo.newL s (str_ps2 (K := K) _) hp).2⟩
theorem Ev.stripC {a b : Str} (ho : Ev Ps G M to (Is K a)) (he : Ev Ps G M te (Is K b)) (ha : a.length ≤ 10000) : Ev Ps G M (tM1 (fun x xs H Q => ∃ a b, x = .str a ∧ xs = [.str b] ∧ a.length ≤ sizeLine ∧ Q (.str (Txt.stripChars a b)) H) to te) (Is K (Txt.stripChars a b)) := Ev.m1 ho he fun F H w Q s r q => by
  cases r
  have big : 200000 ≤ sizeLine := by decide
  exact ⟨a, b, rfl, rfl, by omega, q _ F H s.refl rfl⟩
theorem Ev.join {a : Str} {xs : List Str} {Rl : VRel} (ho : Ev Ps G M to (Is K a)) (he : Ev Ps G M te Rl) (hs : Sq Ps M K Rl xs) (hl : (xs.map (·.length)).sum + xs.length * a.length ≤ 1000000) : Ev Ps G M (tM1 (fun x xs H Q => ∃ a p, ∃ ys : List Str, x = .str a ∧ xs = [.ref p] ∧ (SqL K H p (ys.map V.str) ∨ SqT K H p (ys.map V.str)) ∧ (ys.map (·.length)).sum + ys.length * a.length ≤ 16777216 ∧ Q (.str (Txt.join a ys)) H) to te) (Is K (Txt.join a xs)) := Ev.m1 ho he fun F H w Q s r q => by
  obtain ⟨p, vs, rfl, h1, h2⟩ := hs F H w s r
  have e := ps2_str h2
  subst e
  exact ⟨a, p, xs, rfl, rfl, h1, by omega, q _ F H s.refl rfl⟩
theorem Ev.starts {a b : Str} (ho : Ev Ps G M to (Is K a)) (he : Ev Ps G M te (Is K b)) : Ev Ps G M (tM1 (fun x xs H Q => ∃ a b, x = .str a ∧ xs = [.str b] ∧ Q (.bl (Txt.startswith a b)) H) to te) (Is K (Txt.startswith a b)) := Ev.m1 ho he fun F H w Q s r q => by
  cases r
  exact ⟨a, b, rfl, rfl, q _ F H s.refl rfl⟩
theorem o2_addL {a b : Str} (h : a.length + b.length ≤ 100000) : True := trivial
/-! slices -/
def Eo (Ps : Tbs) (K : PySem.W.Frag) (G : Gm) (M : Mu) (to : TO) (o : Option Int) : Prop := ∀ σ F H Q, EnvOk F σ G → Sh Ps M F H → (∀ F' H', Evo Ps M F H F' H' → Q o H') → to σ H Q
theorem Eo.none : Eo Ps K G M tNoPart Option.none := fun σ F H Q e s q => q F H s.refl
theorem Eo.some {i : Int} (h : Ev Ps G M te (Is K i)) : Eo Ps K G M (tPart te) (Option.some i) := fun σ F H Q e s q => h σ F H _ e s fun v F1 H1 e1 r1 => by
  cases r1
  exact ⟨i, rfl, q F1 H1 e1⟩
theorem Ev.sl {r : V → Option Int → Option Int → Hp → VK → Prop} {tl th : TO} {lo hi : Option Int} (ha : Ev Ps G M ta Ra) (hl : Eo Ps K G M tl lo) (hh : Eo Ps K G M th hi) (o : ∀ F H v Q, Sh Ps M F H → Ra.R F v → (∀ z F' H', Evo Ps M F H F' H' → R.R F' z → Q z H') → r v lo hi H Q) : Ev Ps G M (tSl r ta tl th) R := fun σ F H Q e s q =>
  ha σ F H _ e s fun v F1 H1 e1 r1 => hl σ F1 H1 _ (e.mono e1.le) (s.evo e1) fun F2 H2 e2 => hh σ F2 H2 _ ((e.mono e1.le).mono e2.le) ((s.evo e1).evo e2) fun F3 H3 e3 => o F3 H3 v Q (((s.evo e1).evo e2).evo e3) (Ra.mono _ _ _ (e2.le.trans e3.le) r1) fun z F' H' e4 r4 => q z F' H' (((e1.trans e2).trans e3).trans e4) r4
theorem Ev.slS {a : Str} {tl th : TO} {lo hi : Option Int} (ha : Ev Ps G M ta (Is K a)) (hl : Eo Ps K G M tl lo) (hh : Eo Ps K G M th hi) (ln : a.length ≤ 100000) : Ev Ps G M (tSl rSlS ta tl th) (Is K (cutS a lo hi)) := Ev.sl ha hl hh fun F H v Q s r q => by
  cases r
  have big : 200000 ≤ sizeLine := by decide
  exact ⟨a, rfl, by omega, q _ F H s.refl rfl⟩
/-! messages -/
/-- what is told of a text's parts -/
def Ej (Ps : Tbs) (G : Gm) (M : Mu) : List TE → Prop
  | [] => True
  | t :: ts => (∃ n, n ≤ 1000 ∧ Ev Ps G M t ⟨fun _ v => ∃ y : Str, v = .str y ∧ y.length ≤ n, fun _ _ _ _ h => h⟩) ∧ Ej Ps G M ts
theorem Str.length_app (a b : Str) : (a ++ b).length = a.length + b.length := by
  show (a.cps ++ b.cps).size = _
  exact Array.size_append
theorem Ej.run : ∀ {ts : List TE} {acc : Str} {F H : Hp} {Q : Str → Hp → Prop}, Ej Ps G M ts → acc.length + 1000 * ts.length ≤ 100000 → EnvOk F σ G → Sh Ps M F H → (∀ out F' H', Evo Ps M F H F' H' → Q out H') → tJs ts acc σ H Q
  | [], acc, F, H, Q, _, _, _, s, q => q acc F H s.refl
  | t :: ts, acc, F, H, Q, ⟨⟨n, hn, h⟩, hr⟩, hl, e, s, q => by
    refine h σ F H _ e s fun v F1 H1 e1 ⟨y, ev, hy⟩ => ⟨y, ev, ?_, ?_⟩
    · have big : 200000 ≤ sizeLine := by decide
      rw [Str.length_app]
      rw [List.length_cons] at hl
      omega
    · refine Ej.run hr ?_ (e.mono e1.le) (s.evo e1) fun out F' H' e2 => q out F' H' (e1.trans e2)
      rw [Str.length_app]
      rw [List.length_cons] at hl
      omega
theorem Ev.msg {ts : List TE} (h : Ej Ps G M ts) (hl : 1000 * ts.length ≤ 99000) : Ev Ps G M (fun σ H Q => tJs ts Str.empty σ H fun out H1 => Q (.str out) H1) ⟨fun _ v => ∃ y : Str, v = .str y, fun _ _ _ _ h => h⟩ := fun σ F H Q e s q => Ej.run h (by show 0 + _ ≤ _; omega) e s fun out F' H' e1 => q _ F' H' e1 ⟨out, rfl⟩
theorem Ev.fmtR {a : Str} {n : Nat} (h : Ev Ps G M te (Is K a)) (hl : (reprText a).length ≤ n) (hn : n ≤ 1000) : Ev Ps G M (tFmtR te) ⟨fun _ v => ∃ y : Str, v = .str y ∧ y.length ≤ n, fun _ _ _ _ h => h⟩ := fun σ F H Q e s q => h σ F H _ e s fun v F1 H1 e1 r1 => by
  cases r1
  have big : 200000 ≤ sizeLine := by decide
  exact .inl ⟨a, rfl, by omega, q _ F1 H1 e1 ⟨_, rfl, hl⟩⟩
theorem Ev.strN {a : Str} {n : Nat} (hl : a.length ≤ n) : Ev Ps G M (tC (.str a)) ⟨fun _ v => ∃ y : Str, v = .str y ∧ y.length ≤ n, fun _ _ _ _ h => h⟩ := Ev.c fun _ => ⟨a, rfl, hl⟩
/-- raise C(message) -/
theorem Nx.raise {C : Addr} {W : WX} {tm : TE} (h : Ev Ps G M tm R) (w : ∀ σ F H, Sa Ps B G M σ F H → W (.ref C) none σ H) : Nx Ps B G M (fun σ H => tm σ H fun _ H1 => W (.ref C) none σ H1) := fun σ F H s => h σ F H _ s.en s.sh fun v F' H' e r => w σ F' H' (s.evo e)
theorem Nx.raiseM {C : Addr} {E : XK} {ts : List TE} (h : Ej Ps G M ts) (hl : 1000 * ts.length ≤ 99000) (w : ∀ σ F H, Sa Ps B G M σ F H → E (.ref C) none H) : Nx Ps B G M (fun σ H => tJs ts Str.empty σ H fun _ H1 => E (.ref C) none H1) := fun σ F H s => Ej.run h (by show 0 + _ ≤ _; omega) s.en s.sh fun out F' H' e1 => w σ F' H' (s.evo e1)
end
end RP

-- RPt
set_option maxRecDepth 100000
set_option maxHeartbeats 4000000
/-! slices of lists, lists many times over, any of a list, ranges as lists -/
namespace RP
open PySem PySem.Spec PyProof.Rows L2
open Rp (rp)
def cutX {α : Type} (xs : List α) (lo hi : Option Int) : List α := (xs.drop (HT.sIx xs.length 0 lo)).take (HT.sIx xs.length xs.length hi - HT.sIx xs.length 0 lo)
theorem cutX_to {α : Type} (xs : List α) (k : Nat) : cutX xs none (some (k : Int)) = xs.take k := by
  unfold cutX
  rw [HT.sIx_nat, HT.sIx_none, List.drop_zero, Nat.sub_zero]
  by_cases h : k ≤ xs.length
  · rw [Nat.min_eq_left h]
  · rw [Nat.min_eq_right (by omega), List.take_of_length_le (Nat.le_refl _), List.take_of_length_le (by omega)]
theorem cutX_from {α : Type} (xs : List α) (k : Nat) : cutX xs (some (k : Int)) none = xs.drop k := by
  unfold cutX
  rw [HT.sIx_nat, HT.sIx_none]
  by_cases h : k ≤ xs.length
  · rw [Nat.min_eq_left h, List.take_of_length_le (by rw [List.length_drop]; exact Nat.le_refl _)]
  · rw [Nat.min_eq_right (by omega), List.drop_of_length_le (Nat.le_refl _), List.drop_of_length_le (by omega)]
    simp
theorem Paired.drop {α β : Type} {P : α → β → Prop} : ∀ {l : List α} {r : List β} (n : Nat), Paired P l r → Paired P (l.drop n) (r.drop n)
  | _, _, 0, h => h
  | _, _, n + 1, .nil => .nil
  | _, _, n + 1, .cons _ t => Paired.drop n t
theorem Paired.take {α β : Type} {P : α → β → Prop} : ∀ {l : List α} {r : List β} (n : Nat), Paired P l r → Paired P (l.take n) (r.take n)
  | _, _, 0, _ => .nil
  | _, _, n + 1, .nil => .nil
  | _, _, n + 1, .cons h t => .cons h (Paired.take n t)
section
variable {Ps : Tbs} {B : Bs} {M M' L : Mu} {G G' : Gm} {K : PySem.W.Frag} {ta tb tc te to td ty tv : TE} {t u : TS} {D : L2.Ends} {tt tu : TT} {R Ra Rb R' : VRel} {Rs : List VRel} {F H F' H' : Hp} {g : TG} {σ : L2.St} {k : L2.St → Hp → Prop} {α β κ : Type} [Rp α] [Rp β] [Ky κ] [Rp κ] {wi : TI} {n : Nat} {Rt Rt' : Nat → VRel}
theorem Ps2.cut {vs : List V} {xs : List α} (h : Ps2 K F vs xs) (lo hi : Option Int) : Ps2 K F (cutV vs lo hi) (cutX xs lo hi) := by
  unfold cutV cutX
  rw [Paired.length h]
  exact Paired.take _ (Paired.drop _ h)
theorem Ev.slL {xs : List α} {tl th : TO} {lo hi : Option Int} (ha : Ev Ps G M ta Ra) (hs : Ls Ps M K Ra xs) (hl : Eo Ps K G M tl lo) (hh : Eo Ps K G M th hi) : Ev Ps G M (tSl (rSlL K) ta tl th) (Is K (cutX xs lo hi)) := Ev.sl ha hl hh fun F H v Q s r q => by
  obtain ⟨a, vs, rfl, h1, h2⟩ := hs F H v s r
  exact ⟨a, vs, rfl, SqL.of h1, fun p hp => q _ _ _ (Evo.newL s (h2.cut lo hi) hp).1 (Evo.newL s (h2.cut lo hi) hp).2⟩
theorem Ei.imp {m : Nat} (h : Ei Ps G M L wi n Rt) (e : n = m) (k : ∀ i, i < n → ∀ F v, (Rt i).R F v → (Rt' i).R F v) : Ei Ps G M L wi m Rt' := by
  subst e
  exact fun σ F H R en s q => h σ F H R en s fun J F1 H1 e1 wk => q J F1 H1 e1 ⟨wk.goes, wk.stops, fun M i F' H' x H'' hL hi le s' y => by
    obtain ⟨F2, e2, r2⟩ := wk.yields M i F' H' x H'' hL hi le s' y
    exact ⟨F2, e2, k i hi _ _ r2⟩⟩
/-- range(a, b) as a list -/
def rngL (a : Int) (n : Nat) : List Int := (List.range n).map fun i : Nat => a + (i : Int)
theorem rng_len {a : Int} {n : Nat} : (rngL a n).length = n := by unfold rngL; rw [List.length_map, List.length_range]
theorem rng_at {a : Int} {i n : Nat} (h : i < n) : (rngL a n)[i]? = some (a + (i : Int)) := by
  unfold rngL
  rw [List.getElem?_map, List.getElem?_range h]
  rfl
theorem Ei.range2L {t : TA} {a b : Int} (h : Ea Ps G M t [Is K a, Is K b]) (hb : -(2 ^ 62) ≤ a ∧ a < 2 ^ 62 ∧ -(2 ^ 62) ≤ b ∧ b < 2 ^ 62) : Ei Ps G M [] (iRng2 t) (rngL a (b - a).toNat).length (Nth K (rngL a (b - a).toNat)) := (Ei.range2 h hb).imp rng_len.symm fun i hi F v r => ⟨_, rng_at hi, r⟩
theorem Ei.range1L {t : TA} {j : Int} (h : Ea Ps G M t [Is K j]) (hb : -(2 ^ 62) ≤ j ∧ j < 2 ^ 62) : Ei Ps G M [] (iRng1 t) (rngL 0 j.toNat).length (Nth K (rngL 0 j.toNat)) := (Ei.range1 h hb).imp rng_len.symm fun i hi F v r => ⟨_, rng_at hi, by show rp K F v (0 + (i : Int)); rw [Int.zero_add]; exact r⟩
/-- enumerate(a list) -/
def enL {α : Type} (xs : List α) : List (Nat × α) := (List.range xs.length).zip xs
theorem en_len {α : Type} {xs : List α} : (enL xs).length = xs.length := by unfold enL; rw [List.length_zip, List.length_range, Nat.min_self]
theorem en_at {α : Type} {xs : List α} {i : Nat} (h : i < xs.length) : (enL xs)[i]? = some (i, xs[i]) := by
  unfold enL
  rw [List.getElem?_zip_eq_some]
  exact ⟨List.getElem?_range h, List.getElem?_eq_getElem h⟩
theorem Ei.enum {xs : List α} {t : TA} (h : Ea Ps G M t [Is K xs]) : Ei Ps G M [] (iEnum K t) (enL xs).length (Nth K (enL xs)) := fun σ F H R e s q => h σ F H _ e s fun vs0 F1 H1 e1 r1 => by
  obtain ⟨v, rfl, a, vs, rfl, hF, hp⟩ := rs1 r1
  have ln := Paired.length hp
  rw [en_len] at q
  refine ⟨a, vs, rfl, SqL.of ((s.evo e1).sub.lst hF), q _ F1 H1 e1 ⟨fun _ i F' H' _ hi l s' => ?_, fun _ F' H' _ l s' => ?_, fun _ i F' H' x H'' _ hi l s' y => ?_⟩⟩
  · exact ⟨vs, vs[i]'(by omega), SqL.of (s'.sub.lst (l _ _ hF)), List.getElem?_eq_getElem _⟩
  · exact ⟨vs, SqL.of (s'.sub.lst (l _ _ hF)), by omega⟩
  · obtain ⟨T, x, rfl, hT, rfl, al⟩ := y
    have ex := al vs (SqL.of (s'.sub.lst (l _ _ hF)))
    have e' := s'.new (o := .tup [.int (i : Nat), x]) hT
    refine ⟨_, e', (i, xs[i]), en_at hi, T, .int (i : Nat), x, rfl, upd_same, rfl, ?_⟩
    exact Rp.mono K _ _ _ _ (l.trans e'.le) (Paired.get? hp ex (List.getElem?_eq_getElem hi))
theorem oc_any {xs : List Bool} (h : Ls Ps M K R xs) : Oc Ps M (rAny K) [R] (Is K (xs.any id)) := fun F H vs Q s r q => by
  obtain ⟨v, rfl, r1⟩ := rs1 r
  obtain ⟨a, ws, rfl, h1, h2⟩ := h F H v s r1
  have e : ws = xs.map V.bl := by
    clear h1 q h r r1
    unfold Ps2 at h2
    induction h2 with
    | nil => rfl
    | cons a _ ih => cases a; rw [ih]; rfl
  subst e
  exact ⟨a, xs, rfl, SqL.of h1, q _ F H s.refl rfl⟩
end
end RP

-- RPu
set_option maxRecDepth 100000
set_option maxHeartbeats 4000000
/-! one place of the text, two readings: a list or a text is walked, len of either -/
namespace RP
open PySem PySem.Spec PyProof.Rows L2
open Rp (rp)
def tAlt (t1 t2 : TE) : TE := fun σ H Q => t1 σ H Q ∨ t2 σ H Q
def iAlt (t1 t2 : TI) : TI := fun σ H R => t1 σ H R ∨ t2 σ H R
section
variable {X : Cx} {e tg : Expr} {t1 t2 : TE} {w1 w2 : TI}
theorem pe_alt (h1 : PE X e t1) (h2 : PE X e t2) : PE X e (tAlt t1 t2) := ⟨fun pins s σ H Q I h => h.elim (h1.run pins s σ H Q I) (h2.run pins s σ H Q I)⟩
theorem pi_alt (h1 : PI X tg e w1) (h2 : PI X tg e w2) : PI X tg e (iAlt w1 w2) := ⟨fun pins s σ H R I h => h.elim (h1.run pins s σ H R I) (h2.run pins s σ H R I)⟩
end
section
variable {Ps : Tbs} {M L : Mu} {G : Gm} {t1 t2 : TE} {w1 w2 : TI} {R : VRel} {n : Nat} {Rs : Nat → VRel}
theorem Ev.altL (h : Ev Ps G M t1 R) : Ev Ps G M (tAlt t1 t2) R := fun σ F H Q e s q => .inl (h σ F H Q e s q)
theorem Ev.altR (h : Ev Ps G M t2 R) : Ev Ps G M (tAlt t1 t2) R := fun σ F H Q e s q => .inr (h σ F H Q e s q)
theorem Ei.altL (h : Ei Ps G M L w1 n Rs) : Ei Ps G M L (iAlt w1 w2) n Rs := fun σ F H R e s q => .inl (h σ F H R e s q)
theorem Ei.altR (h : Ei Ps G M L w2 n Rs) : Ei Ps G M L (iAlt w1 w2) n Rs := fun σ F H R e s q => .inr (h σ F H R e s q)
end
end RP

-- RU8
set_option maxRecDepth 100000
set_option maxHeartbeats 4000000
/-! for i, x in enumerate(text) -/
namespace RU
open PySem PySem.Spec PyProof.Rows L2
/-- the text's signs as they stand at each turn, in new pairs -/
def Itx (x : Str) : It :=
  ⟨fun i _ => i < x.cps.size, fun i H v H' => ∃ T c, v = .ref T ∧ H T = none ∧ H' = upd H T (.tup [.int ((i : Nat) : Int), .str ⟨#[c]⟩]) ∧ x.cps[i]? = some c, fun i _ => x.cps.size ≤ i⟩
theorem turn_numS {P : Program} {w : World} {K : PySem.W.Frag} {elts : List Expr} {kk : Nat} {tpos : Pos} (x : Str) (t : Tok) (c it : Addr) :
    Turn P w K (.Tuple elts kk tpos) (Itx x) [c, it] c (fun i h => (∃ old, IsEnum h c it ((i : Nat) : Int) old) ∧ h.IsStrIter it (strIterType x) x t i ∧ c ≠ it) where
  mem := by simp
  obj := fun i h st b hb => by
    obtain ⟨⟨old, he⟩, ⟨o, ho, hc, hd⟩, _⟩ := st
    have cs : b = c ∨ b = it := by simpa using hb
    rcases cs with z | z
    · rw [z]; exact ⟨_, he, fun v q => nomatch q⟩
    · rw [z]; exact ⟨o, ho, fun v q => by rw [hd] at q; cases q⟩
  keep := fun i h h' st k => by
    obtain ⟨⟨old, he⟩, ⟨o, ho, r⟩, n1⟩ := st
    exact ⟨⟨old, k c (by simp) _ he⟩, ⟨o, k it (by simp) o ho, r⟩, n1⟩
  item := by
    intro X hP hw hK hc i pins s σ H E I hf st hg
    subst hP hw hK
    obtain ⟨⟨old, he⟩, hit, n1⟩ := st
    have lc : c < s.heap.objs.size := Heap.lt_size he
    have li : it < s.heap.objs.size := by
      obtain ⟨_, q, _⟩ := hit
      exact Heap.lt_size q
    refine wpAny_pyNext_enum_itemC (Draws.text (prog := X.prog) (w := X.w) (A := X.A.in1) (by simpa using I.ok.hd hc) it x t) he hit hg n1 (by simp [n1]) fun y h' tk hy ho st' hT hsz kp => ?_
    obtain ⟨d, u, hd, rfl⟩ := hy
    refine ⟨_, rfl, wpAny_letOwnedTupleGo_enum (s := { s with heap := h', toks := tk + 1 }) ho fun h2 he' sb => ?_⟩
    have hT2 : h2.get? s.heap.objs.size = some { cls := .type "tuple", data := .seq #[.int ((i : Nat) : Int) tk, .str ⟨#[d]⟩ u] } := (sb.2 _ (Nat.ne_of_gt lc)).trans hT
    have new : ObjOk X.prog X.w (upd H s.heap.objs.size (.tup [.int ((i : Nat) : Int), .str ⟨#[d]⟩])) h2 s.heap.objs.size (.tup [.int ((i : Nat) : Int), .str ⟨#[d]⟩]) := ⟨by show 2 ≤ sizeLine; decide, [.int ((i : Nat) : Int) tk, .str ⟨#[d]⟩ u], .cons ⟨_, rfl⟩ (.cons ⟨_, rfl⟩ .nil), ⟨_, hT2, rfl, _, rfl⟩⟩
    have I1 : Inv X pins σ (upd H s.heap.objs.size (.tup [.int ((i : Nat) : Int), .str ⟨#[d]⟩])) { s with heap := h2, toks := tk + 1 } :=
      I.turnedNew (ch := [c, it]) (fun b ob hb q => (sb.2 b (fun z => hb (by simp [z]))).trans (kp b ob (fun z => hb (by simp [z])) (fun z => hb (by simp [z])) q)) hf (Nat.le_refl _) new
    obtain ⟨oi, eo, rr⟩ := st'
    refine ⟨.ref s.heap.objs.size, _, I1, rfl, ⟨_, d, rfl, I.hok.fresh (Nat.le_refl _), rfl, hd⟩, ⟨⟨.str ⟨#[d]⟩ u, ?_⟩, ⟨oi, (sb.2 it (Ne.symm n1)).trans eo, rr⟩, n1⟩, fun b hb => ?_⟩
    · have e1 : ((i + 1 : Nat) : Int) = (i : Int) + 1 := by omega
      rw [e1]; exact he'
    · have lt : b < s.heap.objs.size := by
        have cs : b = c ∨ b = it := by simpa using hb
        rcases cs with z | z
        · rw [z]; exact lc
        · rw [z]; exact li
      rw [upd_ne (Nat.ne_of_lt lt)]
      exact (hf b hb).1
  done := by
    intro X hP hw hK hc i pins s σ H E I hf st hg
    subst hP hw hK
    obtain ⟨⟨old, he⟩, hit, n1⟩ := st
    obtain ⟨f0, f1, f2, f3, f4, f5⟩ := hf it (by simp)
    unfold pyNext
    have ty : s.TypeIs (.ref c) "enumerate" := ⟨_, he, rfl⟩
    refine wpAny_bind (wpAny_attempt (wpAny_callSpecial?_slot (name := Str.ofString "__next__") ty PySem.F.slot_enumerate_next (wpAny_call_entry PySem.F.slot_enumerate_next ty PySem.F.entry_enumerate_next ?_ (PySem.F.args_enumerate_next_1 _))))
    show wpAny _ _ (field (.ref c) 2 >>= _) _ _ _
    refine wpAny_bind (wpAny_field he rfl (x := .ref it) rfl ?_)
    have hx : x.cps[i]? = none := Array.getElem?_eq_none hg
    have hh : X.A.in1.handled = none := by simpa using I.ok.hd hc
    by_cases ha : x.cps.all (· < 128) = true
    · have e0 : strIterType x = "str_ascii_iterator" := by unfold strIterType; rw [if_pos ha]
      rw [e0] at hit
      refine wpAny_bind (wpAny_nextOf_ascii_end hh hit hx fun h' y eb hy => ?_)
      obtain ⟨oy, hoy, hcy⟩ := hy
      refine wpAny_bind (wpAny_isInstance (T := "StopIteration") (b := true) ⟨oy, hoy, hcy⟩ isSubtype_stop ?_)
      exact wpAny_pure ⟨rfl, I.turned (t' := s.toks) (fun b o hb q => eb b o hb q) f0 f1 f3 f4 f5⟩
    · have e0 : strIterType x = "str_iterator" := by unfold strIterType; rw [if_neg ha]
      rw [e0] at hit
      refine wpAny_bind (wpAny_nextOf_wide_end hh hit hx fun h' y eb hy => ?_)
      obtain ⟨oy, hoy, hcy⟩ := hy
      refine wpAny_bind (wpAny_isInstance (T := "StopIteration") (b := true) ⟨oy, hoy, hcy⟩ isSubtype_stop ?_)
      exact wpAny_pure ⟨rfl, I.turned (t' := s.toks) (fun b o hb q => eb b o hb q) f0 f1 f3 f4 f5⟩
  self := fun A i s Q E st h => by
    obtain ⟨⟨old, he⟩, _⟩ := st
    exact wpAny_pyIter_enum he h
section
variable {X : Cx}
def iNumS (ta : TA) : TI := fun σ H R => ta σ H fun vs H1 => ∃ x : Str, vs = [.str x] ∧ R (Itx x) H1
theorem pi_numS {e : Expr} {ta : TA} {p pos tpos : Pos} {elts : List Expr} {kk : Nat} (hg : Gl X "enumerate") (hm : X.mg "enumerate" = none) (ha : PA X [e] ta) (hs : starEach [e] X.env = [(false, eval e X.env)] := by rfl) :
    PI X (.Tuple elts kk tpos) (.Call (.Name "enumerate" p) [e] [] pos) (iNumS ta) := by
  refine ⟨fun pins s σ H R I h => ?_⟩
  refine Call_ (ld_blt I hg hm boot_enumerate (PyProof.Rows.callWith_type1 (thn (ha.run pos pins s σ H _ I h) fun us s1 ⟨vs, H1, I1, r1, q1⟩ => ?_) hs rfl))
  obtain ⟨x, ex, q⟩ := q1
  subst ex
  cases r1 with
  | cons r rr =>
    cases rr
    obtain ⟨t, rfl⟩ := r
    refine call_enumerate_str fun h' he hit hsz kp => wpAny_pyIter_enum he ?_
    have I2 : Inv X pins σ H1 { s1 with heap := h' } := I1.kept (t' := s1.toks) kp
    refine ⟨s1.heap.objs.size + 1, [s1.heap.objs.size + 1, s1.heap.objs.size], _, _, H1, rfl, I2, turn_numS x t (s1.heap.objs.size + 1) s1.heap.objs.size, ⟨⟨.none, he⟩, hit, Nat.succ_ne_self _⟩, fun b hb => ?_, q⟩
    have cs : b = s1.heap.objs.size + 1 ∨ b = s1.heap.objs.size := by simpa using hb
    have le : s1.heap.objs.size ≤ b := by
      rcases cs with z | z
      · rw [z]; exact Nat.le_add_right _ _
      · rw [z]; exact Nat.le_refl _
    exact I1.fpOk le (I1.hok.fresh le)
end
end RU

-- RPv
set_option maxRecDepth 100000
set_option maxHeartbeats 4000000
/-! a text's signs as a list -/
namespace RP
open PySem PySem.Spec PyProof.Rows L2
open Rp (rp)
def sgn (x : Str) : List Str := x.cps.toList.map fun c => (⟨#[c]⟩ : Str)
theorem sgn_len {x : Str} : (sgn x).length = x.cps.size := by unfold sgn; rw [List.length_map, Array.length_toList]
theorem sgn_at {x : Str} {i c : Nat} (h : x.cps[i]? = some c) : (sgn x)[i]? = some ⟨#[c]⟩ := by
  unfold sgn
  rw [List.getElem?_map, Array.getElem?_toList, h]
  rfl
section
variable {Ps : Tbs} {M L : Mu} {G : Gm} {K : PySem.W.Frag} {te : TE} {t : TA}
theorem Ei.strL {x : Str} (h : Ev Ps G M te (Is K x)) : Ei Ps G M [] (iStr te) (sgn x).length (Nth K (sgn x)) := (Ei.str h).imp sgn_len.symm fun i hi F v ⟨c, h1, h2⟩ => ⟨_, sgn_at h1, h2⟩
theorem Ei.enumS {x : Str} (h : Ea Ps G M t [Is K x]) : Ei Ps G M [] (RU.iNumS t) (enL (sgn x)).length (Nth K (enL (sgn x))) := fun σ F H R e s q => h σ F H _ e s fun vs0 F1 H1 e1 r1 => by
  obtain ⟨v, rfl, hv⟩ := rs1 r1
  cases hv
  rw [en_len] at q
  refine ⟨x, rfl, q _ F1 H1 e1 ⟨fun _ i F' H' _ hi l s' => ?_, fun _ F' H' _ l s' => ?_, fun _ i F' H' y H'' _ hi l s' hy => ?_⟩⟩
  · rw [sgn_len] at hi; exact hi
  · rw [sgn_len]; exact Nat.le_refl _
  · obtain ⟨T, c, rfl, hT, rfl, hc⟩ := hy
    have e' := s'.new (o := .tup [.int ((i : Nat) : Int), .str ⟨#[c]⟩]) hT
    refine ⟨_, e', (i, (sgn x)[i]), en_at hi, T, .int ((i : Nat) : Int), .str ⟨#[c]⟩, rfl, upd_same, rfl, ?_⟩
    have h1 := sgn_at hc
    rw [List.getElem?_eq_getElem hi] at h1
    exact congrArg V.str (Option.some.inj h1).symm
end
end RP

-- RPx
set_option maxRecDepth 100000
set_option maxHeartbeats 4000000
/-! what raises on the way -/
namespace RP
open PySem PySem.Spec PyProof.Rows L2
open Rp (rp)
section
variable {Ps : Tbs} {B : Bs} {M : Mu} {G : Gm} {ta tb te to : TE} {t tr : TA} {E : XK} {a : Addr} {F H : Hp} {σ : L2.St} {D : L2.Ends} {R : VRel} {Rs0 : List VRel}
/-- te raises a -/
def EvR (Ps : Tbs) (G : Gm) (M : Mu) (te : TE) (E : XK) (a : Addr) : Prop := ∀ σ F H Q, EnvOk F σ G → Sh Ps M F H → (∀ F' H', Evo Ps M F H F' H' → E (.ref a) none H') → te σ H Q
def EaR (Ps : Tbs) (G : Gm) (M : Mu) (t : TA) (E : XK) (a : Addr) : Prop := ∀ σ F H Q, EnvOk F σ G → Sh Ps M F H → (∀ F' H', Evo Ps M F H F' H' → E (.ref a) none H') → t σ H Q
theorem EaR.hd (h : EvR Ps G M te E a) : EaR Ps G M (tCons te tr) E a := fun σ F H Q e s x => h σ F H _ e s x
theorem EaR.tl (h0 : Ev Ps G M te R) (h : EaR Ps G M tr E a) : EaR Ps G M (tCons te tr) E a := fun σ F H Q e s x => h0 σ F H _ e s fun v F1 H1 e1 r1 => h σ F1 H1 _ (e.mono e1.le) (s.evo e1) fun F' H' e2 => x F' H' (e1.trans e2)
theorem EvR.args {sp : Sp} {E' : XK} (h : EaR Ps G M t E a) : EvR Ps G M (tCall sp [] E' t) E a := fun σ F H Q e s x => h σ F H _ e s x
theorem EvR.cb {r : List V → Hp → VK → Prop} (h : EaR Ps G M t E a) : EvR Ps G M (tCB r t) E a := fun σ F H Q e s x => h σ F H _ e s x
theorem EvR.m1 {r : V → List V → Hp → VK → Prop} (h : EvR Ps G M to E a) : EvR Ps G M (tM1 r to te) E a := fun σ F H Q e s x => h σ F H _ e s x
theorem EvR.opL {r : R2} (h : EvR Ps G M ta E a) : EvR Ps G M (tOp r ta tb) E a := fun σ F H Q e s x => h σ F H _ e s x
theorem EvR.opR {r : R2} (h0 : Ev Ps G M ta R) (h : EvR Ps G M tb E a) : EvR Ps G M (tOp r ta tb) E a := fun σ F H Q e s x => h0 σ F H _ e s fun v F1 H1 e1 r1 => h σ F1 H1 _ (e.mono e1.le) (s.evo e1) fun F' H' e2 => x F' H' (e1.trans e2)
theorem EvR.callx {γ : Type} {Rs : γ → List VRel} {pre : γ → Prop} {R : γ → VRel} {er : γ → Option Addr} (ow : ∀ e ∈ M, e.2.own = true) (c : γ) (ha : Ea Ps G M t (Rs c)) (p : pre c) (e : er c = some a) : EvR Ps G M (tCall (Spx Ps Rs pre R er) [] E t) E a := fun σ F H Q en s x => ha σ F H _ en s fun vs F1 H1 e1 r1 => by
  show Spx Ps Rs pre R er (vs ++ []) H1 Q E
  rw [List.append_nil]
  refine ⟨c, F1, (s.evo e1).bare ow, p, r1, (fun z => by rw [e] at z; cases z), fun a' ha' F2 H2 e2 => ?_⟩
  rw [e] at ha'
  cases ha'
  exact x F2 H2 (e1.trans (Evo.of_bare (s.evo e1) e2))
theorem Nx.retR (h : EvR Ps G M te E a) (x : ∀ σ F H, Sa Ps B G M σ F H → E (.ref a) none H) : Nx Ps B G M (tRet te D) := fun σ F H s => h σ F H _ s.en s.sh fun F' H' e => x σ F' H' (s.evo e)
theorem Nx.asgR {g : TG} (h : EvR Ps G M te E a) (x : ∀ σ F H, Sa Ps B G M σ F H → E (.ref a) none H) : Nx Ps B G M (tAsg te g D) := fun σ F H s => h σ F H _ s.en s.sh fun F' H' e => x σ F' H' (s.evo e)
end
end RP

-- BG
set_option maxRecDepth 100000
set_option maxHeartbeats 4000000
/-! what every law's proof begins with, of no one law -/
namespace BG
open PySem PySem.Spec PyProof.Rows L2
section
variable {P : Program} {w : World} {K : PySem.W.Frag} {mg : Str → Option Value} {base : Heap}
/-- a def that owns code objects -/
structure FunC (K : PySem.W.Frag) (x qual : Str) (st : Stmt) (f : Addr) (fd : FuncData) (c : Addr) : Prop where
  ex : ∃ (oc : Value) (od : Option Addr) (kV doc pm : Value) (an : Option Addr) (ct : Value) (osl : Array (Option Value)),
    fd = PySem.W.fnOf x qual (defArgs st) (defBody st) (defScope st) .none kV doc pm an (.ref c) ct ∧ K.lookup f = some ⟨oc, od, .func fd, osl⟩ ∧ PySem.W.codeIn K (.ref c) qual = true
  kp : PySem.W.keepIn K (.ref f) = true
theorem FunC.okX {x qual : Str} {st : Stmt} {f c : Addr} {fd : FuncData} {N ps : List Str} {k : Nat} {sp : Sp} (F : FunC K x qual st f fd c) (S : FnScope N ps (defScope st)) (len : ∀ vs H Q E, sp vs H Q E → vs.length = ps.length)
    (hbody : ∀ (A : Around) (outer : List Env) (s : Shared) (H : Hp) (vs : List V) (Q : VK) (E : XK), Room k (A.deeper (envOfC qual (defScope st) s.heap.objs.size f (.ref c))) → sp vs H Q E →
      ∃ t, PSs (cxOf (L2.CX P w) P w K mg base N qual (defScope st) f (.ref c) A outer s H E) (defBody st) t ∧ t { nx := fun _ H' => Q .non H', rt := Q } (start N vs) H) : FnOk P w K mg base (L2.CX P w) (k + 1) f fd ps sp := by
  obtain ⟨oc, od, kV, doc, pm, an, ct, osl, rfl, lk, hcd⟩ := F.ex
  exact fn_of lk hcd S len fun A outer s H vs Q E hr hsp => hbody A outer s H vs Q E hr hsp
theorem FunC.binds {x qual : Str} {st : Stmt} {f c : Addr} {fd : FuncData} {ps : List Str} (F : FunC K x qual st f fd c)
    (h : ∀ (kV doc pm : Value) (an : Option Addr) (cdv ct : Value) (us : List Value), us.length = ps.length → bindArgs (PySem.W.fnOf x qual (defArgs st) (defBody st) (defScope st) .none kV doc pm an cdv ct) ⟨us, []⟩ = pure (ps.zip us)) : Binds K fd ps [] := by
  obtain ⟨oc, od, kV, doc, pm, an, ct, osl, rfl, lk, hcd⟩ := F.ex
  exact .all (h kV doc pm an (.ref c) ct)
/-- a def that is called by its name -/
structure Cal (P : Program) (w : World) (K : PySem.W.Frag) (mg : Str → Option Value) (base : Heap) (CX : CXT) (k : Nat) (nm : Str) (ps : List Str) (sp : Sp) (f : Addr) (fd : FuncData) : Prop where
  ok : FnOk P w K mg base CX k f fd ps sp
  g : mg nm = some (.ref f)
  kp : PySem.W.keepIn K (.ref f) = true
  b : Binds K fd ps []
structure MCal (P : Program) (w : World) (K : PySem.W.Frag) (mg : Str → Option Value) (base : Heap) (CX : CXT) (k : Nat) (C : Addr) (nm : Str) (ps : List Str) (sp : Sp) (f : Addr) (fd : FuncData) : Prop where
  ok : FnOk P w K mg base CX k f fd ps sp
  m : Meth K C nm f
  b : Binds K fd ps []
/-- an own refusal that stands at the module's name -/
structure Exn (K : PySem.W.Frag) (mg : Str → Option Value) (x : Str) (R : Addr) : Prop where
  e : PySem.W.excIn K R [.type "ValueError", .type "Exception", .type "BaseException", .type "object"] "ValueError.__new__" = true
  g : mg x = some (.ref R)
  k : PySem.W.keepIn K (.ref R) = true
  b : PySem.W.subIn K (.ref R) (.type "BaseException") = some true
  t : PySem.W.typeIn K (.ref R) = some (.type "type")
theorem passF {X : Cx} : Passes (L2.CX X.prog X.w) X (fun _ _ _ => False) := fun _ _ _ _ _ _ _ c => by
  obtain ⟨_, _, _, _, _, _, _, _, _, _, _, _, hE⟩ := c
  exact hE.elim
open RP hiding Tb
/-- a def that owns codes keeps its promise -/
theorem FunC.okP {Ps : Tbs} {γ : Type} {x qual : Str} {st : Stmt} {f c : Addr} {fd : FuncData} {N ps : List Str} {k : Nat} {Rs : γ → List VRel} {pre : γ → Prop} {R : γ → VRel} {er : γ → Option Addr} (Fn : FunC K x qual st f fd c) (S : FnScope N ps (defScope st)) (len : ∀ c, (Rs c).length = ps.length)
    (hbody : ∀ (A : Around) (outer : List Env) (s : Shared) (H0 : Hp) (E : XK), Room k (A.deeper (envOfC qual (defScope st) s.heap.objs.size f (.ref c))) →
      ∃ t, PSs (cxOf (L2.CX P w) P w K mg base N qual (defScope st) f (.ref c) A outer s H0 E) (defBody st) t ∧ ∀ (c : γ) (B : Bs) (D : L2.Ends), pre c → (er c = none → ∀ v G M σ F H, (∀ e ∈ M, e.2.own = true) → Sa Ps B G M σ F H → (R c).R F v → D.rt v H) → (∀ a, er c = some a → ∀ G M σ F H, (∀ e ∈ M, e.2.own = true) → Sa Ps B G M σ F H → E (.ref a) none H) →
        (er c = none → ∀ G M σ F H, (∀ e ∈ M, e.2.own = true) → Sa Ps B G M σ F H → (R c).R F .non → D.nx σ H) → Nx Ps B (startG N (Rs c)) [] (t D)) : FnOk P w K mg base (L2.CX P w) (k + 1) f fd ps (Spx Ps Rs pre R er) := by
  refine FunC.okX Fn S (fun vs H Q E h => ?_) (fun A outer s H vs Q E hr h => ?_)
  · obtain ⟨c, F, _, _, r, _⟩ := h
    rw [← Paired.length r, len]
  · obtain ⟨c, F, sh, p, r, q, e⟩ := h
    obtain ⟨t, ht, h⟩ := hbody A outer s H E hr
    exact ⟨t, ht, h c ⟨F, H, fun a => a ∈ ([] : Mu).map (·.1)⟩ _ p (fun hn v G M σ F' H' ow s' rr => q hn v F' H' (s'.fin ow).evo0 rr) (fun a ha G M σ F' H' ow s' => e a ha F' H' (s'.fin ow).evo0) (fun hn G M σ F' H' ow s' rr => q hn .non F' H' (s'.fin ow).evo0 rr) _ F H (Sa.start sh r)⟩
end
end BG

-- RU9
set_option maxRecDepth 100000
set_option maxHeartbeats 4000000
/-! for i, x in enumerate(tuple) -/
namespace PySem
theorem ownMeetsEnum {v : Value} {o : Obj} {G : Heap → Prop} (B : Begins v o G) :
    Meets (Builtin.«enumerate.__new__» ⟨[.type "enumerate", v], []⟩) (fun _ R s => G s.heap ∧
      R (.ok (.ret (.ref (s.heap.push o).objs.size))) { s with heap := (s.heap.push o).push { cls := .type "enumerate", data := .fields #[.none, .bool false, .ref s.heap.objs.size, rawInt 0, .none, .none] } }) :=
  .of_wp fun prog w A R s hh => by
    obtain ⟨hp, g, d, tk, os⟩ := s
    obtain ⟨g1, hh⟩ := hh
    have hsub := sub_enumerate
    have it : ∀ {A2 : Around} {E2 : Value → Shared → Prop} {Q2 : Value → Shared → Prop}, Q2 (.ref hp.objs.size) ⟨hp.push o, g, d, tk, os⟩ → wpAny (model prog w) A2 (pyIter v) Q2 E2 ⟨hp, g, d, tk, os⟩ := fun q => B.iter prog w _ _ ⟨hp, g, d, tk, os⟩ _ g1 q
    wp_walk using it
    refine wpAny_stack_any fun st => wpAny_pure ?_
    split
    · rename_i c _ _ _ _ _
      cases (c == Value.type "enumerate") <;> wp_walk using it <;> exact ⟨_, rfl, hh⟩
    · wp_walk using it
      exact ⟨_, rfl, hh⟩
variable {prog : Program} {w : World} {A : Around} {E : Value → Shared → Prop} {s : Shared}
theorem ownCallEnum {v : Value} {o : Obj} {G : Heap → Prop} {Q : Value → Shared → Prop} (B : Begins v o G) (g1 : G s.heap)
    (h : ∀ h', IsEnum h' (s.heap.objs.size + 1) s.heap.objs.size 0 .none → h'.get? s.heap.objs.size = some o → (∀ b o, s.heap.get? b = some o → h'.get? b = some o) → Q (.ref (s.heap.objs.size + 1)) { s with heap := h' }) :
    wpAny (model prog w) A (call (.type "enumerate") [v]) Q E s := by
  refine callType_new F.called_enumerate (by decide) (F.typeCall_enumerate_1 _) (F.newCall_enumerate_1 _) (fun obj => F.args_object_init_2 obj _) F.entry_enumerate_new (ownMeetsEnum B) ⟨g1, ?_⟩
  have hz : (s.heap.push o).objs.size = s.heap.objs.size + 1 := Heap.size_push ..
  show _ ∧ _
  rw [hz]
  have he : IsEnum ((s.heap.push o).push { cls := .type "enumerate", data := .fields #[.none, .bool false, .ref s.heap.objs.size, rawInt 0, .none, .none] }) (s.heap.objs.size + 1) s.heap.objs.size 0 .none := by
    have z := Heap.get?_push_size (s.heap.push o) (o := { cls := .type "enumerate", data := .fields #[.none, .bool false, .ref s.heap.objs.size, rawInt 0, .none, .none] }) rfl
    rw [hz] at z
    exact z
  exact ⟨⟨_, he, rfl⟩, h _ he (Heap.get?_push_of_some _ (Heap.get?_push_size _ B.free)) fun b o x => Heap.get?_push_of_some _ (Heap.get?_push_of_some _ x)⟩
end PySem
namespace RU
open PySem PySem.Spec PyProof.Rows L2
variable {X : Cx}
def iNumT (K : PySem.W.Frag) (ta : TA) : TI := fun σ H R => ta σ H fun vs H1 => ∃ (a : Addr) (xs : List V), vs = [.ref a] ∧ SqT K H1 a xs ∧ R (Itn1 K a 0) H1
theorem pi_numT {e : Expr} {ta : TA} {p pos tpos : Pos} {elts : List Expr} {kk : Nat} (hg : Gl X "enumerate") (hm : X.mg "enumerate" = none) (ha : PA X [e] ta) (hs : starEach [e] X.env = [(false, eval e X.env)] := by rfl) :
    PI X (.Tuple elts kk tpos) (.Call (.Name "enumerate" p) [e] [] pos) (iNumT X.K ta) := by
  refine ⟨fun pins s σ H R I h => ?_⟩
  refine Call_ (ld_blt I hg hm boot_enumerate (PyProof.Rows.callWith_type1 (thn (ha.run pos pins s σ H _ I h) fun us s1 ⟨vs, H1, I1, r1, q1⟩ => ?_) hs rfl))
  obtain ⟨a, xs, rfl, hq, q⟩ := q1
  rw [Vals.ref1 r1]
  obtain ⟨its, rv, pt, hz⟩ := I1.tuple hq
  have la : a < s1.heap.objs.size := by
    obtain ⟨o, ho, _⟩ := pt
    exact Heap.lt_size ho
  refine ownCallEnum (begins_tuple a its.toArray) pt fun h' he hi kp => wpAny_pyIter_enum he ?_
  have I2 : Inv X pins σ H1 { s1 with heap := h' } := I1.kept (t' := s1.toks) kp
  refine ⟨_, [s1.heap.objs.size + 1, s1.heap.objs.size], _, _, H1, rfl, I2, turn_num a (s1.heap.objs.size + 1) s1.heap.objs.size 0, ⟨⟨.none, by simpa using he⟩, ⟨_, hi, rfl, rfl⟩, Nat.succ_ne_self _, Nat.ne_of_lt la, Nat.ne_of_lt (Nat.lt_succ_of_lt la)⟩, fun b hb => ?_, q⟩
  have cs : b = s1.heap.objs.size + 1 ∨ b = s1.heap.objs.size := by simpa using hb
  have le : s1.heap.objs.size ≤ b := by
    rcases cs with z | z
    · rw [z]; exact Nat.le_add_right _ _
    · rw [z]; exact Nat.le_refl _
  exact I1.fpOk le (I1.hok.fresh le)
end RU

-- CX1
set_option maxRecDepth 100000
set_option maxHeartbeats 4000000
/-! a dict comprehension out of which an exception may go -/
namespace CXR
open PySem PySem.Spec PyProof.Rows L2
section
variable {X : Cx}
/-- the comprehension's block, its exceptions taken -/
abbrev blkE (X : Cx) (s : Shared) (H : Hp) (scp : Scope) (ce : Env) (fp : List Addr) (xe : Value → Shared → Prop) : Cx := (X.blk s H scp ce fp).tr [] xe
variable {s0 : Shared} {H0 : Hp} {scp : Scope} {ce : Env} {fp : List Addr} {xe : Value → Shared → Prop} {pins : List (Addr × Obj)} {σ : L2.St} {H : Hp} {s s' : Shared}
theorem inv_to (I : Inv (X.blk s0 H0 scp ce fp) pins σ H s) : Inv (blkE X s0 H0 scp ce fp xe) pins σ H s := ⟨I.ok.toTry _ _, I.os, I.bare, I.base, I.loc, I.cell, I.free, I.freeC, I.pin, I.hok, I.len⟩
theorem inv_of (I : Inv (blkE X s0 H0 scp ce fp xe) pins σ H s) : Inv (X.blk s0 H0 scp ce fp) pins σ H s := ⟨Cx.Ok.ofTry I.ok, I.os, I.bare, I.base, I.loc, I.cell, I.free, I.freeC, I.pin, I.hok, I.len⟩
theorem not_frame (hs : X.stack = X.env :: X.outer) (hf : X.env.frame = some X.env.locals) {C : Addr} (n1 : C ≠ X.env.locals) (n2 : C ∉ X.fs) : C ∉ frs X.stack := fun h => by
  rw [hs] at h
  unfold frs at h
  rw [List.filterMap_cons, hf] at h
  rcases List.mem_cons.mp h with h | h
  · exact n1 h
  · exact n2 h
/-- out of a call within the block: noted, the block's names let go, then in the def's own air -/
theorem flies {E0 : XK} {W : WX} (tk : Takes X W) (hW : ∀ cls d σ H, E0 cls d H → W cls d σ H) (hs : X.stack = X.env :: X.outer) (hf : X.env.frame = some X.env.locals) (I : Inv X pins σ H s) {u : Value} (c : L2.CX X.prog X.w X.stack H s E0 u s')
    {C : Addr} (eC : ce.locals = C) (cf : ce.frame = X.env.frame) {m : Str → Option Value} (hn : s.heap.Ns C m) (fC : FpOk X pins H C) : notedBy (model X.prog X.w) X.A ce (fun e t => CompFails (model X.prog X.w) X.A X.xe ce e t) u s' := by
  obtain ⟨c0, c1, c2, c3, c4, c5⟩ := fC
  have nfr := not_frame hs hf c1 c2
  obtain ⟨o, es, ep, ho, hd0, sk, hm⟩ := hn
  have hn' : s'.heap.Ns C m ∧ L2.CX X.prog X.w X.stack H s (fun cls d G => E0 cls d G ∧ G C = none) u s' := by
    obtain ⟨a, B, G, cls, d, rfl, fl, hok, ub, na, os, ag, hE⟩ := c
    exact ⟨⟨o, es, ep, fl.1 C o (ub.keep C o ho c0 nfr), hd0, sk, hm⟩, a, B, G, cls, d, rfl, fl, hok, ub, na, os, ag, hE, ub.free C o ho c0⟩
  obtain ⟨hn', c'⟩ := hn'
  obtain ⟨a, B, sI, pins2, σ2, G, cls, d, rfl, I2, nb, up, sky, na, os, ag, w, gC⟩ := XE.of_call (W := fun cls d σ G => W cls d σ G ∧ G C = none) I (fun cls d G h => ⟨hW cls d σ G h.1, h.2⟩) c'
  have hfr : X.A.frames = some (X.env :: X.outer) := by rw [I.ok.frames, hs]
  show wpAny _ _ (noteFrame (.ref a) ce) _ _ s'
  rw [noteFrame_env _ cf]
  have fin : ∀ h1, HandSPX.HeldZ B (X.env :: X.outer) a (Zc cls d) X.env.locals h1 → s'.heap.UpToSlots h1 → CompFails (model X.prog X.w) X.A X.xe ce (.ref a) { s' with heap := h1 } := by
    intro h1 hh up1
    have hn1 : h1.Ns C m := hn'.upToSlots up1
    refine ⟨m, by rw [eC]; exact hn1, fun h2 m2 hn2 sb => ?_⟩
    rw [eC] at hn2 sb
    obtain ⟨hB, hna, hfl, oe, vs, T, oT, ts, he, hz, hd, g1, nT, Te, hT, hdT, h3⟩ := hh
    have rec_ne : ∀ b ob xs, h1.get? b = some ob → ob.data = .fields xs → b ≠ C := fun b ob xs e e2 z => by
      obtain ⟨o1, es1, ep1, ho1, hd1, _⟩ := hn1
      rw [z, ho1] at e
      cases e
      rw [hd1] at e2
      cases e2
    have he2 : h2.get? a = some oe := (sb.2 a (rec_ne a oe vs he hd)).trans he
    have hT2 : h2.get? T = some oT := (sb.2 T (rec_ne T oT ts hT hdT)).trans hT
    have sub : ∀ b ob, (PySem.W.hideAll B [C]).get? b = some ob → B.get? b = some ob ∧ b ≠ C := fun b ob e => ⟨PySem.W.of_hideAll [C] e, fun z => by
      rw [z, PySem.W.hideAll_none [C] (List.mem_singleton.mpr rfl)] at e
      cases e⟩
    have none2 : ∀ b, B.get? b = none → (PySem.W.hideAll B [C]).get? b = none := fun b e => by
      cases q : (PySem.W.hideAll B [C]).get? b with
      | none => rfl
      | some ob =>
        rw [(sub b ob q).1] at e
        cases e
    have f1 : h2.FunFrames B (X.env :: X.outer) := Heap.FunFrames.sameBut sb hn2 hfl
    have f2 : h2.FunFrames (PySem.W.hideAll B [C]) (X.env :: X.outer) := funFrames_none f1 fun b hb => none2 b (f1.mem hb).1
    unfold PySem.passOn
    refine wpAny_bind (wpAny_field he2 hd g1 ?_)
    rw [if_neg (show ¬ ((Value.ref T == Value.none) = true) from by simp)]
    rw [cf, hf]
    refine wpAny_bind (HandSPX.setFlight_anyZ (base := PySem.W.hideAll B [C]) (l := X.env :: X.outer) (fl := rawInt X.env.locals) (Z := Zc cls d) ?_ f2 ⟨oe, vs, T, oT, ts, he2, hz, hd, g1, none2 T nT, Te, hT2, hdT, h3⟩ fun h3' j1 j2 j3 j4 => wpAny_throw ?_)
    · intro b ob e
      obtain ⟨e1, e2⟩ := sub b ob e
      exact (sb.2 b e2).trans (hB b ob e1)
    · have I3 : Inv X [] σ2 G sI := ⟨I2.ok, I2.os, I2.bare, I2.base, I2.loc, I2.cell, I2.free, I2.freeC, fun p hp => I2.pin p (by rw [List.append_nil] at hp; exact List.mem_append_left _ hp), I2.hok, I2.len⟩
      have I4 : Inv X [] σ2 G { sI with heap := PySem.W.hideAll sI.heap [C], toks := sI.toks } := I3.turned (it := C) (fun b ob nb' e => PySem.W.hideAll_get [C] e (fun z => nb' (List.mem_singleton.mp z))) gC c1 c3 c4 (fun p hp => c5 p (by rw [List.append_nil] at hp; exact List.mem_append_left _ hp))
      refine tk _ _ ⟨a, PySem.W.hideAll B [C], _, [], σ2, G, cls, d, rfl, I4, fun b ob e nf => ?_, fun b ob e nfl => ?_, .inr (.inr ⟨j1, none2 a hna, by rw [hs]; exact j2, j3⟩), na, os, ag, w⟩
      · have e1 := PySem.W.of_hideAll [C] e
        have ne : b ≠ C := fun z => by
          rw [z, PySem.W.hideAll_none [C] (List.mem_singleton.mpr rfl)] at e
          cases e
        exact PySem.W.hideAll_get [C] (nb b ob e1 nf) fun z => ne (List.mem_singleton.mp z)
      · have e1 := PySem.W.of_hideAll [C] e
        have ne : b ≠ C := fun z => by
          rw [z, PySem.W.hideAll_none [C] (List.mem_singleton.mpr rfl)] at e
          cases e
        obtain ⟨sl1, q1⟩ := up b ob e1 nfl
        obtain ⟨sl2, q2⟩ := up1 b _ q1 nfl
        obtain ⟨sl3, q3⟩ := j4 b _ ((sb.2 b ne).trans q2) nfl
        exact ⟨sl3, q3⟩
  rw [hs] at sky
  rcases sky with ⟨hB, hna, hl, oe, vs, he, hz, hd, h1⟩ | fl | hh
  · exact HandSPX.look_newZ Zc.steady hfr hl hf he hB hna hd h1 hz fin
  · exact HandSPX.looks_onZ Zc.steady hfr hf fl fin
  · exact HandSPX.againZ hf hh.2.2.2 (fin s'.heap hh (Heap.UpToSlots.refl _))
/-- what a raise within the block owes -/
abbrev owes (X : Cx) (ce : Env) : Value → Shared → Prop := notedBy (model X.prog X.w) X.A ce (fun e t => CompFails (model X.prog X.w) X.A X.xe ce e t)
/-- {k: v for ..} whose key or value may let out what E0 wishes -/
theorem pe_dcX {E0 : XK} {W : WX} (tk : Takes X W) (hW : ∀ cls d σ H, E0 cls d H → W cls d σ H) (stk : X.stack = X.env :: X.outer) (frm : X.env.frame = some X.env.locals) {kx vx tgt itr : Expr} {tests : List Expr} {scp : Scope} {own : List (PySem.Str × Nat)} {po : Pos} {wi : TI} {g : TG} {tt : TT} {t1 t2 : TE}
    (calm : X.calm = true) (nd : X.N.Nodup) (walk : PI X tgt itr wi) (blk : BlkOk X.N X.env.scope scp own)
    (tgR : ∀ (s : Shared) (H : Hp) (C : Addr) (cl : List (PySem.Str × Addr)) (fp : List Addr), PG (X.blk s H scp (compEnvC scp cl C X.env) fp) tgt g) (ttR : ∀ (s : Shared) (H : Hp) (C : Addr) (cl : List (PySem.Str × Addr)) (fp : List Addr), PTs (X.blk s H scp (compEnvC scp cl C X.env) fp) tests tt)
    (kR : ∀ (s : Shared) (H : Hp) (C : Addr) (cl : List (PySem.Str × Addr)) (fp : List Addr) (xe : Value → Shared → Prop), Passes (L2.CX X.prog X.w) (blkE X s H scp (compEnvC scp cl C X.env) fp xe) E0 → PE (blkE X s H scp (compEnvC scp cl C X.env) fp xe) kx t1)
    (vR : ∀ (s : Shared) (H : Hp) (C : Addr) (cl : List (PySem.Str × Addr)) (fp : List Addr) (xe : Value → Shared → Prop), Passes (L2.CX X.prog X.w) (blkE X s H scp (compEnvC scp cl C X.env) fp xe) E0 → PE (blkE X s H scp (compEnvC scp cl C X.env) fp xe) vx t2) (fold : ∀ x, foldedSetIterable itr X.env x = pure x := by intro _; rfl) :
    PE X (.DictComp kx vx [⟨tgt, itr, tests, 0⟩] scp po) (tDc wi g tt t1 t2 (own.map (·.2))) := by
  refine ⟨fun pins s σ H Q I h => ?_⟩
  rw [arm_eval_DictComp]
  have h : tDc wi g tt t1 t2 (own.map (·.2)) σ H Q := h
  have cells : ∀ y ∈ scp.names, y.2 = .free → ∃ c, X.env.cells.lookup y.1 = some c := fun y hy e => (blk.free y hy e).elim (fun k => I.ok.has _ (.inl k)) fun k => I.ok.has _ (.inr k)
  refine comprehension_at (use := none) rfl fold (closure_ok cells) blk.kind (fun y hy e => by rw [blk.uniq y hy, e]) (thn (walk.run pins s σ H _ I h) fun xv s1 hx => thn hx fun itv s2 h2 => ?_)
  obtain ⟨it, fp, tn, J, H2, rfl, I2, tu, st2, free2, q⟩ := h2
  refine wpAny_newObj_type (newEnv_comp ?_)
  generalize eD : s2.heap.objs.size = D
  have nD : H2 D = none := I2.hok.fresh (Nat.le_of_eq eD)
  obtain ⟨Wd, ⟨m0, w0⟩, turns⟩ := q D nD
  have I3 : Inv X pins σ (upd H2 D (.dK [])) { s2 with heap := s2.heap.push { cls := .type "dict", data := .dict #[] } } := by
    refine I2.laid (t' := s2.toks) (fun b o e => Heap.get?_push_of_some _ e) (Nat.le_of_eq eD) ?_
    rw [← eD]
    exact dk_empty s2.heap I2.big
  generalize e3 : ({ s2 with heap := s2.heap.push { cls := .type "dict", data := .dict #[] } } : Shared) = s3 at I3 ⊢
  have h3 : s3.heap = s2.heap.push { cls := .type "dict", data := .dict #[] } := by rw [← e3]
  have free3 : ∀ b ∈ fp, FpOk X pins (upd H2 D (.dK [])) b ∧ b < s3.heap.objs.size := fun b hb => by
    obtain ⟨o, e, _⟩ := tu.obj _ _ st2 b hb
    have lt := Heap.lt_size e
    refine ⟨⟨by rw [upd_ne (by rw [← eD]; exact Nat.ne_of_lt lt)]; exact (free2 b hb).1, (free2 b hb).2⟩, by rw [h3, Heap.size_push]; exact Nat.lt_succ_of_lt lt⟩
  have st3 : tn 0 s3.heap := tu.keep _ _ _ st2 fun b _ o e => by rw [h3]; exact Heap.get?_push_of_some _ e
  have I4 := block_start I3 blk nd free3
  show codeAny (model X.prog X.w) X.A (.compStart (.DictComp kx vx [⟨tgt, itr, tests, 0⟩] scp po) 0 (.ref it) (.ref D) (compEnvC scp (cellsFrom (s3.heap.objs.size + 1) scp.names (cloFrom X.env.cells scp.names [])) s3.heap.objs.size X.env)) (compEnds (model X.prog X.w) X.A X.xe none (EP X pins σ Q) (.ref D) (compEnvC scp (cellsFrom (s3.heap.objs.size + 1) scp.names (cloFrom X.env.cells scp.names [])) s3.heap.objs.size X.env)) { s3 with heap := pushCells (s3.heap.push { cls := .type "dict", data := .dict #[] }) scp.names }
  generalize eH : upd H2 D (.dK []) = H3 at I3 I4 w0 free3
  generalize eK : cellsFrom (s3.heap.objs.size + 1) scp.names (cloFrom X.env.cells scp.names []) = cls at I4 ⊢
  have pg := tgR s3 H3 s3.heap.objs.size cls fp
  have pt := ttR s3 H3 s3.heap.objs.size cls fp
  have pk := kR s3 H3 s3.heap.objs.size cls fp
  have pv := vR s3 H3 s3.heap.objs.size cls fp
  have home : (compEnvC scp cls s3.heap.objs.size X.env).locals = s3.heap.objs.size := rfl
  have cfr : (compEnvC scp cls s3.heap.objs.size X.env).frame = X.env.frame := rfl
  generalize compEnvC scp cls s3.heap.objs.size X.env = ce at I4 pg pt pk pv home cfr ⊢
  have back7 : ∀ {σ' : L2.St} {H' : Hp} {s' : Shared} {pins' : List (Addr × Obj)}, Inv (X.blk s3 H3 scp ce fp) pins' σ' H' s' → Inv X pins σ H' s' ∧ FpOk X pins H' s3.heap.objs.size := fun {σ' H' s' pins'} I6 => by
    refine ⟨I3.call' (ch := fp) I6.os I6.base I6.hok I6.bare fun b hb => ⟨(free3 b hb).1.2.2.2.1, (free3 b hb).1.2.1, (free3 b hb).1.2.2.2.2.1, (free3 b hb).1.2.2.2.2.2⟩, I3.fpOk (Nat.le_refl _) ?_⟩
    have z : H' ce.locals = none := I6.free
    rw [home] at z
    exact z
  have px : Passes (L2.CX X.prog X.w) (blkE X s3 H3 scp ce fp (owes X ce)) E0 := fun pins' σ' H' s' e s'' I' c => by
    have I6 := inv_of I'
    obtain ⟨m, hm, _⟩ := I6.loc
    have hm : s'.heap.Ns ce.locals m := hm
    rw [home] at hm
    exact flies tk hW stk frm (back7 I6).1 c home cfr hm (back7 I6).2
  replace pk := pk _ px
  replace pv := pv _ px
  generalize e4 : ({ s3 with heap := pushCells (s3.heap.push { cls := .type "dict", data := .dict #[] }) scp.names } : Shared) = s4 at I4 ⊢
  have st4 : tn 0 s4.heap := tu.keep _ _ _ st3 fun b _ o e => by rw [← e4]; exact pushCells_keeps _ _ _ _ (Heap.get?_push_of_some _ e)
  have inner : ∀ {σ' : L2.St} {H' : Hp} {s' : Shared}, Inv (X.blk s3 H3 scp ce fp) [] σ' H' s' → (∀ b ∈ fp, H' b = none) → ∀ b ∈ fp, FpOk (X.blk s3 H3 scp ce fp) [] H' b := fun {σ' H' s'} J' n b hb =>
    ⟨n b hb, (J'.ok.exf b hb).1, J'.ok.exfs b hb, .inl hb, fun x c e => (J'.ok.exf b hb).2 x c e, fun p hp => nomatch hp⟩
  have loop : codeAny (model X.prog X.w) X.A (.compLoop (.DictComp kx vx [⟨tgt, itr, tests, 0⟩] scp po) 0 (.ref it) (.ref D) ce) (compEnds (model X.prog X.w) X.A X.xe none (EP X pins σ Q) (.ref D) ce) s4 := by
    refine compLoop_anyD (fun n s' => ∃ i H', Inv (X.blk s3 H3 scp ce fp) [] (wipe σ (own.map (·.2))) H' s' ∧ tn i s'.heap ∧ (∀ b ∈ fp, H' b = none) ∧ Wd i n H') ?_ m0 ⟨0, H3, I4, st4, fun b hb => (free3 b hb).1.1, w0⟩
    rintro n s5 ⟨i, H5, I5, st5, n5, w5⟩
    rcases turns i n H5 w5 with ⟨stop, fin⟩ | ⟨go, Nx, back, step⟩
    · refine thnF (tu.done (X.blk s3 H3 scp ce fp) rfl rfl rfl calm i [] s5 _ H5 (fun _ _ => False) I5 (inner I5 n5) st5 stop) fun r s6 ⟨hr, I6⟩ => ?_
      subst hr
      obtain ⟨I7, f0, f1, f2, f3, f4, f5⟩ := back7 I6
      obtain ⟨m, hm, _⟩ := I6.loc
      have hm : s6.heap.Ns ce.locals m := hm
      refine ⟨m, hm, fun h'' sb => ?_⟩
      rw [home] at sb
      exact ⟨.ref D, H5, I7.turned (t' := s6.toks) (fun b o hb e => (sb.2 b hb).trans e) f0 f1 f3 f4 f5, rfl, fin⟩
    · refine thnF (tu.item (X.blk s3 H3 scp ce fp) rfl rfl rfl calm i [] s5 _ H5 (fun _ _ => False) I5 (inner I5 n5) st5 go) fun r s6 ⟨u, hr, h6⟩ => ?_
      subst hr
      refine thnF h6 fun _ s7 ⟨x, H7, I7, r7, y7, st7, n7⟩ => ?_
      refine thnF (pg.run _ s7 _ H7 x u _ (I7.pinned (inner I7 n7) (tu.obj _ _ st7)) r7 (step x H7 y7)) fun _ s8 ⟨σ8, H8, I8, ew, q8⟩ => ?_
      refine thnF (pt.run _ s8 σ8 H8 _ I8 q8) fun b s9 ⟨H9, I9, q9⟩ => ?_
      have ret : ∀ {s' : Shared} {H' : Hp}, Inv (X.blk s3 H3 scp ce fp) ([] ++ pinsAt fp s7.heap) σ8 H' s' → Nx H' → ∃ m, m < n ∧ ∃ i H', Inv (X.blk s3 H3 scp ce fp) [] (wipe σ (own.map (·.2))) H' s' ∧ tn i s'.heap ∧ (∀ b ∈ fp, H' b = none) ∧ Wd i m H' := fun {s' H'} J' nx => by
        obtain ⟨m', lt, w'⟩ := back H' nx
        have held : ∀ b ∈ fp, ∀ o, s7.heap.get? b = some o → s'.heap.get? b = some o ∧ H' b = none := fun b hb o e =>
          have z := J'.pin (b, o) (List.mem_append_right _ (List.mem_append_right _ (mem_pinsAt hb e)))
          ⟨z.1, z.2.1⟩
        refine ⟨m', lt, i + 1, H', (J'.unpinned (pins := [])).weak (by rw [← ew, wipe_length]) (fun j v e => ?_), tu.keep _ _ _ st7 fun b hb o e => (held b hb o e).1, fun b hb => ?_, w'⟩
        · rw [← ew] at e
          exact (wipe_some e).1
        · obtain ⟨o, e, _⟩ := tu.obj _ _ st7 b hb
          exact (held b hb o e).2
      cases b with
      | false =>
        simp only [Bool.false_eq_true, if_false] at q9 ⊢
        exact ret I9 q9
      | true =>
        simp only [if_true] at q9 ⊢
        refine thn (pk.run _ s9 σ8 H9 _ (inv_to I9) q9) fun z s10 ⟨yk, H10, I10, r10, q10⟩ => ?_
        refine thn (pv.run _ s10 σ8 H10 _ I10 q10) fun z2 s11 ⟨yv, H11, I11, r11, kvs, k, ek, hD11, few, nx⟩ => ?_
        subst ek
        exact d_dictSet (X := X.blk s3 H3 scp ce fp) (inv_of I11) hD11 few r10 r11 fun s12 I12 => ret I12 nx
  exact codeAny_compStart_dict loop (tu.self X.A 0 _ _ _ st4 loop)
end
end CXR

-- RPw
set_option maxRecDepth 100000
set_option maxHeartbeats 4000000
/-! starred lists, tuples together, what raises on the way of a statement, tables read in a walk -/
namespace RP
open PySem PySem.Spec PyProof.Rows L2
open Rp (rp)
open Rp (rp)
section
variable {α β κ : Type} [Rp α] [Rp β]
variable {Ps : Tbs} {B : Bs} {M M' L : Mu} {G G' : Gm} {K : PySem.W.Frag} {ta tb te td to : TE} {t tr : TA} {ts tu : TS} {D : L2.Ends} {E : XK} {a : Addr} {R Ra Rb : VRel} {Rs Rt : List VRel} {F H F' H' : Hp} {σ : L2.St} {wi : TI} {g : TG} {tt : TT} {n : Nat}
theorem tt_of {b : Bool} (h : true = !b) : b = false := by cases b <;> first | rfl | cases h
theorem ff_of {b : Bool} (h : false = !b) : b = true := by cases b <;> first | rfl | cases h
/-! ### lists with a star -/
theorem Ea.star {xs : List α} (h : Ev Ps G M te R) (hs : Sq Ps M K R xs) (ht : Ea Ps G M t Rs) : Ea Ps G M (StX.tStar K te t) (xs.map (fun x => Is K x) ++ Rs) := fun σ F H Q e s q =>
  h σ F H _ e s fun v F1 H1 e1 r1 => by
    obtain ⟨a, vs, rfl, hq, p⟩ := hs F1 H1 v (s.evo e1) r1
    refine ⟨a, vs, rfl, hq.elim .inr .inl, ht σ F1 H1 _ (e.mono e1.le) (s.evo e1) fun ws F2 H2 e2 r2 => q _ F2 H2 (e1.trans e2) ?_⟩
    have p2 : Ps2 K F2 vs xs := p.mono e2.le
    unfold Ps2 at p2
    clear p hq q hs
    induction p2 with
    | nil => exact r2
    | cons a _ ih => exact .cons a ih
theorem Ea.tox (h : Ea Ps G M t Rs) (e : Rs = Rt) : Ea Ps G M t Rt := e ▸ h
/-! ### tuples together -/
theorem o2_catT {xs ys : Tl α} (hz : xs.l.length + ys.l.length ≤ 100000) : O2 Ps M (rCatA K) (Is K xs) (Is K ys) (Is K (Tl.mk (xs.l ++ ys.l))) := fun F H v w Q s ⟨a, vs, e1, h1, p1⟩ ⟨b, ws, e2, h2, p2⟩ q => by
  subst e1 e2
  have big : 200000 ≤ sizeLine := by decide
  have l1 := Paired.length p1
  have l2 := Paired.length p2
  have app : ∀ {l1 : List V} {r1 : List α} {l2 : List V} {r2 : List α}, Ps2 K F l1 r1 → Ps2 K F l2 r2 → Ps2 K F (l1 ++ l2) (r1 ++ r2) := by
    intro l1 r1 l2 r2 h1 h2
    unfold Ps2 at h1
    induction h1 with
    | nil => exact h2
    | cons a _ ih => exact .cons a ih
  refine ⟨a, b, vs, ws, rfl, rfl, s.sub.sqT h1, s.sub.sqT h2, by omega, fun z => ?_, fun _ z => ?_, fun _ _ p hp => ?_⟩
  · subst z
    have : xs.l = [] := List.length_eq_zero_iff.mp (by rw [← l1]; rfl)
    refine q _ F H s.refl ⟨b, ws, rfl, h2, ?_⟩
    rw [this]
    exact p2
  · subst z
    have : ys.l = [] := List.length_eq_zero_iff.mp (by rw [← l2]; rfl)
    refine q _ F H s.refl ⟨a, vs, rfl, h1, ?_⟩
    rw [this, List.append_nil]
    exact p1
  · exact q _ _ _ (Evo.newT s (app p1 p2) hp).1 (Evo.newT s (app p1 p2) hp).2
theorem Ev.slT {xs : Tl α} {tl th : TO} {lo hi : Option Int} (ha : Ev Ps G M ta (Is K xs)) (hl : Eo Ps K G M tl lo) (hh : Eo Ps K G M th hi) : Ev Ps G M (L2.tSl (rSlA K) ta tl th) (Is K (Tl.mk (cutX xs.l lo hi))) := by
  refine Ev.sl ha hl hh fun F H v Q s ⟨a, vs, e, h, p⟩ q => ?_
  subst e
  have ln := Paired.length p
  refine ⟨a, vs, rfl, s.sub.sqT h, fun ⟨z1, z2⟩ => q _ F H s.refl ⟨a, vs, rfl, h, ?_⟩, fun _ u hu => q _ _ _ (Evo.newT s (p.cut lo hi) hu).1 (Evo.newT s (p.cut lo hi) hu).2⟩
  have e : cutX xs.l lo hi = xs.l := by
    unfold cutX
    rw [← ln, z1, z2, List.drop_zero, Nat.sub_zero, ln, List.take_length]
  show Ps2 K F vs (cutX xs.l lo hi)
  rw [e]
  exact p
theorem Ei.enumT {xs : Tl α} (h : Ea Ps G M t [Is K xs]) : Ei Ps G M [] (RU.iNumT K t) (enL xs.l).length (Nth K (enL xs.l)) := fun σ F H R e s q => h σ F H _ e s fun vs0 F1 H1 e1 r1 => by
  obtain ⟨v, rfl, a, vs, rfl, hF, hp⟩ := rs1 r1
  have ln := Paired.length hp
  rw [en_len] at q
  refine ⟨a, vs, rfl, (s.evo e1).sub.sqT hF, q _ F1 H1 e1 ⟨fun _ i F' H' _ hi l s' => ?_, fun _ F' H' _ l s' => ?_, fun _ i F' H' x H'' _ hi l s' y => ?_⟩⟩
  · exact ⟨vs, vs[i]'(by omega), s'.sub.sqT (l.sqT hF), List.getElem?_eq_getElem _⟩
  · exact ⟨vs, s'.sub.sqT (l.sqT hF), by omega⟩
  · obtain ⟨T, x, rfl, hT, rfl, al⟩ := y
    have ex := al vs (s'.sub.sqT (l.sqT hF))
    have e' := s'.new (o := .tup [.int (0 + (i : Nat)), x]) hT
    refine ⟨_, e', (i, xs.l[i]), en_at hi, T, .int (0 + (i : Nat)), x, rfl, upd_same, by show V.int (0 + (i : Int)) = V.int (i : Int); rw [Int.zero_add], ?_⟩
    exact Rp.mono K _ _ _ _ (l.trans e'.le) (Paired.get? hp ex (List.getElem?_eq_getElem hi))
/-! ### what raises -/
def EiR (Ps : Tbs) (G : Gm) (M : Mu) (wi : TI) (E : XK) (a : Addr) : Prop := ∀ σ F H R, EnvOk F σ G → Sh Ps M F H → (∀ F' H', Evo Ps M F H F' H' → E (.ref a) none H') → wi σ H R
theorem EiR.list (h : EvR Ps G M te E a) : EiR Ps G M (iList K te) E a := fun σ F H R e s x => h σ F H _ e s x
theorem EiR.tup (h : EvR Ps G M te E a) : EiR Ps G M (iTup K te) E a := fun σ F H R e s x => h σ F H _ e s x
theorem EiR.enumT (h : EaR Ps G M t E a) : EiR Ps G M (RU.iNumT K t) E a := fun σ F H R e s x => h σ F H _ e s x
theorem EvR.tup (h : EaR Ps G M t E a) : EvR Ps G M (tTup t) E a := fun σ F H Q e s x => h σ F H _ e s x
theorem EvR.lst (h : EaR Ps G M t E a) : EvR Ps G M (tLst t) E a := fun σ F H Q e s x => h σ F H _ e s x
theorem EvR.altL {t1 t2 : TE} (h : EvR Ps G M t1 E a) : EvR Ps G M (tAlt t1 t2) E a := fun σ F H Q e s x => .inl (h σ F H Q e s x)
theorem EiR.altL {t1 t2 : TI} (h : EiR Ps G M t1 E a) : EiR Ps G M (iAlt t1 t2) E a := fun σ F H Q e s x => .inl (h σ F H Q e s x)
theorem Nx.forR (h : EiR Ps G M wi E a) (x : ∀ σ F H, Sa Ps B G M σ F H → E (.ref a) none H) : Nx Ps B G M (tFor wi g ts D) := fun σ F H s => h σ F H _ s.en s.sh fun F' H' e => x σ F' H' (s.evo e)
theorem Nx.dropR (h : EvR Ps G M te E a) (x : ∀ σ F H, Sa Ps B G M σ F H → E (.ref a) none H) : Nx Ps B G M (tDrop te D) := fun σ F H s => h σ F H _ s.en s.sh fun F' H' e => x σ F' H' (s.evo e)
/-- x.append(e) where e raises -/
theorem EvR.app {xs : List α} {j : Nat} {d : Addr} (hd : Ev Ps G M td (At d)) (hj : M[j]? = some (d, LstM K xs)) (h : EvR Ps G M te E a) : EvR Ps G M (tBM K "list" rAppend td (tCons te tNil)) E a := fun σ F H Q e s x => hd σ F H _ e s fun v F1 H1 e1 r1 => by
  cases r1
  obtain ⟨o, h1, vs, rfl, p⟩ := (s.evo e1).mu _ (List.mem_of_getElem? hj)
  exact ⟨.inl ⟨rfl, _, SqL.of h1⟩, h σ F1 H1 _ (e.mono e1.le) (s.evo e1) fun F' H' e2 => x F' H' (e1.trans e2)⟩
/-! ### None -/
theorem o2_isN {x : Option α} (hx : ∀ y, x = some y → ∀ F, ¬ rp K F .non y) : O2 Ps M (fun x y H Q => y = .non ∧ Q (.bl (decide (x = .non))) H) (Is K x) (Is K (none : Option α)) (Is K x.isNone) := fun F H v w Q s r1 r2 q => by
  cases r2
  refine ⟨rfl, q _ F H s.refl ?_⟩
  cases x with
  | none =>
    cases r1
    rfl
  | some y =>
    have : v ≠ .non := fun z => hx y rfl F (by rw [← z]; exact r1)
    show V.bl (decide (v = .non)) = V.bl false
    rw [decide_eq_false this]
/-! ### what is returned as it stands -/
theorem Sa.newM (s : Sa Ps B G M σ F H) (hB : ∀ a, ¬ B.W a) {e : Addr × MRel} (he : e ∈ M) : B.H0 e.1 = none := (s.mw e he).resolve_left (hB _)
theorem Nx.retL {j : Nat} {d : Addr} {xs : List α} (h : Ev Ps G M te (At d)) (hj : M[j]? = some (d, LstM K xs)) (hB : ∀ a, ¬ B.W a) (q : ∀ v σ F H, Sa Ps B G (M.eraseIdx j) σ F H → (Is K xs).R F v → D.rt v H) : Nx Ps B G M (tRet te D) := fun σ F H s => h σ F H _ s.en s.sh fun v F1 H1 e1 r1 => by
  cases r1
  have s1 := s.evo e1
  obtain ⟨o, h1, vs, rfl, p⟩ := s1.sh.mu _ (List.mem_of_getElem? hj)
  refine q _ σ _ _ (s1.frz hj rfl (s1.newM hB (List.mem_of_getElem? hj)) h1) ⟨d, vs, rfl, upd_same, p.mono fun b o e => ?_⟩
  have nF := (s1.sh.ow _ (List.mem_of_getElem? hj)).2 rfl
  rw [upd_ne (ne_of_none e nF)]
  exact e
theorem Nx.retD [Ky κ] {j : Nat} {d : Addr} {l : List (κ × α)} (h : Ev Ps G M te (At d)) (hj : M[j]? = some (d, DicM K l)) (hB : ∀ a, ¬ B.W a) (q : ∀ v σ F H, Sa Ps B G (M.eraseIdx j) σ F H → (Is K (Dc.mk l)).R F v → D.rt v H) : Nx Ps B G M (tRet te D) := fun σ F H s => h σ F H _ s.en s.sh fun v F1 H1 e1 r1 => by
  cases r1
  have s1 := s.evo e1
  obtain ⟨o, h1, kv, rfl, p⟩ := s1.sh.mu _ (List.mem_of_getElem? hj)
  refine q _ σ _ _ (s1.frz hj rfl (s1.newM hB (List.mem_of_getElem? hj)) h1) ⟨d, kv, rfl, upd_same, p.mono fun b o e => ?_⟩
  have nF := (s1.sh.ow _ (List.mem_of_getElem? hj)).2 rfl
  rw [upd_ne (ne_of_none e nF)]
  exact e
/-! ### a table read while it is walked -/
/-- locked, its rows told -/
def LkD (K : PySem.W.Frag) [Ky κ] (l : List (κ × α)) (od : PySem.Obj) (kv : List (Key × V)) : MRel := ⟨fun F o => o = .frz od (.dK kv) ∧ Kvs K F kv l, fun F F' o le ⟨e, h⟩ => ⟨e, h.mono le⟩, true, fun F o ⟨e, _⟩ φ z => nomatch e.symm.trans z⟩
variable [Ky κ]
theorem Ds.lkd {l : List (κ × α)} {d : Addr} {od : PySem.Obj} {kv : List (Key × V)} (h : (d, LkD K l od kv) ∈ M) : Ds Ps M K (At d) l := fun F H v s e => by
  obtain ⟨o, h1, rfl, p⟩ := s.mu _ h
  exact ⟨d, kv, e, .inr ⟨od, h1⟩, p⟩
theorem Ei.keysD [Rp κ] [KyR κ] {d : Addr} {od : PySem.Obj} {kv : List (Key × V)} {l : List (κ × α)} (hd : Ev Ps G M td (At d)) (hM : (d, LkD K l od kv) ∈ M) : Ei Ps G M [(d, LkD K l od kv)] (iKeys td) (l.map (·.1)).length (Nth K (l.map (·.1))) := fun σ F H R e s q => hd σ F H _ e s fun v F1 H1 e1 ev => by
  cases ev
  have lk : ∀ {M' : Mu} {F' H' : Hp}, (∀ e ∈ [(d, LkD K l od kv)], e ∈ M') → Sh Ps M' F' H' → H' d = some (.frz od (.dK kv)) := fun h s' => by
    obtain ⟨o, h1, rfl, _⟩ := s'.mu _ (h _ (List.mem_singleton.mpr rfl))
    exact h1
  obtain ⟨o, h1, rfl, hp⟩ := (s.evo e1).mu _ hM
  have hk := kvs_keys hp
  have ln : kv.length = (l.map (·.1)).length := by
    have := congrArg List.length hk
    simpa using this
  refine ⟨d, od, rfl, .inl ⟨kv, h1, q _ F1 H1 e1 ⟨fun _ i F' H' h hi _ s' => ?_, fun _ F' H' h _ s' => ?_, fun _ i F' H' x H'' h hi _ s' y => ?_⟩⟩⟩
  · rw [← ln] at hi
    exact walk_keys.goes i H' hi (lk h s')
  · rw [← ln]
    exact walk_keys.stops H' (lk h s')
  · obtain ⟨rfl, k, w, h1, h2⟩ := walk_keys.yields i H' x H'' (by rw [ln]; exact hi) (lk h s') y
    refine ⟨F', s'.refl, (l.map (·.1))[i], List.getElem?_eq_getElem hi, (KyR.r ..).mpr ?_⟩
    have h3 : (kv.map (·.1))[i]? = some k := by rw [List.getElem?_map, h1]; rfl
    rw [hk, List.getElem?_map, List.getElem?_eq_getElem hi] at h3
    rw [h2, ← Option.some.inj h3]
theorem set_keys {j : Nat} {d : Addr} {r r' : MRel} (hj : M[j]? = some (d, r)) : (M.set j (d, r')).map (·.1) = M.map (·.1) := by
  have hl : j < M.length := (List.getElem?_eq_some_iff.mp hj).1
  rw [List.map_set]
  refine List.ext_getElem? fun i => ?_
  by_cases hi : j = i
  · subst hi
    rw [List.getElem?_set_self (by rw [List.length_map]; exact hl), List.getElem?_map, hj]
    rfl
  · rw [List.getElem?_set_ne hi]
theorem set_mem {j : Nat} {d : Addr} {r r' : MRel} (hj : M[j]? = some (d, r)) {e : Addr × MRel} (he : e ∈ M.set j (d, r')) : e = (d, r') ∨ e ∈ M := by
  have hl : j < M.length := (List.getElem?_eq_some_iff.mp hj).1
  obtain ⟨i, hi⟩ := List.getElem?_of_mem he
  by_cases hij : j = i
  · subst hij
    rw [List.getElem?_set_self hl] at hi
    exact .inl (Option.some.inj hi).symm
  · rw [List.getElem?_set_ne hij] at hi
    exact .inr (List.mem_of_getElem? hi)
theorem nd_of (nd : (M.map (·.1)).Nodup) {j : Nat} {d : Addr} {r : MRel} (hj : M[j]? = some (d, r)) {e : Addr × MRel} (he : e ∈ M) (h : e.1 = d) : e = (d, r) := by
  obtain ⟨i, hi⟩ := List.getElem?_of_mem he
  have g1 : (M.map (·.1))[i]? = some d := by rw [List.getElem?_map, hi]; exact congrArg some h
  have g2 : (M.map (·.1))[j]? = some d := by rw [List.getElem?_map, hj]; rfl
  have hjl : j < (M.map (·.1)).length := (List.getElem?_eq_some_iff.mp g2).1
  have : j = i := List.Nodup.getElem?_inj_ nd hjl (g2.trans g1.symm)
  subst this
  rw [hj] at hi
  exact (Option.some.inj hi).symm
/-- what stands at d is told otherwise -/
theorem Sh.retell {j : Nat} {d : Addr} {r r' : MRel} {o o' : HO} (s : Sh Ps M F H) (hj : M[j]? = some (d, r)) (ow : r.own = true) (ow' : r'.own = true) (hd : H d = some o) (nc : ∀ φ, o ≠ .ext φ) (hr : r'.R F o') : Sh Ps (M.set j (d, r')) F (upd H d o') := by
  have hm : (d, r) ∈ M := List.mem_of_getElem? hj
  obtain ⟨nP, nF⟩ := s.ow _ hm
  have nF := nF ow
  have hl : j < M.length := (List.getElem?_eq_some_iff.mp hj).1
  refine ⟨fun b u hb => (s.sub b u hb).upd (fun z => by rw [z, nF] at hb; exact nomatch hb), s.tb.upd nP (by rw [hd]; exact fun φ z => nc φ (Option.some.inj z)), s.fp, fun e he => ?_, fun e he => ?_, by rw [set_keys hj]; exact s.nd, fun b kvs hb c => ?_⟩
  · by_cases z : e.1 = d
    · have nd2 : ((M.set j (d, r')).map (·.1)).Nodup := by rw [set_keys hj]; exact s.nd
      have e1 := nd_of nd2 (j := j) (d := d) (r := r') (List.getElem?_set_self hl) he z
      subst e1
      exact ⟨_, upd_same, hr⟩
    · rcases set_mem hj he with rfl | he
      · exact absurd rfl z
      · obtain ⟨u, g1, g2⟩ := s.mu e he
        exact ⟨u, by rw [upd_ne z]; exact g1, g2⟩
  · rcases set_mem hj he with rfl | he
    · exact ⟨nP, fun _ => nF⟩
    · exact s.ow e he
  · have z : b ≠ d := fun z => by rw [z, nF] at hb; exact nomatch hb
    rw [upd_ne z]
    refine s.fz b kvs hb fun e he y => ?_
    by_cases zz : e.1 = d
    · exact absurd (y.symm.trans zz) z
    · refine c e ?_ y
      obtain ⟨i, hi⟩ := List.getElem?_of_mem he
      have : j ≠ i := fun q => by
        subst q
        rw [hj] at hi
        exact zz (by rw [← Option.some.inj hi])
      exact List.mem_of_getElem? (i := i) (by rw [List.getElem?_set_ne this]; exact hi)
theorem Sa.retell {j : Nat} {d : Addr} {r r' : MRel} {o o' : HO} (s : Sa Ps B G M σ F H) (hj : M[j]? = some (d, r)) (ow : r.own = true) (ow' : r'.own = true) (hd : H d = some o) (nc : ∀ φ, o ≠ .ext φ) (hr : r'.R F o') : Sa Ps B G (M.set j (d, r')) σ F (upd H d o') := by
  have hm : (d, r) ∈ M := List.mem_of_getElem? hj
  refine ⟨s.en, s.sh.retell hj ow ow' hd nc hr, s.le, fun a u h p w => ?_, fun a u h => ?_, s.nw, fun e he => ?_⟩
  · have z : a ≠ d := fun z => by
      rcases s.mw _ hm with y | y
      · exact w (by rw [z]; exact y)
      · rw [z] at h
        have y : B.H0 d = none := y
        rw [y] at h
        cases h
    rw [upd_ne z]
    exact s.keep a u h p w
  · by_cases z : a = d
    · rw [z]
      exact ⟨_, upd_same⟩
    · rw [upd_ne z]
      exact s.dom a u h
  · rcases set_mem hj he with rfl | he
    · exact s.mw (d, r) hm
    · exact s.mw e he
/-- a statement that reads a table of ours while it walks it -/
theorem Nx.lockS {j : Nat} {d : Addr} {l : List (κ × α)} (hj : M[j]? = some (d, DicM K l))
    (h : ∀ (od : PySem.Obj) (kv : List (Key × V)) (D' : L2.Ends), (∀ G' M', M'[j]? = some (d, LkD K l od kv) → Nx Ps B G' (M'.set j (d, DicM K l)) D.nx → Nx Ps B G' M' D'.nx) → Nx Ps B G (M.set j (d, LkD K l od kv)) (ts D')) : Nx Ps B G M (L2.tLock ts D) := fun σ F H s => by
  obtain ⟨o, h1, kv, rfl, hk⟩ := s.sh.mu _ (List.mem_of_getElem? hj)
  refine ⟨d, .dK kv, h1, True.intro, fun od => ?_⟩
  refine h od kv _ (fun G' M' hj' nx σ' F' H' s' => ?_) σ F _ (s.retell hj rfl rfl h1 (fun _ z => nomatch z) ⟨rfl, hk⟩)
  obtain ⟨o, g1, rfl, hk'⟩ := s'.sh.mu _ (List.mem_of_getElem? hj')
  exact ⟨g1, nx σ' F' _ (s'.retell (r' := DicM K l) hj' rfl rfl g1 (fun _ z => nomatch z) ⟨kv, rfl, hk'⟩)⟩
end
end RP
namespace BG
open PySem PySem.Spec PyProof.Rows L2
open RP hiding Tb
section
variable {P : Program} {w : World} {K : PySem.W.Frag} {mg : Str → Option Value} {base : Heap}
/-- okP where what is new is known to be -/
theorem FunC.okPW {Ps : Tbs} {γ : Type} {x qual : Str} {st : Stmt} {f c : Addr} {fd : FuncData} {N ps : List Str} {k : Nat} {Rs : γ → List VRel} {pre : γ → Prop} {R : γ → VRel} {er : γ → Option Addr} (Fn : FunC K x qual st f fd c) (S : FnScope N ps (defScope st)) (len : ∀ c, (Rs c).length = ps.length)
    (hbody : ∀ (A : Around) (outer : List Env) (s : Shared) (H0 : Hp) (E : XK), Room k (A.deeper (envOfC qual (defScope st) s.heap.objs.size f (.ref c))) →
      ∃ t, PSs (cxOf (L2.CX P w) P w K mg base N qual (defScope st) f (.ref c) A outer s H0 E) (defBody st) t ∧ ∀ (c : γ) (B : Bs) (D : L2.Ends), (∀ a, ¬ B.W a) → pre c → (er c = none → ∀ v G M σ F H, (∀ e ∈ M, e.2.own = true) → Sa Ps B G M σ F H → (R c).R F v → D.rt v H) → (∀ a, er c = some a → ∀ G M σ F H, (∀ e ∈ M, e.2.own = true) → Sa Ps B G M σ F H → E (.ref a) none H) →
        (er c = none → ∀ G M σ F H, (∀ e ∈ M, e.2.own = true) → Sa Ps B G M σ F H → (R c).R F .non → D.nx σ H) → Nx Ps B (startG N (Rs c)) [] (t D)) : FnOk P w K mg base (L2.CX P w) (k + 1) f fd ps (Spx Ps Rs pre R er) := by
  refine FunC.okX Fn S (fun vs H Q E h => ?_) (fun A outer s H vs Q E hr h => ?_)
  · obtain ⟨c, F, _, _, r, _⟩ := h
    rw [← Paired.length r, len]
  · obtain ⟨c, F, sh, p, r, q, e⟩ := h
    obtain ⟨t, ht, h⟩ := hbody A outer s H E hr
    exact ⟨t, ht, h c ⟨F, H, fun a => a ∈ ([] : Mu).map (·.1)⟩ _ (fun a h => nomatch h) p (fun hn v G M σ F' H' ow s' rr => q hn v F' H' (s'.fin ow).evo0 rr) (fun a ha G M σ F' H' ow s' => e a ha F' H' (s'.fin ow).evo0) (fun hn G M σ F' H' ow s' rr => q hn .non F' H' (s'.fin ow).evo0 rr) _ F H (Sa.start sh r)⟩
theorem Fun.okPW {Ps : Tbs} {γ : Type} {x qual : Str} {st : Stmt} {f : Addr} {fd : FuncData} {N ps : List Str} {k : Nat} {Rs : γ → List VRel} {pre : γ → Prop} {R : γ → VRel} {er : γ → Option Addr} (Fn : L2.Fun K x qual st f fd) (S : FnScope N ps (defScope st)) (len : ∀ c, (Rs c).length = ps.length)
    (hbody : ∀ (cdv : Value) (A : Around) (outer : List Env) (s : Shared) (H0 : Hp) (E : XK), Room k (A.deeper (envOfC qual (defScope st) s.heap.objs.size f cdv)) →
      ∃ t, PSs (cxOf (L2.CX P w) P w K mg base N qual (defScope st) f cdv A outer s H0 E) (defBody st) t ∧ ∀ (c : γ) (B : Bs) (D : L2.Ends), (∀ a, ¬ B.W a) → pre c → (er c = none → ∀ v G M σ F H, (∀ e ∈ M, e.2.own = true) → Sa Ps B G M σ F H → (R c).R F v → D.rt v H) → (∀ a, er c = some a → ∀ G M σ F H, (∀ e ∈ M, e.2.own = true) → Sa Ps B G M σ F H → E (.ref a) none H) →
        (er c = none → ∀ G M σ F H, (∀ e ∈ M, e.2.own = true) → Sa Ps B G M σ F H → (R c).R F .non → D.nx σ H) → Nx Ps B (startG N (Rs c)) [] (t D)) : FnOk P w K mg base (L2.CX P w) (k + 1) f fd ps (Spx Ps Rs pre R er) := by
  refine L2.Fun.okX Fn S (fun vs H Q E h => ?_) (fun cdv A outer s H vs Q E hr h => ?_)
  · obtain ⟨c, F, _, _, r, _⟩ := h
    rw [← Paired.length r, len]
  · obtain ⟨c, F, sh, p, r, q, e⟩ := h
    obtain ⟨t, ht, h⟩ := hbody cdv A outer s H E hr
    exact ⟨t, ht, h c ⟨F, H, fun a => a ∈ ([] : Mu).map (·.1)⟩ _ (fun a h => nomatch h) p (fun hn v G M σ F' H' ow s' rr => q hn v F' H' (s'.fin ow).evo0 rr) (fun a ha G M σ F' H' ow s' => e a ha F' H' (s'.fin ow).evo0) (fun hn G M σ F' H' ow s' rr => q hn .non F' H' (s'.fin ow).evo0 rr) _ F H (Sa.start sh r)⟩
end
end BG

-- RPy
set_option maxRecDepth 100000
set_option maxHeartbeats 4000000
/-! what a def makes and hands over as its caller's own; dict comprehensions -/
namespace RP
open PySem PySem.Spec PyProof.Rows L2
open Rp (rp)
open Rp (rp)
section
variable {Ps : Tbs} {B : Bs} {M M' L : Mu} {G G' : Gm} {K : PySem.W.Frag} {te td : TE} {t : TA} {E : XK} {a : Addr} {R : VRel} {F H F' H' : Hp} {σ : L2.St} {D : L2.Ends}
/-- what is new is ours -/
theorem Sa.add {d : Addr} {r : MRel} {o : HO} (s : Sa Ps B G M σ F H) (ev : Evo Ps M F H F' H') (n : H d = none) (nF : F' d = none) (hd : H' d = some o) (hr : r.R F' o) : Sa Ps B G ((d, r) :: M) σ F' H' := by
  have s1 := s.evo ev
  have nP : d ∉ tk Ps := s.sh.tb.not n
  have nM : d ∉ M.map (·.1) := fun h => by
    obtain ⟨x, hx, rfl⟩ := List.mem_map.mp h
    obtain ⟨o, h1, _⟩ := s.sh.mu x hx
    rw [n] at h1
    cases h1
  have n0 : B.H0 d = none := by
    cases q : B.H0 d with
    | none => rfl
    | some o' =>
      obtain ⟨o2, h2⟩ := s.dom d o' q
      rw [n] at h2
      cases h2
  refine ⟨s1.en, ⟨s1.sh.sub, s1.sh.tb, s1.sh.fp, fun e he => ?_, fun e he => ?_, ?_, fun b kvs hb c => s1.sh.fz b kvs hb fun e he z => c e (List.mem_cons_of_mem _ he) z⟩, s1.le, s1.keep, s1.dom, s1.nw, fun e he => ?_⟩
  · rcases List.mem_cons.mp he with rfl | he
    · exact ⟨o, hd, hr⟩
    · exact s1.sh.mu e he
  · rcases List.mem_cons.mp he with rfl | he
    · exact ⟨nP, fun _ => nF⟩
    · exact s1.sh.ow e he
  · exact List.nodup_cons.mpr ⟨nM, s1.sh.nd⟩
  · rcases List.mem_cons.mp he with rfl | he
    · exact .inr n0
    · exact s1.mw e he
/-- a promise to make something new -/
def Spo {γ : Type} (Ps : Tbs) (Rs : γ → List VRel) (pre : γ → Prop) (r : γ → MRel) (er : γ → Option Addr) : Sp := fun vs H Q E => ∃ c F, Sh Ps [] F H ∧ pre c ∧ RsOk F (Rs c) vs ∧ (er c = none → ∀ d o F' H', H d = none → Evo Ps [] F H F' H' → F' d = none → H' d = some o → (r c).R F' o → Q (.ref d) H') ∧ ∀ a, er c = some a → ∀ F' H', Evo Ps [] F H F' H' → E (.ref a) none H'
theorem EvS.callo {γ : Type} {Rs : γ → List VRel} {pre : γ → Prop} {r : γ → MRel} {er : γ → Option Addr} (ow : ∀ e ∈ M, e.2.own = true) (c : γ) (ha : Ea Ps G M t (Rs c)) (p : pre c) (e : er c = none) : EvS Ps B G M (tCall (Spo Ps Rs pre r er) [] E t) (fun R M' => ∃ d, R = At d ∧ M' = (d, r c) :: M) := fun σ F H Q s q => ha σ F H _ s.en s.sh fun vs F1 H1 e1 r1 => by
  have s1 := s.evo e1
  show Spo Ps Rs pre r er (vs ++ []) H1 Q E
  rw [List.append_nil]
  refine ⟨c, F1, s1.sh.bare ow, p, r1, fun _ d o F2 H2 n ev nF hd hr => ?_, fun a ha => by rw [e] at ha; cases ha⟩
  have ev2 := Evo.of_bare s1.sh ev
  exact q (At d) _ (.ref d) F2 H2 ⟨d, rfl, rfl⟩ (s1.add ev2 n nF hd hr) (e1.le.trans ev.le) rfl
theorem EvR.callo {γ : Type} {Rs : γ → List VRel} {pre : γ → Prop} {r : γ → MRel} {er : γ → Option Addr} (ow : ∀ e ∈ M, e.2.own = true) (c : γ) (ha : Ea Ps G M t (Rs c)) (p : pre c) (e : er c = some a) : EvR Ps G M (tCall (Spo Ps Rs pre r er) [] E t) E a := fun σ F H Q en s x => ha σ F H _ en s fun vs F1 H1 e1 r1 => by
  show Spo Ps Rs pre r er (vs ++ []) H1 Q E
  rw [List.append_nil]
  refine ⟨c, F1, (s.evo e1).bare ow, p, r1, (fun z => by rw [e] at z; cases z), fun a' ha' F2 H2 e2 => ?_⟩
  rw [e] at ha'
  cases ha'
  exact x F2 H2 (e1.trans (Evo.of_bare (s.evo e1) e2))
/-- handed over and told at once -/
theorem Ev.calloD {γ κ α : Type} [Ky κ] [Rp α] {Rs : γ → List VRel} {pre : γ → Prop} {lf : γ → List (κ × α)} {er : γ → Option Addr} (ow : ∀ e ∈ M, e.2.own = true) (c : γ) (ha : Ea Ps G M t (Rs c)) (p : pre c) (e : er c = none) : Ev Ps G M (tCall (Spo Ps Rs pre (fun c => DicM K (lf c)) er) [] E t) (Is K (Dc.mk (lf c))) := fun σ F H Q en s q => ha σ F H _ en s fun vs F1 H1 e1 r1 => by
  have s1 := s.evo e1
  show Spo Ps Rs pre _ er (vs ++ []) H1 Q E
  rw [List.append_nil]
  refine ⟨c, F1, s1.bare ow, p, r1, fun _ d o F2 H2 n ev nF hd hr => ?_, fun a ha => by rw [e] at ha; cases ha⟩
  obtain ⟨kv, rfl, hk⟩ := hr
  have ev2 := Evo.of_bare s1 ev
  exact q _ _ _ (e1.trans (ev2.frz n nF hd)) ⟨d, kv, rfl, upd_same, hk.mono fun b u h => by rw [upd_ne (ne_of_none h nF)]; exact h⟩
/-! ### dict comprehensions -/
theorem mergeD_snoc {κ α : Type} [DecidableEq κ] {l : List (κ × α)} {e : κ × α} : mergeD (l ++ [e]) = putD (mergeD l) e.1 e.2 := by
  unfold mergeD
  rw [List.foldl_append]
  rfl
theorem putD_len {κ α : Type} [DecidableEq κ] {l : List (κ × α)} {k : κ} {x : α} : (putD l k x).length ≤ l.length + 1 := by
  unfold putD
  split
  · rw [List.length_map]; exact Nat.le_succ _
  · rw [List.length_append]; exact Nat.le_refl _
theorem mergeD_len {κ α : Type} [DecidableEq κ] (l : List (κ × α)) : (mergeD l).length ≤ l.length := by
  have : ∀ (l acc : List (κ × α)), (l.foldl (fun acc e => putD acc e.1 e.2) acc).length ≤ acc.length + l.length := by
    intro l
    induction l with
    | nil => exact fun acc => Nat.le_refl _
    | cons e r ih =>
      intro acc
      have h1 := ih (putD acc e.1 e.2)
      have h2 := putD_len (l := acc) (k := e.1) (x := e.2)
      rw [List.foldl_cons, List.length_cons]
      omega
  have h := this l []
  rw [List.length_nil, Nat.zero_add] at h
  exact h
variable {α β κ : Type} [Rp α] [Rp β] [Ky κ] [Rp κ] [KyR κ] [DecidableEq κ] {wi : TI} {g : TG} {tt : TT} {t1 t2 : TE} {vs sl : List Nat}
theorem dc_core {xs : List α} (hi : Ei Ps G M L wi xs.length (Nth K xs)) (hL : ∀ e ∈ L, e ∈ M) (hn : xs.length ≤ 100000) (Gb : α → Gm) {p good : α → Bool} {kf : α → κ} {vf : α → β}
    (hg : ∀ x ∈ xs, Eg Ps (wipeG G vs) M g (Is K x) (Gb x) sl) (hsl : ∀ k ∈ sl, k ∈ vs) (ht : ∀ x ∈ xs, Et Ps (Gb x) M tt (· = p x)) (hk : ∀ x ∈ xs, p x = true → good x = true → Ev Ps (Gb x) M t1 (Is K (kf x)) ∧ Ev Ps (Gb x) M t2 (Is K (vf x)))
    (hx : ∀ x ∈ xs, p x = true → good x = false → EvR Ps (Gb x) M t1 E a) {Q : VK} (e : EnvOk F σ G) (s : Sh Ps M F H)
    (q : (∀ x ∈ xs, p x = true → good x = true) → ∀ d F' H' kvs, H d = none → Evo Ps M F H F' H' → F' d = none → H' d = some (.dK kvs) → Kvs K F' kvs (mergeD ((xs.filter p).map fun x => (kf x, vf x))) → Q (.ref d) H')
    (qe : (¬ ∀ x ∈ xs, p x = true → good x = true) → ∀ F' H', Evo Ps M F H F' H' → E (.ref a) none H') : tDc wi g tt t1 t2 vs σ H Q := hi σ F H _ e s fun J F1 H1 e1 wk D hD => by
  have s1 := s.evo e1
  have e0 : Evo Ps M F1 H1 F1 (upd H1 D (.dK [])) := s1.new0 hD
  have nP := s1.tb.not hD
  have nM : D ∉ M.map (·.1) := fun h => by
    obtain ⟨x, hx, rfl⟩ := List.mem_map.mp h
    obtain ⟨o, h1, _⟩ := s1.mu x hx
    rw [hD] at h1
    cases h1
  have hD0 : H D = none := e1.gone hD
  have stay : ∀ {F2 H2 F3 H3 : Hp} {kvs : List (Key × V)}, Evo Ps M F2 H2 F3 H3 → F2 D = none → H2 D = some (.dK kvs) → F3 D = none ∧ H3 D = some (.dK kvs) := fun {F2 H2 F3 H3 kvs} ev n h => by
    refine ⟨?_, ev.keep D _ h nP nM⟩
    cases z : F3 D with
    | none => rfl
    | some o =>
      rcases ev.nw D o z with y | y
      · rw [n] at y; cases y
      · rw [h] at y; cases y
  refine ⟨fun i m H' => m = xs.length - i ∧ i ≤ xs.length ∧ (∀ x ∈ xs.take i, p x = true → good x = true) ∧ ∃ F' kvs, Evo Ps M F1 H1 F' H' ∧ F' D = none ∧ H' D = some (.dK kvs) ∧ Kvs K F' kvs (mergeD (((xs.take i).filter p).map fun x => (kf x, vf x))), ⟨xs.length, rfl, Nat.zero_le _, fun x hx => by simp at hx, F1, [], e0, s1.new_none hD, upd_same, .nil⟩, ?_⟩
  rintro i m H' ⟨rfl, hin, al, F', kvs, e2, nF, hw, hp⟩
  have s2 := s1.evo e2
  by_cases hlt : i < xs.length
  · have hmem : xs[i] ∈ xs := List.getElem_mem hlt
    have hat : xs[i]? = some xs[i] := List.getElem?_eq_getElem hlt
    refine .inr ⟨wk.goes M i F' H' hL hlt e2.le s2, fun H'' => (∀ x ∈ xs.take (i + 1), p x = true → good x = true) ∧ ∃ F' kvs, Evo Ps M F1 H1 F' H'' ∧ F' D = none ∧ H'' D = some (.dK kvs) ∧ Kvs K F' kvs (mergeD (((xs.take (i + 1)).filter p).map fun x => (kf x, vf x))), fun H'' h => ⟨xs.length - (i + 1), by omega, rfl, hlt, h⟩, fun x H3 y => ?_⟩
    obtain ⟨F3, e3, r3⟩ := wk.yields M i F' H' x H3 hL hlt e2.le s2 y
    obtain ⟨c, pc, rc⟩ := r3
    rw [hat] at pc
    have pc := Option.some.inj pc
    subst pc
    obtain ⟨nF3, hw3⟩ := stay e3 nF hw
    have e3' := e2.trans e3
    refine hg _ hmem x (L2.wipe σ vs) F3 H3 _ ((e.mono (e1.le.trans e3'.le)).wipe vs) (s1.evo e3') rc fun σ2 en l2 k2 => ⟨?_, ?_⟩
    · refine wipe_eq (l2.trans (wipe_length ..)) fun k hk => k2 k fun z => hk (hsl k z)
    · refine ht _ hmem σ2 F3 H3 _ en (s1.evo e3') fun b F4 H4 e4 pb => ?_
      obtain ⟨nF4, hw4⟩ := stay e4 nF3 hw3
      have e4' := e3'.trans e4
      cases b with
      | false =>
        refine ⟨fun x hx px => ?_, F4, kvs, e4', nF4, hw4, ?_⟩
        · rw [List.take_add_one, hat] at hx
          rcases List.mem_append.mp hx with hx | hx
          · exact al x hx px
          · have : x = xs[i] := by simpa using hx
            rw [this, ← pb] at px
            cases px
        · rw [filter_take hat, ← pb, List.map_append]
          simp only [Bool.false_eq_true, if_false, List.map_nil, List.append_nil]
          exact hp.mono (e3.le.trans e4.le)
      | true =>
        simp only [if_true]
        cases hgd : good xs[i] with
        | false =>
          refine hx _ hmem pb.symm hgd σ2 F4 H4 _ (en.mono e4.le) (s1.evo e4') fun F5 H5 e5 => ?_
          refine qe (fun z => ?_) F5 H5 ((e1.trans e4').trans e5)
          rw [z _ hmem pb.symm] at hgd
          cases hgd
        | true =>
          obtain ⟨hk1, hk2⟩ := hk _ hmem pb.symm hgd
          refine hk1 σ2 F4 H4 _ (en.mono e4.le) (s1.evo e4') fun y F5 H5 e5 r5 => ?_
          refine hk2 σ2 F5 H5 _ ((en.mono e4.le).mono e5.le) ((s1.evo e4').evo e5) fun z F6 H6 e6 r6 => ?_
          obtain ⟨nF6, hw6⟩ := stay (e5.trans e6) nF4 hw4
          have ln := Paired.length hp
          have ml := mergeD_len (((xs.take i).filter p).map fun x => (kf x, vf x))
          have fl : ((xs.take i).filter p).length ≤ i := Nat.le_trans (List.length_filter_le _ _) (List.length_take_le _ _)
          rw [List.length_map] at ml
          refine ⟨kvs, Ky.key (kf xs[i]), (KyR.r ..).mp r5, hw6, ?_, fun x hx px => ?_, F6, putK kvs (Ky.key (kf xs[i])) z, ((e4'.trans e5).trans e6).wr hD nP nM nF6 (by rw [hw6]; exact fun φ z => nomatch z), nF6, upd_same, ?_⟩
          · have : 200000 ≤ sizeLine := by decide
            omega
          · rw [List.take_add_one, hat] at hx
            rcases List.mem_append.mp hx with hx | hx
            · exact al x hx px
            · have : x = xs[i] := by simpa using hx
              rw [this]
              exact hgd
          · rw [filter_take hat, ← pb, List.map_append]
            simp only [if_true, List.map_cons, List.map_nil]
            rw [mergeD_snoc]
            exact (hp.mono (((e3.le.trans e4.le).trans e5.le).trans e6.le)).put r6
  · have ei : i = xs.length := by omega
    subst ei
    rw [List.take_length] at al hp
    exact .inl ⟨wk.stops M F' H' hL e2.le s2, q al D F' H' kvs hD0 (e1.trans e2) nF hw hp⟩
/-- {k: v for ..}, ours -/
theorem EvS.dc {xs : List α} (hi : Ei Ps G M L wi xs.length (Nth K xs)) (hL : ∀ e ∈ L, e ∈ M) (hn : xs.length ≤ 100000) (Gb : α → Gm) {p : α → Bool} {kf : α → κ} {vf : α → β}
    (hg : ∀ x ∈ xs, Eg Ps (wipeG G vs) M g (Is K x) (Gb x) sl) (hsl : ∀ k ∈ sl, k ∈ vs) (ht : ∀ x ∈ xs, Et Ps (Gb x) M tt (· = p x)) (hk : ∀ x ∈ xs, p x = true → Ev Ps (Gb x) M t1 (Is K (kf x))) (hv : ∀ x ∈ xs, p x = true → Ev Ps (Gb x) M t2 (Is K (vf x))) :
    EvS Ps B G M (tDc wi g tt t1 t2 vs) (fun R M' => ∃ d, R = At d ∧ M' = (d, DicM K (mergeD ((xs.filter p).map fun x => (kf x, vf x)))) :: M) := fun σ F H Q s q =>
  dc_core (E := fun _ _ _ => False) (a := 0) (good := fun _ => true) hi hL hn Gb hg hsl ht (fun x hx px _ => ⟨hk x hx px, hv x hx px⟩) (fun x hx px h => nomatch h) s.en s.sh (fun _ d F' H' kvs n ev nF hd hk => q (At d) _ (.ref d) F' H' ⟨d, rfl, rfl⟩ (s.add ev n nF hd ⟨kvs, rfl, hk⟩) ev.le rfl) fun h => absurd (fun _ _ _ => rfl) h
theorem EvS.dcX {xs : List α} (hi : Ei Ps G M L wi xs.length (Nth K xs)) (hL : ∀ e ∈ L, e ∈ M) (hn : xs.length ≤ 100000) (Gb : α → Gm) {p : α → Bool} {kf : α → κ} {vf : α → β} (good : α → Bool)
    (hg : ∀ x ∈ xs, Eg Ps (wipeG G vs) M g (Is K x) (Gb x) sl) (hsl : ∀ k ∈ sl, k ∈ vs) (ht : ∀ x ∈ xs, Et Ps (Gb x) M tt (· = p x)) (hk : ∀ x ∈ xs, p x = true → good x = true → Ev Ps (Gb x) M t1 (Is K (kf x)) ∧ Ev Ps (Gb x) M t2 (Is K (vf x))) (al : ∀ x ∈ xs, p x = true → good x = true) :
    EvS Ps B G M (tDc wi g tt t1 t2 vs) (fun R M' => ∃ d, R = At d ∧ M' = (d, DicM K (mergeD ((xs.filter p).map fun x => (kf x, vf x)))) :: M) := EvS.dc hi hL hn Gb hg hsl ht (fun x hx px => (hk x hx px (al x hx px)).1) (fun x hx px => (hk x hx px (al x hx px)).2)
/-- .. and what raises -/
theorem EvR.dc {xs : List α} (hi : Ei Ps G M L wi xs.length (Nth K xs)) (hL : ∀ e ∈ L, e ∈ M) (hn : xs.length ≤ 100000) (Gb : α → Gm) {p : α → Bool} {kf : α → κ} {vf : α → β} (good : α → Bool)
    (hg : ∀ x ∈ xs, Eg Ps (wipeG G vs) M g (Is K x) (Gb x) sl) (hsl : ∀ k ∈ sl, k ∈ vs) (ht : ∀ x ∈ xs, Et Ps (Gb x) M tt (· = p x)) (hk : ∀ x ∈ xs, p x = true → good x = true → Ev Ps (Gb x) M t1 (Is K (kf x)) ∧ Ev Ps (Gb x) M t2 (Is K (vf x)))
    (hx : ∀ x ∈ xs, p x = true → good x = false → EvR Ps (Gb x) M t1 E a) (bad : ¬ ∀ x ∈ xs, p x = true → good x = true) : EvR Ps G M (tDc wi g tt t1 t2 vs) E a := fun σ F H Q e s x =>
  dc_core hi hL hn Gb hg hsl ht hk hx e s (fun h => absurd h bad) fun _ => x
end
end RP
namespace BG
open PySem PySem.Spec PyProof.Rows L2
open RP hiding Tb
section
variable {P : Program} {w : World} {K : PySem.W.Frag} {mg : Str → Option Value} {base : Heap}
theorem spo_of {Ps : Tbs} {γ : Type} {r : γ → MRel} {er : γ → Option Addr} {c : γ} {F H : Hp} {Q : VK} (q : er c = none → ∀ d o F' H', H d = none → Evo Ps [] F H F' H' → F' d = none → H' d = some o → (r c).R F' o → Q (.ref d) H')
    {d : Addr} {G : RP.Gm} {M : Mu} {σ : L2.St} {F' H' : Hp} (hn : er c = none) (ow : ∀ e ∈ M, e.2.own = true) (s : Sa Ps ⟨F, H, fun a => a ∈ ([] : Mu).map (·.1)⟩ G M σ F' H') (hm : (d, r c) ∈ M) : Q (.ref d) H' := by
  obtain ⟨o, h1, h2⟩ := s.sh.mu _ hm
  exact q hn d o F' H' ((s.mw _ hm).resolve_left fun h => nomatch h) (s.fin ow).evo0 ((s.sh.ow _ hm).2 (ow _ hm)) h1 h2
theorem FunC.okPo {Ps : Tbs} {γ : Type} {x qual : Str} {st : Stmt} {f c : Addr} {fd : FuncData} {N ps : List Str} {k : Nat} {Rs : γ → List VRel} {pre : γ → Prop} {r : γ → MRel} {er : γ → Option Addr} (Fn : FunC K x qual st f fd c) (S : FnScope N ps (defScope st)) (len : ∀ c, (Rs c).length = ps.length)
    (hbody : ∀ (A : Around) (outer : List Env) (s : Shared) (H0 : Hp) (E : XK), Room k (A.deeper (envOfC qual (defScope st) s.heap.objs.size f (.ref c))) →
      ∃ t, PSs (cxOf (L2.CX P w) P w K mg base N qual (defScope st) f (.ref c) A outer s H0 E) (defBody st) t ∧ ∀ (c : γ) (B : Bs) (D : L2.Ends), (∀ a, ¬ B.W a) → pre c → (er c = none → ∀ d G M σ F H, (∀ e ∈ M, e.2.own = true) → Sa Ps B G M σ F H → (d, r c) ∈ M → D.rt (.ref d) H) → (∀ a, er c = some a → ∀ G M σ F H, (∀ e ∈ M, e.2.own = true) → Sa Ps B G M σ F H → E (.ref a) none H) →
        Nx Ps B (startG N (Rs c)) [] (t D)) : FnOk P w K mg base (L2.CX P w) (k + 1) f fd ps (Spo Ps Rs pre r er) := by
  refine FunC.okX Fn S (fun vs H Q E h => ?_) (fun A outer s H vs Q E hr h => ?_)
  · obtain ⟨c, F, _, _, r, _⟩ := h
    rw [← Paired.length r, len]
  · obtain ⟨c, F, sh, p, r, q, e⟩ := h
    obtain ⟨t, ht, h⟩ := hbody A outer s H E hr
    exact ⟨t, ht, h c ⟨F, H, fun a => a ∈ ([] : Mu).map (·.1)⟩ _ (fun a h => nomatch h) p (fun hn d G M σ F' H' ow s' hm => spo_of q hn ow s' hm) (fun a ha G M σ F' H' ow s' => e a ha F' H' (s'.fin ow).evo0) _ F H (Sa.start sh r)⟩
theorem Fun.okPo {Ps : Tbs} {γ : Type} {x qual : Str} {st : Stmt} {f : Addr} {fd : FuncData} {N ps : List Str} {k : Nat} {Rs : γ → List VRel} {pre : γ → Prop} {r : γ → MRel} {er : γ → Option Addr} (Fn : L2.Fun K x qual st f fd) (S : FnScope N ps (defScope st)) (len : ∀ c, (Rs c).length = ps.length)
    (hbody : ∀ (cdv : Value) (A : Around) (outer : List Env) (s : Shared) (H0 : Hp) (E : XK), Room k (A.deeper (envOfC qual (defScope st) s.heap.objs.size f cdv)) →
      ∃ t, PSs (cxOf (L2.CX P w) P w K mg base N qual (defScope st) f cdv A outer s H0 E) (defBody st) t ∧ ∀ (c : γ) (B : Bs) (D : L2.Ends), (∀ a, ¬ B.W a) → pre c → (er c = none → ∀ d G M σ F H, (∀ e ∈ M, e.2.own = true) → Sa Ps B G M σ F H → (d, r c) ∈ M → D.rt (.ref d) H) → (∀ a, er c = some a → ∀ G M σ F H, (∀ e ∈ M, e.2.own = true) → Sa Ps B G M σ F H → E (.ref a) none H) →
        Nx Ps B (startG N (Rs c)) [] (t D)) : FnOk P w K mg base (L2.CX P w) (k + 1) f fd ps (Spo Ps Rs pre r er) := by
  refine L2.Fun.okX Fn S (fun vs H Q E h => ?_) (fun cdv A outer s H vs Q E hr h => ?_)
  · obtain ⟨c, F, _, _, r, _⟩ := h
    rw [← Paired.length r, len]
  · obtain ⟨c, F, sh, p, r, q, e⟩ := h
    obtain ⟨t, ht, h⟩ := hbody cdv A outer s H E hr
    exact ⟨t, ht, h c ⟨F, H, fun a => a ∈ ([] : Mu).map (·.1)⟩ _ (fun a h => nomatch h) p (fun hn d G M σ F' H' ow s' hm => spo_of q hn ow s' hm) (fun a ha G M σ F' H' ow s' => e a ha F' H' (s'.fin ow).evo0) _ F H (Sa.start sh r)⟩
end
end BG
namespace RP
open PySem PySem.Spec PyProof.Rows L2
section
variable {Ps : Tbs} {B : Bs} {M M' : Mu} {G : Gm} {K : PySem.W.Frag} {te : TE} {R : VRel} {D : L2.Ends} {κ α : Type} [Ky κ] [Rp α]
/-- an expression that reads a table of ours while it walks it -/
theorem EvS.lockD {j j' : Nat} {d : Addr} {l : List (κ × α)} {P : VRel → Mu → Prop} (hj : M[j]? = some (d, DicM K l))
    (h : ∀ (od : PySem.Obj) (kv : List (Key × V)), EvS Ps B G (M.set j (d, LkD K l od kv)) te (fun R M' => M'[j']? = some (d, LkD K l od kv) ∧ P R (M'.set j' (d, DicM K l)))) : EvS Ps B G M (tLockE te) P := fun σ F H Q s q => by
  obtain ⟨o, h1, kv, rfl, hk⟩ := s.sh.mu _ (List.mem_of_getElem? hj)
  refine ⟨d, .dK kv, h1, True.intro, fun od => ?_⟩
  refine h od kv σ F _ _ (s.retell hj rfl rfl h1 (fun _ z => nomatch z) ⟨rfl, hk⟩) fun R M' v F' H' ⟨hj', p⟩ s' le r => ?_
  obtain ⟨o, g1, rfl, hk'⟩ := s'.sh.mu _ (List.mem_of_getElem? hj')
  exact ⟨g1, q R _ v F' _ p (s'.retell (r' := DicM K l) hj' rfl rfl g1 (fun _ z => nomatch z) ⟨kv, rfl, hk'⟩) le r⟩
theorem Nx.retE {P : VRel → Mu → Prop} (h : EvS Ps B G M te P) (q : ∀ R M' v σ F H, P R M' → Sa Ps B G M' σ F H → R.R F v → D.rt v H) : Nx Ps B G M (tRet te D) := fun σ F H s => h σ F H _ s fun R M' v F' H' p s' _ r => q R M' v σ F' H' p s' r
end
end RP

-- LC1
set_option maxRecDepth 100000
set_option maxHeartbeats 4000000
/-! a list comprehension whose test may look back at the def that it stands in -/
namespace LC
open PySem PySem.Spec PyProof.Rows L2
section
variable {X : Cx}
def tLcI (wi : TI) (g : TG) (tt : L2.St → TT) (te : TE) (vs : List Nat) : TE := fun σ H Q => tLc wi g (tt σ) te vs σ H Q
theorem pe_lcI {el tgt itr : Expr} {tests : List Expr} {scp : Scope} {own : List (PySem.Str × Nat)} {po : Pos} {wi : TI} {g : TG} {tt : L2.St → TT} {te : TE} (calm : X.calm = true) (nd : X.N.Nodup) (walk : PI X tgt itr wi) (blk : BlkOk X.N X.env.scope scp own)
    (tgR : ∀ (s : Shared) (H : Hp) (C : Addr) (cl : List (PySem.Str × Addr)) (fp : List Addr), PG (X.blk s H scp (compEnvC scp cl C X.env) fp) tgt g) (ttR : ∀ (s : Shared) (H : Hp) (C : Addr) (cl : List (PySem.Str × Addr)) (fp : List Addr) (pins : List (Addr × Obj)) (σ : L2.St), Inv X pins σ H s → (∀ b ∈ fp, FpOk X pins H b) → PTs (X.blk s H scp (compEnvC scp cl C X.env) fp) tests (tt σ))
    (teR : ∀ (s : Shared) (H : Hp) (C : Addr) (cl : List (PySem.Str × Addr)) (fp : List Addr), PE (X.blk s H scp (compEnvC scp cl C X.env) fp) el te) (fold : ∀ x, foldedSetIterable itr X.env x = pure x := by intro _; rfl) :
    PE X (.ListComp el [⟨tgt, itr, tests, 0⟩] scp po) (tLcI wi g tt te (own.map (·.2))) := by
  refine ⟨fun pins s σ H Q I h => ?_⟩
  rw [eval_ListComp]
  have h : tLc wi g (tt σ) te (own.map (·.2)) σ H Q := h
  have cells : ∀ y ∈ scp.names, y.2 = .free → ∃ c, X.env.cells.lookup y.1 = some c := fun y hy e => (blk.free y hy e).elim (fun k => I.ok.has _ (.inl k)) fun k => I.ok.has _ (.inr k)
  refine wpAny_comprehension_free (use := none) rfl fold (closure_ok cells) blk.kind (fun y hy e => by rw [blk.uniq y hy, e]) (thn (walk.run pins s σ H _ I h) fun xv s1 hx => thn hx fun itv s2 h2 => ?_)
  obtain ⟨it, fp, tn, J, H2, rfl, I2, tu, st2, free2, q⟩ := h2
  refine wpAny_newObj_type (newEnv_comp ?_) (by show 0 ≤ sizeLine; decide)
  generalize eD : s2.heap.objs.size = D
  have nD : H2 D = none := I2.hok.fresh (Nat.le_of_eq eD)
  obtain ⟨W, ⟨m0, w0⟩, turns⟩ := q D nD
  have I3 : Inv X pins σ (upd H2 D (.lst [])) { s2 with heap := s2.heap.push { cls := .type "list", data := .seq ([] : List Value).toArray } } := by
    refine I2.laid (t' := s2.toks) (fun b o e => Heap.get?_push_of_some _ e) (Nat.le_of_eq eD) ⟨Nat.zero_le _, [], 0, .nil, ?_⟩
    rw [← eD]
    exact Heap.get?_push_size _ rfl
  generalize e3 : ({ s2 with heap := s2.heap.push { cls := .type "list", data := .seq ([] : List Value).toArray } } : Shared) = s3 at I3 ⊢
  have h3 : s3.heap = s2.heap.push { cls := .type "list", data := .seq ([] : List Value).toArray } := by rw [← e3]
  have free3 : ∀ b ∈ fp, FpOk X pins (upd H2 D (.lst [])) b ∧ b < s3.heap.objs.size := fun b hb => by
    obtain ⟨o, e, _⟩ := tu.obj _ _ st2 b hb
    have lt := Heap.lt_size e
    refine ⟨⟨by rw [upd_ne (by rw [← eD]; exact Nat.ne_of_lt lt)]; exact (free2 b hb).1, (free2 b hb).2⟩, by rw [h3, Heap.size_push]; exact Nat.lt_succ_of_lt lt⟩
  have st3 : tn 0 s3.heap := tu.keep _ _ _ st2 fun b _ o e => by rw [h3]; exact Heap.get?_push_of_some _ e
  have I4 := block_start I3 blk nd free3
  show codeAny (model X.prog X.w) X.A (.compStart (.ListComp el [⟨tgt, itr, tests, 0⟩] scp po) 0 (.ref it) (.ref D) (compEnvC scp (cellsFrom (s3.heap.objs.size + 1) scp.names (cloFrom X.env.cells scp.names [])) s3.heap.objs.size X.env)) (compPost (model X.prog X.w) X.A X.xe none (EP X pins σ Q) (.ref D) s3.heap.objs.size) { s3 with heap := pushCells (s3.heap.push { cls := .type "dict", data := .dict #[] }) scp.names }
  generalize eH : upd H2 D (.lst []) = H3 at I3 I4 w0 free3
  generalize eK : cellsFrom (s3.heap.objs.size + 1) scp.names (cloFrom X.env.cells scp.names []) = cls at I4 ⊢
  have pg := tgR s3 H3 s3.heap.objs.size cls fp
  have pt := ttR s3 H3 s3.heap.objs.size cls fp pins σ I3 (fun b hb => (free3 b hb).1)
  have pe := teR s3 H3 s3.heap.objs.size cls fp
  have home : (compEnvC scp cls s3.heap.objs.size X.env).locals = s3.heap.objs.size := rfl
  generalize compEnvC scp cls s3.heap.objs.size X.env = ce at I4 pg pt pe home ⊢
  generalize e4 : ({ s3 with heap := pushCells (s3.heap.push { cls := .type "dict", data := .dict #[] }) scp.names } : Shared) = s4 at I4 ⊢
  have st4 : tn 0 s4.heap := tu.keep _ _ _ st3 fun b _ o e => by rw [← e4]; exact pushCells_keeps _ _ _ _ (Heap.get?_push_of_some _ e)
  have inner : ∀ {σ' : L2.St} {H' : Hp} {s' : Shared}, Inv (X.blk s3 H3 scp ce fp) [] σ' H' s' → (∀ b ∈ fp, H' b = none) → ∀ b ∈ fp, FpOk (X.blk s3 H3 scp ce fp) [] H' b := fun {σ' H' s'} J' n b hb =>
    ⟨n b hb, (J'.ok.exf b hb).1, J'.ok.exfs b hb, .inl hb, fun x c e => (J'.ok.exf b hb).2 x c e, fun p hp => nomatch hp⟩
  have loop : codeAny (model X.prog X.w) X.A (.compLoop (.ListComp el [⟨tgt, itr, tests, 0⟩] scp po) 0 (.ref it) (.ref D) ce) (compPost (model X.prog X.w) X.A X.xe none (EP X pins σ Q) (.ref D) s3.heap.objs.size) s4 := by
    refine compLoop_any (fun n s' => ∃ i H', Inv (X.blk s3 H3 scp ce fp) [] (wipe σ (own.map (·.2))) H' s' ∧ tn i s'.heap ∧ (∀ b ∈ fp, H' b = none) ∧ W i n H') ?_ m0 ⟨0, H3, I4, st4, fun b hb => (free3 b hb).1.1, w0⟩
    rintro n s5 ⟨i, H5, I5, st5, n5, w5⟩
    rcases turns i n H5 w5 with ⟨stop, fin⟩ | ⟨go, Nx, back, step⟩
    · refine thnF (tu.done (X.blk s3 H3 scp ce fp) rfl rfl rfl calm i [] s5 _ H5 (fun _ _ => False) I5 (inner I5 n5) st5 stop) fun r s6 ⟨hr, I6⟩ => ?_
      subst hr
      have I7 : Inv X pins σ H5 s6 := I3.call' (ch := fp) I6.os I6.base I6.hok I6.bare fun b hb => ⟨(free3 b hb).1.2.2.2.1, (free3 b hb).1.2.1, (free3 b hb).1.2.2.2.2.1, (free3 b hb).1.2.2.2.2.2⟩
      have nC : H5 s3.heap.objs.size = none := by
        have z : H5 ce.locals = none := I6.free
        rw [home] at z
        exact z
      obtain ⟨m, hm, _⟩ := I6.loc
      have hm : s6.heap.Ns ce.locals m := hm
      rw [home] at hm
      refine ⟨m, hm, fun h'' sb => ?_⟩
      obtain ⟨f0, f1, f2, f3, f4, f5⟩ := I3.fpOk (Nat.le_refl _) nC
      exact ⟨.ref D, H5, I7.turned (t' := s6.toks) (fun b o hb e => (sb.2 b hb).trans e) f0 f1 f3 f4 f5, rfl, fin⟩
    · refine thnF (tu.item (X.blk s3 H3 scp ce fp) rfl rfl rfl calm i [] s5 _ H5 (fun _ _ => False) I5 (inner I5 n5) st5 go) fun r s6 ⟨u, hr, h6⟩ => ?_
      subst hr
      refine thnF h6 fun _ s7 ⟨x, H7, I7, r7, y7, st7, n7⟩ => ?_
      refine thnF (pg.run _ s7 _ H7 x u _ (I7.pinned (inner I7 n7) (tu.obj _ _ st7)) r7 (step x H7 y7)) fun _ s8 ⟨σ8, H8, I8, ew, q8⟩ => ?_
      refine thnF (pt.run _ s8 σ8 H8 _ I8 q8) fun b s9 ⟨H9, I9, q9⟩ => ?_
      have ret : ∀ {s' : Shared} {H' : Hp}, Inv (X.blk s3 H3 scp ce fp) ([] ++ pinsAt fp s7.heap) σ8 H' s' → Nx H' → ∃ m, m < n ∧ ∃ i H', Inv (X.blk s3 H3 scp ce fp) [] (wipe σ (own.map (·.2))) H' s' ∧ tn i s'.heap ∧ (∀ b ∈ fp, H' b = none) ∧ W i m H' := fun {s' H'} J' nx => by
        obtain ⟨m', lt, w'⟩ := back H' nx
        have held : ∀ b ∈ fp, ∀ o, s7.heap.get? b = some o → s'.heap.get? b = some o ∧ H' b = none := fun b hb o e =>
          have z := J'.pin (b, o) (List.mem_append_right _ (List.mem_append_right _ (mem_pinsAt hb e)))
          ⟨z.1, z.2.1⟩
        refine ⟨m', lt, i + 1, H', (J'.unpinned (pins := [])).weak (by rw [← ew, wipe_length]) (fun j v e => ?_), tu.keep _ _ _ st7 fun b hb o e => (held b hb o e).1, fun b hb => ?_, w'⟩
        · rw [← ew] at e
          exact (wipe_some e).1
        · obtain ⟨o, e, _⟩ := tu.obj _ _ st7 b hb
          exact (held b hb o e).2
      cases b with
      | false =>
        simp only [Bool.false_eq_true, if_false] at q9 ⊢
        exact ret I9 q9
      | true =>
        simp only [if_true] at q9 ⊢
        refine thnF (pe.run _ s9 σ8 H9 _ I9 q9) fun z s10 ⟨yv, H10, I10, r10, acc, hD, few, nx⟩ => ?_
        exact app_ok (X := X.blk s3 H3 scp ce fp) I10 hD few r10 fun s11 I11 => ret I11 nx
  exact codeAny_compStart_list loop (tu.self X.A 0 _ _ _ st4 loop)
end
end LC

-- LC2
set_option maxRecDepth 100000
set_option maxHeartbeats 4000000
/-! a lambda that captures, kept as a value and called later from a comprehension of its own def -/
namespace LC
open PySem PySem.Spec PyProof.Rows L2
open LamX (CodeO TabS Tabs ExtN codeO_ne LamS GivesTo lamCx lamEnv)
open LX (LF LamO lamO_at)
/-- a lambda of the def X: tl is what its body is worth, by X's slots -/
structure LamCap (X : Cx) (k : Nat) (L : LF) (tl : XK → TE) : Prop where
  ls : LamS X.env.scope L.scope
  cl : L.cl = cloFrom X.env.cells L.scope.names []
  qual : L.qual = X.env.qual ++ "<lambda>"
  bind : ∀ pm ctv : Value, bindArgs (PySem.W.kla_fn "<lambda>" L.qual L.params L.body L.scope L.cl pm (.ref L.c) ctv) ⟨[], []⟩ = pure []
  worth : ∀ (A : Around) (outer : List Env) (s : Shared) (H : Hp) (E : XK) (f : Addr), Room k (A.deeper (lamEnv X L.scope s.heap.objs.size f L.c)) → PE (lamCx X A outer s H E L.scope f L.c) L.body (tl E)
section
variable {X : Cx} {pins : List (Addr × Obj)} {σ : L2.St} {H : Hp} {s : Shared}
theorem pe_actC {CXg : CXT} {Eg : XK} {Ng : List Str} {qg : Str} {sg : Scope} {g f : Addr} {cdg : Value} {L : LF} {tl : XK → TE} {k i : Nat} {a : Str} {pn : List (Addr × Obj)} {xe : Value → Shared → Prop} {W : WX} {E : XK} {p1 p2 : Pos}
    (I : Inv X pins σ H s) (C : LamCap X k L tl) (tk : Takes ((cxOf CXg X.prog X.w X.K X.mg X.base Ng qg sg g cdg X.A X.stack s H Eg).tr pn xe) W) (hW : ∀ cls d σ' H', E cls d H' → W cls d σ' H') (hr : Room (k + 1) (X.A.deeper (envOfC qg sg s.heap.objs.size g cdg)))
    (hN : Ng[i]? = some a) (hv : Vis sg a) (hd : (a == ("__debug__" : Str)) = false := by decide) (hcd : (a == ("__classdict__" : Str)) = false := by decide) :
    PE ((cxOf CXg X.prog X.w X.K X.mg X.base Ng qg sg g cdg X.A X.stack s H Eg).tr pn xe) (.Call (.Name a p1) [] [] p2) (fun σZ HZ Q => σZ[i]? = some (some (.ref f)) ∧ HZ L.c = some (CodeO L.c L.qual) ∧ (HZ f = some (LamO f L) ∧ tl E σ HZ Q)) := by
  obtain ⟨ls, hcl, hq, hb, hw⟩ := C
  refine ⟨fun pinsZ sZ σZ HZ Q IZ ⟨h0, hc, hf, ht⟩ => ?_⟩
  refine wpAny_Call_Name_kw (thn ((pe_var (pos := p1) (i := i) hN hv hd hcd).run pinsZ sZ σZ HZ (fun v H1 => v = .ref f ∧ H1 = HZ) IZ ⟨.ref f, h0, rfl, rfl⟩) fun u s1 ⟨v, H1, I1, r1, ev, eH⟩ => ?_)
  subst ev
  rw [eH] at I1
  obtain rfl : u = Value.ref f := r1
  obtain ⟨pm, ctv, of1⟩ := lamO_at I1.hok hf
  refine PySem.W.callWith_F0 ⟨_, _, _, _, of1⟩ ?_
  have un : Un (frs X.stack) [] H HZ s.heap s1.heap := I1.base
  obtain ⟨⟨oc, vs, t, hoc, hdc, hvc⟩, _, _⟩ := I1.hok L.c _ hc
  have rc : codeAny (model X.prog X.w) (X.A.deeper (envOfC qg sg s.heap.objs.size g cdg)) (.call (.ref f) ⟨[], []⟩) (CR (L2.CX X.prog X.w) (envOfC qg sg s.heap.objs.size g cdg :: X.stack) X.prog X.w HZ s1 Q E) s1 := by
    refine PySem.W.kla_callFunE hr.depth of1 rfl ls.co ls.gen rfl ⟨L.c, oc, vs, t, rfl, hoc, hdc, hvc⟩ ?_
    rw [hb]
    refine wpAny_pure (wpAny_newFunctionEnv (fun y hy => (ls.own y hy).2) (fun y hy => absurd hy (by simp)) (fun h₁ hns hsb => ⟨I1.nolimit.fresh _ hsb, ?_⟩) ls.kind)
    have kp : ∀ b o, s1.heap.get? b = some o → h₁.get? b = some o := fun b o e => hsb.extBut b o (Nat.ne_of_lt (Heap.lt_size e)) (Heap.get?_push_of_some _ e)
    have J : Inv (lamCx X (X.A.deeper (envOfC qg sg s.heap.objs.size g cdg)) (envOfC qg sg s.heap.objs.size g cdg :: X.stack) s1 HZ E L.scope f L.c) [] σ HZ { s1 with heap := h₁, toks := s1.toks + ([] : List (Str × Value)).length } :=
      LamX.lam_start2 I ls I1.env0 hr.hd un hns kp
    have eE : PySem.W.envX L.qual L.scope s1.heap.objs.size f (.ref L.c) L.cl = lamEnv X L.scope s1.heap.objs.size f L.c := by rw [hq, hcl]
    show codeAny _ _ (.expr L.body (PySem.W.envX L.qual L.scope s1.heap.objs.size f (.ref L.c) L.cl)) _ _
    rw [eE]
    refine PySem.W.kla_codeExpr (wpAny_mono ((hw _ _ s1 HZ E f (hr.deeper _)).run [] _ _ HZ Q J ht) (fun v s' hq => ?_) fun e s' hq => hq)
    obtain ⟨w', H', J', rv, q⟩ := hq
    exact ⟨w', H', J'.os, J'.bare, J'.base, J'.hok, rv, q⟩
  have hx : Passes (L2.CX X.prog X.w) ((cxOf CXg X.prog X.w X.K X.mg X.base Ng qg sg g cdg X.A X.stack s H Eg).tr pn xe) E := passes_call tk hW
  refine wpAny_call (codeAny_mono rc fun r s' hq => ?_)
  cases r with
  | error e => exact hx pinsZ σZ HZ s1 e s' I1 hq
  | ok fl =>
    cases fl with
    | ret u => exact I1.after hq
    | next => exact False.elim hq
    | brk => exact False.elim hq
    | cont => exact False.elim hq
/-- x(e), e a lambda of the def X, within a comprehension of X -/
def tToldC (X : Cx) (k : Nat) (σ0 : L2.St) (TT : (XK → Hp → VK → Prop) → Hp → VK → Prop) (ta : TA) : TE := fun σ H Q => ta σ H fun vs H1 => ∃ f L tl, vs = [.ref f] ∧ H1 f = some (LamO f L) ∧ H1 L.c = some (CodeO L.c L.qual) ∧ LamCap X k L tl ∧ TT (fun E H' Q' => H' f = some (LamO f L) ∧ tl E σ0 H' Q') H1 Q
theorem pe_toldC {scp : Scope} {C : Addr} {cl : List (Str × Addr)} {fp : List Addr} {TT : (XK → Hp → VK → Prop) → Hp → VK → Prop} {x a : Str} {g : Addr} {k : Nat} {st : Stmt} {fd : FuncData} {Ng : List Str} {p pos : Pos} {e : Expr} {ta : TA} (I0 : Inv X pins σ H s) (fpok : ∀ b ∈ fp, FpOk X pins H b)
    (hg : Gl (X.blk s H scp (compEnvC scp cl C X.env) fp) x) (hm : X.mg x = some (.ref g)) (F : Fun X.K x x st g fd) (bd : L2.Binds X.K fd [a] []) (Sg : FnScope Ng [a] (defScope st)) (at0 : Ng[0]? = some a) (vis : Vis (defScope st) a)
    (gives : ∀ cdv, GivesTo X Ng x (defScope st) g cdv (defBody st) a (X.env.qual ++ "<lambda>") TT) (room : Room (k + 2) X.A) (ha : PA (X.blk s H scp (compEnvC scp cl C X.env) fp) [e] ta)
    (he : starEach [e] (compEnvC scp cl C X.env) = (false, eval e (compEnvC scp cl C X.env)) :: starEach [] (compEnvC scp cl C X.env) := by rfl) (hpl : (backTo pos (starEach ([] : List Expr) (compEnvC scp cl C X.env))).any (·.1) = false := by rfl)
    (nb : (x == ("__debug__" : Str)) = false := by decide) (nb2 : (a == ("__debug__" : Str)) = false := by decide) (nb3 : (a == ("__classdict__" : Str)) = false := by decide) : PE (X.blk s H scp (compEnvC scp cl C X.env) fp) (.Call (.Name x p) [e] [] pos) (tToldC X k σ TT ta) := by
  obtain ⟨oc, od, kV, doc, pm, an, cdv, ct, osl, rfl, lk, hcd⟩ := F.ex
  refine ⟨fun pins' s' σ' H' Q I h => ?_⟩
  refine wpAny_Call_Name_kw (ld_glob I hg hm ?_ nb)
  refine PySem.W.callWith_K (h₀ := X.base) I.ok.mod.kin F.kp (thn (ha.run pos pins' s' σ' H' _ I h) fun us u ⟨vs, G, I1, r, q⟩ => ⟨I1.kIn, ?_⟩) he hpl
  obtain ⟨f, L, tl, rfl, hf, hc, cap, told⟩ := q
  rw [Vals.ref1 r]
  have JX : Inv X pins σ G u := I0.call' (ch := fp) I1.os I1.base I1.hok I1.bare fun b hb => ⟨(fpok b hb).2.2.2.1, (fpok b hb).2.1, (fpok b hb).2.2.2.2.1, (fpok b hb).2.2.2.2.2⟩
  have run : codeAny (model X.prog X.w) X.A (.call (.ref g) ⟨[.ref f], []⟩) (CR C8.CX0 X.stack X.prog X.w G u Q C8.E0) u := by
    refine LamX.run_ofS (N := Ng) (ps := [a]) (us := [.ref f]) (vs := [.ref f]) lk hcd Sg room JX.env0 (bd u [.ref f] JX.kIn rfl) (.cons rfl .nil) rfl fun room' => ?_
    obtain ⟨t', ht', hq'⟩ := gives cdv f L.c u G Q (fun E G' Q' => G' f = some (LamO f L) ∧ tl E σ G' Q') (fun W pn xe E p1 p2 tk hW => by
      have z := pe_actC (f := f) (i := 0) (p1 := p1) (p2 := p2) JX cap tk hW room' at0 vis nb2 nb3
      rw [cap.qual] at z
      exact z) (by rw [← cap.qual]; exact hc) told
    exact ⟨t', ht'.nox, hq'⟩
  refine wpAny_call (codeAny_mono run fun r u2 hq => ?_)
  rcases r with e | fl
  · exact (show False from hq).elim
  cases fl with
  | ret u => exact I1.after hq
  | _ => exact False.elim hq
end
end LC

-- SS
set_option maxRecDepth 100000
set_option maxHeartbeats 4000000
/-! sorted texts, one list alone; what is of no one law -/
namespace SSt
open PySem PySem.Spec PyProof.Rows L2

open PySem PySem.Spec PyProof.Rows L2
/-! ### sorted texts, one list alone -/
def nle (x y : Str) : Prop := strKind.blt y.cps.toList x.cps.toList = false
theorem nle_anti {x y : Str} (h1 : nle x y) (h2 : nle y x) : x = y := by
  have e := strKind.total x.cps.toList y.cps.toList h2 h1
  cases x
  cases y
  simp only [Array.toList_inj] at e
  exact congrArg Str.mk e
theorem nle_trans {x y z : Str} (h1 : nle x y) (h2 : nle y z) : nle x z := by
  unfold nle at *
  cases e : strKind.blt z.cps.toList x.cps.toList with
  | false => rfl
  | true =>
    rcases strKind.negTrans _ y.cps.toList _ e with h | h
    · rw [h2] at h; cases h
    · rw [h1] at h; cases h
theorem nle_tot (x y : Str) : nle x y ∨ nle y x := by
  unfold nle
  cases e : strKind.blt y.cps.toList x.cps.toList with
  | false => exact .inl rfl
  | true =>
    refine .inr ?_
    cases e2 : strKind.blt x.cps.toList y.cps.toList with
    | false => rfl
    | true =>
      have := strKind.trans _ _ _ e e2
      rw [strKind.irrefl] at this
      cases this
theorem blt_cps (a b : List Nat) : strKind.blt a b = ltCps a b := by
  rw [ltCps_eq]
theorem perm_one {α : Type} {r : α → α → Prop} (anti : ∀ x y, r x y → r y x → x = y) : ∀ {l1 l2 : List α}, l1.Perm l2 → l1.Pairwise r → l2.Pairwise r → l1 = l2
  | [], l2, p, _, _ => (List.nil_perm.mp p).symm
  | a :: t, [], p, _, _ => absurd p.length_eq (by simp)
  | a :: t, b :: u, p, h1, h2 => by
    have e : a = b := by
      by_cases c : a = b
      · exact c
      · have ha : a ∈ u := (List.mem_cons.mp (p.subset (List.mem_cons_self ..))).resolve_left c
        have hb : b ∈ t := (List.mem_cons.mp (p.symm.subset (List.mem_cons_self ..))).resolve_left fun z => c z.symm
        exact anti _ _ ((List.pairwise_cons.mp h1).1 b hb) ((List.pairwise_cons.mp h2).1 a ha)
    subst e
    rw [perm_one anti (List.perm_cons a |>.mp p) (List.pairwise_cons.mp h1).2 (List.pairwise_cons.mp h2).2]
theorem rising_pw : ∀ {l : List Str} {p : Str}, risingS p l = true → (p :: l).Pairwise nle
  | [], p, _ => List.pairwise_singleton _ _
  | x :: r, p, h => by
    have h : (!ltCps x.cps.toList p.cps.toList && risingS x r) = true := h
    rw [Bool.and_eq_true] at h
    have ih := rising_pw h.2
    have h0 : nle p x := by
      unfold nle
      rw [blt_cps]
      simpa using h.1
    refine List.pairwise_cons.mpr ⟨fun y hy => ?_, ih⟩
    rcases List.mem_cons.mp hy with rfl | hy
    · exact h0
    · exact nle_trans h0 ((List.pairwise_cons.mp ih).1 y hy)
theorem sorted_pw {l : List Str} (h : sortedS l = true) : l.Pairwise nle := by
  cases l with
  | nil => exact List.Pairwise.nil
  | cons x r => exact rising_pw h
/-- sorted -/
def ss (l : List Str) : List Str := l.mergeSort fun x y => !strKind.blt y.cps.toList x.cps.toList
theorem ss_perm (l : List Str) : (ss l).Perm l := List.mergeSort_perm _ _
theorem ss_pw (l : List Str) : (ss l).Pairwise nle := by
  have h := List.pairwise_mergeSort (le := fun x y : Str => !strKind.blt y.cps.toList x.cps.toList) (fun a b c h1 h2 => by
    have h1 : nle a b := by unfold nle; simpa using h1
    have h2 : nle b c := by unfold nle; simpa using h2
    have := nle_trans h1 h2
    unfold nle at this
    show (!PyProof.Rows.strKind.blt c.cps.toList a.cps.toList) = true
    rw [this]; rfl) (fun a b => by
    rcases nle_tot a b with h | h
    · unfold nle at h
      show ((!PyProof.Rows.strKind.blt b.cps.toList a.cps.toList) || (!PyProof.Rows.strKind.blt a.cps.toList b.cps.toList)) = true
      rw [h]; rfl
    · unfold nle at h
      show ((!PyProof.Rows.strKind.blt b.cps.toList a.cps.toList) || (!PyProof.Rows.strKind.blt a.cps.toList b.cps.toList)) = true
      rw [h]; simp) l
  exact h.imp fun {a b} h => by unfold nle; simpa using h
theorem eq_ss {ys l : List Str} (p : ys.Perm l) (h : ys.Pairwise nle) : ys = ss l := perm_one (fun _ _ => nle_anti) (p.trans (ss_perm l).symm) h (ss_pw l)
theorem eq_ssS {ys l : List Str} (p : ys.Perm l) (h : sortedS ys = true) : ys = ss l := eq_ss p (sorted_pw h)
theorem ss_congr {l m : List Str} (p : l.Perm m) : ss l = ss m := eq_ss ((ss_perm l).trans p) (ss_pw l)
theorem ss_filter (l : List Str) (q : Str → Bool) : (ss l).filter q = ss (l.filter q) := eq_ss ((ss_perm l).filter q) ((ss_pw l).sublist List.filter_sublist)
theorem ss_one (x : Str) : ss [x] = [x] := (eq_ss (List.Perm.refl _) (List.pairwise_singleton _ _)).symm
theorem ss_mem {l : List Str} {x : Str} : x ∈ ss l ↔ x ∈ l := (ss_perm l).mem_iff
theorem room_u {k : Nat} {A : Around} (h : Room k A) : A.units + 1 < cLine := by
  have := h.units
  omega
end SSt

-- LW
set_option maxRecDepth 100000
set_option maxHeartbeats 4000000
/-! what every law has, of no one law: dice, rounds, refusals told, lambdas in a list -/
namespace LW
open PySem PySem.Spec PyProof.Rows L2 BG
open RP hiding Tb
open LamX (Tabs TabS CodeO ExtN codeO_ne)
/-- no builtin's name is taken -/
structure Zs (mg : Str → Option Value) : Prop where
  len : mg "len" = none
  range : mg "range" = none
  tuple : mg "tuple" = none
  list : mg "list" = none
  dict : mg "dict" = none
  set : mg "set" = none
  sum : mg "sum" = none
  min : mg "min" = none
  max : mg "max" = none
  int : mg "int" = none
  abs : mg "abs" = none
  str : mg "str" = none
  ord : mg "ord" = none
  chr : mg "chr" = none
  repr : mg "repr" = none
  any : mg "any" = none
  all : mg "all" = none
  sorted : mg "sorted" = none
  enum : mg "enumerate" = none
  zip : mg "zip" = none
  bool : mg "bool" = none
  pow : mg "pow" = none
  reversed : mg "reversed" = none
  isinstance : mg "isinstance" = none
section
variable {P : Program} {w : World} {K : PySem.W.Frag} {mg : Str → Option Value} {base : Heap} {Ps : List Addr} {pT : Addr} {q0 : Str}
abbrev PT (Ps : List Addr) (pT : Addr) (q0 : Str) : Tbs := mkPs Ps pT q0
theorem un_mk (nP : pT ∉ Ps) : ∀ e ∈ PT Ps pT q0, e.1 = pT → e.2 = some q0 := fun e he h => by
  rcases List.mem_cons.mp he with rfl | he
  · rfl
  · obtain ⟨q, hq, rfl⟩ := List.mem_map.mp he
    exact absurd (h ▸ hq) nP
theorem in_mk {p : Addr} (h : p ∈ Ps) : (p, none) ∈ PT Ps pT q0 := List.mem_cons_of_mem _ (List.mem_map.mpr ⟨p, h, rfl⟩)
theorem un_none (nP : pT ∉ Ps) {p : Addr} (h : p ∈ Ps) : ∀ e ∈ PT Ps pT q0, e.1 = p → e.2 = none := fun e he z => by
  rcases List.mem_cons.mp he with rfl | he
  · exact absurd (by rw [show pT = p from z]; exact h) nP
  · obtain ⟨q, hq, rfl⟩ := List.mem_map.mp he
    rfl
/-! ### dice -/
def Dice (H : Hp) (d : Addr) : Prop := ∃ a b c : Int, H d = some (.lst [.int a, .int b, .int c])
def sp_dice : Sp := fun vs H Q E => ∃ cell : Int, vs = [.int cell] ∧ ∀ p a b c, H p = none → Q (.ref p) (upd H p (.lst [.int a, .int b, .int c]))
def sp_roll : Sp := fun vs H Q E => ∃ (d : Addr) (many : Int), vs = [.ref d, .int many] ∧ Dice H d ∧ 1 ≤ many ∧ many ≤ 1000 ∧ ∀ (r : Nat) a b c, (r : Int) < many → Q (.int (r : Nat)) (upd H d (.lst [.int a, .int b, .int c]))
/-- all that stood stands -/
def Kp (H H' : Hp) : Prop := ∀ b o, H b = some o → H' b = some o
theorem Kp.refl (H : Hp) : Kp H H := fun _ _ e => e
theorem Kp.trans {H H' H'' : Hp} (a : Kp H H') (b : Kp H' H'') : Kp H H'' := fun _ _ e => b _ _ (a _ _ e)
theorem Kp.new {H H' : Hp} {p : Addr} {o : HO} (a : Kp H H') (n : H' p = none) : Kp H (upd H' p o) := fun b u e => by
  rw [upd_ne (ne_of_none (a b u e) n)]
  exact a b u e
theorem Kp.set {H H' : Hp} {p : Addr} {o : HO} (a : Kp H H') (n : H p = none) : Kp H (upd H' p o) := fun b u e => by
  rw [upd_ne (ne_of_none e n)]
  exact a b u e
theorem Kp.none {H H' : Hp} {p : Addr} (a : Kp H H') (n : H' p = Option.none) : H p = Option.none := by
  cases e : H p with
  | none => rfl
  | some o =>
    rw [a p o e] at n
    cases n
theorem Kp.rd {H H' : Hp} (g : Kp H H') {a : Addr} {u : HO} (h : Rd H a u) : Rd H' a u := h.elim (fun h => .inl (g _ _ h)) fun ⟨o, h⟩ => .inr ⟨o, g _ _ h⟩
theorem Kp.sqL {K : PySem.W.Frag} {H H' : Hp} {a : Addr} {xs : List V} (g : Kp H H') (h : SqL K H a xs) : SqL K H' a xs := h.elim (fun h => .inl (g.rd h)) .inr
def sp_rounds (K : PySem.W.Frag) : Sp := fun vs H Q E => ∃ (a : Addr) (ns : List Int), vs = [.ref a, .int 1] ∧ SqL K H a (ns.map V.int) ∧ ∀ H' p d, Kp H H' → H p = none → H d = none → d ≠ p → H' p = some (.lst [.ref d]) → Dice H' d → Q (.ref p) H'
theorem oc_roll {Pt : Tbs} {M : Mu} {E : XK} {d : Addr} {n : Int} (hM : (d, DiceM) ∈ M) (n1 : 1 ≤ n) (n2 : n ≤ 1000) : Oc Pt M (fun vs H Q => sp_roll (vs ++ []) H Q E) [At d, Is K n] (Exi K fun r : Int => 0 ≤ r ∧ r < n) :=
  Oc.roll hM n1 n2 fun H Q E hd k => ⟨d, n, rfl, hd, n1, n2, k⟩
theorem dpI {H : Hp} : ∀ ns : List Int, DpAll K H (ns.map V.int) (ns.map PyData.int)
  | [] => .nil
  | n :: r => .cons (.int n) (dpI r)
theorem eqI : ∀ ns ms : List Int, PyData.eqvAll (ns.map .int) (ms.map .int) = decide (ns = ms)
  | [], [] => by simp [PyData.eqvAll]
  | [], _ :: _ => by simp [PyData.eqvAll]
  | _ :: _, [] => by simp [PyData.eqvAll]
  | x :: r, y :: q => by
    rw [List.map_cons, List.map_cons, PyData.eqvAll, eqI r q]
    by_cases e : x = y
    · subst e; simp [PyData.eqv]
    · simp [PyData.eqv, e]
theorem shI (ns : List Int) : SeqAt.shaped (.list (ns.map .int)) = true := by
  have h : ∀ ns : List Int, PyData.canLayAll0 (ns.map .int) = true ∧ PyData.depthAll (ns.map .int) = 0 := by
    intro ns
    induction ns with
    | nil => exact ⟨rfl, rfl⟩
    | cons x r ih =>
      rw [List.map_cons]
      simp [PyData.canLayAll0, PyData.canLay0, PyData.depthAll, PyData.depth, ih.1, ih.2]
  obtain ⟨h1, h2⟩ := h ns
  simp [SeqAt.shaped, PyData.canLay0, PyData.depth, h1, h2]
theorem eqLI {H : Hp} {a b : Addr} {ns ms : List Int} {Q : VK} (ha : SqL K H a (ns.map V.int)) (hb : SqL K H b (ms.map V.int)) (q : Q (.bl (decide (ns = ms))) H) : rEqD K (.ref a) (.ref b) H Q := ⟨_, _, .lst ha (dpI ns), .lst hb (dpI ms), shI _, shI _, by rw [PyData.eqv, eqI]; exact q⟩
theorem nilEq {H : Hp} {a b : Addr} {Q : VK} (ha : H a = some (.lst [])) (hb : H b = some (.lst [])) (q : Q (.bl true) H) : rEqD K (.ref a) (.ref b) H Q :=
  eqLI (ns := []) (ms := []) (SqL.of ha) (SqL.of hb) (by rw [show decide (([] : List Int) = []) = true from by decide]; exact q)
/-! ### refusals told -/
structure Nine (K : PySem.W.Frag) (mg : Str → Option Value) (c : Fin 9 → Addr) : Prop where
  path : mg "BadPath" = some (.ref (c 0))
  piece : mg "BadPiece" = some (.ref (c 1))
  rule : mg "BadRule" = some (.ref (c 2))
  paper : mg "BadPaper" = some (.ref (c 3))
  size : mg "BadSize" = some (.ref (c 4))
  store : mg "BadStore" = some (.ref (c 5))
  text : mg "BadText" = some (.ref (c 6))
  lost : mg "Lost" = some (.ref (c 7))
  such : mg "NoSuch" = some (.ref (c 8))
  m : ∀ i j : Fin 9, PySem.W.exmOne K (.ref (c i)) (.ref (c j)) = some (decide (i = j))
def word9 : Fin 9 → Str := fun i => (["path", "piece", "rule", "paper", "size", "store", "text", "lost", "no such"] : List Str).getD i.val ""
abbrev rw9 (x : Str) : Addr → Value → Option Addr → TS := fun _ _ _ => tRet (tC (.str x))
/-- what() refused is told by its kind -/
def E9 (c : Fin 9 → Addr) (Q : VK) : XK := fun cls _ H' => ∃ i : Fin 9, cls = .ref (c i) ∧ Q (.str (word9 i)) H'
theorem many9 {c : Fin 9 → Addr} (N : Nine K mg c) {D : L2.Ends} {Wout : WX} {Q : VK} {cls : Value} {d : Option Addr} {σ : L2.St} {H : Hp} (hD : D.rt = Q) (h : E9 c Q cls d H) :
    wMany K Wout D [(.ref (c 0), rw9 "path"), (.ref (c 1), rw9 "piece"), (.ref (c 2), rw9 "rule"), (.ref (c 3), rw9 "paper"), (.ref (c 4), rw9 "size"), (.ref (c 5), rw9 "store"), (.ref (c 6), rw9 "text"), (.ref (c 7), rw9 "lost"), (.ref (c 8), rw9 "no such")] cls d σ H := by
  obtain ⟨i, rfl, h⟩ := h
  have hit : ∀ (j : Fin 9) (x : Str), word9 j = x → decide (i = j) = true → ∀ a, H a = none → rw9 x a (.ref (c i)) d D σ H := fun j x hx e a _ => by
    have e := of_decide_eq_true e
    subst e
    show D.rt (.str x) H
    rw [hD, ← hx]
    exact h
  have no : ∀ {j : Fin 9}, decide (i = j) = false → i.val ≠ j.val := fun e z => of_decide_eq_false e (Fin.ext z)
  refine ⟨_, N.m i 0, hit 0 _ rfl, fun n0 => ⟨_, N.m i 1, hit 1 _ rfl, fun n1 => ⟨_, N.m i 2, hit 2 _ rfl, fun n2 => ⟨_, N.m i 3, hit 3 _ rfl, fun n3 => ⟨_, N.m i 4, hit 4 _ rfl, fun n4 => ⟨_, N.m i 5, hit 5 _ rfl, fun n5 => ⟨_, N.m i 6, hit 6 _ rfl, fun n6 => ⟨_, N.m i 7, hit 7 _ rfl, fun n7 => ⟨_, N.m i 8, hit 8 _ rfl, fun n8 => ?_⟩⟩⟩⟩⟩⟩⟩⟩⟩
  have h0 := no n0
  have h1 := no n1
  have h2 := no n2
  have h3 := no n3
  have h4 := no n4
  have h5 := no n5
  have h6 := no n6
  have h7 := no n7
  have h8 := no n8
  have := i.isLt
  simp only [Fin.val_zero, Fin.isValue] at *
  omega
/-- the lambda that captures, given to it -/
def TT9 (c : Fin 9 → Addr) : (XK → Hp → VK → Prop) → Hp → VK → Prop := fun tl H Q => tl (E9 c Q) H Q
theorem EvX.ofR {Pt : Tbs} {G : Gm} {M : Mu} {tl : XK → TE} {c : Fin 9 → Addr} (i : Fin 9) (h : ∀ E, EvR Pt G M (tl E) E (c i)) : EvX Pt G M tl (E9 c) (Is K (word9 i)) := fun σ F H Q e s q => h (E9 c Q) σ F H Q e s fun F' H' ev => ⟨i, rfl, q (.str (word9 i)) F' H' ev rfl⟩
/-! ### lambdas in a list -/
variable {X : Cx} {Pt : Tbs} {M : Mu} {G : Gm} {F H F' H' : Hp} {σ : L2.St} {B : Bs} {k : Nat} {c : Fin 9 → Addr}
/-- o stands at a, and stays -/
def Kpt (Pt : Tbs) (M : Mu) (H : Hp) (a : Addr) (o : HO) : Prop := H a = some o ∧ a ∉ tk Pt ∧ a ∉ M.map (·.1)
theorem Kpt.evo {a : Addr} {o : HO} (h : Kpt Pt M H a o) (e : Evo Pt M F H F' H') : Kpt Pt M H' a o := ⟨e.keep a o h.1 h.2.1 h.2.2, h.2⟩
theorem Kpt.ext {a : Addr} {φ : Heap → Prop} (s : Sh Pt M F H) (h : H a = some (.ext φ)) : Kpt Pt M H a (.ext φ) := by
  refine ⟨h, fun z => ?_, fun z => ?_⟩
  · obtain ⟨e, he, rfl⟩ := List.mem_map.mp z
    obtain ⟨ps, hp⟩ := (s.tb e he).at
    rw [h] at hp
    cases hp
  · obtain ⟨e, he, rfl⟩ := List.mem_map.mp z
    obtain ⟨o, h1, h2⟩ := s.mu e he
    exact e.2.nc _ _ h2 φ (Option.some.inj (h1.symm.trans h))
theorem Kpt.new {a : Addr} {o : HO} (s : Sh Pt M F H) (h : H a = none) : Kpt Pt M (upd H a o) a o := ⟨upd_same, s.tb.not h, fun z => by
  obtain ⟨e, he, rfl⟩ := List.mem_map.mp z
  obtain ⟨o, h1, _⟩ := s.mu e he
  rw [h] at h1
  cases h1⟩
/-- a lambda and its word, at p -/
def WrongAt (X : Cx) (k : Nat) (c : Fin 9 → Addr) (Pt : Tbs) (G : Gm) (M : Mu) (H : Hp) (p : Addr) : Prop := ∃ f L tl wd, Kpt Pt M H p (.tup [.ref f, .str wd]) ∧ Kpt Pt M H f (LX.LamO f L) ∧ Kpt Pt M H L.c (CodeO L.c L.qual) ∧ LC.LamCap X k L tl ∧ EvX Pt G M tl (E9 c) (Is X.K wd)
theorem WrongAt.evo {p : Addr} (h : WrongAt X k c Pt G M H p) (e : Evo Pt M F H F' H') : WrongAt X k c Pt G M H' p := by
  obtain ⟨f, L, tl, wd, h1, h2, h3, h4⟩ := h
  exact ⟨f, L, tl, wd, h1.evo e, h2.evo e, h3.evo e, h4⟩
theorem Evo.lam {q : Str} {H1 : Hp} (s : Sh Pt M F H) (hT : (pT, some q) ∈ Pt) (un : ∀ e ∈ Pt, e.1 = pT → e.2 = some q) (tab1 : TabS H1 pT q) (kp : ∀ b o, b ≠ pT → H b = some o → H1 b = some o) : Evo Pt M F H F H1 := by
  have tab : LamX.TabS H pT q := s.tb _ hT
  obtain ⟨ps0, hp0, _⟩ := tab
  have inP : pT ∈ tk Pt := List.mem_map.mpr ⟨_, hT, rfl⟩
  have neF : ∀ {a : Addr} {o : HO}, F a = some o → a ≠ pT := fun h z => by
    rw [z, s.fp _ inP] at h
    cases h
  refine ⟨Le.refl F, fun a o h => ?_, fun a o h p _ => kp a o (fun z => p (by rw [z]; exact inP)) h, fun a o h => .inl h, fun e he => ?_, fun e he => ?_, fun a kvs h c => kp _ _ (neF h) (s.fz a kvs h c)⟩
  · rcases s.sub a o h with h' | ⟨od, kvs, e, h'⟩
    · exact .inl (kp _ _ (neF h) h')
    · exact .inr ⟨od, kvs, e, kp _ _ (neF h) h'⟩
  · by_cases z : e.1 = pT
    · rw [un e he z, z]
      exact tab1
    · have t0 := s.tb e he
      obtain ⟨P, o⟩ := e
      cases o with
      | none =>
        obtain ⟨ps, h1, h2⟩ := t0
        exact ⟨ps, kp _ _ z h1, h2⟩
      | some q' =>
        obtain ⟨ps, h1, h2, h3⟩ := t0
        refine ⟨ps, kp _ _ z h1, h2, fun pos cv hc => ?_⟩
        obtain ⟨c, e1, e2⟩ := h3 pos cv hc
        exact ⟨c, e1, kp _ _ (fun y => by rw [y, hp0] at e2; cases e2) e2⟩
  · obtain ⟨o, h1, h2⟩ := s.mu e he
    exact ⟨o, kp _ _ (fun z => (s.ow e he).1 (by rw [z]; exact inP)) h1, h2⟩
theorem pairStepE {q : Str} {mk : Addr → LX.LF} {tl : XK → TE} {wd : Str} {Q : VK} (s : Sh Pt M F H) (hT : (pT, some q) ∈ Pt) (un : ∀ e ∈ Pt, e.1 = pT → e.2 = some q) (hc : ∀ c', (mk c').c = c') (cap : ∀ c', LC.LamCap X k (mk c') tl) (ev : EvX Pt G M tl (E9 c) (Is X.K wd))
    (h : ∀ p H', Evo Pt M F H F H' → WrongAt X k c Pt G M H' p → Q (.ref p) H') : tTup (tCons (LX.tLamV [(pT, q)] pT mk) (tCons (tC (.str wd)) tNil)) σ H Q := by
  have tab : LamX.TabS H pT q := s.tb _ hT
  refine ⟨fun p hp => by rw [List.mem_singleton.mp hp]; exact tab, fun f c' H1 eN t1 f0 f1 c1 nn kp => ⟨(show 2 ≤ sizeLine by decide), fun p hp => ?_⟩⟩
  have e1 := Evo.lam s hT un (t1 _ (List.mem_singleton.mpr rfl)) kp
  have s1 := s.evo e1
  have e2 := s1.new0 (o := .tup [.ref f, .str wd]) hp
  refine h p _ (e1.trans e2) ⟨f, mk c', tl, wd, Kpt.new s1 hp, (Kpt.ext s1 f1).evo e2, ?_, cap c', ev⟩
  rw [hc]
  exact (Kpt.ext s1 c1).evo e2
/-- the words of a list of wrong deeds -/
def EaW (X : Cx) (k : Nat) (c : Fin 9 → Addr) (Pt : Tbs) (G : Gm) (M : Mu) (t : TA) (n : Nat) : Prop := ∀ σ F H (Q : List V → Hp → Prop), Sh Pt M F H → (∀ (ps : List Addr) H', ps.length = n → Evo Pt M F H F H' → (∀ p ∈ ps, WrongAt X k c Pt G M H' p) → Q (ps.map V.ref) H') → t σ H Q
theorem EaW.nil : EaW X k c Pt G M tNil 0 := fun σ F H Q s q => q [] H rfl s.refl fun _ h => nomatch h
theorem EaW.cons {q : Str} {mk : Addr → LX.LF} {tl : XK → TE} {wd : Str} {t : TA} {n : Nat} (hT : (pT, some q) ∈ Pt) (un : ∀ e ∈ Pt, e.1 = pT → e.2 = some q) (hc : ∀ c', (mk c').c = c') (cap : ∀ c', LC.LamCap X k (mk c') tl) (ev : EvX Pt G M tl (E9 c) (Is X.K wd)) (h : EaW X k c Pt G M t n) :
    EaW X k c Pt G M (tCons (tTup (tCons (LX.tLamV [(pT, q)] pT mk) (tCons (tC (.str wd)) tNil))) t) (n + 1) := fun σ F H Q s q' =>
  pairStepE (X := X) (G := G) (k := k) (c := c) s hT un hc cap ev fun p H1 e1 w1 => h σ F H1 _ (s.evo e1) fun ps H2 ln e2 w2 => q' (p :: ps) H2 (by rw [List.length_cons, ln]) (e1.trans e2) fun a ha => by
    rcases List.mem_cons.mp ha with rfl | ha
    · exact w1.evo e2
    · exact w2 a ha
theorem asgStep {t : TA} {g : TG} {D : L2.Ends} (h : t σ H fun vs H1 => vs.length ≤ sizeLine ∧ ∀ p, H1 p = none → g (.ref p) σ (upd H1 p (.lst vs)) D.nx) : tAsg (tLst t) g D σ H := h
theorem EnvOk.setN {i : Nat} {x : Option V} (h : EnvOk F σ G) (hi : G[i]? = some none) : EnvOk F (σ.set i x) G := ⟨by rw [List.length_set]; exact h.1, fun j R' e => by
  by_cases z : i = j
  · subst z
    rw [hi] at e
    cases e
  · obtain ⟨v, h1, h2⟩ := h.2 j R' e
    exact ⟨v, by rw [List.getElem?_set_ne z]; exact h1, h2⟩⟩
/-- the list of wrong deeds stands at slot i -/
def PreW (X : Cx) (i : Nat) (k : Nat) (c : Fin 9 → Addr) (Pt : Tbs) (B : Bs) (G : Gm) (M : Mu) (D : L2.St → Hp → Prop) : Prop := ∀ (σ : L2.St) (F H : Hp) (a : Addr) (ps : List Addr), Sa Pt B G M σ F H → σ[i]? = some (some (.ref a)) → Kpt Pt M H a (.lst (ps.map V.ref)) → (∀ p ∈ ps, WrongAt X k c Pt G M H p) → D σ H
theorem Nx.wrong {t : TA} {n i : Nat} {D : L2.Ends} (hi : G[i]? = some none) (hn : n ≤ 1000) (h : EaW X k c Pt G M t n) (nx : PreW X i k c Pt B G M D.nx) : Nx Pt B G M (tAsg (tLst t) (gName i) D) := fun σ F H sa => by
  refine asgStep (h σ F H _ sa.sh fun ps H1 ln e1 w1 => ⟨?_, fun p hp => ?_⟩)
  · rw [List.length_map, ln]
    have : 1000 ≤ sizeLine := by decide
    omega
  · have s1 := sa.evo e1
    have e2 := s1.sh.new0 (o := .lst (ps.map V.ref)) hp
    refine nx _ F _ p ps ((s1.evo e2).env (EnvOk.setN (s1.evo e2).en hi)) ?_ (Kpt.new s1.sh hp) fun a ha => (w1 a ha).evo e2
    refine List.getElem?_set_self ?_
    rw [sa.en.1]
    exact (List.getElem?_eq_some_iff.mp hi).1
theorem andStep {ta tb : TE} {σ : L2.St} {H : Hp} {Q : VK} (h : ta σ H fun x H1 => ∃ c, x = .bl c ∧ if c = true then tb σ H1 Q else Q (.bl false) H1) : tAndV ta tb σ H Q := h
/-- [pair for pair in wrong if _law_told(pair[0]) != pair[1]] == [] -/
theorem runWrong {i j : Nat} {Q : VK} {a : Addr} {ps : List Addr} (hK : X.K = K) (hj : j < σ.length) (sa : Sa Pt B G M σ F H) (hi : σ[i]? = some (some (.ref a))) (ha : Kpt Pt M H a (.lst (ps.map V.ref))) (hw : ∀ p ∈ ps, WrongAt X k c Pt G M H p)
    (q : ∀ F' H', Sa Pt B G M σ F' H' → Q (.bl true) H') :
    tOp (rEqD K) (LC.tLcI (iList K (tVar i)) (gName j) (fun σ => tTest (tOp rNe (LC.tToldC X k σ (TT9 c) (tCons (tOp (rIxT K) (tVar j) (tC (.int 0))) tNil)) (tOp (rIxT K) (tVar j) (tC (.int 1))))) (tVar j) [j]) (tLst tNil) σ H Q := by
  subst hK
  refine ⟨.ref a, hi, a, rfl, ⟨_, SqL.of ha.1⟩, fun D' hD => ?_⟩
  have e0 := sa.sh.new0 (o := .lst []) hD
  have kD : Kpt Pt M (upd H D' (.lst [])) D' (.lst []) := Kpt.new sa.sh hD
  refine lc_list (xs := ps.map V.ref) (fun i G => ∃ F', Evo Pt M F H F' G ∧ Kpt Pt M G D' (.lst [])) ⟨F, e0, kD⟩ (fun i G _ ⟨F', e, _⟩ => SqL.of (ha.evo e).1) ?_ ?_
  · rintro i x G' e ⟨F', ev, hG⟩
    rw [List.getElem?_map] at e
    obtain ⟨p, hp2, rfl⟩ := Option.map_eq_some_iff.mp e
    obtain ⟨l, L, tl, wd, h1, h2, h3, cap, evx⟩ := (hw p (List.mem_of_getElem? hp2)).evo ev
    have sG := sa.evo ev
    have hjj : ((wipe σ [j]).set j (some (.ref p)))[j]? = some (some (V.ref p)) := List.getElem?_set_self (by rw [wipe_length]; exact hj)
    refine ⟨by simp [wipe], ?_⟩
    refine ⟨.ref p, hjj, p, _, 0, _, rfl, rfl, SqT.of h1.1, rfl, l, L, tl, rfl, h2.1, h3.1, cap, h2.1, ?_⟩
    refine evx σ F' G' _ sG.en sG.sh fun v F2 G2 e2 r2 => ?_
    cases r2
    refine ⟨.ref p, hjj, p, _, 1, _, rfl, rfl, SqT.of (h1.evo e2).1, rfl, rfl, _, rfl, ?_⟩
    rw [show (!decide (V.str wd = V.str wd)) = false by simp]
    exact ⟨F2, ev.trans e2, hG.evo e2⟩
  · rintro G' ⟨F', ev, hG⟩
    have sG := sa.evo ev
    refine ⟨(by show 0 ≤ sizeLine; decide), fun b hb => ?_⟩
    have e3 := sG.sh.new0 (o := .lst []) hb
    have s3 := sG.evo e3
    exact nilEq (hG.evo e3).1 upd_same (q F' _ s3)
/-- nothing but new things -/
theorem Evo.kp (s : Sh Pt M F H) (g : Kp H H') : Evo Pt M F H F H' := by
  have tabs : RP.Tb Pt H' := fun e he => by
    have t := s.tb e he
    obtain ⟨P, o⟩ := e
    cases o with
    | none =>
      obtain ⟨ps, h1, h2⟩ := t
      exact ⟨ps, g _ _ h1, h2⟩
    | some q =>
      obtain ⟨ps, h1, h2, h3⟩ := t
      refine ⟨ps, g _ _ h1, h2, fun pos cv hc => ?_⟩
      obtain ⟨c, e1, e2⟩ := h3 pos cv hc
      exact ⟨c, e1, g _ _ e2⟩
  refine ⟨Le.refl F, fun a o h => ?_, fun a o h _ _ => g a o h, fun a o h => .inl h, tabs, fun e he => ?_, fun a kvs h c => g _ _ (s.fz a kvs h c)⟩
  · rcases s.sub a o h with h' | ⟨od, kvs, e, h'⟩
    · exact .inl (g _ _ h')
    · exact .inr ⟨od, kvs, e, g _ _ h'⟩
  · obtain ⟨o, h1, h2⟩ := s.mu e he
    exact ⟨o, g _ _ h1, h2⟩
def One (d : Addr) : VRel := ⟨fun F v => ∃ p, v = .ref p ∧ F p = some (.lst [.ref d]), fun F F' v l ⟨p, e, h⟩ => ⟨p, e, l _ _ h⟩⟩
theorem ocS_rounds {E : XK} {a : Addr} {ns : List Int} (ha : SqL K B.H0 a (ns.map V.int)) (tb0 : RP.Tb Pt B.H0) (nW : ∀ x, ¬ B.W x) : OcS Pt B G M (fun vs H Q => sp_rounds K (vs ++ []) H Q E) [At a, Is K (1 : Int)] (fun Rr M' => ∃ d, Rr = One d ∧ M' = (d, DiceM) :: M) := fun σ F H vs Q s r q => by
  obtain ⟨v0, w0, rfl, r1, r2⟩ := rs2 r
  cases r1
  cases r2
  have nt : ∀ {o : HO}, B.H0 a = some o → (∀ ps, o ≠ .tbl ps) → H a = some o := fun {o} h n => s.keep a o h (fun z => by
    obtain ⟨e, he, rfl⟩ := List.mem_map.mp z
    obtain ⟨ps, hp⟩ := (tb0 e he).at
    rw [h] at hp
    exact n ps (Option.some.inj hp)) (nW a)
  have ha' : SqL K H a (ns.map V.int) := ha.elim (fun h => .inl (h.elim (fun h => .inl (nt h fun _ z => by cases z)) fun ⟨o, h⟩ => .inr ⟨o, nt h fun _ z => by cases z⟩)) .inr
  refine ⟨a, ns, rfl, ha', fun H' p d g hp hd ne h1 ⟨x, y, v, h2⟩ => ?_⟩
  have s1 := s.new (r := DiceM) (o := .lst [.int x, .int y, .int v]) hd ⟨x, y, v, rfl⟩
  have hp' : (upd H d (.lst [.int x, .int y, .int v])) p = none := by rw [upd_ne ne.symm]; exact hp
  have e2 := s1.sh.new (o := .lst [.ref d]) hp'
  have s2 := s1.evo e2
  have e3 := Evo.kp s2.sh (H' := H') fun b o hb => by
    by_cases z : b = p
    · subst z
      rw [upd_same] at hb
      rw [h1, Option.some.inj hb]
    · rw [upd_ne z] at hb
      by_cases z2 : b = d
      · subst z2
        rw [upd_same] at hb
        rw [h2, Option.some.inj hb]
      · rw [upd_ne z2] at hb
        exact g b o hb
  exact q (One d) _ _ _ H' ⟨d, rfl, rfl⟩ (s2.evo e3) e2.le ⟨p, rfl, upd_same⟩
/-- for dice in _law_rounds(script, 1): one turn -/
theorem Nx.rounds {j : Nat} {te : TA} {tb : TS} {D : L2.Ends} {Gz : Gm} {a : Addr} {ns : List Int} (hl : ∀ (d : Addr) (B' : Bs) (D' : L2.Ends), Nx Pt B' Gz [] D'.nx → D'.rt = D.rt → Nx Pt B' (G.set j (some (At d))) [(d, DiceM)] (tb D')) (hz : Gz.length = G.length) (hzn : ∀ (i : Nat) (R : VRel), Gz[i]? ≠ some (some R))
    (ha : SqL K B.H0 a (ns.map V.int)) (tb0 : RP.Tb Pt B.H0) (nW : ∀ x, ¬ B.W x) (he : Ea Pt G [] te [At a, Is K (1 : Int)]) (nx : Nx Pt B Gz [] D.nx) : Nx Pt B G [] (tFor (iList K (tCall (sp_rounds K) [] (fun _ _ _ => False) te)) (gName j) tb D) := fun σ F H sa => by
  refine (EvS.call he (ocS_rounds ha tb0 nW)) σ F H _ sa fun Rr M1 v F1 H1 p1 s1 le1 r1 => ?_
  obtain ⟨d, rfl, rfl⟩ := p1
  obtain ⟨p, rfl, hp⟩ := r1
  have dn := BLe.up s1
  refine ⟨p, rfl, ⟨_, SqL.of (s1.sh.sub.lst hp)⟩, for_list (xs := [.ref d]) (fun i σ H => ∃ F', Sa Pt ⟨F1, B.H0, B.W⟩ (if i = 0 then G else Gz) (if i = 0 then [(d, DiceM)] else []) σ F' H) ⟨F1, s1.up⟩ (fun i σ H _ ⟨F', s'⟩ => SqL.of (s'.sh.sub.lst (s'.le _ _ hp))) ?_ ?_⟩
  · rintro i x σ' H' hx ⟨F', s'⟩
    cases i with
    | succ i => simp at hx
    | zero =>
      obtain rfl : V.ref d = x := by simpa using hx
      have hN := hl d ⟨F1, B.H0, B.W⟩ { D with nx := fun σ H => ∃ F', Sa Pt ⟨F1, B.H0, B.W⟩ (if 0 + 1 = 0 then G else Gz) (if 0 + 1 = 0 then [(d, DiceM)] else []) σ F' H, ct := fun σ H => ∃ F', Sa Pt ⟨F1, B.H0, B.W⟩ (if 0 + 1 = 0 then G else Gz) (if 0 + 1 = 0 then [(d, DiceM)] else []) σ F' H, bk := D.nx } (fun σ F H s => ⟨F, s⟩) rfl
      exact hN _ F' H' (s'.env (s'.en.set (i := j) (R := At d) rfl))
  · rintro σ' H' ⟨F', s'⟩
    exact nx σ' F' H' (dn _ _ _ _ _ s')
theorem Ev.run {te : TE} {Rr : VRel} {Q : VK} (h : Ev Pt G M te Rr) (e : EnvOk F σ G) (s : Sh Pt M F H) (q : ∀ v F' H', Evo Pt M F H F' H' → Rr.R F' v → Q v H') : te σ H Q := h σ F H Q e s q
theorem sa_start {Nm : List Str} {T : List (Addr × Str)} {a : Addr} (tb0 : RP.Tb Pt H) : Sa Pt ⟨fun _ => none, H, fun a => a ∈ ([] : Mu).map (·.1)⟩ (startG Nm [At a]) [] (L2.start Nm [.ref a]) (fun _ => none) H :=
  Sa.start (N := Nm) (Rs := [At a]) (us := [.ref a]) ⟨(fun _ _ e => nomatch e), tb0, (fun _ _ => rfl), (fun _ h => nomatch h), (fun _ h => nomatch h), List.nodup_nil, (fun _ _ e => nomatch e)⟩ (.cons rfl .nil)
theorem tb_start {pT : Addr} {q : Str} {Ps : List Addr} (tab : Tabs [(pT, q)] H) (tb : ∀ p ∈ Ps, GxR.TabG H p) : RP.Tb (PT Ps pT q) H := fun e he => by
  rcases List.mem_cons.mp he with rfl | he
  · exact tab _ (List.mem_singleton.mpr rfl)
  · obtain ⟨q, hq, rfl⟩ := List.mem_map.mp he
    exact tb q hq
def sp_law (K : PySem.W.Frag) (T : List (Addr × Str)) (Ps : List Addr) : Sp := fun vs H Q E => ∃ (a : Addr) (ns : List Int), vs = [.ref a] ∧ SqL K H a (ns.map V.int) ∧ Tabs T H ∧ (∀ p ∈ Ps, GxR.TabG H p) ∧ ∀ H', Q (.bl true) H'
end
end LW

-- D01A
set_option maxRecDepth 100000
set_option maxHeartbeats 4000000
namespace K01
open PySem PySem.Spec PyProof.Rows L2 BG
open RP hiding Tb
open SkE (pmk_own1)
def topS (i : Nat) : Stmt := PySem.Challenge.pw_keepwright_k01_folders_and_changes.main.body.getD i (.Pass ⟨0, 0, 0, 0⟩)
section
variable {P : Program} {w : World} {K : PySem.W.Frag} {mg : Str → Option Value} {base : Heap} {Bp Br : Addr} {Ps : Tbs}
def signs : Str := "abcdefghijklmnopqrstuvwxyz0123456789._-"
def okName (n : Str) : Bool := !decide (n ∈ (["", ".", ".."] : List Str)) && decide (Txt.stripChars n signs = "")
def okPath (p : Str) : Bool := (Txt.split p "/").all okName
/-- a text that is not too long, nor its parts -/
def SmP (p : Str) : Prop := p.length ≤ 1000 ∧ (reprText p).length ≤ 1000 ∧ ∀ n ∈ Txt.split p "/", n.length ≤ 1000
abbrev s_check_path : Stmt := topS 13
theorem sc_check_path : FnScope ["path", "name"] ["path"] (defScope s_check_path) := ⟨rfl, rfl, rfl, by decide +kernel, rfl, by decide +kernel, by decide +kernel⟩
abbrev sp_check_path (Ps : Tbs) (K : PySem.W.Frag) (Bp : Addr) : Sp := Spx (γ := Str) Ps (fun p => [Is K p]) SmP (fun p => Is K p) (fun p => if okPath p = true then none else some Bp)
theorem ok_check_path {f : Addr} {fd : FuncData} {k : Nat} (Fn : Fun K "check_path" "check_path" s_check_path f fd) (X : Exn K mg "BadPath" Bp) (sg : ∃ t, mg "SIGNS" = some (.str signs t)) : FnOk P w K mg base (L2.CX P w) (k + 1) f fd ["path"] (sp_check_path Ps K Bp) := by
  obtain ⟨tk, sg⟩ := sg
  refine Fun.okP Fn sc_check_path (fun _ => rfl) fun cdv A outer s H0 E hr => ?_
  refine ⟨_, (pss_cons (ps_for (passes_of rfl) rfl (pi_list (pe_split (pv 0) pe_str)) (pg_name (i := 1) sc_check_path.nd rfl (.inl rfl))
      (pss_one (ps_if (PW.pt (pw_or (pt_cmpR (op_in_seq) (pv 1) (pe_tup (pa_cons pe_str (pa_cons pe_str (pa_cons pe_str pa_nil)))) (by with_unfolding_all rfl)) (pw_or1 (pt_cmpR op_ne (pe_m1 F.slot_str_strip F.type_str_strip mt_stripChars (pv 1) (pe_glob (v := .str signs) (by rfl) sg ⟨_, rfl⟩)) pe_str (nomark _)))))
      (pss_one (ps_raise rfl (takes_of rfl rfl rfl rfl) (pmk_own1 PySem.F.excBase_ValueError X.e X.g X.k (raises_own X.b X.t) (by rfl) (pe_joined (.cons pe_str (.cons (pe_fmtR (pv 0)) .nil)))))) pss_nil)))
    (pss_one (ps_ret (pv 0)))), fun p B D pre hrt hx hnx => ?_⟩
  obtain ⟨p1, p2, p3⟩ := pre
  have bad : ∀ x ∈ Txt.split p "/", okName x = false → okPath p = false := fun x hx h => by
    unfold okPath
    rw [List.all_eq_false]
    exact ⟨x, hx, by rw [h]; exact Bool.false_ne_true⟩
  refine Nx.seq (Nx.for0 (γ := Str) (δ := Unit) (Ei.list (Ev.split (K := K) (Ev.var rfl) Ev.str (by decide) (by omega))) (fun i _ => ((Txt.split p "/").take i).all okName = true) (fun _ _ => [some (Is K p), none]) (fun _ _ => []) (fun _ _ _ _ h => nomatch h) (fun i x => (Txt.split p "/")[i]? = some x) (fun _ x => Is K x) (fun i _ F v r => r) () rfl GLe.refl rfl _ (fun i c x _ _ _ => Eg.name) (fun B' ble i c x hlt iv px N hN => ?_) fun _ iv => ?_)
  · have hmem := List.mem_of_getElem? px
    refine Nx.ite (P := fun b => b = !okName x) ?_ (fun hb => ?_) (fun hb => ?_)
    · refine Et.or (P1 := fun b => b = decide (x ∈ (["", ".", ".."] : List Str))) (Et.is (Ev.op (Ev.var rfl) (Ev.tupL (K := K) (xs := (["", ".", ".."] : List Str)) (Ea.cons Ev.str (Ea.cons Ev.str (Ea.cons Ev.str Ea.nil))) (by decide)) (o2_inS (neg := false) Sq.tl))) (fun h => ?_) (fun h => ?_)
      · unfold okName
        rw [← h]
        rfl
      · refine (Et.is (Ev.op (Ev.stripC (K := K) (Ev.var rfl) (Ev.c (R := Is K signs) fun _ => rfl) (by have := p3 x hmem; omega)) Ev.str o2_ne)).imp fun b e => ?_
        rw [e]
        unfold okName
        rw [← h]
        simp
    · have hb : okName x = false := by simpa using hb.symm
      refine Nx.raiseM (ts := [tC (.str "no path: "), tFmtR (tVar 0)]) ⟨⟨1000, by decide, Ev.strN (by decide +kernel)⟩, ⟨1000, by decide, Ev.fmtR (K := K) (Ev.var rfl) p2 (by decide)⟩, trivial⟩ (by show 1000 * 2 ≤ 99000; decide) fun σ F H sa => ?_
      exact hx Bp (if_neg (by rw [bad x hmem hb]; exact Bool.false_ne_true)) _ [] _ _ _ (fun _ h => nomatch h) (ble _ _ _ _ _ sa)
    · refine hN () ?_ |>.gle (GLe.keep (GLe.drop GLe.nil))
      have hb : okName x = true := by simpa using hb.symm
      rw [List.take_add_one, px, List.all_append, iv]
      simpa using hb
  · rw [List.take_length] at iv
    have he : (if okPath p = true then none else some Bp) = none := if_pos iv
    exact Nx.ret (Ev.var (R := Is K p) rfl) fun v σ F H sa r => hrt he v _ [] _ _ _ (fun _ h => nomatch h) sa r
end
end K01

-- D01B
set_option maxRecDepth 100000
set_option maxHeartbeats 4000000
namespace K01
open PySem PySem.Spec PyProof.Rows L2 BG
open RP hiding Tb
open SkE (pmk_own1)
section
variable {P : Program} {w : World} {K : PySem.W.Frag} {mg : Str → Option Value} {base : Heap} {Bp Br : Addr} {Ps : Tbs}
theorem sl_listK {X : Cx} {K0 : PySem.W.Frag} (hK : X.K = K0) : SlR X (rSlL K0) := by
  subst hK
  exact sl_list
theorem pe_joinK {X : Cx} {K0 : PySem.W.Frag} {o e : Expr} {to te : TE} {apos pos : Pos} (hK : X.K = K0) (ho : PE X o to) (he : PE X e te) (hs : starEach [e] X.env = [(false, eval e X.env)] := by rfl) (hbase : attributeBase o "join" X.env (eval o X.env) = eval o X.env := by rfl) (hline : (apos.endLine == pos.line) = true := by rfl) :
    PE X (.Call (.Attribute o "join" apos) [e] [] pos) (tM1 (fun x xs H Q => ∃ a p, ∃ ys : List Str, x = .str a ∧ xs = [.ref p] ∧ (SqL K0 H p (ys.map V.str) ∨ SqT K0 H p (ys.map V.str)) ∧ (ys.map (·.length)).sum + ys.length * a.length ≤ 16777216 ∧ Q (.str (Txt.join a ys)) H) to te) := by
  subst hK
  exact pe_join ho he hs hbase hline
/-! overs_of: slots path=0 names=1 -/
def oversL (p : Str) : List Str := (List.range ((Txt.split p "/").length - 1)).map fun i => Txt.join "/" ((Txt.split p "/").take (i + 1))
abbrev s_overs_of : Stmt := topS 15
theorem sc_overs_of : FnScope ["path", "names"] ["path"] (defScope s_overs_of) := ⟨rfl, rfl, rfl, by decide +kernel, rfl, by decide +kernel, by decide +kernel⟩
theorem gs_overs : GX.GScp ["path", "names"] (defScope s_overs_of) { kind := ScopeKind.function, names := [(".0", NameKind.local), ("count", NameKind.local), ("names", NameKind.free)], isGenerator := true, isCoroutine := false } ["count", "names"] [none, some 1] := GX.gsc_by (by decide +kernel)
/-- parts whose joints stay small -/
def SmO (p : Str) : Prop := p.length ≤ 1000 ∧ (Txt.split p "/").length ≤ 1000 ∧ ∀ k, (((Txt.split p "/").take k).map (·.length)).sum ≤ 100000
abbrev sp_overs_of (Ps : Tbs) (K : PySem.W.Frag) : Sp := Spx (γ := Str) Ps (fun p => [Is K p]) SmO (fun p => Is K (Tl.mk (oversL p))) (fun _ => none)
theorem ok_overs_of {f cc pp : Addr} {fd : FuncData} {k : Nat} (Fn : BG.FunC K "overs_of" "overs_of" s_overs_of f fd cc) (TB : GxR.TabB base mg cc pp) (hpp : (pp, none) ∈ Ps) (un : ∀ e ∈ Ps, e.1 = pp → e.2 = none) (z_range : mg "range" = none) (z_len : mg "len" = none) (z_tuple : mg "tuple" = none) : FnOk P w K mg base (L2.CX P w) (k + 8) f fd ["path"] (sp_overs_of Ps K) := by
  refine BG.FunC.okP Fn sc_overs_of (fun _ => rfl) fun A outer s H0 E hr => ?_
  have hr0 : Room k (A.deeper (envOfC "overs_of" (defScope s_overs_of) s.heap.objs.size f (.ref cc))) := hr.mono (by omega)
  have hr5 : Room (k + 1 + 5) (A.deeper (envOfC "overs_of" (defScope s_overs_of) s.heap.objs.size f (.ref cc))) := hr.mono (by omega)
  refine ⟨_, (pss_cons (ps_set (i := 1) sc_overs_of.nd rfl (.inr rfl) (pe_split (pv 0) pe_str))
    (pss_one (ps_ret (GX.pe_tupG (GX.pgen_exp (k := k) (Ng := ["count", "names"]) (ix := [none, some 1]) (vs := [0]) hr0 TB rfl gs_overs (pi_range2 (by rfl) z_range (pa_cons pe_int (pa_cons (pe_callB call_len_seq (by rfl) z_len (by decide +kernel) (pa_cons (pv 1) pa_nil)) pa_nil))) (fun _ _ _ _ _ _ _ => (pg_name (i := 0) gs_overs.nd rfl (.inl rfl))) (fun _ _ _ _ _ _ _ hr => pts_nil) (fun _ _ _ _ _ _ _ hr => (pe_joinK (K0 := K) rfl pe_str (pe_slice (sl_listK (K0 := K) rfl) (pv 1) po_none (po_some (pv 0)))))) hr5 (by rfl) z_tuple (by decide +kernel))))), fun p B D pre hrt hx hnx => ?_⟩
  obtain ⟨p1, p2, p3⟩ := pre
  refine Nx.seq (Nx.set (R := Is K (Txt.split p "/")) (Ev.split (K := K) (Ev.var rfl) Ev.str (by decide) (by omega)) ?_)
  dsimp only
  refine Nx.ret (R := Is K (Tl.mk (oversL p))) ?_ fun v σ F H sa r => hrt rfl v _ [] _ _ _ (fun _ h => nomatch h) sa r
  have e0 : ((((Txt.split p "/").length : Nat) : Int) - 1).toNat = (Txt.split p "/").length - 1 := by omega
  have ln : ∀ k, ((Txt.split p "/").take k).length ≤ 1000 := fun k => by rw [List.length_take]; omega
  refine (Ev.tupG (K := K) (α := Int) (β := Str) (L := []) (sl := [0]) (xs := rngL 1 ((((Txt.split p "/").length : Nat) : Int) - 1).toNat) (p := fun _ => true) (f := fun x => Txt.join "/" ((Txt.split p "/").take x.toNat)) hpp un (Ei.range2L (K := K) (Ea.cons Ev.int (Ea.cons (Ev.natI (Ev.cb (Ea.cons (Ev.var rfl) Ea.nil) (oc_len (Ls.sq (Ls.fz (K := K)))))) Ea.nil)) ⟨by decide, by decide, by omega, by omega⟩) (fun _ h => nomatch h) (by rw [rng_len]; omega) _ (fun x _ => Eg.name) (fun k hk => hk) (fun x _ => Et.yes) (fun x hx _ => ?_)).to ?_
  · unfold rngL at hx
    obtain ⟨i, hi, rfl⟩ := List.mem_map.mp hx
    have hi := List.mem_range.mp hi
    have e1 : (1 + (i : Int)) = ((i + 1 : Nat) : Int) := by omega
    have es : cutX (Txt.split p "/") none (some (1 + (i : Int))) = (Txt.split p "/").take (1 + (i : Int)).toNat := by rw [e1, cutX_to]; rfl
    refine Ev.join (K := K) (a := "/") (Rl := Is K ((Txt.split p "/").take (1 + (i : Int)).toNat)) Ev.str ((Ev.slL (K := K) (Ra := Is K (Txt.split p "/")) (Ev.var rfl) Ls.fz Eo.none (Eo.some (Ev.var rfl))).to es) (Ls.sq Ls.fz) ?_
    have h1 := p3 (1 + (i : Int)).toNat
    have h2 := ln (1 + (i : Int)).toNat
    show _ + _ * 1 ≤ _
    omega
  · rw [List.filter_eq_self.mpr fun _ _ => rfl, e0]
    unfold rngL oversL
    rw [List.map_map]
    refine congrArg Tl.mk (List.map_congr_left fun i _ => ?_)
    show Txt.join "/" ((Txt.split p "/").take (1 + (i : Int)).toNat) = _
    rw [show (1 + (i : Int)).toNat = i + 1 by omega]
end
end K01

-- RPz
set_option maxRecDepth 100000
set_option maxHeartbeats 4000000
/-! more rules: in of flat items, min and max of lists, signs of texts, replace -/
namespace RP
open PySem PySem.Spec PyProof.Rows L2
open Rp (rp)
open Rp (rp)
section
variable {X : Cx} {K0 : PySem.W.Frag}
theorem op_inKK (hK : X.K = K0) : OpR X (compareOp .In) (rIn K0 false) := by subst hK; exact op_in_seq
theorem op_notInKK (hK : X.K = K0) : OpR X (compareOp .NotIn) (rIn K0 true) := by subst hK; exact op_notIn_seq
theorem op_eqKK (hK : X.K = K0) (hu : X.A.units + 64 < cLine) : OpR X (compareOp .Eq) (rEqD K0) := by subst hK; exact op_eqD hu
theorem op_neKK (hK : X.K = K0) (hu : X.A.units + 64 < cLine) : OpR X (compareOp .NotEq) (rNeD K0) := by subst hK; exact op_neD hu
theorem cr_minKK (hK : X.K = K0) (hc : X.calm = true) : CallR X (.builtin "min") (rMin K0) := by subst hK; exact cr_min hc
theorem cr_maxKK (hK : X.K = K0) (hc : X.calm = true) : CallR X (.builtin "max") (rMax K0) := by subst hK; exact cr_max hc
theorem cr_sumKK (hK : X.K = K0) (hc : X.calm = true) : CallR X (.builtin "sum") (rSum K0) := by subst hK; exact cr_sum hc
theorem ix_listKK (hK : X.K = K0) : IxR X (rIxL K0) := by subst hK; exact ix_list
theorem ix_tupKK (hK : X.K = K0) : IxR X (rIxT K0) := by subst hK; exact ix_tup
theorem sl_listKK (hK : X.K = K0) : SlR X (rSlL K0) := by subst hK; exact sl_list
theorem sl_tupKK (hK : X.K = K0) : SlR X (rSlA K0) := by subst hK; exact sl_tupA
theorem op_catAK (hK : X.K = K0) : OpR X (binaryOp .Add) (rCatA K0) := by subst hK; exact op_catA
def rLenK (K0 : PySem.W.Frag) : List V → Hp → VK → Prop := fun xs H Q => ∃ p ys, xs = [.ref p] ∧ (SqL K0 H p ys ∨ SqT K0 H p ys) ∧ Q (.int ys.length) H
theorem call_lenKK (hK : X.K = K0) : CallR X (.builtin "len") (rLenK K0) := by subst hK; exact call_len_seq
theorem pi_listK {l tg : Expr} {tl : TE} (hK : X.K = K0) (hl : PE X l tl) : PI X tg l (iList K0 tl) := by subst hK; exact pi_list hl
theorem pi_tupK {l tg : Expr} {tl : TE} (hK : X.K = K0) (hl : PE X l tl) : PI X tg l (iTup K0 tl) := by subst hK; exact pi_tup hl
end
section
variable {α : Type} [Rp α] {Ps : Tbs} {M : Mu} {G : Gm} {K : PySem.W.Frag} {te tf : TE} {R : VRel}
theorem fl_map [Fl α] {F : Hp} {vs : List V} {xs : List α} (h : Ps2 K F vs xs) : vs = xs.map Sc.v := by
  unfold Ps2 at h
  induction h with
  | nil => rfl
  | cons a _ ih =>
    rw [List.map_cons, ih, Sc.eq _ _ _ _ a]
theorem inV_fl [Fl α] [DecidableEq α] {x : α} {xs : List α} : inV (Sc.v x) (xs.map Sc.v) = decide (x ∈ xs) := by
  unfold inV
  rw [List.any_map]
  rw [Bool.eq_iff_iff, decide_eq_true_iff, List.any_eq_true]
  constructor
  · rintro ⟨y, hy, e⟩
    have := (Fl.eqf y x).mp e
    rw [← this]
    exact hy
  · intro h
    exact ⟨x, h, (Fl.eqf x x).mpr rfl⟩
theorem o2_in [Fl α] [DecidableEq α] {x : α} {xs : List α} {neg : Bool} (h : Sq Ps M K R xs) : O2 Ps M (rIn K neg) (Is K x) R (Is K (if neg then !decide (x ∈ xs) else decide (x ∈ xs))) := fun F H v w Q s a b q => by
  obtain ⟨p, vs, rfl, e1, p1⟩ := h F H w s b
  have ev := fl_map p1
  subst ev
  have ex := Sc.eq _ _ _ _ a
  subst ex
  refine ⟨p, _, rfl, e1, Fl.fl x, ?_, q _ F H s.refl (by rw [inV_fl]; rfl)⟩
  rw [List.all_map, List.all_eq_true]
  exact fun y _ => Fl.fl y
/-- the least, the greatest -/
def lmin : List Int → Int
  | [] => 0
  | x :: r => if r = [] then x else min x (lmin r)
def lmax : List Int → Int
  | [] => 0
  | x :: r => if r = [] then x else max x (lmax r)
theorem lmin_mem : ∀ {xs : List Int}, xs ≠ [] → lmin xs ∈ xs
  | [], h => absurd rfl h
  | x :: r, _ => by
    unfold lmin
    by_cases hr : r = []
    · rw [if_pos hr]; exact List.mem_cons_self ..
    · rw [if_neg hr]
      rcases Int.le_total x (lmin r) with h | h
      · rw [Int.min_eq_left h]; exact List.mem_cons_self ..
      · rw [Int.min_eq_right h]; exact List.mem_cons_of_mem _ (lmin_mem hr)
theorem lmin_le : ∀ {xs : List Int}, ∀ y ∈ xs, lmin xs ≤ y
  | [], _, h => nomatch h
  | x :: r, y, h => by
    unfold lmin
    by_cases hr : r = []
    · rw [if_pos hr]
      subst hr
      rw [List.mem_singleton.mp h]
      exact Int.le_refl _
    · rw [if_neg hr]
      rcases List.mem_cons.mp h with rfl | h
      · exact Int.min_le_left _ _
      · exact Int.le_trans (Int.min_le_right _ _) (lmin_le y h)
theorem lmax_mem : ∀ {xs : List Int}, xs ≠ [] → lmax xs ∈ xs
  | [], h => absurd rfl h
  | x :: r, _ => by
    unfold lmax
    by_cases hr : r = []
    · rw [if_pos hr]; exact List.mem_cons_self ..
    · rw [if_neg hr]
      rcases Int.le_total x (lmax r) with h | h
      · rw [Int.max_eq_right h]; exact List.mem_cons_of_mem _ (lmax_mem hr)
      · rw [Int.max_eq_left h]; exact List.mem_cons_self ..
theorem lmax_le : ∀ {xs : List Int}, ∀ y ∈ xs, y ≤ lmax xs
  | [], _, h => nomatch h
  | x :: r, y, h => by
    unfold lmax
    by_cases hr : r = []
    · rw [if_pos hr]
      subst hr
      rw [List.mem_singleton.mp h]
      exact Int.le_refl _
    · rw [if_neg hr]
      rcases List.mem_cons.mp h with rfl | h
      · exact Int.le_max_left _ _
      · exact Int.le_trans (lmax_le y h) (Int.le_max_right _ _)
theorem oc_min {xs : List Int} (h : Ls Ps M K R xs) (ne : xs ≠ []) : Oc Ps M (rMin K) [R] (Is K (lmin xs)) := fun F H vs Q s r q => by
  obtain ⟨v, rfl, r1⟩ := rs1 r
  obtain ⟨a, ws, rfl, h1, p⟩ := h F H v s r1
  have := ps2_int p
  subst this
  refine ⟨a, xs, rfl, SqL.of h1, List.length_pos_iff.mpr ne, fun m hm hle => ?_⟩
  have : m = lmin xs := Int.le_antisymm (hle _ (lmin_mem ne)) (lmin_le m hm)
  exact q _ F H s.refl (congrArg V.int this)
theorem oc_max {xs : List Int} (h : Ls Ps M K R xs) (ne : xs ≠ []) : Oc Ps M (rMax K) [R] (Is K (lmax xs)) := fun F H vs Q s r q => by
  obtain ⟨v, rfl, r1⟩ := rs1 r
  obtain ⟨a, ws, rfl, h1, p⟩ := h F H v s r1
  have := ps2_int p
  subst this
  refine ⟨a, xs, rfl, SqL.of h1, List.length_pos_iff.mpr ne, fun m hm hle => ?_⟩
  have : m = lmax xs := Int.le_antisymm (lmax_le m hm) (hle _ (lmax_mem ne))
  exact q _ F H s.refl (congrArg V.int this)
/-- a sign of a text -/
theorem o2_ixS {z : Str} {i : Int} {c : Nat} (hz : z.length ≤ 100000) (e : atI z.cps.toList i = some c) : O2 Ps M rIxS (Is K z) (Is K i) (Is K (⟨#[c]⟩ : Str)) := fun F H v w Q s a b q => by
  cases a
  cases b
  exact ⟨z, i, c, rfl, rfl, Nat.le_trans hz (by decide), e, q _ F H s.refl rfl⟩
theorem oc_lenSK {z : Str} (h : z.length ≤ 100000) : Oc Ps M (fun xs H Q => ∃ z, xs = [.str z] ∧ z.length ≤ sizeLine ∧ Q (.int z.length) H) [Is K z] (Is K z.length) := oc_lenS h
end
section
variable {X : Cx} {f : Expr} {tf : TE}
/-- 'written' + e, e wants a token -/
theorem pe_addT {op : Operator} {r : R2} {a : Str} {j : Nat} {c0 pos : Pos} (ho : OpR X (binaryOp op) r) (hb : PET X f tf) : PE X (.BinOp (.Constant (.str a) j c0) op f pos) (tOp r (tC (.str a)) tf) := by
  refine ⟨fun pins s σ H Q I h => ?_⟩
  refine wpAny_BinOp (Calls.Constant_str ?_)
  refine thn (hb pins _ σ H _ (by show 1 ≤ s.toks + 1; omega) (I.tok _) h) fun u s2 ⟨y, H2, I2, r2, q2⟩ => ho pins s2 σ H2 (.str a) y _ u Q I2 ⟨_, rfl⟩ r2 q2
end
section
variable {Ps : Tbs} {M : Mu} {G : Gm} {K : PySem.W.Frag} {to : TE}
theorem Ev.replC {x y z : Str} (ho : Ev Ps G M to (Is K x)) (hb : x.length + (x.length + 1) * z.length ≤ 1000000) : Ev Ps G M (CwR.tReplC to y z) (Is K (Txt.replace x y z)) := fun σ F H Q e s q => ho σ F H _ e s fun v F1 H1 e1 r1 => by
  cases r1
  exact ⟨x, rfl, by omega, q _ F1 H1 e1 rfl⟩
end
end RP
namespace RP
open PySem PySem.Spec PyProof.Rows L2
section
variable {X : Cx} {K0 : PySem.W.Frag} {o e : Expr} {to te : TE} {apos pos : Pos}
theorem pe_joinKK (hK : X.K = K0) (ho : PE X o to) (he : PE X e te) (hs : starEach [e] X.env = [(false, eval e X.env)] := by rfl) (hbase : attributeBase o "join" X.env (eval o X.env) = eval o X.env := by rfl) (hline : (apos.endLine == pos.line) = true := by rfl) :
    PE X (.Call (.Attribute o "join" apos) [e] [] pos) (tM1 (fun x xs H Q => ∃ a p, ∃ ys : List Str, x = .str a ∧ xs = [.ref p] ∧ (SqL K0 H p (ys.map V.str) ∨ SqT K0 H p (ys.map V.str)) ∧ (ys.map (·.length)).sum + ys.length * a.length ≤ 16777216 ∧ Q (.str (Txt.join a ys)) H) to te) := by
  subst hK
  exact pe_join ho he hs hbase hline
theorem pg_tupKK {es : List Expr} {k : Nat} {t : TGs} {n : Nat} {pos : Pos} (hK : X.K = K0) (hc : X.calm = true) (h : PGs X es t)
    (hn : (assignEach es X.env).length = n := by rfl) (hst : (assignEach es X.env).findIdx? (·.1) = none := by rfl) : PG X (.Tuple es k pos) (gTup K0 n t) := by
  subst hK
  exact pg_tup hc h hn hst
theorem call_listKK (hK : X.K = K0) : CallR X (.type "list") (fun xs H Q => ∃ p ys, xs = [.ref p] ∧ (SqL K0 H p ys ∨ SqT K0 H p ys) ∧ ∀ l, H l = none → Q (.ref l) (upd H l (.lst ys))) := by
  subst hK
  exact call_list_of
theorem call_tupleKK (hK : X.K = K0) : CallR X (.type "tuple") (fun xs H Q => ∃ p ys, xs = [.ref p] ∧ ((SqL K0 H p ys ∧ ∀ l, H l = none → Q (.ref l) (upd H l (.tup ys))) ∨ (SqT K0 H p ys ∧ Q (.ref p) H))) := by
  subst hK
  exact call_tuple_of
theorem cr_anyKK (hK : X.K = K0) (hc : X.calm = true) : CallR X (.builtin "any") (rAny K0) := by
  subst hK
  exact cr_any hc
end
end RP
namespace RP
open PySem PySem.Spec PyProof.Rows L2
open Rp (rp)
section
variable {Ps : Tbs} {M : Mu} {G : Gm} {K : PySem.W.Frag} {ta tb te to : TE} {t : TA} {R : VRel} {α β : Type} [Rp α] [Rp β]
/-- [e for k in range(n)], n rolled -/
theorem Ev.lcRx {i : Nat} {p : Int → Prop} (h : Ea Ps G M t [Exi K p]) (hp : ∀ n, p n → 0 ≤ n ∧ n ≤ 100000) {Pe : Nat → β → Prop} (he : ∀ n, p n → ∀ k : Nat, (k : Int) < n → Ev Ps ((wipeG G [i]).set i (Option.some (Is K (k : Int)))) M te (Exi K (Pe k))) :
    Ev Ps G M (tLc (iRng1 t) (gName i) tYes te [i]) (Exi K fun ys : List β => p ys.length ∧ ∀ k y, ys[k]? = some y → Pe k y) := fun σ F H Q e s q => by
  show t σ H _
  refine h σ F H _ e s fun vs F1 H1 e1 r1 => ?_
  obtain ⟨v, rfl, n, pn, rn⟩ := rs1 r1
  cases rn
  obtain ⟨n0, n1⟩ := hp n pn
  have hc : Ea Ps G M (fun _ H Q => Q [V.int n] H) [Is K n] := fun σ F H Q e s q => q _ F H s.refl (.cons rfl .nil)
  refine Ev.lcR (K := K) (β := β) (j := n) (i := i) (te := te) hc n0 n1 (he n pn) σ F1 H1 Q (e.mono e1.le) (s.evo e1) fun v F2 H2 e2 ⟨ys, ⟨l, al⟩, r⟩ => q v F2 H2 (e1.trans e2) ⟨ys, ⟨?_, al⟩, r⟩
  rw [l, show ((n.toNat : Nat) : Int) = n by omega]
  exact pn
theorem Ev.joinX {a : Str} {p : List Str → Prop} (ho : Ev Ps G M to (Is K a)) (he : Ev Ps G M te (Exi K p)) (hl : ∀ xs, p xs → (xs.map (·.length)).sum + xs.length * a.length ≤ 1000000) :
    Ev Ps G M (tM1 (fun x xs H Q => ∃ a p, ∃ ys : List Str, x = .str a ∧ xs = [.ref p] ∧ (SqL K H p (ys.map V.str) ∨ SqT K H p (ys.map V.str)) ∧ (ys.map (·.length)).sum + ys.length * a.length ≤ 16777216 ∧ Q (.str (Txt.join a ys)) H) to te) (Exi K fun y => ∃ xs, p xs ∧ y = Txt.join a xs) :=
  Ev.m1 ho he fun F H w Q s ⟨xs, px, r⟩ q => by
    obtain ⟨b, vs, rfl, h1, h2⟩ := r
    have ev := ps2_str h2
    subst ev
    exact ⟨a, b, xs, rfl, rfl, .inl (SqL.of (s.sub.lst h1)), Nat.le_trans (hl xs px) (by decide), q _ F H s.refl ⟨_, ⟨xs, px, rfl⟩, rfl⟩⟩
theorem o2_ixSx {z : Str} {p : Int → Prop} (hz : z.length ≤ 100000) (h : ∀ i, p i → 0 ≤ i ∧ i < z.cps.size) : O2 Ps M rIxS (Is K z) (Exi K p) (Exi K (· ∈ sgn z)) := fun F H v w Q s a ⟨i, pi, b⟩ q => by
  cases a
  cases b
  obtain ⟨h0, h1⟩ := h i pi
  have hl : i.toNat < z.cps.toList.length := by rw [Array.length_toList]; omega
  have hat := atI_nat (xs := z.cps.toList) (j := i.toNat) (List.getElem?_eq_getElem hl)
  rw [show ((i.toNat : Nat) : Int) = i by omega] at hat
  refine ⟨z, i, _, rfl, rfl, Nat.le_trans hz (by decide), hat, q _ F H s.refl ⟨_, ?_, rfl⟩⟩
  unfold sgn
  exact List.mem_map.mpr ⟨_, List.getElem_mem hl, rfl⟩
theorem Ev.pairX {p : α → Prop} {r : β → Prop} (ha : Ev Ps G M ta (Exi K p)) (hb : Ev Ps G M tb (Exi K r)) : Ev Ps G M (tTup (tCons ta (tCons tb tNil))) (Exi K fun x : α × β => p x.1 ∧ r x.2) := Ev.tup (Ea.cons ha (Ea.cons hb Ea.nil)) (by show 2 ≤ 100; decide) fun F q vs h rr => by
  obtain ⟨v, w, rfl, ⟨x, px, hx⟩, ⟨y, py, hy⟩⟩ := rs2 rr
  exact ⟨(x, y), ⟨px, py⟩, q, v, w, rfl, h, hx, hy⟩
theorem Ev.toX {p : α → Prop} {x : α} (h : Ev Ps G M te (Is K x)) (px : p x) : Ev Ps G M te (Exi K p) := h.exi px
theorem Exi.imp {p r : α → Prop} (h : Ev Ps G M te (Exi K p)) (k : ∀ x, p x → r x) : Ev Ps G M te (Exi K r) := h.imp fun F v ⟨x, px, hx⟩ => ⟨x, k x px, hx⟩
theorem oc_tupleX {p : List α → Prop} : Oc Ps M (fun xs H Q => ∃ p ys, xs = [.ref p] ∧ ((SqL K H p ys ∧ ∀ l, H l = none → Q (.ref l) (upd H l (.tup ys))) ∨ (SqT K H p ys ∧ Q (.ref p) H))) [Exi K p] (Exi K fun y : Tl α => p y.l) := fun F H vs Q s r q => by
  obtain ⟨v, rfl, xs, px, r1⟩ := rs1 r
  obtain ⟨a, ws, rfl, h1, h2⟩ := r1
  refine ⟨a, ws, rfl, .inl ⟨SqL.of (s.sub.lst h1), fun l hl => q _ _ _ (Evo.newT s h2 hl).1 ⟨Tl.mk xs, px, (Evo.newT s h2 hl).2⟩⟩⟩
theorem Ev.optI {o : Option Nat} (h : Ev Ps G M te (Is K o)) : Ev Ps G M te (Is K (o.map fun n : Nat => (n : Int))) := by
  cases o with
  | none => exact h
  | some n => exact h
/-- of == and != of tables -/
theorem deq_refl {κ : Type} [DecidableEq κ] [DecidableEq α] {l : List (κ × α)} (h : (l.map (·.1)).Nodup) : deqL l l = true := by
  unfold deqL
  rw [decide_eq_true rfl, Bool.true_and, List.all_eq_true]
  intro e he
  rw [decide_eq_true_iff]
  unfold lookD
  have : l.find? (fun e' => decide (e'.1 = e.1)) = some e := by
    induction l with
    | nil => cases he
    | cons a r ih =>
      rw [List.map_cons, List.nodup_cons] at h
      rw [List.find?_cons]
      by_cases z : a.1 = e.1
      · rw [decide_eq_true z]
        rcases List.mem_cons.mp he with rfl | he
        · rfl
        · exact absurd (List.mem_map.mpr ⟨e, he, z.symm⟩) h.1
      · rw [decide_eq_false z]
        rcases List.mem_cons.mp he with rfl | he
        · exact absurd rfl z
        · exact ih h.2 he
  rw [this]
  rfl
theorem putD_keys {κ : Type} [DecidableEq κ] {l : List (κ × α)} {k : κ} {x : α} : (putD l k x).map (·.1) = if k ∈ l.map (·.1) then l.map (·.1) else l.map (·.1) ++ [k] := by
  unfold putD
  have e : (l.any fun e => decide (e.1 = k)) = decide (k ∈ l.map (·.1)) := by
    rw [Bool.eq_iff_iff, List.any_eq_true, decide_eq_true_iff, List.mem_map]
    constructor
    · rintro ⟨e, he, h⟩
      exact ⟨e, he, of_decide_eq_true h⟩
    · rintro ⟨e, he, h⟩
      exact ⟨e, he, decide_eq_true h⟩
  rw [e]
  by_cases h : k ∈ l.map (·.1)
  · rw [if_pos (decide_eq_true h), if_pos h, List.map_map]
    refine List.map_congr_left fun e _ => ?_
    show (if e.1 = k then (k, x) else e).1 = e.1
    split
    · rename_i z; exact z.symm
    · rfl
  · rw [if_neg (by rw [decide_eq_true_iff]; exact h), if_neg h, List.map_append]
    rfl
theorem putD_nodup {κ : Type} [DecidableEq κ] {l : List (κ × α)} {k : κ} {x : α} (h : (l.map (·.1)).Nodup) : ((putD l k x).map (·.1)).Nodup := by
  rw [putD_keys]
  split
  · exact h
  · rename_i n
    rw [List.nodup_append]
    exact ⟨h, List.pairwise_singleton _ _, fun a ha b hb z => n (by rw [← List.mem_singleton.mp hb, ← z]; exact ha)⟩
theorem mergeD_keys {κ : Type} [DecidableEq κ] (l : List (κ × α)) : ((mergeD l).map (·.1)).Nodup ∧ ∀ k, k ∈ (mergeD l).map (·.1) ↔ k ∈ l.map (·.1) := by
  have : ∀ (l acc : List (κ × α)), (acc.map (·.1)).Nodup → ((l.foldl (fun acc e => putD acc e.1 e.2) acc).map (·.1)).Nodup ∧ ∀ k, k ∈ (l.foldl (fun acc e => putD acc e.1 e.2) acc).map (·.1) ↔ k ∈ acc.map (·.1) ∨ k ∈ l.map (·.1) := by
    intro l
    induction l with
    | nil => exact fun acc h => ⟨h, fun k => by simp⟩
    | cons e r ih =>
      intro acc h
      obtain ⟨h1, h2⟩ := ih (putD acc e.1 e.2) (putD_nodup h)
      refine ⟨h1, fun k => ?_⟩
      rw [List.foldl_cons, h2 k, putD_keys, List.map_cons, List.mem_cons]
      split
      · rename_i hm
        constructor
        · rintro (h | h)
          · exact .inl h
          · exact .inr (.inr h)
        · rintro (h | rfl | h)
          · exact .inl h
          · exact .inl hm
          · exact .inr h
      · rw [List.mem_append, List.mem_singleton]
        constructor
        · rintro ((h | h) | h)
          · exact .inl h
          · exact .inr (.inl h)
          · exact .inr (.inr h)
        · rintro (h | h | h)
          · exact .inl (.inl h)
          · exact .inl (.inr h)
          · exact .inr h
  obtain ⟨h1, h2⟩ := this l [] List.nodup_nil
  exact ⟨h1, fun k => (h2 k).trans (by simp)⟩
theorem lookD_cons {κ : Type} [DecidableEq κ] {e : κ × α} {l : List (κ × α)} {k : κ} : lookD (e :: l) k = if e.1 = k then some e.2 else lookD l k := by
  unfold lookD
  rw [List.find?_cons]
  by_cases z : e.1 = k
  · rw [decide_eq_true z, if_pos z]
    rfl
  · rw [decide_eq_false z, if_neg z]
theorem lookD_map {κ : Type} [DecidableEq κ] {k k' : κ} {x : α} : ∀ {l : List (κ × α)}, (l.any fun e => decide (e.1 = k)) = true → lookD (l.map fun e => if e.1 = k then (k, x) else e) k' = if k = k' then some x else lookD l k'
  | [], h => by simp at h
  | e :: r, h => by
    rw [List.map_cons, lookD_cons, lookD_cons]
    by_cases z : e.1 = k
    · rw [if_pos z]
      by_cases y : k = k'
      · rw [if_pos y, if_pos y]
      · rw [if_neg y, if_neg y, if_neg (fun w => y (z.symm.trans w))]
        by_cases h2 : (r.any fun e => decide (e.1 = k)) = true
        · rw [lookD_map h2, if_neg y]
        · have : (r.map fun e => if e.1 = k then (k, x) else e) = r := by
            conv => rhs; rw [← List.map_id r]
            refine List.map_congr_left fun e' he => ?_
            rw [if_neg (fun w => h2 (List.any_eq_true.mpr ⟨e', he, decide_eq_true w⟩))]
            rfl
          rw [this]
    · rw [if_neg z]
      have h2 : (r.any fun e => decide (e.1 = k)) = true := by
        rw [List.any_cons, decide_eq_false z, Bool.false_or] at h
        exact h
      rw [lookD_map h2]
      by_cases y : e.1 = k'
      · rw [if_pos y, if_neg (fun w => z (y.trans w.symm)), if_pos y]
      · rw [if_neg y, if_neg y]
theorem lookD_app {κ : Type} [DecidableEq κ] {k k' : κ} {x : α} : ∀ {l : List (κ × α)}, ¬ (l.any fun e => decide (e.1 = k)) = true → lookD (l ++ [(k, x)]) k' = if k = k' then some x else lookD l k'
  | [], _ => by
    rw [List.nil_append, lookD_cons]
  | e :: r, h => by
    rw [List.any_cons, Bool.or_eq_true, not_or] at h
    have z : ¬ e.1 = k := fun w => h.1 (decide_eq_true w)
    rw [List.cons_append, lookD_cons, lookD_cons, lookD_app h.2]
    by_cases y : e.1 = k'
    · rw [if_pos y, if_neg (fun w => z (y.trans w.symm)), if_pos y]
    · rw [if_neg y, if_neg y]
theorem lookD_put {κ : Type} [DecidableEq κ] {l : List (κ × α)} {k k' : κ} {x : α} : lookD (putD l k x) k' = if k = k' then some x else lookD l k' := by
  unfold putD
  by_cases h : (l.any fun e => decide (e.1 = k)) = true
  · rw [if_pos h, lookD_map h]
  · rw [if_neg h, lookD_app h]
end
end RP
namespace RP
open PySem PySem.Spec PyProof.Rows L2
/-- the scope of a block within a def, as a block within it sees it -/
def rlb (sc scp : Scope) : Scope := { scp with names := scp.names.map fun (n, k) => if (k == .free && sc.kind == .function && sc.names.lookup n == some .cell) then (n, .cell) else (n, k) }
theorem blkOk_nest {N : List Str} {scpO scp : Scope} {own : List (Str × Nat)} {cl : List (Str × Addr)} {C : Addr} {env : Env} (h : blkC N (rlb env.scope scpO) scp own = true) : BlkOk N (compEnvC scpO cl C env).scope scp own := blkOk_by h
end RP
namespace RP
open PySem PySem.Spec PyProof.Rows L2
section
variable {Ps : Tbs} {B : Bs} {M : Mu} {G : Gm} {K : PySem.W.Frag} {ta : TA} {Ra Rb : VRel} {D : L2.Ends} {k : L2.St → Hp → Prop}
theorem Nx.tpar {i j : Nat} (h : Ea Ps G M ta [Ra, Rb]) (k : Nx Ps B ((G.set i (some Ra)).set j (some Rb)) M D.nx) : Nx Ps B G M (L2.tPar i j ta D) := fun σ F H s => h σ F H _ s.en s.sh fun vs F1 H1 e1 r1 => by
  obtain ⟨v, w, rfl, h1, h2⟩ := rs2 r1
  have s1 := s.evo e1
  exact ⟨v, w, rfl, k _ F1 H1 (s1.env ((s1.en.set h1).set h2))⟩
/-- a slot's value is named -/
theorem Nx.exi {α : Type} [Rp α] {i : Nat} {p : α → Prop} (h : G[i]? = some (some (Exi K p))) (nx : ∀ x, p x → Nx Ps B (G.set i (some (Is K x))) M k) : Nx Ps B G M k := fun σ F H s => by
  obtain ⟨v, hv, x, px, r⟩ := s.en.2 i _ h
  refine nx x px σ F H (s.env ⟨by rw [List.length_set]; exact s.en.1, fun j R e => ?_⟩)
  by_cases z : i = j
  · subst z
    have hl : i < G.length := (List.getElem?_eq_some_iff.mp h).1
    rw [List.getElem?_set_self hl] at e
    cases e
    exact ⟨v, hv, r⟩
  · rw [List.getElem?_set_ne z] at e
    exact s.en.2 j R e
end
end RP
namespace RP
open PySem PySem.Spec PyProof.Rows L2
open Rp (rp)
section
variable {Ps : Tbs} {M : Mu} {G : Gm} {K : PySem.W.Frag} {κ α : Type} [Ky κ] [Rp κ] [KyR κ] [DecidableEq κ] [Rp α] {F H : Hp} {σ : L2.St}
/-- {} told at once -/
theorem Ev.dnewZ : Ev Ps G M tDNewK (Is K (Dc.mk ([] : List (κ × α)))) := fun σ F H Q e s q => fun p hp => q _ _ _ (Evo.newD s (K := K) (κ := κ) (α := α) (kv := []) (xs := []) .nil hp).1 (Evo.newD s (K := K) (κ := κ) (α := α) (kv := []) (xs := []) .nil hp).2
def EvP (Ps : Tbs) (G : Gm) (M : Mu) (K : PySem.W.Frag) : List (TE × TE) → List (κ × α) → Prop
  | [], [] => True
  | (tk, tv) :: r, (k, v) :: l => Ev Ps G M tk (Is K k) ∧ Ev Ps G M tv (Is K v) ∧ EvP Ps G M K r l
  | _, _ => False
theorem EvP.run {p : Addr} (nP : p ∉ tk Ps) (nM : p ∉ M.map (·.1)) : ∀ {trs : List (TE × TE)} {l : List (κ × α)} {F H : Hp} {Q : List (V × V) → Hp → Prop}, EvP Ps G M K trs l → EnvOk F σ G → Sh Ps M F H → F p = none → H p = some (.dK []) →
    (∀ kvs F' H', Evo Ps M F H F' H' → F' p = none → H' p = some (.dK []) → Kvs K F' kvs l → Q (kvs.map fun kv => (kV kv.1, kv.2)) H') → tPairs trs σ H Q
  | [], [], F, H, Q, _, e, s, nF, hp, q => q [] F H s.refl nF hp .nil
  | (tk, tv) :: r, (k, v) :: l, F, H, Q, ⟨h1, h2, h3⟩, e, s, nF, hp, q => by
    have stay : ∀ {F2 H2 F3 H3 : Hp}, Evo Ps M F2 H2 F3 H3 → F2 p = none → H2 p = some (.dK []) → F3 p = none ∧ H3 p = some (.dK []) := fun {F2 H2 F3 H3} ev n h => by
      refine ⟨?_, ev.keep p _ h nP nM⟩
      cases z : F3 p with
      | none => rfl
      | some o =>
        rcases ev.nw p o z with y | y
        · rw [n] at y; cases y
        · rw [h] at y; cases y
    refine h1 σ F H _ e s fun x F1 H1 e1 r1 => ?_
    obtain ⟨n1, p1⟩ := stay e1 nF hp
    refine h2 σ F1 H1 _ (e.mono e1.le) (s.evo e1) fun y F2 H2 e2 r2 => ?_
    obtain ⟨n2, p2⟩ := stay e2 n1 p1
    refine EvP.run nP nM h3 ((e.mono e1.le).mono e2.le) ((s.evo e1).evo e2) n2 p2 fun kvs F' H' e' n' p' kk => ?_
    have ek : x = kV (Ky.key k) := (KyR.r ..).mp r1
    have hq := q ((Ky.key k, y) :: kvs) F' H' ((e1.trans e2).trans e') n' p' (.cons ⟨rfl, Rp.mono K _ _ _ _ e'.le r2⟩ kk)
    rw [List.map_cons] at hq
    rw [ek]
    exact hq
theorem Ev.disp {trs : List (TE × TE)} {l : List (κ × α)} (h : EvP Ps G M K trs l) (hl : l.length ≤ 15) : Ev Ps G M (tDisp trs) (Is K (Dc.mk (mergeD l))) := fun σ F H Q e s q => fun p hp => by
  have e0 := s.new0 (o := .dK []) hp
  have nP := s.tb.not hp
  have nM : p ∉ M.map (·.1) := fun h => by
    obtain ⟨x, hx, rfl⟩ := List.mem_map.mp h
    obtain ⟨o, h1, _⟩ := s.mu x hx
    rw [hp] at h1
    cases h1
  refine EvP.run nP nM h e (s.evo e0) (s.new_none hp) upd_same fun kvs F' H' ev nF hd kk => ?_
  have ln := Paired.length kk
  refine ⟨hd, kvs, rfl, by omega, ?_⟩
  have mk : Kvs K F' (mergeK [] kvs) (mergeD l) := by
    have : ∀ (l : List (κ × α)) (kvs : List (Key × V)) (acc : List (κ × α)) (ak : List (Key × V)), Kvs K F' kvs l → Kvs K F' ak acc → Kvs K F' (mergeK ak kvs) (l.foldl (fun acc e => putD acc e.1 e.2) acc) := by
      intro l
      induction l with
      | nil => intro kvs acc ak h1 h2; cases h1; exact h2
      | cons a r ih =>
        intro kvs acc ak h1 h2
        cases h1 with
        | @cons b _ bs _ hb ht =>
          refine ih bs _ _ ht ?_
          show Kvs K F' (putK ak b.1 b.2) (putD acc a.1 a.2)
          rw [hb.1]
          exact h2.put hb.2
    exact this l kvs [] [] kk .nil
  have ev2 := (e0.trans ev).wr (o := .dK (mergeK [] kvs)) hp nP nM nF (by rw [hd]; exact fun φ z => nomatch z)
  refine q _ _ _ (ev2.frz hp nF upd_same) ⟨p, _, rfl, upd_same, mk.mono fun a o h => by rw [upd_ne (ne_of_none h nF)]; exact h⟩
end
end RP

-- RQa
set_option maxRecDepth 100000
set_option maxHeartbeats 4000000
namespace RP
open PySem PySem.Spec PyProof.Rows L2
section
variable {α β : Type} [Rp α] [Rp β] {Ps : Tbs} {M : Mu} {G : Gm} {K : PySem.W.Frag} {te : TE} {R : VRel}
theorem o2_fst {x : α × β} : O2 Ps M (rIxT K) (Is K x) (Is K (0 : Int)) (Is K x.1) := fun F H v w Q s ⟨a, u, y, e, h, p1, p2⟩ b q => by
  subst e
  cases b
  exact ⟨a, _, 0, u, rfl, rfl, SqT.of (s.sub.tup h), rfl, q u F H s.refl p1⟩
theorem o2_snd {x : α × β} : O2 Ps M (rIxT K) (Is K x) (Is K (1 : Int)) (Is K x.2) := fun F H v w Q s ⟨a, u, y, e, h, p1, p2⟩ b q => by
  subst e
  cases b
  exact ⟨a, _, 1, y, rfl, rfl, SqT.of (s.sub.tup h), rfl, q y F H s.refl p2⟩
theorem Ev.ofSome {x : α} {o : Option α} (h : Ev Ps G M te (Is K o)) (e : o = Option.some x) : Ev Ps G M te (Is K x) := by
  subst e
  exact h
theorem any_eq {xs : List α} {f : α → Bool} : (if (xs.filter fun _ => true).any (fun x => f x == !false) = true then !false else false) = xs.any f := by
  rw [List.filter_eq_self.mpr fun _ _ => rfl]
  have e : (fun x => f x == !false) = f := funext fun x => by cases f x <;> rfl
  rw [e]
  cases xs.any f <;> rfl
theorem all_eq {xs : List α} {f : α → Bool} : (if (xs.filter fun _ => true).any (fun x => f x == !true) = true then !true else true) = xs.all f := by
  rw [List.filter_eq_self.mpr fun _ _ => rfl]
  cases h : xs.all f with
  | true =>
    rw [if_neg]
    rw [List.any_eq_true]
    rintro ⟨x, hx, hf⟩
    have := List.all_eq_true.mp h x hx
    rw [this] at hf
    cases hf
  | false =>
    rw [if_pos]
    · rfl
    · obtain ⟨x, hx, hf⟩ := List.all_eq_false.mp h
      rw [List.any_eq_true]
      exact ⟨x, hx, by simpa using hf⟩
end
end RP

-- D01K
set_option maxRecDepth 100000
set_option maxHeartbeats 4000000
namespace K01
open PySem PySem.Spec PyProof.Rows L2 BG
open RP hiding Tb
open SkE (pmk_own1)
open SSt
section
variable {P : Program} {w : World} {K : PySem.W.Frag} {mg : Str → Option Value} {base : Heap} {Bp Br : Addr} {Ps : Tbs}
/-! check_folder: slots table=0 found=1 path=2 -/
abbrev s_check_folder : Stmt := topS 14
abbrev Ncf : List Str := ["table", "found", "path"]
theorem sc_check_folder : FnScope Ncf ["table"] (defScope s_check_folder) := ⟨rfl, rfl, rfl, by decide +kernel, rfl, by decide +kernel, by decide +kernel⟩
theorem gs_check_folder : GX.GScp Ncf (defScope s_check_folder) { kind := ScopeKind.function, names := [(".0", NameKind.local), ("over", NameKind.local), ("found", NameKind.free)], isGenerator := true, isCoroutine := false } ["over", "found"] [none, some 1] := GX.gsc_by (by decide +kernel)
abbrev Fold := List (Str × Str)
abbrev kys (l : Fold) : List Str := l.map (·.1)
def getF (l : Fold) (p : Str) : Str := (lookD l p).getD ""
def sortF (l : Fold) : Fold := (ss (kys l)).map fun p => (p, getF l p)
def overIn (l : Fold) (p : Str) : Bool := (oversL p).any fun o => decide (o ∈ kys l)
def okFold (l : Fold) : Bool := (kys l).all okPath && (kys l).all fun p => !overIn l p
def SmD (l : Fold) : Prop := l.length < 64 ∧ (kys l).Nodup ∧ ∀ p ∈ kys l, SmP p ∧ SmO p
theorem look_mem {l : Fold} {p : Str} (h : p ∈ kys l) : ∃ x, lookD l p = some x := by
  unfold lookD
  cases e : l.find? (fun e => decide (e.1 = p)) with
  | some e => exact ⟨_, rfl⟩
  | none =>
    obtain ⟨e', he, rfl⟩ := List.mem_map.mp h
    have := List.find?_eq_none.mp e e' he
    simp at this
theorem look_iff {l : Fold} {p : Str} : (lookD l p).isSome = decide (p ∈ kys l) := by
  by_cases h : p ∈ kys l
  · obtain ⟨x, hx⟩ := look_mem h
    rw [hx, decide_eq_true h]
    rfl
  · rw [decide_eq_false h]
    cases e : lookD l p with
    | none => rfl
    | some x =>
      unfold lookD at e
      obtain ⟨y, hy, rfl⟩ := Option.map_eq_some_iff.mp e
      have h1 := List.mem_of_find?_eq_some hy
      have h2 := List.find?_some hy
      exact absurd (List.mem_map.mpr ⟨y, h1, of_decide_eq_true h2⟩) h
theorem kys_sort (l : Fold) : kys (sortF l) = ss (kys l) := by
  unfold kys sortF
  rw [List.map_map]
  show List.map (fun p => p) _ = _
  rw [List.map_id']
theorem merge_sort {l : Fold} (h : (kys l).Nodup) : mergeD ((ss (kys l)).map fun p => (p, getF l p)) = sortF l := mergeD_nodup (by
  show (kys (sortF l)).Nodup
  rw [kys_sort]
  exact (ss_perm _).nodup_iff.mpr h)
theorem over_sort {l : Fold} {p : Str} : overIn (sortF l) p = overIn l p := by
  unfold overIn
  refine congrArg (fun f => List.any (oversL p) f) (funext fun o => decide_eq_decide.mpr ?_)
  rw [kys_sort]
  exact ss_mem
abbrev sp_check_folder (Ps : Tbs) (K : PySem.W.Frag) (Bp : Addr) : Sp := Spo (γ := Fold) Ps (fun l => [Is K (Dc.mk l)]) SmD (fun l => DicM K (sortF l)) (fun l => if okFold l = true then none else some Bp)
theorem ok_check_folder {f g1 g2 cc pp : Addr} {fd fd1 fd2 : FuncData} {k k1 k2 : Nat} (Fn : BG.FunC K "check_folder" "check_folder" s_check_folder f fd cc) (TB : GxR.TabB base mg cc pp) (hpp : (pp, none) ∈ Ps) (un : ∀ e ∈ Ps, e.1 = pp → e.2 = none) (X : Exn K mg "BadPath" Bp)
    (G1 : Cal P w K mg base (L2.CX P w) k1 "check_path" ["path"] (sp_check_path Ps K Bp) g1 fd1) (G2 : Cal P w K mg base (L2.CX P w) k2 "overs_of" ["path"] (sp_overs_of Ps K) g2 fd2) (h1 : k1 ≤ k) (h2 : k2 ≤ k) (z_any : mg "any" = none) (z_sorted : mg "sorted" = none) : FnOk P w K mg base (L2.CX P w) (k + 2) f fd ["table"] (sp_check_folder Ps K Bp) := by
  refine BG.FunC.okPo Fn sc_check_folder (fun _ => rfl) fun A outer s H0 E hr0 => ?_
  have hr : Room k (A.deeper (envOfC "check_folder" (defScope s_check_folder) s.heap.objs.size f (.ref cc))) := hr0.mono (by omega)
  have hu := hr.units
  have hu1 : (A.deeper (envOfC "check_folder" (defScope s_check_folder) s.heap.objs.size f (.ref cc))).units + 1 < cLine := by omega
  refine ⟨_, (pss_cons (ps_set (i := 1) sc_check_folder.nd rfl (.inr rfl) (CXR.pe_dcX (E0 := E) (own := [("path", 2)]) (takes_of rfl rfl rfl rfl) (fun _ _ _ _ h => h) rfl rfl rfl sc_check_folder.nd (pi_list (pe_callB (call_sortedD rfl) (by rfl) z_sorted (by decide +kernel) (pa_cons (pv 0) pa_nil))) (blkOk_by (by show blkC Ncf (defScope s_check_folder) _ _ = true; decide +kernel)) (fun _ _ _ _ _ => (pg_name (i := 2) sc_check_folder.nd rfl (.inl rfl))) (fun _ _ _ _ _ => pts_nil)
      (fun _ _ _ _ _ _ px => (pe_call G1.ok (hr.mono h1) (by rfl) G1.g G1.kp G1.b .nil px (pa_cons (pv 2) pa_nil))) (fun _ _ _ _ _ _ px => (pe_dget hu1 (pv 0) (pv 2) (fun _ _ => rfl)))))
    (pss_cons (ps_lock (ps_for (passes_of rfl) rfl (pi_keys (pv 1)) (pg_name (i := 2) sc_check_folder.nd rfl (.inl rfl))
      (pss_one (ps_if (pt_val (GX.pe_anyG (k := k) (Ng := ["over", "found"]) (ix := [none, some 1]) (vs := [0]) hr0 (by rfl) z_any TB rfl gs_check_folder (pi_tup (pe_call G2.ok (hr.mono h2) (by rfl) G2.g G2.kp G2.b .nil passF (pa_cons (pv 2) pa_nil))) (fun _ _ _ _ _ _ _ => (pg_name (i := 0) gs_check_folder.nd rfl (.inl rfl))) (fun _ _ _ _ _ _ _ hr => pts_nil) (fun _ _ _ _ _ _ _ hr => (pe_cmp (pc_din (by exact room_u (hr _)) (pv 0) (pv 1)) rfl))))
      (pss_one (ps_raise rfl (takes_of rfl rfl rfl rfl) (pmk_own1 PySem.F.excBase_ValueError X.e X.g X.k (raises_own X.b X.t) (by rfl) (pe_joined (.cons pe_str (.cons (pe_fmtR (pv 2)) .nil)))))) pss_nil))))
    (pss_one (ps_ret (pv 1))))), fun l B D hB pre hrt hx => ?_⟩
  obtain ⟨pl, pn, pk⟩ := pre
  have pl : l.length < 64 := pl
  have ln : (ss (kys l)).length ≤ 100000 := by
    rw [(ss_perm (kys l)).length_eq, List.length_map]
    omega
  have srt : ∀ x ∈ ss (kys l), x ∈ kys l := fun x hx => ss_mem.mp hx
  have hi : Ei Ps (startG Ncf [Is K (Dc.mk l)]) [] [] (iList K (tCB _ (tCons (tVar 0) tNil))) (ss (kys l)).length (Nth K (ss (kys l))) := Ei.list (Ev.exiIs (Ev.cb (Ea.cons (Ev.var rfl) Ea.nil) (oc_sortD (Ds.fz (l := Dc.mk l)) pl)) fun ys h => eq_ssS h.1 h.2)
  have hk : ∀ x ∈ ss (kys l), okPath x = true → Ev Ps ((wipeG (startG Ncf [Is K (Dc.mk l)]) [2]).set 2 (some (Is K x))) [] (tCall (sp_check_path Ps K Bp) [] E (tCons (tVar 2) tNil)) (Is K x) ∧ Ev Ps ((wipeG (startG Ncf [Is K (Dc.mk l)]) [2]).set 2 (some (Is K x))) [] (tDGet (tVar 0) (tVar 2)) (Is K (getF l x)) := fun x hx ok => by
    refine ⟨Ev.callx (M := []) (fun _ h => nomatch h) x (Ea.cons (Ev.var rfl) Ea.nil) (pk x (srt x hx)).1 (if_pos ok), ?_⟩
    obtain ⟨v, hv⟩ := look_mem (srt x hx)
    refine (Ev.dget (Ev.var rfl) (Ds.fz (l := Dc.mk l)) (Ev.var rfl) hv).to ?_
    unfold getF
    rw [hv]
    rfl
  by_cases ok1 : (kys l).all okPath = true
  · have al : ∀ x ∈ ss (kys l), okPath x = true := fun x hx => List.all_eq_true.mp ok1 x (srt x hx)
    refine Nx.seq (Nx.setS (EvS.dc (K := K) (L := []) (sl := [2]) (p := fun _ => true) (kf := fun x => x) (vf := getF l) hi (fun _ h => nomatch h) ln (fun x => _) (fun x _ => Eg.name) (fun k hk => hk) (fun x _ => Et.yes) (fun x hx _ => (hk x hx (al x hx)).1) (fun x hx _ => (hk x hx (al x hx)).2)) fun R1 M1 e1 => ?_)
    obtain ⟨d, rfl, rfl⟩ := e1
    rw [List.filter_eq_self.mpr fun _ _ => rfl, merge_sort pn]
    dsimp only
    refine Nx.seq (Nx.lockS (κ := Str) (α := Str) (K := K) (j := 0) (d := d) (l := sortF l) rfl fun od kv D' back => ?_)
    have hmM : (d, LkD K (sortF l) od kv) ∈ [(d, LkD K (sortF l) od kv)] := List.mem_singleton.mpr rfl
    have own : ∀ e ∈ [(d, LkD K (sortF l) od kv)], e.2.own = true := fun e he => by
      rw [List.mem_singleton.mp he]
      rfl
    refine Nx.for0 (γ := Str) (δ := Unit) (Ei.keysD (K := K) (Ev.var rfl) hmM) (fun i _ => ∀ p ∈ (kys (sortF l)).take i, overIn l p = false) (fun _ _ => [some (Is K (Dc.mk l)), some (At d), none]) (fun _ _ => [(d, LkD K (sortF l) od kv)]) (fun _ _ _ e he => he) (fun i x => (kys (sortF l))[i]? = some x) (fun _ x => Is K x) (fun i _ F v r => r) () (fun p h => by simp at h) GLe.refl rfl _ (fun i c x _ _ _ => Eg.name) (fun B' ble i c x hlt iv px N hN => ?_) fun _ iv => ?_
    · have hmem : x ∈ kys l := by
        have := List.mem_of_getElem? px
        rw [kys_sort] at this
        exact srt x this
      obtain ⟨⟨q1, q2, q3⟩, q4⟩ := pk x hmem
      refine Nx.ite (P := fun b => b = overIn l x) (Et.isB ((Ev.quant (K := K) (q := false) (L := []) (sl := [0]) (xs := oversL x) (p := fun _ => true) (f := fun o => (lookD (sortF l) o).isSome) hpp un (Ei.tup (xs := Tl.mk (oversL x)) (Ev.callx own x (Ea.cons (Ev.var rfl) Ea.nil) q4 rfl)) (fun _ h => nomatch h) (fun o => _) (fun o _ => Eg.name) (fun k hk => hk) (fun o _ => Et.yes) (fun o ho _ => Ev.din (Ev.var (R := Is K o) rfl) (Ev.var (R := At d) rfl) (Ds.lkd hmM))).to ?_)) (fun hb => ?_) (fun hb => ?_)
      · rw [any_eq, ← over_sort (l := l)]
        unfold overIn
        exact congrArg (fun f => List.any (oversL x) f) (funext fun o => look_iff)
      · refine Nx.raiseM (ts := [tC (.str "a text within a text: "), tFmtR (tVar 2)]) ⟨⟨1000, by decide, Ev.strN (by decide +kernel)⟩, ⟨1000, by decide, Ev.fmtR (K := K) (Ev.var rfl) q2 (by decide)⟩, trivial⟩ (by show 1000 * 2 ≤ 99000; decide) fun σ F H sa => ?_
        refine hx Bp (if_neg fun z => ?_) _ _ _ _ _ own (ble _ _ _ _ _ sa)
        unfold okFold at z
        have := List.all_eq_true.mp (Bool.and_eq_true _ _ ▸ z).2 x hmem
        rw [← hb] at this
        cases this
      · refine (hN () fun p hp => ?_).gle (by (repeat' (first | exact RP.GLe.nil | apply RP.GLe.keep | apply RP.GLe.drop)))
        rw [List.take_add_one, px] at hp
        rcases List.mem_append.mp hp with hp | hp
        · exact iv p hp
        · have : p = x := by simpa using hp
          rw [this]
          exact hb.symm
    · rw [List.take_of_length_le (Nat.le_refl _)] at iv
      have he : (if okFold l = true then none else some Bp) = none := if_pos (by
        unfold okFold
        rw [ok1, Bool.true_and, List.all_eq_true]
        intro p hp
        rw [iv p (by show p ∈ kys (sortF l); rw [kys_sort]; exact ss_mem.mpr hp)]
        rfl)
      refine back _ _ rfl ?_
      refine Nx.ret (R := At d) (Ev.var rfl) fun v σ F H sa r => ?_
      cases r
      refine hrt he d _ _ _ _ _ (fun e he => ?_) sa (List.mem_singleton.mpr rfl)
      rw [List.mem_singleton.mp he]
      rfl
  · have he : (if okFold l = true then none else some Bp) = some Bp := if_neg fun z => by
      unfold okFold at z
      exact ok1 (Bool.and_eq_true _ _ ▸ z).1
    refine Nx.seq (Nx.asgR (E := E) (a := Bp) (EvR.dc (K := K) (L := []) (sl := [2]) (p := fun _ => true) (kf := fun x => x) (vf := getF l) hi (fun _ h => nomatch h) ln (fun x => _) okPath (fun x _ => Eg.name) (fun k hk => hk) (fun x _ => Et.yes) (fun x hx _ ok => hk x hx ok) (fun x hx _ bad => EvR.callx (M := []) (fun _ h => nomatch h) x (Ea.cons (Ev.var rfl) Ea.nil) (pk x (srt x hx)).1 (if_neg (by rw [bad]; exact Bool.false_ne_true))) fun z => ok1 (List.all_eq_true.mpr fun x hx => z x (ss_mem.mpr hx) rfl)) fun σ F H sa => ?_)
    exact hx Bp he _ [] _ _ _ (fun _ h => nomatch h) sa
end
end K01

-- D01P
set_option maxRecDepth 100000
set_option maxHeartbeats 4000000
namespace K01
open PySem PySem.Spec PyProof.Rows L2 BG
open RP hiding Tb
open SSt
section
variable {P : Program} {w : World} {K : PySem.W.Frag} {mg : Str → Option Value} {base : Heap} {Bp : Addr} {Ps : Tbs}
theorem len_sort (l : Fold) : (kys (sortF l)).length = l.length := by
  rw [kys_sort, (ss_perm (kys l)).length_eq, List.length_map]
theorem mem_sort {l : Fold} {p : Str} : p ∈ kys (sortF l) ↔ p ∈ kys l := by
  rw [kys_sort]
  exact ss_mem
theorem get_sort {l : Fold} {x : Str} (h : x ∈ kys (sortF l)) : lookD (sortF l) x = some (getF (sortF l) x) := by
  obtain ⟨y, hy⟩ := look_mem h
  unfold getF
  rw [hy]
  rfl
/-! part_of: slots table=0 over=1 found=2 head=3 path=4 -/
abbrev s_part_of : Stmt := topS 17
abbrev Npo : List Str := ["table", "over", "found", "head", "path"]
theorem sc_part_of : FnScope Npo ["table", "over"] (defScope s_part_of) := ⟨rfl, rfl, rfl, by decide +kernel, rfl, by decide +kernel, by decide +kernel⟩
def headP (over : Str) : Str := if over = "" then "" else over ++ "/"
def partF (l : Fold) (over : Str) : Fold := mergeD (((kys (sortF l)).filter fun p => Txt.startswith p (headP over)).map fun p => (cutS p (some ((headP over).length : Int)) none, getF (sortF l) p))
def SmPt (c : Fold × Str) : Prop := SmD c.1 ∧ c.2.length ≤ 1000
abbrev sp_part_of (Ps : Tbs) (K : PySem.W.Frag) (Bp : Addr) : Sp := Spo (γ := Fold × Str) Ps (fun c => [Is K (Dc.mk c.1), Is K c.2]) SmPt (fun c => DicM K (partF c.1 c.2)) (fun c => if okFold c.1 = true then none else some Bp)
theorem ok_part_of {f g1 : Addr} {fd fd1 : FuncData} {k k1 : Nat} (Fn : Fun K "part_of" "part_of" s_part_of f fd)
    (G1 : Cal P w K mg base (L2.CX P w) k1 "check_folder" ["table"] (sp_check_folder Ps K Bp) g1 fd1) (h1 : k1 ≤ k) (z_len : mg "len" = none) : FnOk P w K mg base (L2.CX P w) (k + 1) f fd ["table", "over"] (sp_part_of Ps K Bp) := by
  refine Fun.okPo Fn sc_part_of (fun _ => rfl) fun cdv A outer s H0 E hr => ?_
  have hu := hr.units
  have hu1 : (A.deeper (envOfC "part_of" (defScope s_part_of) s.heap.objs.size f cdv)).units + 1 < cLine := by omega
  refine ⟨_, (pss_cons (ps_set (i := 2) sc_part_of.nd rfl (.inr rfl) (pe_call G1.ok (hr.mono h1) (by rfl) G1.g G1.kp G1.b .nil (passes_call (takes_of rfl rfl rfl rfl) (fun _ _ _ _ h => h)) (pa_cons (pv 0) pa_nil)))
    (pss_cons (ps_set (i := 3) sc_part_of.nd rfl (.inr rfl) (pe_ifExp (pt_cmpR op_ne (pv 1) pe_str (nomark _)) (pe_op op_add_str (pv 1) pe_str) pe_str))
    (pss_one (ps_ret (L2.pe_lock (pe_dc (own := [("path", 4)]) rfl sc_part_of.nd (pi_keys (pv 2)) (blkOk_by (by show blkC Npo (defScope s_part_of) _ _ = true; decide +kernel)) (fun _ _ _ _ _ => (pg_name (i := 4) sc_part_of.nd rfl (.inl rfl))) (fun _ _ _ _ _ => (pts_one (pt_val (pe_m1 F.slot_str_startswith F.type_str_startswith mt_startswith (pv 4) (pv 3))))) (fun _ _ _ _ _ => (pe_slice sl_str (pv 4) (po_some (pe_callB call_len_str (by rfl) z_len (by decide +kernel) (pa_cons (pv 3) pa_nil))) po_none)) (fun _ _ _ _ _ => (pe_dget hu1 (pv 2) (pv 4) (fun _ _ => rfl))))))))), fun c B D hB pre hrt hx => ?_⟩
  obtain ⟨l, over⟩ := c
  obtain ⟨pl, po⟩ := pre
  by_cases ok1 : okFold l = true
  · refine Nx.seq (Nx.setS (EvS.callo (M := []) (fun _ h => nomatch h) l (Ea.cons (Ev.var rfl) Ea.nil) pl (if_pos ok1)) fun R1 M1 e1 => ?_)
    obtain ⟨d, rfl, rfl⟩ := e1
    dsimp only
    have own : ∀ e ∈ [(d, DicM K (sortF l))], e.2.own = true := fun e he => by
      rw [List.mem_singleton.mp he]
      rfl
    have lh : (headP over).length ≤ 2000 := by
      unfold headP
      split
      · decide
      · rw [RP.Str.length_app]
        have : ("/" : Str).length = 1 := rfl
        have po : over.length ≤ 1000 := po
        omega
    refine Nx.seq (Nx.set (R := Is K (headP over)) (Ev.ite (Et.is (Ev.op (Ev.var (R := Is K over) rfl) (Ev.str (K := K)) o2_ne)) (fun h => ?_) (fun h => ?_)) ?_)
    · have ne : ¬ over = "" := by simpa using h.symm
      unfold headP
      rw [if_neg ne]
      refine Ev.op (Ev.var (R := Is K over) rfl) Ev.str (o2_addS ?_)
      have : ("/" : Str).length = 1 := rfl
      have po : over.length ≤ 1000 := po
      omega
    · have ne : over = "" := by simpa using h.symm
      unfold headP
      rw [if_pos ne]
      exact Ev.str
    have he : (if okFold l = true then none else some Bp) = none := if_pos ok1
    dsimp only
    refine Nx.retE (P := fun R M' => ∃ d2, R = At d2 ∧ M' = [(d2, DicM K (partF l over)), (d, DicM K (sortF l))]) (EvS.lockD (K := K) (j := 0) (j' := 1) (d := d) (l := sortF l) rfl fun od kv => ?_) fun R M' v σ F H p s r => ?_
    · have hmM : (d, LkD K (sortF l) od kv) ∈ [(d, LkD K (sortF l) od kv)] := List.mem_singleton.mpr rfl
      have h := EvS.dc (B := B) (K := K) (L := [(d, LkD K (sortF l) od kv)]) (M := [(d, LkD K (sortF l) od kv)]) (G := [some (Is K (Dc.mk l)), some (Is K over), some (At d), some (Is K (headP over)), none]) (Ps := Ps) (g := gName 4) (vs := [4]) (sl := [4]) (p := fun x => Txt.startswith x (headP over)) (kf := fun x => cutS x (some ((headP over).length : Int)) none) (vf := getF (sortF l)) (tt := tB (tM1 (fun x xs H Q => ∃ a b, x = .str a ∧ xs = [.str b] ∧ Q (.bl (Txt.startswith a b)) H) (tVar 4) (tVar 3))) (t1 := tSl rSlS (tVar 4) (tPart (tCB (fun xs H Q => ∃ z, xs = [.str z] ∧ z.length ≤ sizeLine ∧ Q (.int z.length) H) (tCons (tVar 3) tNil))) tNoPart) (t2 := tDGet (tVar 2) (tVar 4)) (xs := kys (sortF l)) (Ei.keysD (K := K) (td := tVar 2) (Ev.var rfl) hmM) (fun e he => he) ?_ (fun x => _) (fun x _ => Eg.name) (fun k hk => hk) (fun x hx => Et.isB (Ev.starts (Ev.var rfl) (Ev.var rfl))) (fun x hx _ => Ev.slS (Ev.var rfl) (Eo.some (Ev.cb (Ea.cons (Ev.var rfl) Ea.nil) (oc_lenS (by omega)))) Eo.none ?_) (fun x hx _ => Ev.dget (Ev.var rfl) (Ds.lkd hmM) (Ev.var rfl) (get_sort hx))
      · refine fun σ F H Q s q => h σ F H Q s fun R M' v F' H' p s' => q R M' v F' H' ?_ s'
        obtain ⟨d2, rfl, rfl⟩ := p
        exact ⟨rfl, d2, rfl, rfl⟩
      · have pl1 : l.length < 64 := pl.1
        rw [len_sort]
        omega
      · have := (pl.2.2 x (mem_sort.mp hx)).1.1
        omega
    · obtain ⟨d2, rfl, rfl⟩ := p
      cases r
      refine hrt he d2 _ _ _ _ _ (fun e he => ?_) s (List.mem_cons_self ..)
      simp only [List.mem_cons, List.not_mem_nil, or_false] at he
      rcases he with rfl | rfl <;> rfl
  · have he : (if okFold l = true then none else some Bp) = some Bp := if_neg ok1
    exact Nx.seq (Nx.asgR (E := E) (a := Bp) (EvR.callo (M := []) (fun _ h => nomatch h) l (Ea.cons (Ev.var rfl) Ea.nil) pl (if_neg ok1)) fun σ F H sa => hx Bp he _ [] _ _ _ (fun _ h => nomatch h) sa)
end
end K01

-- TX2
set_option maxRecDepth 100000
set_option maxHeartbeats 4000000
/-! sets of texts: a new one, adding what isn't there, walked to a sorted list, a comprehension of unlike texts -/
namespace TX
open PySem PySem.Spec PyProof.Rows L2 PySem.Froz
section
variable {P : Program} {w : World} {A : Around} {E : Value → Shared → Prop} {s : Shared} {a : Addr}
/-- the set of the unlike texts l at a, whole -/
structure Hold (P : Program) (w : World) (h : Heap) (a : Addr) (l : List Str) : Prop where
  at_ : ∃ D : SD, h.get? a = some (sObj "set" D) ∧ TxOk P w D l ∧ Ris D.2.2.place.toList ∧ (w.params.followText "set-order" = true ∨ D.2.2.led = true)
  un : l.Nodup
theorem rises0 {ep : Nat} {es : Array (Int × Value)} {t : SetTable} {b : Bool} (r : Ris t.place.toList) : Ris (tailTx ep es t b).2.2.place.toList := by
  unfold tailTx
  by_cases c : (!b && t.tooFull) = true
  · rw [if_pos c]
    exact relayAll_ris _ _ _
  · rw [if_neg c]
    exact r
theorem leads0 {ep : Nat} {es : Array (Int × Value)} {t : SetTable} {b : Bool} (r : t.led = true) : (tailTx ep es t b).2.2.led = true := by
  unfold tailTx
  by_cases c : (!b && t.tooFull) = true
  · rw [if_pos c]
    exact (relayAll_led _ _ _).trans r
  · rw [if_neg c]
    exact r
theorem rises {D : SD} {k : Str} {u : Tok} (r : Ris D.2.2.place.toList) : Ris (addTx (hashStr w k) (.str k u) D).2.2.place.toList := by
  obtain ⟨es, ep, t⟩ := D
  have r1 := layNew_ris t es (hashStr w k) (.str k u) r
  refine rises0 ?_
  show Ris (if (layNew t es (hashStr w k) (.str k u)).2.1.plain = true then { (layNew t es (hashStr w k) (.str k u)).2.1 with plain := false } else (layNew t es (hashStr w k) (.str k u)).2.1).place.toList
  split
  · exact r1
  · exact r1
theorem leads {D : SD} {k : Str} {u : Tok} (r : w.params.followText "set-order" = true ∨ D.2.2.led = true) : w.params.followText "set-order" = true ∨ (addTx (hashStr w k) (.str k u) D).2.2.led = true := by
  refine r.imp id fun r => ?_
  obtain ⟨es, ep, t⟩ := D
  have r1 := (layNew_led t es (hashStr w k) (.str k u)).trans r
  refine leads0 ?_
  show (if (layNew t es (hashStr w k) (.str k u)).2.1.plain = true then { (layNew t es (hashStr w k) (.str k u)).2.1 with plain := false } else (layNew t es (hashStr w k) (.str k u)).2.1).led = true
  split
  · exact r1
  · exact r1
theorem Hold.keep {h h' : Heap} {l : List Str} (q : Hold P w h a l) (k : ∀ o, h.get? a = some o → h'.get? a = some o) : Hold P w h' a l := by
  obtain ⟨D, e, r⟩ := q.at_
  exact ⟨⟨D, k _ e, r⟩, q.un⟩
theorem Hold.more {l : List Str} {k : Str} {u : Tok} {Q : Value → Shared → Prop} (q : Hold P w s.heap a l) (nk : k ∉ l) (few : l.length + 1 < scanBound)
    (go : ∀ h', Heap.SameBut a s.heap h' → Hold P w h' a (k :: l) → Q .none { s with heap := h', toks := s.toks + 1 }) : wpAny (model P w) A (call (.builtin "set.add") [.ref a, .str k u]) Q E s := by
  obtain ⟨D, ho, ok, ri, le⟩ := q.at_
  have ty : s.TypeIs (.ref a) "set" := ⟨_, ho, rfl⟩
  refine wpAny_call_entry F.slot_set_add ty F.entry_set_add ?_ (F.args_set_add_2 _ _)
  unfold Builtin.«set.add» Builtin.Frozenset.oneOther Builtin.Frozenset.addrOf setAdd
  simp only [List.isEmpty_nil, bind_assoc, pure_bind]
  generalize hS : setAddHashed = SA
  generalize hP : pyHash = PH
  wp_walk
  subst hS hP
  refine (strKind P w).pyHash (is_str k u) ?_
  refine add_x (s := { s with toks := s.toks + 1 }) ho ok nk few ?_
  exact wpAny_pure ⟨_, rfl, go _ (Heap.SameBut.update _ a _) ⟨⟨_, get_upd _ ho rfl, add_ok u ok, rises ri, leads le⟩, List.nodup_cons.mpr ⟨nk, q.un⟩⟩⟩
theorem Hold.bare (h : Heap) : Hold P w (h.push { cls := .type "set", dict := none, data := .set #[] 0 (.fresh 0 0 (!w.params.followText "set-order")) }) h.objs.size [] :=
  ⟨⟨(#[], 0, .fresh 0 0 (!w.params.followText "set-order")), Heap.get?_push_size _ rfl, TxOk.nil rfl, List.Pairwise.nil, by
    show _ ∨ (!w.params.followText "set-order") = true
    cases w.params.followText "set-order"
    · exact .inr rfl
    · exact .inl rfl⟩, List.nodup_nil⟩
/-- as a thing of the heap -/
def SetS (P : Program) (w : World) (a : Addr) (l : List Str) : HO := .ext fun h => Hold P w h a l
theorem setS_ok {H : Hp} {h : Heap} {l : List Str} (q : Hold P w h a l) : ObjOk P w H h a (SetS P w a l) :=
  ⟨q, by obtain ⟨D, e, _⟩ := q.at_; exact ⟨_, e⟩, fun h1 h2 q k => q.keep (k)⟩
theorem perm_len : ∀ {l m : List Str}, l.Nodup → (∀ x ∈ l, x ∈ m) → m.length = l.length → m.Perm l
  | [], m, _, _, h => by
    have : m = [] := List.length_eq_zero_iff.mp h
    rw [this]
  | x :: r, m, nd, s, h => by
    obtain ⟨n1, n2⟩ := List.nodup_cons.mp nd
    have hx := s x (List.mem_cons_self ..)
    have p := List.perm_cons_erase hx
    refine p.trans (List.Perm.cons x (perm_len n2 (fun y hy => ?_) ?_))
    · exact (List.mem_erase_of_ne (fun (z : y = x) => n1 (by rw [← z]; exact hy))).mpr (s y (List.mem_cons_of_mem _ hy))
    · have := p.length_eq
      rw [List.length_cons] at this h
      omega
/-- what a walk over it gives: its texts in some order -/
theorem Hold.texts {l : List Str} {D : SD} (ok : TxOk P w D l) (un : l.Nodup) : ∃ ks : List Str, ks.Perm l ∧ ∀ vs : List Value, vs.Perm (D.1.toList.map (·.2)) → ∃ ys : List Str, ys.Perm l ∧ Vals (ys.map V.str) vs := by
  have each : ∀ e ∈ D.1.toList, ∃ k u, e.2 = Value.str k u := fun e he => by
    obtain ⟨⟨k, h1, _⟩, _⟩ := ok.el e he
    obtain ⟨hh, v⟩ := e
    have h1 : Value.isStrOf k v = true := h1
    cases v <;> first
      | exact ⟨_, _, rfl⟩
      | exact absurd h1 Bool.false_ne_true
  let kf : Value → Str := fun v => match v with | .str k _ => k | _ => Str.empty
  have mem : ∀ k, k ∈ l ↔ k ∈ (D.1.toList.map (·.2)).map kf := fun k => by
    rw [ok.mem k]
    constructor
    · rintro ⟨e, he, z⟩
      obtain ⟨k2, u, e2⟩ := each e he
      refine List.mem_map.mpr ⟨e.2, List.mem_map.mpr ⟨e, he, rfl⟩, ?_⟩
      rw [e2] at z ⊢
      have z : Value.isStrOf k (.str k2 u) = true := z
      simpa [Value.isStrOf] using z
    · intro hk
      obtain ⟨v, hv, z⟩ := List.mem_map.mp hk
      obtain ⟨e, he, rfl⟩ := List.mem_map.mp hv
      obtain ⟨k2, u, e2⟩ := each e he
      refine ⟨e, he, ?_⟩
      rw [e2] at z ⊢
      have z : k2 = k := z
      rw [z]
      exact is_str k u
  have len : ((D.1.toList.map (·.2)).map kf).length = l.length := by
    rw [List.length_map, List.length_map, Array.length_toList]
    exact ok.sz
  have pm : ((D.1.toList.map (·.2)).map kf).Perm l := by
    exact perm_len un (fun k hk => (mem k).mp hk) len
  refine ⟨_, pm, fun vs hv => ⟨vs.map kf, (hv.map kf).trans pm, ?_⟩⟩
  have all : ∀ v ∈ vs, ∃ k u, v = Value.str k u := fun v hv' => by
    obtain ⟨e, he, rfl⟩ := List.mem_map.mp (hv.mem_iff.mp hv')
    exact each e he
  clear hv
  induction vs with
  | nil => exact .nil
  | cons v r ih =>
    obtain ⟨k, u, rfl⟩ := all v (List.mem_cons_self ..)
    exact .cons ⟨u, rfl⟩ (ih fun x hx => all x (List.mem_cons_of_mem _ hx))
end
end TX

-- TX3
set_option maxRecDepth 100000
set_option maxHeartbeats 4000000
namespace TX
open PySem PySem.Spec PyProof.Rows L2 PySem.Froz
section
variable {P : Program} {w : World} {A : Around} {E : Value → Shared → Prop} {s : Shared} {a : Addr}
/-- sorted(a set of texts) -/
theorem Hold.inOrder {l : List Str} {Q : Value → Shared → Prop} (q : Hold P w s.heap a l) (calm : A.handled = none) (few : l.length < 64)
    (go : ∀ (s' : Shared) (p : Addr) (out : Array Value) (c : Nat) (ys : List Str), (∀ b o, s.heap.get? b = some o → s'.heap.get? b = some o) → s'.gens = s.gens → s'.os = s.os → s.heap.objs.size ≤ p → s'.heap.get? p = some (seqObj "list" out c) → StrsAre out.toList ys → ys.Perm l → sortedS ys = true → Q (.ref p) s') :
    wpAny (model P w) A (call (.builtin "sorted") [.ref a]) Q E s := by
  obtain ⟨D, ho, ok, ri, le⟩ := q.at_
  obtain ⟨_, _, walk⟩ := Hold.texts ok q.un
  have fits : D.2.2.fits D.1.size = true := ok.fit
  have room : D.1.size < scanBound := by
    have := ok.sz
    have : 64 < scanBound := by decide
    omega
  refine Calls.call_function_entry kind_sorted plain_sorted entry_sorted (args_sorted1 _) ?_
  unfold Builtin.«sorted»
  refine wpAny_bind (m := checkCount "sorted" 1 1 _) (wpAny_pure ?_)
  refine wpAny_bind (collect_set (A := A.in1) calm ⟨_, ho, rfl, rfl⟩ fits room ri le fun s1 vs k1 hz g1 o1 pm => ?_)
  obtain ⟨ys0, pm0, vals⟩ := walk vs pm
  have lenV : vs.length = l.length := by rw [← vals.length, List.length_map, pm0.length_eq]
  refine wpAny_bind (wpAny_newList ?_ (by rw [lenV, sizeLine_eq]; omega))
  have hoL : (s1.heap.push (seqObj "list" vs.toArray 0)).get? s1.heap.objs.size = some (seqObj "list" vs.toArray 0) := Heap.get?_push_size _ rfl
  have tx : StrsAre vs ys0 := vals.strs
  refine wpAny_bind (wpAny_holding (wpAny_call_entry slot_list_sort ⟨_, hoL, rfl⟩ entry_list_sort (list_sort_treeK strKind_oneLt hoL tx.keysOf (fun v1 v2 rest e => keyKind_strs (by rw [← e]; exact tx)) (by rw [lenV]; exact few) fun st' hp hs => ⟨_, rfl, ?_⟩) (args_list_sort _)))
  obtain ⟨ys, g3, g4, g5⟩ := sorted_out_str tx hp hs
  obtain ⟨c, hc⟩ := sortedHeap_at (vs := vs) (out := (arrOf st').map (·.2)) hoL
  refine wpAny_pure ⟨_, rfl, go _ s1.heap.objs.size _ c ys (fun b u e => ?_) g1 o1 hz hc g3 (g4.trans pm0) g5⟩
  have q1 := k1 b u e
  have lt := Heap.lt_size q1
  show (sortedHeap (s1.heap.push (seqObj "list" vs.toArray 0)) s1.heap.objs.size vs ((arrOf st').map (·.2))).get? b = some u
  rw [sortedHeap_old (Nat.ne_of_lt lt) (by rw [size_push']; exact Nat.lt_succ_of_lt lt)]
  exact Heap.get?_push_of_some _ q1
end
end TX

-- TX4
set_option maxRecDepth 100000
set_option maxHeartbeats 4000000
namespace TX
open PySem PySem.Spec PyProof.Rows L2 PySem.Froz PpSet
section
variable {X : Cx}
theorem setS_get {pins : List (Addr × Obj)} {σ : L2.St} {H : Hp} {s : Shared} {a : Addr} {l : List Str} (I : Inv X pins σ H s) (ha : H a = some (SetS X.prog X.w a l)) : TX.Hold X.prog X.w s.heap a l := (I.hok a _ ha).1
def rSortedSetS (P : Program) (w : World) : List V → Hp → VK → Prop := fun vs H Q => ∃ (a : Addr) (l : List Str), vs = [V.ref a] ∧ H a = some (SetS P w a l) ∧ l.length < 64 ∧ ∀ (ys : List Str) (p : Addr), ys.Perm l → sortedS ys = true → H p = none → Q (.ref p) (upd H p (.lst (ys.map V.str)))
theorem cr_sortedSetS (hc : X.calm = true) : CallR X (.builtin "sorted") (rSortedSetS X.prog X.w) := by
  intro pins s σ H vs us Q I r h
  obtain ⟨a, l, rfl, ha, few, q⟩ := h
  rw [Vals.ref1 r]
  refine TX.Hold.inOrder (setS_get I ha) (I.ok.hd hc) few fun s' p out c ys k g o hp hg hi pm so => ?_
  have hn : H p = none := I.hok.fresh hp
  have ln : (ys.map V.str).length ≤ sizeLine := by rw [List.length_map, pm.length_eq, sizeLine_eq]; omega
  have J : Inv X pins σ (upd H p (.lst (ys.map V.str))) { s with heap := s'.heap, gens := s'.gens, drawn := s'.drawn, toks := s'.toks } := I.call (ch := []) (Un.laid k hp hn) (I.hok.laid k hp ⟨ln, out.toList, c, vals_of_strs hi, hg⟩) (by rw [g]; exact I.bare) (fun _ z => nomatch z)
  have e : s' = { s with heap := s'.heap, gens := s'.gens, drawn := s'.drawn, toks := s'.toks } := by
    cases s'
    cases s
    cases o
    rfl
  rw [e]
  exact ⟨.ref p, _, J, rfl, q ys p pm so hn⟩
/-- what each turn of {te for g in wi if tt} owes, its texts unlike -/
def SetTurn (P : Program) (w : World) (J : It) (g : TG) (tt : TT) (te : TE) (vs : List Nat) (σ : L2.St) (D : Addr) (Q : VK) (W : Nat → Nat → Hp → Prop) : Prop := ∀ i m H, W i m H →
  (J.stop i H ∧ Q (.ref D) H) ∨ (J.go i H ∧ ∃ Nx : Hp → Prop, (∀ H', Nx H' → ∃ m', m' < m ∧ W (i + 1) m' H') ∧ ∀ x H', J.yld i H x H' → g x (wipe σ vs) H' fun σ2 H2 => wipe σ2 vs = wipe σ vs ∧ tt σ2 H2 fun b H3 =>
    if b = true then te σ2 H3 fun y H4 => ∃ (c : Str) (l : List Str), y = .str c ∧ H4 D = some (SetS P w D l) ∧ c ∉ l ∧ l.length + 1 < scanBound ∧ Nx (upd H4 D (SetS P w D (c :: l))) else Nx H3)
def tSetC (P : Program) (w : World) (wi : TI) (g : TG) (tt : TT) (te : TE) (vs : List Nat) : TE := fun σ H Q => wi σ H fun J H1 => ∀ D, H1 D = none → ∃ W : Nat → Nat → Hp → Prop, (∃ m, W 0 m (upd H1 D (SetS P w D []))) ∧ SetTurn P w J g tt te vs σ D Q W
theorem pe_setC {el tgt itr : Expr} {tests : List Expr} {scp : Scope} {own : List (PySem.Str × Nat)} {po : Pos} {wi : TI} {g : TG} {tt : TT} {te : TE} (calm : X.calm = true) (nd : X.N.Nodup) (walk : PI X tgt itr wi) (blk : BlkOk X.N X.env.scope scp own)
    (tgR : ∀ (s : Shared) (H : Hp) (C : Addr) (cl : List (PySem.Str × Addr)) (fp : List Addr), PG (X.blk s H scp (compEnvC scp cl C X.env) fp) tgt g) (ttR : ∀ (s : Shared) (H : Hp) (C : Addr) (cl : List (PySem.Str × Addr)) (fp : List Addr), PTs (X.blk s H scp (compEnvC scp cl C X.env) fp) tests tt)
    (teR : ∀ (s : Shared) (H : Hp) (C : Addr) (cl : List (PySem.Str × Addr)) (fp : List Addr), PE (X.blk s H scp (compEnvC scp cl C X.env) fp) el te) (fold : ∀ x, foldedSetIterable itr X.env x = pure x := by intro _; rfl) :
    PE X (.SetComp el [⟨tgt, itr, tests, 0⟩] scp po) (tSetC X.prog X.w wi g tt te (own.map (·.2))) := by
  refine ⟨fun pins s σ H Q I h => ?_⟩
  rw [eval_SetComp]
  have cells : ∀ y ∈ scp.names, y.2 = .free → ∃ c, X.env.cells.lookup y.1 = some c := fun y hy e => (blk.free y hy e).elim (fun k => I.ok.has _ (.inl k)) fun k => I.ok.has _ (.inr k)
  refine wpAny_comprehension_free (use := none) rfl fold (closure_ok cells) blk.kind (fun y hy e => by rw [blk.uniq y hy, e]) (thn (walk.run pins s σ H _ I h) fun xv s1 hx => thn hx fun itv s2 h2 => ?_)
  obtain ⟨it, fp, tn, J, H2, rfl, I2, tu, st2, free2, q⟩ := h2
  refine newSet_ok (newEnv_comp ?_)
  generalize eD : s2.heap.objs.size = D
  have nD : H2 D = none := I2.hok.fresh (Nat.le_of_eq eD)
  obtain ⟨W, ⟨m0, w0⟩, turns⟩ := q D nD
  have I3 : Inv X pins σ (upd H2 D (SetS X.prog X.w D [])) { s2 with heap := s2.heap.push { cls := .type "set", dict := none, data := .set #[] 0 (.fresh 0 0 (!X.w.params.followText "set-order")) } } := by
    refine I2.laid (t' := s2.toks) (fun b o e => Heap.get?_push_of_some _ e) (Nat.le_of_eq eD) ?_
    rw [← eD]
    exact setS_ok (TX.Hold.bare s2.heap)
  generalize e3 : ({ s2 with heap := s2.heap.push { cls := .type "set", dict := none, data := .set #[] 0 (.fresh 0 0 (!X.w.params.followText "set-order")) } } : Shared) = s3 at I3 ⊢
  have h3 : s3.heap = s2.heap.push { cls := .type "set", dict := none, data := .set #[] 0 (.fresh 0 0 (!X.w.params.followText "set-order")) } := by rw [← e3]
  have free3 : ∀ b ∈ fp, FpOk X pins (upd H2 D (SetS X.prog X.w D [])) b ∧ b < s3.heap.objs.size := fun b hb => by
    obtain ⟨o, e, _⟩ := tu.obj _ _ st2 b hb
    have lt := Heap.lt_size e
    refine ⟨⟨by rw [upd_ne (by rw [← eD]; exact Nat.ne_of_lt lt)]; exact (free2 b hb).1, (free2 b hb).2⟩, by rw [h3, Heap.size_push]; exact Nat.lt_succ_of_lt lt⟩
  have st3 : tn 0 s3.heap := tu.keep _ _ _ st2 fun b _ o e => by rw [h3]; exact Heap.get?_push_of_some _ e
  have I4 := block_start I3 blk nd free3
  show codeAny (model X.prog X.w) X.A (.compStart (.SetComp el [⟨tgt, itr, tests, 0⟩] scp po) 0 (.ref it) (.ref D) (compEnvC scp (cellsFrom (s3.heap.objs.size + 1) scp.names (cloFrom X.env.cells scp.names [])) s3.heap.objs.size X.env)) (compPost (model X.prog X.w) X.A X.xe none (EP X pins σ Q) (.ref D) s3.heap.objs.size) { s3 with heap := pushCells (s3.heap.push { cls := .type "dict", data := .dict #[] }) scp.names }
  generalize eH : upd H2 D (SetS X.prog X.w D []) = H3 at I3 I4 w0 free3
  generalize eK : cellsFrom (s3.heap.objs.size + 1) scp.names (cloFrom X.env.cells scp.names []) = cls at I4 ⊢
  have pg := tgR s3 H3 s3.heap.objs.size cls fp
  have pt := ttR s3 H3 s3.heap.objs.size cls fp
  have pe := teR s3 H3 s3.heap.objs.size cls fp
  have home : (compEnvC scp cls s3.heap.objs.size X.env).locals = s3.heap.objs.size := rfl
  generalize compEnvC scp cls s3.heap.objs.size X.env = ce at I4 pg pt pe home ⊢
  generalize e4 : ({ s3 with heap := pushCells (s3.heap.push { cls := .type "dict", data := .dict #[] }) scp.names } : Shared) = s4 at I4 ⊢
  have st4 : tn 0 s4.heap := tu.keep _ _ _ st3 fun b _ o e => by rw [← e4]; exact pushCells_keeps _ _ _ _ (Heap.get?_push_of_some _ e)
  have inner : ∀ {σ' : L2.St} {H' : Hp} {s' : Shared}, Inv (X.blk s3 H3 scp ce fp) [] σ' H' s' → (∀ b ∈ fp, H' b = none) → ∀ b ∈ fp, FpOk (X.blk s3 H3 scp ce fp) [] H' b := fun {σ' H' s'} J' n b hb =>
    ⟨n b hb, (J'.ok.exf b hb).1, J'.ok.exfs b hb, .inl hb, fun x c e => (J'.ok.exf b hb).2 x c e, fun p hp => nomatch hp⟩
  refine codeAny_compStart_set ?_ (tu.self X.A 0 _ _ _ st4 ?_) <;>
  · refine compLoopS_any (fun n s' => ∃ i H', Inv (X.blk s3 H3 scp ce fp) [] (wipe σ (own.map (·.2))) H' s' ∧ tn i s'.heap ∧ (∀ b ∈ fp, H' b = none) ∧ W i n H') ?_ m0 ⟨0, H3, I4, st4, fun b hb => (free3 b hb).1.1, w0⟩
    rintro n s5 ⟨i, H5, I5, st5, n5, w5⟩
    rcases turns i n H5 w5 with ⟨stop, fin⟩ | ⟨go, Nx, back, step⟩
    · refine thnF (tu.done (X.blk s3 H3 scp ce fp) rfl rfl rfl calm i [] s5 _ H5 (fun _ _ => False) I5 (inner I5 n5) st5 stop) fun r s6 ⟨hr, I6⟩ => ?_
      subst hr
      have I7 : Inv X pins σ H5 s6 := I3.call' (ch := fp) I6.os I6.base I6.hok I6.bare fun b hb => ⟨(free3 b hb).1.2.2.2.1, (free3 b hb).1.2.1, (free3 b hb).1.2.2.2.2.1, (free3 b hb).1.2.2.2.2.2⟩
      have nC : H5 s3.heap.objs.size = none := by
        have z : H5 ce.locals = none := I6.free
        rw [home] at z
        exact z
      obtain ⟨m, hm, _⟩ := I6.loc
      have hm : s6.heap.Ns ce.locals m := hm
      rw [home] at hm
      refine ⟨m, hm, fun h'' sb => ?_⟩
      obtain ⟨f0, f1, f2, f3, f4, f5⟩ := I3.fpOk (Nat.le_refl _) nC
      exact ⟨.ref D, H5, I7.turned (t' := s6.toks) (fun b o hb e => (sb.2 b hb).trans e) f0 f1 f3 f4 f5, rfl, fin⟩
    · refine thnF (tu.item (X.blk s3 H3 scp ce fp) rfl rfl rfl calm i [] s5 _ H5 (fun _ _ => False) I5 (inner I5 n5) st5 go) fun r s6 ⟨u, hr, h6⟩ => ?_
      subst hr
      refine thnF h6 fun _ s7 ⟨x, H7, I7, r7, y7, st7, n7⟩ => ?_
      refine thnF (pg.run _ s7 _ H7 x u _ (I7.pinned (inner I7 n7) (tu.obj _ _ st7)) r7 (step x H7 y7)) fun _ s8 ⟨σ8, H8, I8, ew, q8⟩ => ?_
      refine thnF (pt.run _ s8 σ8 H8 _ I8 q8) fun b s9 ⟨H9, I9, q9⟩ => ?_
      have ret : ∀ {s' : Shared} {H' : Hp}, Inv (X.blk s3 H3 scp ce fp) ([] ++ pinsAt fp s7.heap) σ8 H' s' → Nx H' → ∃ m, m < n ∧ ∃ i H', Inv (X.blk s3 H3 scp ce fp) [] (wipe σ (own.map (·.2))) H' s' ∧ tn i s'.heap ∧ (∀ b ∈ fp, H' b = none) ∧ W i m H' := fun {s' H'} J' nx => by
        obtain ⟨m', lt, w'⟩ := back H' nx
        have held : ∀ b ∈ fp, ∀ o, s7.heap.get? b = some o → s'.heap.get? b = some o ∧ H' b = none := fun b hb o e =>
          have z := J'.pin (b, o) (List.mem_append_right _ (List.mem_append_right _ (mem_pinsAt hb e)))
          ⟨z.1, z.2.1⟩
        refine ⟨m', lt, i + 1, H', (J'.unpinned (pins := [])).weak (by rw [← ew, wipe_length]) (fun j v e => ?_), tu.keep _ _ _ st7 fun b hb o e => (held b hb o e).1, fun b hb => ?_, w'⟩
        · rw [← ew] at e
          exact (wipe_some e).1
        · obtain ⟨o, e, _⟩ := tu.obj _ _ st7 b hb
          exact (held b hb o e).2
      cases b with
      | false =>
        simp only [Bool.false_eq_true, if_false] at q9 ⊢
        exact ret I9 q9
      | true =>
        simp only [if_true] at q9 ⊢
        refine thnF (pe.run _ s9 σ8 H9 _ I9 q9) fun z s10 ⟨yv, H10, I10, r10, c, l, ey, hD, nc, few, nx⟩ => ?_
        subst ey
        obtain ⟨tk, rfl⟩ : ∃ tk, z = Value.str c tk := r10
        refine TX.Hold.more (setS_get (X := X.blk s3 H3 scp ce fp) I10 hD) nc few fun h' sb hold => ?_
        have hN : h'.get? D ≠ none := by
          obtain ⟨o, e, _⟩ := hold.at_
          rw [e]
          exact fun z => nomatch z
        obtain ⟨oD, eD'⟩ : ∃ o, h'.get? D = some o := by
          obtain ⟨o, e, _⟩ := hold.at_
          exact ⟨_, e⟩
        exact ret (I10.write (e := D) (t' := s10.toks + 1) (by rw [hD]; trivial) (.inl rfl) (fun b v hb hv => (sb.2 b hb).trans hv) ⟨oD, eD'⟩ (setS_ok hold)) nx
end
end TX

-- SU1
set_option maxRecDepth 100000
set_option maxHeartbeats 4000000
/-! sets of texts: all of one in another, a copy, one or the other -/
namespace TX
open PySem PySem.Spec PyProof.Rows L2 PySem.Froz
open SD (Full full7 full15 full31 laid_is reord)
section
variable {P : Program} {w : World} {A : Around} {E : Value → Shared → Prop} {s : Shared} {a : Addr}
def Led (w : World) (t : SetTable) : Prop := w.params.followText "set-order" = true ∨ t.led = true
/-- a text with its figure -/
def GoodT (w : World) (e : Int × Value) : Prop := ∃ k u, e = (hashStr w k, Value.str k u)
theorem goodT {D : SD} {l : List Str} (ok : TxOk P w D l) : ∀ e ∈ D.1.toList, GoodT w e := fun e he => by
  obtain ⟨⟨k, h1, h2⟩, _⟩ := ok.el e he
  obtain ⟨h, v⟩ := e
  have h1 : Value.isStrOf k v = true := h1
  have h2 : h = hashStr w k := h2
  subst h2
  cases v with
  | str k2 u =>
    have h1 : Value.isStrOf k (Value.str k2 u) = true := h1
    have e : k2 = k := by simpa [Value.isStrOf] using h1
    rw [e]
    exact ⟨_, _, rfl⟩
  | _ => exact absurd h1 Bool.false_ne_true
/-- k comes in, if it isn't there -/
def insT (k : Str) (l : List Str) : List Str := if k ∈ l then l else k :: l
theorem mem_insT {k x : Str} {l : List Str} : x ∈ insT k l ↔ x = k ∨ x ∈ l := by
  unfold insT
  split
  · exact ⟨.inr, fun h => h.elim (fun e => e ▸ ‹_›) id⟩
  · exact List.mem_cons
theorem len_insT {k : Str} {l : List Str} : (insT k l).length ≤ l.length + 1 := by
  unfold insT
  split
  · omega
  · exact Nat.le_refl _
theorem Hold.addH {l : List Str} {k : Str} {u : Tok} {Q : Bool → Shared → Prop} (q : Hold P w s.heap a l) (few : l.length + 1 < scanBound)
    (go : ∀ b h', Heap.SameBut a s.heap h' → Hold P w h' a (insT k l) → Q b { s with heap := h' }) : wpAny (model P w) A (setAddHashed a (.str k u) (hashStr w k)) Q E s := by
  obtain ⟨D, ho, ok, ri, le⟩ := q.at_
  by_cases hk : k ∈ l
  · obtain ⟨es, ep, t⟩ := D
    have hd : (sObj "set" (es, ep, t)).data = .set es ep t := rfl
    have hf : t.fits es.size = true := ok.fit
    have hel : ElemsOf (strKind P w) es.toList := ok.el
    have hsz : es.size = l.length := ok.sz
    have hkey : (strKind P w).is k (.str k u) = true := is_str k u
    have g := go false s.heap (Heap.SameBut.refl a s.heap) (by unfold insT; rw [if_pos hk]; exact q)
    unfold setAddHashed setAddHashedIn
    refine wpAny_holding (wpAny_bind (wpAny_setState_of ho hd hf ?_))
    dsimp only
    rw [byScan_of rfl (by omega) hel]
    simp only [↓reduceIte]
    unfold setAddByScan
    refine wpAny_bind ?_
    refine wpAny_bind (wpAny_rule ?_)
    refine wpAny_bind (wpAny_setScan_of hkey ho hd hf hel ?_)
    cases hfi : List.findIdx? (fun e => (strKind P w).is k e.2) es.toList with
    | some j =>
      dsimp only
      exact wpAny_pure (wpAny_pure g)
    | none =>
      obtain ⟨e, he, z⟩ := (ok.mem k).mp hk
      have c := List.findIdx?_eq_none_iff.mp hfi e he
      rw [z] at c
      cases c
  · exact add_x ho ok hk few (go true _ (Heap.SameBut.update _ a _) (by unfold insT; rw [if_neg hk]; exact ⟨⟨_, get_upd _ ho rfl, add_ok u ok, rises ri, leads le⟩, List.nodup_cons.mpr ⟨hk, q.un⟩⟩))
theorem above : ∀ v, v ≤ 30 → ∃ m, SetTable.sizeAbove v = m + 1 ∧ Full m ∧ v ≤ m ∧ m ≤ 1000 := fun v hv => by
  by_cases c : v < 8
  · refine ⟨7, ?_, full7, by omega, by decide⟩
    have : v = 0 ∨ v = 1 ∨ v = 2 ∨ v = 3 ∨ v = 4 ∨ v = 5 ∨ v = 6 ∨ v = 7 := by omega
    rcases this with e | e | e | e | e | e | e | e <;> subst e <;> decide
  · by_cases c : v < 16
    · refine ⟨15, ?_, full15, by omega, by decide⟩
      have : v = 8 ∨ v = 9 ∨ v = 10 ∨ v = 11 ∨ v = 12 ∨ v = 13 ∨ v = 14 ∨ v = 15 := by omega
      rcases this with e | e | e | e | e | e | e | e <;> subst e <;> decide
    · refine ⟨31, ?_, full31, by omega, by decide⟩
      have : v = 16 ∨ v = 17 ∨ v = 18 ∨ v = 19 ∨ v = 20 ∨ v = 21 ∨ v = 22 ∨ v = 23 ∨ v = 24 ∨ v = 25 ∨ v = 26 ∨ v = 27 ∨ v = 28 ∨ v = 29 ∨ v = 30 := by omega
      rcases this with e | e | e | e | e | e | e | e | e | e | e | e | e | e | e <;> subst e <;> decide
theorem fits_of {t : SetTable} {n : Nat} (h1 : t.place.size = n) (h2 : t.dummies = #[]) (h3 : n ≤ t.mask) : t.fits n = true := by
  unfold SetTable.fits SetTable.fill
  rw [h1, h2]
  simp
  omega
theorem Hold.room {l : List Str} {n : Nat} {Q : Unit → Shared → Prop} (q : Hold P w s.heap a l) (hn : l.length + n ≤ 15)
    (go : ∀ h', Heap.SameBut a s.heap h' → Hold P w h' a l → Q () { s with heap := h' }) : wpAny (model P w) A (setRoomFor a n) Q E s := by
  obtain ⟨⟨es, ep, t⟩, ho, ok, ri, le⟩ := q.at_
  have hd : (sObj "set" (es, ep, t)).data = .set es ep t := rfl
  have hf : t.fits es.size = true := ok.fit
  have hsz : es.size = l.length := ok.sz
  have pz : t.place.size = es.size := by
    have := hf
    unfold SetTable.fits at this
    simp [Bool.and_eq_true] at this
    exact this.1
  unfold setRoomFor
  refine wpAny_bind (wpAny_setState_of ho hd hf ?_)
  dsimp only
  by_cases c : (t.fill + n) * 5 ≥ t.mask * 3
  · have e : t.roomFor n = some ((t.place.size + n) * 2) := by
      unfold SetTable.roomFor
      rw [if_pos c]
    rw [e]
    dsimp only
    obtain ⟨m, hw, F, vm, m1⟩ := above ((t.place.size + n) * 2) (by omega)
    unfold setRelay
    refine wpAny_bind (wpAny_setState_of ho hd hf ?_)
    dsimp only
    refine wp_if_neg (by rw [hw]; have : 1001 ≤ sizeLine := by decide
                         omega) ?_
    obtain ⟨t2, order, e2, pm, e3, e4, e5, e6, e7, e8⟩ := laid_is F t.finger (t.movedTo (SetTable.sizeAbove ((t.place.size + n) * 2) - 1)) t.led t.plain (es.map (·.1)) (by rw [Array.size_map]; omega)
    have er : t.relaid (es.map (·.1)) ((t.place.size + n) * 2) = some (t2, order) := by
      unfold SetTable.relaid
      rw [hw] at e2 ⊢
      simp only [Nat.add_sub_cancel] at e2 ⊢
      exact e2
    rw [er]
    rw [Array.size_map] at pm e4
    obtain ⟨p1, p2⟩ := reord pm
    have hz : ((order.filterMap (es[·]?)).size != es.size) = false := by rw [p2]; simp
    show wpAny (model P w) A ((if ((order.filterMap (es[·]?)).size != es.size) = true then _ else pure (order.filterMap (es[·]?), t2)) >>= fun x => storeSet a x.1 x.2) Q E s
    rw [hz]
    refine wpAny_bind (wp_if_neg (by simp) (wpAny_pure ?_))
    dsimp only
    refine wpAny_storeSet_of ho hd ?_ (by rw [p2]; have : 15 ≤ sizeLine := by decide
                                          omega)
    have f2 : t2.fits (order.filterMap (es[·]?)).size = true := by
      rw [p2]
      exact fits_of e4 e5 (by rw [e3]; omega)
    have up : s.heap.update a (Obj.putSet (order.filterMap (es[·]?)) t2) = s.heap.update a (fun _ => sObj "set" (order.filterMap (es[·]?), ep + 1, t2)) := (upd_const _ ho).trans rfl
    rw [up]
    exact go _ (Heap.SameBut.update _ a _) ⟨⟨_, get_upd _ ho rfl, ok.perm p1 f2, e8, by rw [e6]; exact le⟩, q.un⟩
  · have e : t.roomFor n = none := by
      unfold SetTable.roomFor
      rw [if_neg c]
    rw [e]
    exact wpAny_pure (go s.heap (Heap.SameBut.refl a s.heap) q)
/-- what stays when others are merged in -/
def insAll (ks l : List Str) : List Str := ks.foldl (fun m k => insT k m) l
theorem mem_insAll : ∀ {ks l : List Str} {x : Str}, x ∈ insAll ks l ↔ x ∈ ks ∨ x ∈ l
  | [], l, x => by simp [insAll]
  | k :: r, l, x => by
    show x ∈ insAll r (insT k l) ↔ _
    rw [mem_insAll, mem_insT, List.mem_cons]
    exact or_left_comm.trans or_assoc.symm
theorem len_insAll : ∀ {ks l : List Str}, (insAll ks l).length ≤ l.length + ks.length
  | [], l => Nat.le_refl _
  | k :: r, l => by
    have h1 := len_insAll (ks := r) (l := insT k l)
    have h2 := len_insT (k := k) (l := l)
    show (insAll r (insT k l)).length ≤ _
    rw [List.length_cons]
    omega
theorem setsQuietT {Q : Bool → Shared → Prop} (h : Q true s) (l : List Addr) (hl : ∀ b ∈ l, ∃ l, Hold P w s.heap b l) : wpAny (model P w) A (setsQuiet l) Q E s := by
  unfold setsQuiet
  refine wpAny_bind (wpAny_forIn_list _ (fun rest b s' => b.1 = none ∧ s' = s ∧ ∀ x ∈ rest, x ∈ l) _ (fun x rest b s1 hI => ?_) (fun b s1 hI => ?_) l _ ⟨rfl, rfl, fun _ h => h⟩)
  · obtain ⟨hb, hs, hr⟩ := hI
    subst hs
    obtain ⟨lx, q⟩ := hl x (hr x (List.mem_cons_self ..))
    obtain ⟨⟨es, ep, t⟩, ho, ok, ri, le⟩ := q.at_
    have hf : t.fits es.size = true := ok.fit
    have hd : (sObj "set" (es, ep, t)).data = .set es ep t := rfl
    have hg : ∀ e ∈ es.toList, GoodT w e := goodT ok
    refine wpAny_bind (wpAny_setEntries_of ho hd hf ?_)
    refine wpAny_bind (wpAny_forIn_array' _ (fun l2 b2 s2 => b2 = (none, ()) ∧ s2 = s1 ∧ ∀ e ∈ l2, GoodT w e) _ (fun e rest2 b2 s2 hI => ?_) (fun b2 s2 hI => ?_) es _ ⟨rfl, rfl, hg⟩)
    · obtain ⟨rfl, rfl, hr2⟩ := hI
      obtain ⟨k, tk, rfl⟩ := hr2 e (List.mem_cons_self ..)
      exact wpAny_pure ⟨rfl, rfl, fun e he => hr2 e (List.mem_cons_of_mem _ he)⟩
    · obtain ⟨rfl, rfl, _⟩ := hI
      exact wpAny_pure ⟨rfl, rfl, fun y hy => hr y (List.mem_cons_of_mem _ hy)⟩
  · obtain ⟨hb, hs, _⟩ := hI
    subst hs
    obtain ⟨b1, b2⟩ := b
    simp only at hb
    subst hb
    exact wpAny_pure h
/-- the texts of xs, in their order -/
def keyT (e : Int × Value) : Str := match e.2 with | .str k _ => k | _ => Str.empty
theorem mem_ks {D : SD} {l : List Str} (ok : TxOk P w D l) (k : Str) : k ∈ l ↔ k ∈ D.1.toList.map keyT := by
  rw [ok.mem k]
  constructor
  · rintro ⟨e, he, z⟩
    obtain ⟨k2, u, rfl⟩ := goodT ok e he
    have : k2 = k := by
      have z : Value.isStrOf k (Value.str k2 u) = true := z
      simpa [Value.isStrOf] using z
    exact List.mem_map.mpr ⟨_, he, this⟩
  · intro hk
    obtain ⟨e, he, z⟩ := List.mem_map.mp hk
    obtain ⟨k2, u, rfl⟩ := goodT ok e he
    have z : k2 = k := z
    subst z
    exact ⟨_, he, is_str k2 u⟩
theorem walkT {Q : Array (Int × Value) → Shared → Prop} {others : List Addr} {l lf : List Str} {f : Addr} (q : Hold P w s.heap a l) (qf : Hold P w s.heap f lf) (hfa : f ≠ a) (few : lf.length < scanBound) (hoth : ∀ b ∈ others, ∃ l, Hold P w s.heap b l)
    (hQ : ∀ (xs : Array (Int × Value)) (h' : Heap), (∀ e ∈ xs.toList, GoodT w e) → (∀ k, k ∈ l ↔ k ∈ xs.toList.map keyT) → xs.size = l.length → Heap.SameBut f s.heap h' → Hold P w h' f lf → Q xs { s with heap := h' }) : wpAny (model P w) A (setWalkUnseen a others (some f)) Q E s := by
  obtain ⟨⟨es, ep, t⟩, ho, ok, ri, le⟩ := q.at_
  obtain ⟨⟨ef, epf, tf⟩, hof, okf, rif, lef⟩ := qf.at_
  have hd : (sObj "set" (es, ep, t)).data = .set es ep t := rfl
  have hf : t.fits es.size = true := ok.fit
  have hdf : (sObj "set" (ef, epf, tf)).data = .set ef epf tf := rfl
  have hff : tf.fits ef.size = true := okf.fit
  have le : w.params.followText "set-order" = true ∨ t.led = true := le
  have lef : w.params.followText "set-order" = true ∨ tf.led = true := lef
  have fin : ∀ (xs : Array (Int × Value)) (h' : Heap), xs.toList.Perm es.toList → Heap.SameBut f s.heap h' → Hold P w h' f lf → Q xs { s with heap := h' } := fun xs h' pm => hQ xs h' (fun e he => goodT ok e (pm.mem_iff.mp he)) (fun k => (mem_ks ok k).trans (pm.map keyT).mem_iff.symm) (by rw [← Array.length_toList, pm.length_eq, Array.length_toList]; exact ok.sz)
  unfold setWalkUnseen
  refine wpAny_bind (wpAny_setState_of ho hd hf ?_)
  dsimp only
  refine wpAny_bind (wpAny_byText ?_)
  by_cases c : (w.params.followText "set-order" || (t.led && t.plain) || decide (es.size ≤ 1)) = true
  · refine wp_if_pos c ?_
    refine SD.setWalk_at ho hd hf ?_ ?_ fun xs pm => fin xs s.heap pm (Heap.SameBut.refl f s.heap) qf
    · simp only [Bool.or_eq_true, Bool.and_eq_true, decide_eq_true_eq] at c
      rcases c with (c | c) | c
      · exact .inl c
      · exact .inr (.inl c.1)
      · exact .inr (.inr c)
    · simp only [Bool.or_eq_true, Bool.and_eq_true, decide_eq_true_eq] at c
      rcases c with (c | c) | c
      · exact .inl c
      · exact .inr (.inl c.2)
      · exact .inr (.inr c)
  · refine wp_if_neg c ?_
    have hbt : w.params.followText "set-order" = false := by
      cases q : w.params.followText "set-order" with
      | false => rfl
      | true => rw [q] at c; simp at c
    have hled : t.led = true := by
      rcases le with z | z
      · rw [hbt] at z; cases z
      · exact z
    refine wpAny_bind (setsQuietT ?_ (a :: others) ?_)
    · refine wp_if_neg (by simp) ?_
      refine wpAny_bind (wpAny_rule ?_)
      refine wpAny_bind (wpAny_setState_of hof hdf hff ?_)
      dsimp only
      split
      · refine wpAny_bind (wpAny_storeSet_of hof hdf ?_ (by rw [show ef.size = lf.length from okf.sz]; exact Nat.le_trans (Nat.le_of_lt few) (by decide)))
        have up : s.heap.update f (Obj.putSet ef { tf with led := tf.led && t.led, plain := tf.plain && t.plain }) = s.heap.update f (fun _ => sObj "set" (ef, epf + 1, { tf with led := tf.led && t.led, plain := tf.plain && t.plain })) := (upd_const _ hof).trans rfl
        rw [up]
        refine wpAny_pure (fin es _ (List.Perm.refl _) (Heap.SameBut.update _ f _) ⟨⟨_, get_upd _ hof rfl, okf.perm (List.Perm.refl _) hff, rif, lef.imp id fun z => ?_⟩, qf.un⟩)
        show (tf.led && t.led) = true
        rw [z, hled]
        rfl
      · exact wpAny_pure (fin es s.heap (List.Perm.refl _) (Heap.SameBut.refl f s.heap) qf)
    · intro b hb2
      rcases List.mem_cons.mp hb2 with z | z
      · subst z
        exact ⟨l, q⟩
      · exact hoth b z
theorem unchT {nm : String} {ep : Nat} {es : Array (Int × Value)} {t : SetTable} {Q : Unit → Shared → Prop} (ho : s.heap.get? a = some (sObj "set" (es, ep, t))) (hf : t.fits es.size = true) (h : Q () s) : wpAny (model P w) A (Builtin.Frozenset.unchanged nm a ep) Q E s := SD.unch ho rfl hf h
/-- all of b's comes into a bare one -/
theorem mergeBare {r b : Addr} {lb : List Str} {each : Sem Unit} {Q : Unit → Shared → Prop} (qb : Hold P w s.heap b lb) (hn : lb.length ≤ 15) (n0 : lb ≠ []) (hr : s.heap.get? r = some (SD.bareO w)) (hra : r ≠ b)
    (go : ∀ h', Heap.SameBut r s.heap h' → Hold P w h' r lb → Q () { s with heap := h' }) : wpAny (model P w) A (setMerge r b each) Q E s := by
  obtain ⟨⟨es, ep, t⟩, ho, ok, ri, le⟩ := qb.at_
  have hd : (sObj "set" (es, ep, t)).data = .set es ep t := rfl
  have hf : t.fits es.size = true := ok.fit
  have hsz : es.size = lb.length := ok.sz
  have le : w.params.followText "set-order" = true ∨ t.led = true := le
  unfold setMerge
  refine wp_if_neg (by simpa using hra) ?_
  refine wpAny_bind (wpAny_setState_of ho hd hf ?_)
  dsimp only
  refine wp_if_neg (by rw [Array.isEmpty_iff]; intro z; rw [z] at hsz; exact n0 (List.length_eq_zero_iff.mp hsz.symm)) ?_
  refine wpAny_bind (SD.room_bare (by rw [hsz]; exact hn) hr fun h1 m F hnm sb B => ?_)
  obtain ⟨o1, ep1, t1, hr1, hex1, hd1, em, ep0, ed, hl1⟩ := B
  have hf1 : t1.fits (#[] : Array (Int × Value)).size = true := by unfold SetTable.fits SetTable.fill; rw [ep0, ed]; simp
  have eo : o1 = sObj "set" (#[], ep1, t1) := by
    obtain ⟨c1, c2, c3⟩ := hex1
    obtain ⟨q1, q2, q3, q4⟩ := o1
    simp only at c1 c2 c3 hd1
    subst c1 c2 hd1
    first | rfl | (subst c3; rfl)
  subst eo
  refine wpAny_bind (wpAny_setState_of hr1 hd1 hf1 ?_)
  have hfill : t1.fill = 0 := by unfold SetTable.fill; rw [ep0, ed]; rfl
  have led2 : w.params.followText "set-order" = true ∨ (t1.led && t.led) = true := by
    rcases le with z | z
    · exact .inl z
    · rcases hl1 with y | y
      · exact .inl y
      · exact .inr (by rw [z, y]; rfl)
  by_cases c : (t1.mask == t.mask && t.dummies.isEmpty) = true
  · have er : t1.road t = .slotForSlot := by
      unfold SetTable.road
      rw [hfill]
      simp only [bne_self_eq_false, Bool.false_eq_true, if_false]
      rw [if_pos c]
    dsimp only
    rw [er]
    refine wpAny_storeSet_of hr1 hd1 ?_ (by rw [hsz]; have : 15 ≤ sizeLine := by decide
                                            omega)
    have up : h1.update r (Obj.putSet es { t with finger := t1.finger, led := t1.led && t.led, moves := t1.moves, plain := t1.plain && t.plain }) = h1.update r (fun _ => sObj "set" (es, ep1 + 1, { t with finger := t1.finger, led := t1.led && t.led, moves := t1.moves, plain := t1.plain && t.plain })) := (upd_const _ hr1).trans rfl
    rw [up]
    exact go _ (sb.trans (Heap.SameBut.update _ r _)) ⟨⟨_, get_upd _ hr1 rfl, ok.perm (List.Perm.refl _) hf, ri, led2⟩, qb.un⟩
  · have er : t1.road t = .clean := by
      unfold SetTable.road
      rw [hfill]
      simp only [bne_self_eq_false, Bool.false_eq_true, if_false]
      rw [if_neg c]
    dsimp only
    rw [er]
    obtain ⟨t2, order, e, pm, e1, e2, e3, e4, e5, e6⟩ := laid_is (m := t1.mask) (by rw [em]; exact F) t1.finger t1.moves (t1.led && t.led) (t1.plain && t.plain) (es.map (·.1)) (by rw [Array.size_map, em]; omega)
    rw [Array.size_map] at pm e2
    obtain ⟨p1, p2⟩ := reord pm
    have hz2 : ((order.filterMap (es[·]?)).size != es.size) = false := by rw [p2]; simp
    dsimp only
    rw [e]
    show wpAny (model P w) A ((if ((order.filterMap (es[·]?)).size != es.size) = true then _ else pure (order.filterMap (es[·]?), t2)) >>= fun x => storeSet r x.1 x.2) Q E _
    rw [hz2]
    refine wpAny_bind (wp_if_neg (by simp) (wpAny_pure ?_))
    dsimp only
    refine wpAny_storeSet_of hr1 hd1 ?_ (by rw [p2, hsz]; have : 15 ≤ sizeLine := by decide
                                            omega)
    have f2 : t2.fits (order.filterMap (es[·]?)).size = true := by
      rw [p2]
      exact fits_of e2 e3 (by rw [e1, em, hsz]; omega)
    have up : h1.update r (Obj.putSet (order.filterMap (es[·]?)) t2) = h1.update r (fun _ => sObj "set" (order.filterMap (es[·]?), ep1 + 1, t2)) := (upd_const _ hr1).trans rfl
    rw [up]
    exact go _ (sb.trans (Heap.SameBut.update _ r _)) ⟨⟨_, get_upd _ hr1 rfl, ok.perm p1 f2, e6, by
      show Led w t2
      unfold Led
      rw [e4]
      exact led2⟩, qb.un⟩
/-- all of b's comes into a -/
theorem Hold.merge {b : Addr} {la lb : List Str} {nm : String} {ep0 : Nat} {each : Sem Unit} {Q : Unit → Shared → Prop} (q : Hold P w s.heap a la) (qb : Hold P w s.heap b lb) (hab : a ≠ b) (hn : la.length + lb.length ≤ 15) (ne : la ≠ [])
    (heach : ∀ (s' : Shared) (Q' : Unit → Shared → Prop), s'.heap.get? b = s.heap.get? b → Q' () s' → wpAny (model P w) A each Q' E s')
    (go : ∀ h' l', Heap.SameBut a s.heap h' → Hold P w h' a l' → (∀ x, x ∈ l' ↔ x ∈ la ∨ x ∈ lb) → l'.length ≤ la.length + lb.length → Q () { s with heap := h' }) : wpAny (model P w) A (setMerge a b each) Q E s := by
  obtain ⟨⟨es, ep, t⟩, ho, ok, ri, le⟩ := qb.at_
  have hd : (sObj "set" (es, ep, t)).data = .set es ep t := rfl
  have hf : t.fits es.size = true := ok.fit
  have hsz : es.size = lb.length := ok.sz
  have few : 20 < scanBound := by decide
  unfold setMerge
  refine wp_if_neg (by simpa using hab) ?_
  refine wpAny_bind (wpAny_setState_of ho hd hf ?_)
  dsimp only
  by_cases c0 : es.isEmpty = true
  · refine wp_if_pos c0 (wpAny_pure (go s.heap la (Heap.SameBut.refl a s.heap) q (fun x => ?_) (by omega)))
    have : lb = [] := List.length_eq_zero_iff.mp (by rw [← hsz, Array.isEmpty_iff.mp c0]; rfl)
    rw [this]
    simp
  refine wp_if_neg c0 ?_
  refine wpAny_bind (q.room (by omega) fun h1 sb1 q1 => ?_)
  have ho1 : h1.get? b = some (sObj "set" (es, ep, t)) := (sb1.2 b hab.symm).trans ho
  obtain ⟨⟨ea, epa, ta⟩, hoa, oka, ria, lea⟩ := q1.at_
  have hda : (sObj "set" (ea, epa, ta)).data = .set ea epa ta := rfl
  have hfa : ta.fits ea.size = true := oka.fit
  refine wpAny_bind (wpAny_setState_of hoa hda hfa ?_)
  dsimp only
  have bareA : ta.fill = 0 → la = [] := fun z => by
    have h1 := hfa
    unfold SetTable.fits at h1
    simp [Bool.and_eq_true] at h1
    unfold SetTable.fill at z
    exact List.length_eq_zero_iff.mp (by rw [← show ea.size = la.length from oka.sz]; omega)
  by_cases c1 : ta.fill = 0
  · exact absurd (bareA c1) ne
  · have er : ta.road t = .oneByOne := by
      unfold SetTable.road
      rw [if_pos (by simpa using c1)]
    rw [er]
    dsimp only
    refine wpAny_bind (walkT (qb.keep fun o e => (sb1.2 b hab.symm).trans e) q1 hab (by omega) (fun x hx => by rw [List.mem_singleton.mp hx]; exact ⟨_, q1⟩) fun xs h2 g hx hz sb2 q2 => ?_)
    refine wpAny_bind (wpAny_forIn_array' _ (fun rest _ s' => ∃ h' l', s' = { s with heap := h' } ∧ Heap.SameBut a s.heap h' ∧ Hold P w h' a l' ∧ l'.length + rest.length ≤ 15 ∧ l'.length + rest.length ≤ la.length + lb.length ∧ (∀ e ∈ rest, GoodT w e) ∧ (∀ x, (x ∈ la ∨ x ∈ lb) ↔ x ∈ l' ∨ x ∈ rest.map keyT)) _ (fun e rest b1 s1 hI => ?_) (fun b1 s1 hI => ?_) xs _ ⟨h2, la, rfl, sb1.trans sb2, q2, ?_, ?_, g, fun x => by rw [hx x]⟩)
    · obtain ⟨h3, l3, rfl, sb3, q3, n3, n4, g3, i3⟩ := hI
      obtain ⟨k, tk, rfl⟩ := g3 e (List.mem_cons_self ..)
      rw [List.length_cons] at n3 n4
      dsimp only
      refine wpAny_bind (wpAny_holding (q3.addH (by omega) fun bb h4 sb4 q4 => ?_))
      have hb4 : h4.get? b = s.heap.get? b := (sb4.2 b hab.symm).trans (sb3.2 b hab.symm)
      refine wpAny_bind (heach _ _ hb4 ?_)
      refine wpAny_bind (wpAny_setState_of (hb4.trans ho) hd hf ?_)
      dsimp only
      have l4 := len_insT (k := k) (l := l3)
      refine wp_if_neg (by simp) (wpAny_pure ⟨h4, insT k l3, rfl, sb3.trans sb4, q4, by omega, by omega, fun e he => g3 e (List.mem_cons_of_mem _ he), fun x => ?_⟩)
      rw [i3 x, mem_insT, List.map_cons, List.mem_cons]
      show x ∈ l3 ∨ x = k ∨ _ ↔ _
      exact ⟨fun h => h.elim (fun h => .inl (.inr h)) fun h => h.elim (fun h => .inl (.inl h)) .inr, fun h => h.elim (fun h => h.elim (fun h => .inr (.inl h)) .inl) fun h => .inr (.inr h)⟩
    · obtain ⟨h3, l3, rfl, sb3, q3, n3, n4, g3, i3⟩ := hI
      refine wpAny_pure (go h3 l3 sb3 q3 (fun x => ?_) (by simpa using n4))
      have := i3 x
      simp only [List.map_nil, List.not_mem_nil, or_false] at this
      exact this.symm
    · have e : xs.toList.length = lb.length := by rw [Array.length_toList, hz]
      show la.length + xs.toList.length ≤ 15
      omega
    · have e : xs.toList.length = lb.length := by rw [Array.length_toList, hz]
      show la.length + xs.toList.length ≤ la.length + lb.length
      omega
end
end TX

-- SU2
set_option maxRecDepth 100000
set_option maxHeartbeats 4000000
/-! sets of texts: one or the other -/
namespace TX
open PySem PySem.Spec PyProof.Rows L2 PySem.Froz
section
variable {P : Program} {w : World} {A : Around} {E : Value → Shared → Prop} {s : Shared} {a : Addr}
theorem Hold.typeIs {l : List Str} (q : Hold P w s.heap a l) : s.TypeIs (.ref a) "set" := by
  obtain ⟨D, ho, _⟩ := q.at_
  exact ⟨_, ho, rfl⟩
theorem Hold.lt {h : Heap} {l : List Str} (q : Hold P w h a l) : a < h.objs.size := by
  obtain ⟨D, ho, _⟩ := q.at_
  exact Heap.lt_size ho
/-- a copy: bare, where nothing is in it -/
theorem copyT {l : List Str} {Q : Value → Shared → Prop} (q : Hold P w s.heap a l) (hn : l.length ≤ 15)
    (go : ∀ h' : Heap, (∀ b u, s.heap.get? b = some u → h'.get? b = some u) → Hold P w h' s.heap.objs.size l → (l = [] → h'.get? s.heap.objs.size = some (SD.bareO w)) → Q (.ref s.heap.objs.size) { s with heap := h' }) : wpAny (model P w) A (Builtin.Frozenset.copyOf a) Q E s := by
  have ra : s.heap.objs.size ≠ a := Nat.ne_of_gt q.lt
  unfold Builtin.Frozenset.copyOf
  refine wpAny_bind (SD.baseOf_at q.typeIs ?_)
  refine wpAny_bind (SD.newSet_at ?_)
  unfold Builtin.Frozenset.addrOf
  refine wpAny_bind (wpAny_pure ?_)
  have kp : ∀ x u, s.heap.get? x = some u → (s.heap.push (SD.bareO w)).get? x = some u := fun x u e => Heap.get?_push_of_some _ e
  have q1 := q.keep fun o e => kp a o e
  have hr : (s.heap.push (SD.bareO w)).get? s.heap.objs.size = some (SD.bareO w) := Heap.get?_push_size _ rfl
  by_cases c : l = []
  · subst c
    obtain ⟨⟨es, ep, t⟩, ho, ok, ri, le⟩ := q1.at_
    have hsz : es.size = 0 := ok.sz
    refine wpAny_bind ?_
    unfold setMerge
    refine wp_if_neg (by simpa using ra) ?_
    refine wpAny_bind (wpAny_setState_of ho rfl ok.fit ?_)
    dsimp only
    refine wp_if_pos (by rw [Array.isEmpty_iff]; exact Array.eq_empty_of_size_eq_zero hsz) (wpAny_pure ?_)
    exact wpAny_pure (go _ kp (Hold.bare s.heap) fun _ => hr)
  · refine wpAny_bind (mergeBare q1 hn c hr ra fun h' sb q2 => ?_)
    refine wpAny_pure (go h' (fun b u e => ?_) q2 fun z => absurd z c)
    rw [sb.2 b (Nat.ne_of_lt (Heap.lt_size e))]
    exact kp b u e
/-- from another set -/
theorem Hold.fromSet {b : Addr} {la lb : List Str} {nm : String} {Q : Unit → Shared → Prop} (q : Hold P w s.heap a la) (qb : Hold P w s.heap b lb) (hab : a ≠ b) (hn : la.length + lb.length ≤ 15) (br : la = [] → s.heap.get? a = some (SD.bareO w))
    (go : ∀ h' l', Heap.SameBut a s.heap h' → Hold P w h' a l' → (∀ x, x ∈ l' ↔ x ∈ la ∨ x ∈ lb) → l'.length ≤ la.length + lb.length → Q () { s with heap := h' }) : wpAny (model P w) A (Builtin.Frozenset.updateFrom nm a (.ref b)) Q E s := by
  obtain ⟨⟨es, ep, t⟩, ho, ok, ri, le⟩ := id qb.at_
  have hf : t.fits es.size = true := ok.fit
  unfold Builtin.Frozenset.updateFrom
  refine wpAny_bind (SD.anySet qb.typeIs ?_)
  refine wp_if_pos rfl ?_
  unfold Builtin.Frozenset.addrOf
  refine wpAny_bind (wpAny_pure ?_)
  unfold Builtin.Frozenset.merge
  refine wpAny_bind ?_
  refine wpAny_setEpoch_of ho rfl hf ?_
  have fin : ∀ (s' : Shared), wpAny (model P w) A (setMerge a b (Builtin.Frozenset.unchanged nm b ep)) (fun _ s' => Q () s') E s := fun _ => by
    by_cases c : la = []
    · subst c
      by_cases c2 : lb = []
      · subst c2
        have hsz : es.size = 0 := ok.sz
        unfold setMerge
        refine wp_if_neg (by simpa using hab) ?_
        refine wpAny_bind (wpAny_setState_of ho rfl hf ?_)
        dsimp only
        refine wp_if_pos (by rw [Array.isEmpty_iff]; exact Array.eq_empty_of_size_eq_zero hsz) (wpAny_pure ?_)
        exact go s.heap [] (Heap.SameBut.refl a _) q (fun x => by simp) (by simp)
      · refine mergeBare qb (by simpa using hn) c2 (br rfl) hab fun h' sb q2 => ?_
        exact go h' lb sb q2 (fun x => by simp) (by simp)
    · refine q.merge (nm := nm) (ep0 := ep) qb hab hn c (fun s' Q' e h => ?_) go
      exact unchT (e.trans ho) hf h
  first
    | exact fin s
    | exact wpAny_mono (fin s) (fun _ _ h => wpAny_pure h) fun _ _ h => h
theorem entry_set_or : entryFor table "set.__or__" = some Builtin.«frozenset.__or__» := entryFor_alias (id' := "frozenset.__or__") (by kernel_rfl) rfl (by decide +kernel) (by kernel_rfl)
theorem orT {b : Addr} {la lb : List Str} {Q : Value → Shared → Prop} (q : Hold P w s.heap a la) (qb : Hold P w s.heap b lb) (hn : la.length + lb.length ≤ 15)
    (go : ∀ (h' : Heap) (l' : List Str), (∀ c u, s.heap.get? c = some u → h'.get? c = some u) → Hold P w h' s.heap.objs.size l' → (∀ x, x ∈ l' ↔ x ∈ la ∨ x ∈ lb) → l'.length ≤ la.length + lb.length → Q (.ref s.heap.objs.size) { s with heap := h' }) :
    wpAny (model P w) A (binaryOp .BitOr (.ref a) (.ref b)) Q E s := by
  refine wpAny_binaryOp_same (T := "set") (id := "set.__or__") q.typeIs qb.typeIs PySem.F.fills_set_or PySem.F.slot_set_or ?_
  refine wpAny_call_entry PySem.F.slot_set_or q.typeIs entry_set_or ?_ (PySem.F.args_set_or_2 _ _)
  have go : wpAny (model P w) A.in1 (do
      let c ← (Builtin.Frozenset.isAnySet (.ref a) <&&> Builtin.Frozenset.isAnySet (.ref b))
      if (!c) = true then
        rule "frozenset.__or__.declined"
        ret .notImplemented
      else
        let l ← Builtin.Frozenset.addrOf (.ref a)
        let v ← (do
          let result ← Builtin.Frozenset.copyOf l
          if (Value.ref b != .ref l) = true then
            let x ← Builtin.Frozenset.addrOf result
            holding [result] (Builtin.Frozenset.updateFrom "frozenset.__or__" x (.ref b))
          return result)
        ret v) (fun fin s' => ∃ v, fin = Fin.done (Flow.ret v) ∧ v ≠ Value.notImplemented ∧ Q v s') E s := by
    refine wpAny_bind ?_
    unfold andM
    refine wpAny_bind (SD.anySet q.typeIs ?_)
    refine SD.anySet qb.typeIs ?_
    refine wp_if_neg (by simp) ?_
    unfold Builtin.Frozenset.addrOf
    refine wpAny_bind (wpAny_pure ?_)
    refine wpAny_bind (wpAny_bind (copyT q (by omega) fun h1 k1 q1 b1 => ?_))
    have qb1 := qb.keep fun o e => k1 b o e
    by_cases c : b = a
    · subst c
      refine wp_if_neg (by simp) ?_
      refine wpAny_pure (wpAny_pure ⟨_, rfl, (fun z => by cases z), go h1 la k1 q1 (fun x => ?_) (by omega)⟩)
      obtain ⟨⟨e1, p1, t1⟩, ho, ok, _⟩ := q.at_
      obtain ⟨⟨e2, p2, t2⟩, ho2, ok2, _⟩ := qb.at_
      have e : sObj "set" (e1, p1, t1) = sObj "set" (e2, p2, t2) := Option.some.inj (ho.symm.trans ho2)
      have e3 : Data.set e1 p1 t1 = Data.set e2 p2 t2 := congrArg Obj.data e
      have e4 : e1 = e2 := by injection e3
      subst e4
      have : x ∈ lb ↔ x ∈ la := (ok2.mem x).trans (ok.mem x).symm
      rw [this]
      exact (or_self_iff).symm
    · refine wp_if_pos (by simpa using c) ?_
      refine wpAny_bind (wpAny_pure ?_)
      refine wpAny_bind (wpAny_holding (q1.fromSet qb1 (Ne.symm (Nat.ne_of_lt qb.lt)) hn b1 fun h2 l2 sb2 q2 m2 n2 => ?_))
      refine wpAny_pure (wpAny_pure ⟨_, rfl, (fun z => by cases z), go h2 l2 (fun x u e => ?_) q2 m2 n2⟩)
      rw [sb2.2 x (Nat.ne_of_lt (Heap.lt_size e))]
      exact k1 x u e
  exact go
/-! set(a dict of texts) -/
theorem entry_init : True := trivial
end
section
variable {X : Cx}
/-- one or the other -/
def rSetOr (P : Program) (w : World) : R2 := fun x y H Q => ∃ (a b : Addr) (la lb : List Str), x = V.ref a ∧ y = V.ref b ∧ H a = some (SetS P w a la) ∧ H b = some (SetS P w b lb) ∧ la.length + lb.length ≤ 15 ∧
  ∀ p l, (∀ x, x ∈ l ↔ x ∈ la ∨ x ∈ lb) → l.Nodup → l.length ≤ la.length + lb.length → H p = none → Q (.ref p) (upd H p (SetS P w p l))
theorem op_setOr : OpR X (binaryOp .BitOr) (rSetOr X.prog X.w) := by
  intro pins s σ H x y v u Q I rx ry h
  obtain ⟨a, b, la, lb, rfl, rfl, ha, hb, hn, q⟩ := h
  cases rx
  cases ry
  refine orT (setS_get I ha) (setS_get I hb) hn fun h' l kp R3 m n => ?_
  exact ⟨.ref _, upd H s.heap.objs.size (SetS X.prog X.w s.heap.objs.size l), I.laid (t' := s.toks) kp (Nat.le_refl _) (setS_ok R3), rfl, q _ l m R3.un n (I.hok.fresh (Nat.le_refl _))⟩
end
end TX

-- SU3
set_option maxRecDepth 100000
set_option maxHeartbeats 4000000
/-! set(a dict of texts) -/
namespace TX
open PySem PySem.Spec PyProof.Rows L2 PySem.Froz
open SD (bareO)
section
variable {P : Program} {w : World} {A : Around} {E : Value → Shared → Prop} {s : Shared} {a : Addr}
def keyE (e : DictEntry) : Str := match e.key with | .str k _ => k | _ => Str.empty
def GoodD (w : World) (e : DictEntry) : Prop := ∃ k u, e.key = Value.str k u ∧ e.hash = hashStr w k
theorem Hold.fromDict {d : Addr} {es : Array DictEntry} {ep : Nat} {o : Obj} {nm : String} {Q : Unit → Shared → Prop} (q : Hold P w s.heap a []) (ho : s.heap.get? d = some o) (hc : o.cls = .type "dict") (hd : o.data = .dict es ep) (hda : d ≠ a) (ns : (d == sysModules) = false)
    (g : ∀ e ∈ es.toList, GoodD w e) (hn : es.size ≤ 15)
    (go : ∀ h' l', Heap.SameBut a s.heap h' → Hold P w h' a l' → (∀ x, x ∈ l' ↔ x ∈ es.toList.map keyE) → l'.length ≤ es.size → Q () { s with heap := h' }) : wpAny (model P w) A (Builtin.Frozenset.updateFrom nm a (.ref d)) Q E s := by
  have ty : s.TypeIs (.ref d) "dict" := ⟨_, ho, hc⟩
  have few : 20 < scanBound := by decide
  unfold Builtin.Frozenset.updateFrom
  refine wpAny_bind ?_
  unfold Builtin.Frozenset.isAnySet orM
  refine wpAny_bind (wpAny_isInstance ty PySem.F.sub_dict_set ?_)
  show wpAny _ _ (isInstance (.ref d) (.type "frozenset")) _ _ s
  refine wpAny_isInstance ty PySem.F.sub_dict_frozenset ?_
  refine wp_if_neg (by simp) ?_
  refine wpAny_bind (wpAny_typeOf ty ?_)
  refine wp_if_pos (by decide) ?_
  refine wpAny_bind (wpAny_rule ?_)
  unfold Builtin.Frozenset.addrOf
  refine wpAny_bind (wpAny_pure ?_)
  refine wp_if_neg (by rw [ns]; simp) ?_
  refine wpAny_bind (wpAny_dictEpoch ho hd ?_)
  refine wpAny_bind (wpAny_dictEntries ho hd ?_)
  refine wpAny_bind (q.room (by simpa using hn) fun h1 sb1 q1 => ?_)
  have ho1 : h1.get? d = some o := (sb1.2 d hda).trans ho
  refine wpAny_bind (wpAny_dictEntries ho1 hd ?_)
  refine wpAny_bind (PySem.SeqAt.wpAny_forIn_span 0 es.size _ (fun i (b : PUnit) s' => ∃ h' l', s' = { s with heap := h' } ∧ Heap.SameBut a s.heap h' ∧ Hold P w h' a l' ∧ l'.length ≤ i ∧ ∀ x, x ∈ l' ↔ x ∈ (es.toList.take i).map keyE) _ (fun i b s1 _ hi hI => ?_) (fun b s1 hI => ?_) _ ⟨h1, [], rfl, sb1, q1, Nat.le_refl _, fun x => by simp⟩)
  · obtain ⟨h2, l2, rfl, sb2, q2, n2, m2⟩ := hI
    have ho2 : h2.get? d = some o := (sb2.2 d hda).trans ho
    refine wpAny_bind (wpAny_dictEntries ho2 hd ?_)
    have he : es[i]? = some es[i] := Array.getElem?_eq_getElem hi
    rw [he]
    obtain ⟨k, u, e1, e2⟩ := g es[i] (by simp)
    dsimp only
    rw [e1, e2]
    refine wpAny_bind (wpAny_holding (q2.addH (by omega) fun bb h3 sb3 q3 => ?_))
    have ho3 : h3.get? d = some o := (sb3.2 d hda).trans ho2
    refine wpAny_bind (wpAny_dictEpoch ho3 hd ?_)
    refine wp_if_neg (by simp) (wpAny_pure ⟨h3, _, rfl, sb2.trans sb3, q3, Nat.le_trans len_insT (by omega), fun x => ?_⟩)
    have hk : keyE es[i] = k := by
      unfold keyE
      rw [e1]
    rw [mem_insT, m2 x, List.take_add_one, List.getElem?_eq_getElem (by simpa using hi), List.map_append, List.mem_append]
    simp only [Option.toList, List.map_cons, List.map_nil, List.mem_singleton, Array.getElem_toList, hk]
    exact or_comm
  · obtain ⟨h2, l2, rfl, sb2, q2, n2, m2⟩ := hI
    refine wpAny_pure (go h2 l2 sb2 q2 (fun x => (m2 x).trans ?_) (by simpa using n2))
    rw [List.take_of_length_le (by simp)]
/-- set(d), d a dict of texts -/
theorem set_dictT {l : Addr} {o : Obj} {es : Array DictEntry} {ep : Nat} {Q : Value → Shared → Prop} (calm : A.handled = none) (ho : s.heap.get? l = some o) (hc : o.cls = .type "dict") (hd : o.data = .dict es ep) (ns : (l == sysModules) = false) (g : ∀ e ∈ es.toList, GoodD w e) (hn : es.size ≤ 15)
    (h : ∀ (h' : Heap) (tk : Nat) (l' : List Str), Hold P w h' s.heap.objs.size l' → (∀ x, x ∈ l' ↔ x ∈ es.toList.map keyE) → l'.length ≤ es.size → (∀ b o, b < s.heap.objs.size → s.heap.get? b = some o → h'.get? b = some o) → Q (.ref s.heap.objs.size) { s with heap := h', toks := tk }) :
    wpAny (model P w) A (call (.type "set") [.ref l]) Q E s := by
  obtain ⟨_, _, hmro⟩ := PySem.F.called_set.mro
  have f1 := PySem.F.called_set.made
  have f2 := PySem.F.called_set.sub
  have f3 := PySem.F.called_set.notType
  have f4 := PySem.F.called_set.canCreate
  have f5 := PySem.F.typeCall_set_1 (.ref l)
  have ltl : l < s.heap.objs.size := Heap.lt_size ho
  refine wpAny_call (codeAny_of_tree (?_ : wpAny _ _ (callAny (.type "set") _) _ _ _))
  refine wpAny_pure ⟨Code.quiet_builtin _ (by decide +kernel), codeAny_builtin PySem.F.entry_type_call ?_⟩
  rw [Around.under_plain (weight_type_call_type "set" [.ref l] []) rfl]
  repeat (any_goals (first | assumption | wp_step))
  generalize eD : s.heap.objs.size = D at *
  refine codeAny_mono (code_set_led1 (.ref l) (E := E) (Q₁ := fun v t => v = .ref D ∧ t = { s with heap := s.heap.push (bareO w) }) ⟨by rw [eD], rfl⟩) fun r t hr => ?_
  rcases r with e | fl
  · exact hr
  cases fl with
  | ret v =>
    obtain ⟨rfl, rfl⟩ := hr
    have atD : (s.heap.push (bareO w)).get? D = some (bareO w) := by
      rw [← eD]
      exact Heap.get?_push_size _ rfl
    have isS : Shared.TypeIs { s with heap := s.heap.push (bareO w) } (.ref D) "set" := ⟨_, atD, rfl⟩
    have f6 := PySem.F.called_set.init.lookup
    have f7 := PySem.F.called_set.init.bind (.ref D)
    repeat (any_goals (first | assumption | wp_step))
    refine codeAny_mono (codeAny_call_builtin (R := wants (fun r t => r = .none ∧ ∃ h' l', t = { s with heap := h' } ∧ Hold P w h' D l' ∧ (∀ x, x ∈ l' ↔ x ∈ es.toList.map keyE) ∧ l'.length ≤ es.size ∧ (∀ b o, b < D → s.heap.get? b = some o → h'.get? b = some o)) E)
      PySem.F.called_set.init.plain PySem.F.entry_set_init (check_set_init_1 isS ?_)) fun r2 t2 hr2 => ?_
    · have ho1 : (s.heap.push (bareO w)).get? l = some o := Heap.get?_push_of_some _ ho
      have q0 : Hold P w (s.heap.push (bareO w)) D [] := by
        rw [← eD]
        exact Hold.bare s.heap
      unfold Builtin.«set.__init__» noKeywords
      generalize hPI : Builtin.Frozenset.updateFrom = PI
      wp_walk
      subst hPI
      refine q0.fromDict ho1 hc hd (Nat.ne_of_lt ltl) ns g hn fun h' l' sb q1 m1 n1 => ?_
      refine wpAny_pure ⟨rfl, h', l', rfl, q1, m1, n1, fun b u lb e => ?_⟩
      rw [sb.2 b (Nat.ne_of_lt lb)]
      exact Heap.get?_push_of_some _ e
    · rcases r2 with e | fl2
      · exact hr2
      cases fl2 with
      | ret r =>
        obtain ⟨rfl, h', l', rfl, q1, m1, n1, kp⟩ := hr2
        repeat (any_goals (first | assumption | wp_step))
        exact h _ _ l' q1 m1 n1 kp
      | _ => exact hr2.elim
  | _ => exact hr.elim
end
section
variable {X : Cx}
theorem pairs_ks {P : Program} {w : World} : ∀ {es : List DictEntry} {kvs : List (Key × Value)}, Pairs (mixKind P w) es kvs → ∀ {xs : List Str}, kvs.map (·.1) = xs.map Sum.inr → es.map keyE = xs ∧ ∀ e ∈ es, ∃ k u, e.key = Value.str k u
  | _, _, .nil, [], _ => ⟨rfl, fun e h => nomatch h⟩
  | _, _, .nil, _ :: _, h => nomatch h
  | _, _, .cons _ _ _, [], h => nomatch h
  | _, _, .cons (e := e) (kv := kv) h1 h2 hr, x :: xs, h => by
    rw [List.map_cons, List.map_cons] at h
    obtain ⟨a1, a2⟩ := List.cons.inj h
    obtain ⟨r1, r2⟩ := pairs_ks hr a2
    rw [a1] at h1
    have h1 : keyIs (.inr x) e.key = true := h1
    obtain ⟨i, t, h3, _⟩ | ⟨y, t, h3, h4⟩ := keyIs_shape h1
    · cases h3
    · cases h3
      refine ⟨?_, fun e' he => ?_⟩
      · rw [List.map_cons, r1]
        unfold keyE
        rw [h4]
      · rcases List.mem_cons.mp he with rfl | he
        · exact ⟨_, _, h4⟩
        · exact r2 e' he
def rSetDT (P : Program) (w : World) : List V → Hp → VK → Prop := fun vs H Q => ∃ (d : Addr) (kvs : List (Key × V)) (xs : List Str), vs = [V.ref d] ∧ Rd H d (.dK kvs) ∧ kvs.map (·.1) = xs.map Sum.inr ∧ xs.length ≤ 15 ∧
  ∀ (p : Addr) (l : List Str), (∀ x, x ∈ l ↔ x ∈ xs) → l.Nodup → l.length ≤ xs.length → H p = none → Q (.ref p) (upd H p (SetS P w p l))
theorem cr_setDT (hc : X.calm = true) : CallR X (.type "set") (rSetDT X.prog X.w) := by
  intro pins s σ H vs us Q I r h
  obtain ⟨d, kvs, xs, rfl, hd, hk, ln, q⟩ := h
  rw [Vals.ref1 r]
  obtain ⟨_, ns, vs2, rel, o, es, ep, ho, hex, hdt, hks, hp, _⟩ := dk_rd I.hok hd
  have ek : vs2.map (·.1) = xs.map Sum.inr := by
    rw [← hk]
    exact (KV.keys rel).symm
  obtain ⟨e1, e2⟩ := pairs_ks hp ek
  have len : es.size = xs.length := by rw [← e1, List.length_map, Array.length_toList]
  refine set_dictT (I.ok.hd hc) ho hex.1 hdt ns (fun e he => ?_) (by omega) fun h' tk l' q1 m1 n1 kp => ?_
  · obtain ⟨k, u, e3⟩ := e2 e he
    obtain ⟨k2, e4, e5⟩ := hks e (Array.mem_toList_iff.mp he)
    have e4 : keyIs k2 e.key = true := e4
    obtain ⟨i, t, h3, h4⟩ | ⟨y, t, h3, h4⟩ := keyIs_shape e4
    · rw [e3] at h4
      cases h4
    · subst h3
      exact ⟨y, t, h4, e5⟩
  · exact ⟨.ref s.heap.objs.size, upd H s.heap.objs.size (SetS X.prog X.w s.heap.objs.size l'), I.laid (t' := tk) (fun b o e => kp b o (Heap.lt_size e) e) (Nat.le_refl _) (setS_ok q1), rfl, q _ l' (fun x => by rw [m1 x, e1]) q1.un (by omega) (I.hok.fresh (Nat.le_refl _))⟩
end
end TX

-- RQb
set_option maxRecDepth 100000
set_option maxHeartbeats 4000000
/-! either of two tables' keys, in order; a table of its own walked; a key taken out -/
namespace L2
open PySem PySem.Spec PyProof.Rows
/-- for k in a dict that the expression makes -/
def iKeysN (td : TE) : TI := fun σ H R => td σ H fun x H1 => ∃ d kvs, x = .ref d ∧ H1 d = some (.dK kvs) ∧ ∀ o, R (Itk d o kvs) (upd H1 d (.frz o (.dK kvs)))
theorem pi_keysN {X : Cx} {tg e : Expr} {td : TE} (he : PE X e td) : PI X tg e (iKeysN td) := by
  refine ⟨fun pins s σ H R I h => ?_⟩
  refine thn (he.run pins s σ H _ I h) fun u s1 ⟨x, H1, I1, rx, d, kvs, ex, hd, q⟩ => ?_
  subst ex
  obtain rfl : u = Value.ref d := rx
  obtain ⟨od, I2⟩ := I1.lock hd True.intro
  have q := q od
  obtain ⟨hs, hgd, hx, es, ep, vs, hdt, hsz, kv, hm⟩ := I2.frzK upd_same
  refine iter_keys hs hgd hx hdt (pi_one (tk := s1.toks) I2 _ (turn_keys _ hdt) ⟨_, Heap.get?_push_size _ rfl, rfl, ?_⟩ q)
  rw [hsz] <;> rfl
end L2
namespace RP
open PySem PySem.Spec PyProof.Rows L2
open Rp (rp)
open SSt
section
variable {Ps : Tbs} {B : Bs} {M M' : Mu} {G : Gm} {K : PySem.W.Frag} {te td ty ta tb : TE} {t : TA} {R : VRel} {D : L2.Ends} {κ α : Type} [Ky κ] [Rp α] {P : Program} {w : World}
theorem Sub.setS {F H : Hp} {a b : Addr} {l : List Str} (s : Sub F H) (h : F a = some (TX.SetS P w b l)) : H a = some (TX.SetS P w b l) := by
  rcases s _ _ h with h | ⟨_, _, e, _⟩
  · exact h
  · cases e
def SetV (P : Program) (w : World) (p : List Str → Prop) : VRel := ⟨fun F v => ∃ a l, v = .ref a ∧ F a = some (TX.SetS P w a l) ∧ p l, fun F F' v le ⟨a, l, e, h, q⟩ => ⟨a, l, e, le _ _ h, q⟩⟩
def orL (a b : List Str) : List Str := a ++ b.filter fun x => !decide (x ∈ a)
theorem mem_orL {a b : List Str} {x : Str} : x ∈ orL a b ↔ x ∈ a ∨ x ∈ b := by
  unfold orL
  rw [List.mem_append, List.mem_filter]
  by_cases h : x ∈ a
  · simp [h]
  · simp [h]
theorem orL_nodup {a b : List Str} (ha : a.Nodup) (hb : b.Nodup) : (orL a b).Nodup := by
  unfold orL
  refine List.nodup_append.mpr ⟨ha, hb.sublist List.filter_sublist, fun x hx y hy e => ?_⟩
  subst e
  have := (List.mem_filter.mp hy).2
  simp [hx] at this
theorem orL_len {a b : List Str} : (orL a b).length ≤ a.length + b.length := by
  unfold orL
  rw [List.length_append]
  have := List.length_filter_le (fun x => !decide (x ∈ a)) b
  omega
theorem oc_setD {l : List (Str × α)} (h : Ds Ps M K R l) (n : l.length ≤ 15) : Oc Ps M (TX.rSetDT P w) [R] (SetV P w fun m => (∀ x, x ∈ m ↔ x ∈ l.map (·.1)) ∧ m.Nodup ∧ m.length ≤ l.length) := fun F H vs Q s r q => by
  obtain ⟨v, ev, rr⟩ := rs1 r
  subst ev
  obtain ⟨a, kv, rfl, h1, p⟩ := h F H v s rr
  refine ⟨a, kv, l.map (·.1), rfl, h1, kvs_keys p, by rw [List.length_map]; exact n, fun p m hm nd hl hp => ?_⟩
  have e := s.new (o := TX.SetS P w p m) hp
  exact q _ _ _ e ⟨p, m, rfl, upd_same, hm, nd, by rwa [List.length_map] at hl⟩
theorem o2_setOr {pa pb : List Str → Prop} {la lb : List Str} (ha : ∀ m, pa m → (∀ x, x ∈ m ↔ x ∈ la) ∧ m.Nodup ∧ m.length ≤ la.length) (hb : ∀ m, pb m → (∀ x, x ∈ m ↔ x ∈ lb) ∧ m.Nodup ∧ m.length ≤ lb.length) (n : la.length + lb.length ≤ 15) :
    O2 Ps M (TX.rSetOr P w) (SetV P w pa) (SetV P w pb) (SetV P w fun m => (∀ x, x ∈ m ↔ x ∈ orL la lb) ∧ m.Nodup ∧ m.length ≤ 15) := fun F H v u Q s ⟨a, ma, e1, h1, p1⟩ ⟨b, mb, e2, h2, p2⟩ q => by
  obtain ⟨a1, a2, a3⟩ := ha ma p1
  obtain ⟨b1, b2, b3⟩ := hb mb p2
  refine ⟨a, b, ma, mb, e1, e2, s.sub.setS h1, s.sub.setS h2, by omega, fun p m hm nd hl hp => ?_⟩
  have e := s.new (o := TX.SetS P w p m) hp
  exact q _ _ _ e ⟨p, m, rfl, upd_same, fun x => by rw [hm x, a1 x, b1 x, mem_orL], nd, by omega⟩
theorem oc_sortSet {p : List Str → Prop} {l : List Str} (hp : ∀ m, p m → (∀ x, x ∈ m ↔ x ∈ l) ∧ m.Nodup ∧ m.length ≤ 15) (nd : l.Nodup) : Oc Ps M (TX.rSortedSetS P w) [SetV P w p] (Is K (ss l)) := fun F H vs Q s r q => by
  obtain ⟨v, ev, a, m, rfl, h1, pm⟩ := rs1 r
  subst ev
  obtain ⟨h2, h3, h4⟩ := hp m pm
  refine ⟨a, m, rfl, s.sub.setS h1, by omega, fun ys b py so hb => ?_⟩
  have e : ys = ss l := eq_ssS (py.trans ((List.perm_ext_iff_of_nodup h3 nd).mpr h2)) so
  have ev := Evo.newL s (K := K) (str_ps2 (K := K) ys) hb
  exact q _ _ _ ev.1 (e ▸ ev.2)
/-- a walk of what the expression makes -/
theorem Nx.forN {l : List (κ × α)} {g : TG} {ts : TS} {j : Nat} (h : EvS Ps B G M td fun R M' => ∃ d, R = At d ∧ M'[j]? = some (d, DicM K l) ∧ ∀ od kv, Nx Ps B G (M'.set j (d, LkD K l od kv)) (tFor (iKeys (tC (.ref d))) g ts D)) : Nx Ps B G M (tFor (iKeysN td) g ts D) := fun σ F H s => h σ F H _ s fun R M' v F' H' ⟨d, e1, hj, nx⟩ s' le r => by
  subst e1
  cases r
  obtain ⟨o, h1, kv, rfl, hk⟩ := s'.sh.mu _ (List.mem_of_getElem? hj)
  refine ⟨d, kv, rfl, h1, fun od => ?_⟩
  obtain ⟨d2, o2, e2, h2⟩ := nx od kv σ F' _ (s'.retell hj rfl rfl h1 (fun _ z => nomatch z) ⟨rfl, hk⟩)
  cases e2
  rcases h2 with ⟨kvs, h3, h4⟩ | ⟨kvs, h3, h4⟩
  · rw [upd_same] at h3
    cases h3
    exact h4
  · rw [upd_same] at h3
    cases h3
/-- del d[k] -/
def dropD [DecidableEq κ] (l : List (κ × α)) (k : κ) : List (κ × α) := l.filter fun e => decide (e.1 ≠ k)
theorem Kvs.drop [DecidableEq κ] {F : Hp} {kv : List (Key × V)} {l : List (κ × α)} {k : κ} (h : Kvs K F kv l) : Kvs K F (dropK kv (Ky.key k)) (dropD l k) := by
  unfold dropK dropD
  unfold Kvs at h
  induction h with
  | nil => exact .nil
  | cons hd tl ih =>
    rename_i a b as bs
    have e : decide (a.1 ≠ Ky.key k) = decide (b.1 ≠ k) := decide_eq_decide.mpr ⟨fun z y => z (by rw [hd.1, y]), fun z y => z (Ky.inj _ _ (hd.1.symm.trans y))⟩
    rw [List.filter_cons, List.filter_cons, e]
    by_cases c : b.1 ≠ k
    · rw [if_pos (decide_eq_true c), if_pos (decide_eq_true c)]
      exact .cons hd ih
    · rw [if_neg (by simpa using c), if_neg (by simpa using c)]
      exact ih
theorem Nx.ddel [Rp κ] [KyR κ] [DecidableEq κ] {l : List (κ × α)} {k : κ} {j : Nat} {a : Addr} (hd : Ev Ps G M td (At a)) (hy : Ev Ps G M ty (Is K k)) (hj : M[j]? = some (a, DicM K l)) (hk : k ∈ l.map (·.1)) (nx : Nx Ps B G (M.set j (a, DicM K (dropD l k))) D.nx) : Nx Ps B G M (sDDel td ty D) := fun σ F H s =>
  hd σ F H _ s.en s.sh fun d F2 H2 e2 r2 => hy σ F2 H2 _ (s.en.mono e2.le) (s.sh.evo e2) fun y F3 H3 e3 r3 => by
    have s3 := (s.evo e2).evo e3
    cases r2
    obtain ⟨o, h1, kv, rfl, p⟩ := s3.sh.mu _ (List.mem_of_getElem? hj)
    have ek := (KyR.r ..).mp r3
    subst ek
    refine ⟨a, kv, Ky.key k, rfl, h1, rfl, ?_, nx σ F3 _ (s3.wr hj rfl ⟨_, rfl, p.drop⟩)⟩
    rcases p.val k with ⟨h2, _⟩ | ⟨x, v, _, h3, _⟩
    · exfalso
      unfold lookD at h2
      rw [Option.map_eq_none_iff, List.find?_eq_none] at h2
      obtain ⟨e, he, z⟩ := List.mem_map.mp hk
      exact h2 e he (by simpa using z)
    · rw [h3]
      rfl
end
end RP

-- D01Q
set_option maxRecDepth 100000
set_option maxHeartbeats 4000000
namespace K01
open PySem PySem.Spec PyProof.Rows L2 BG
open RP hiding Tb
open SSt
section
variable {P : Program} {w : World} {K : PySem.W.Frag} {mg : Str → Option Value} {base : Heap} {Bp : Addr} {Ps : Tbs}
/-! between: slots one=0 other=1 old=2 new=3 rows=4 path=5 -/
abbrev s_between : Stmt := topS 18
abbrev Nbt : List Str := ["one", "other", "old", "new", "rows", "path"]
theorem sc_between : FnScope Nbt ["one", "other"] (defScope s_between) := ⟨rfl, rfl, rfl, by decide +kernel, rfl, by decide +kernel, by decide +kernel⟩
/-- the row of a path, if it isn't alike on both sides -/
def rowB (a b : Fold) (p : Str) : Option (Str × Str) := if p ∉ kys a then some ("+", p) else if p ∉ kys b then some ("-", p) else if getF a p ≠ getF b p then some ("*", p) else none
def bothK (a b : Fold) : List Str := ss (orL (kys a) (kys b))
def betwF (a b : Fold) : List (Str × Str) := (bothK a b).filterMap (rowB a b)
def SmB (c : Fold × Fold) : Prop := SmD c.1 ∧ SmD c.2 ∧ c.1.length + c.2.length ≤ 15
abbrev sp_between (Ps : Tbs) (K : PySem.W.Frag) (Bp : Addr) : Sp := Spx (γ := Fold × Fold) Ps (fun c => [Is K (Dc.mk c.1), Is K (Dc.mk c.2)]) SmB (fun c => Is K (Tl.mk (betwF (sortF c.1) (sortF c.2)))) (fun c => if (okFold c.1 && okFold c.2) = true then none else some Bp)
theorem ok_between {f g1 : Addr} {fd fd1 : FuncData} {k k1 : Nat} (Fn : Fun K "between" "between" s_between f fd)
    (G1 : Cal P w K mg base (L2.CX P w) k1 "check_folder" ["table"] (sp_check_folder Ps K Bp) g1 fd1) (h1 : k1 ≤ k) (z_set : mg "set" = none) (z_sorted : mg "sorted" = none) (z_tuple : mg "tuple" = none) : FnOk P w K mg base (L2.CX P w) (k + 1) f fd ["one", "other"] (sp_between Ps K Bp) := by
  refine Fun.okP Fn sc_between (fun _ => rfl) fun cdv A outer s H0 E hr => ?_
  have hu := hr.units
  have hu1 : (A.deeper (envOfC "between" (defScope s_between) s.heap.objs.size f cdv)).units + 1 < cLine := by omega
  refine ⟨_, (pss_cons (ps_set (i := 2) sc_between.nd rfl (.inl rfl) (pe_call G1.ok (hr.mono h1) (by rfl) G1.g G1.kp G1.b .nil (passes_call (takes_of rfl rfl rfl rfl) (fun _ _ _ _ h => h)) (pa_cons (pv 0) pa_nil)))
    (pss_cons (ps_set (i := 3) sc_between.nd rfl (.inl rfl) (pe_call G1.ok (hr.mono h1) (by rfl) G1.g G1.kp G1.b .nil (passes_call (takes_of rfl rfl rfl rfl) (fun _ _ _ _ h => h)) (pa_cons (pv 1) pa_nil)))
    (pss_cons (ps_set (i := 4) sc_between.nd rfl (.inl rfl) (pe_lst pa_nil))
    (pss_cons (ps_for (passes_of rfl) rfl (pi_list (pe_callB (TX.cr_sortedSetS rfl) (by rfl) z_sorted (by decide +kernel) (pa_cons (pe_op TX.op_setOr (pe_callTy (TX.cr_setDT rfl) (by rfl) z_set (by decide +kernel) (pa_cons (pv 2) pa_nil)) (pe_callTy (TX.cr_setDT rfl) (by rfl) z_set (by decide +kernel) (pa_cons (pv 3) pa_nil))) pa_nil))) (pg_name (i := 5) sc_between.nd rfl (.inl rfl))
      (pss_one (ps_if (pt_cmp (pc_dnotin hu1 (pv 5) (pv 2)) (by with_unfolding_all rfl))
      (pss_one (ps_expr (pe_bm PySem.F.plainAttrs_list PySem.F.slot_list_append PySem.F.type_list_append mt_append (pv 4) (pa_cons (pe_tup (pa_cons pe_str (pa_cons (pv 5) pa_nil))) pa_nil)))) (pss_one (ps_if (pt_cmp (pc_dnotin hu1 (pv 5) (pv 3)) (by with_unfolding_all rfl))
      (pss_one (ps_expr (pe_bm PySem.F.plainAttrs_list PySem.F.slot_list_append PySem.F.type_list_append mt_append (pv 4) (pa_cons (pe_tup (pa_cons pe_str (pa_cons (pv 5) pa_nil))) pa_nil)))) (pss_one (ps_if (pt_cmpR op_ne (pe_dget hu1 (pv 2) (pv 5) (fun _ _ => rfl)) (pe_dget hu1 (pv 3) (pv 5) (fun _ _ => rfl)) (nomark _))
      (pss_one (ps_expr (pe_bm PySem.F.plainAttrs_list PySem.F.slot_list_append PySem.F.type_list_append mt_append (pv 4) (pa_cons (pe_tup (pa_cons pe_str (pa_cons (pv 5) pa_nil))) pa_nil)))) pss_nil)))))))
    (pss_one (ps_ret (pe_callTy call_tuple_of (by rfl) z_tuple (by decide +kernel) (pa_cons (pv 4) pa_nil)))))))), fun c B D pre hrt hx hnx => ?_⟩
  obtain ⟨a, b⟩ := c
  obtain ⟨pa, pb, pn⟩ := pre
  by_cases ok1 : okFold a = true
  · refine Nx.seq (Nx.set (R := Is K (Dc.mk (sortF a))) (Ev.calloD (M := []) (fun _ h => nomatch h) a (Ea.cons (Ev.var rfl) Ea.nil) pa (if_pos ok1)) ?_)
    dsimp only
    by_cases ok2 : okFold b = true
    · refine Nx.seq (Nx.set (R := Is K (Dc.mk (sortF b))) (Ev.calloD (M := []) (fun _ h => nomatch h) b (Ea.cons (Ev.var rfl) Ea.nil) pb (if_pos ok2)) ?_)
      dsimp only
      refine Nx.seq (Nx.newL (K := K) (α := Str × Str) fun rw_ => ?_)
      dsimp only
      have own : ∀ (xs : List (Str × Str)), ∀ e ∈ [(rw_, LstM K xs)], e.2.own = true := fun xs e he => by
        rw [List.mem_singleton.mp he]
        rfl
      have pn : a.length + b.length ≤ 15 := pn
      have la : (sortF a).length = a.length := by
        have := len_sort a
        rwa [List.length_map] at this
      have lb : (sortF b).length = b.length := by
        have := len_sort b
        rwa [List.length_map] at this
      have na : (kys (sortF a)).Nodup := by
        rw [kys_sort]
        exact (ss_perm _).nodup_iff.mpr pa.2.1
      have nb : (kys (sortF b)).Nodup := by
        rw [kys_sort]
        exact (ss_perm _).nodup_iff.mpr pb.2.1
      have nl : (kys (sortF a)).length + (kys (sortF b)).length ≤ 15 := by
        rw [len_sort, len_sort]
        exact pn
      have fm (i : Nat) (x : Str) (px : (bothK (sortF a) (sortF b))[i]? = some x) : ((bothK (sortF a) (sortF b)).take (i + 1)).filterMap (rowB (sortF a) (sortF b)) = ((bothK (sortF a) (sortF b)).take i).filterMap (rowB (sortF a) (sortF b)) ++ (rowB (sortF a) (sortF b) x).toList := by
        rw [List.take_add_one, px, List.filterMap_append]
        cases e : rowB (sortF a) (sortF b) x <;> simp [e]
      have lnb : (bothK (sortF a) (sortF b)).length ≤ 15 := by
        unfold bothK
        rw [(ss_perm _).length_eq]
        exact Nat.le_trans orL_len nl
      have lt (i : Nat) : (((bothK (sortF a) (sortF b)).take i).filterMap (rowB (sortF a) (sortF b))).length ≤ 100000 := by
        refine Nat.le_trans (List.length_filterMap_le _ _) (Nat.le_trans (List.length_take_le' _ _) (by omega))
      refine Nx.seq (Nx.for0 (γ := Str) (δ := Unit) (n := (bothK (sortF a) (sortF b)).length) (Rs := Nth K (bothK (sortF a) (sortF b))) (L := []) ?_ (fun i _ => True) (fun _ _ => [some (Is K (Dc.mk a)), some (Is K (Dc.mk b)), some (Is K (Dc.mk (sortF a))), some (Is K (Dc.mk (sortF b))), some (At rw_), none]) (fun i _ => [(rw_, LstM K (((bothK (sortF a) (sortF b)).take i).filterMap (rowB (sortF a) (sortF b))))]) (fun _ _ _ _ h => nomatch h) (fun i x => (bothK (sortF a) (sortF b))[i]? = some x) (fun _ x => Is K x) (fun i _ F v r => r) () True.intro GLe.refl rfl _ (fun i c x _ _ _ => Eg.name) (fun B' ble i c x hlt iv px N hN => ?_) fun _ iv => ?_)
      · refine Ei.list (K := K) (xs := bothK (sortF a) (sortF b)) (Ev.cb (Ea.cons (Ev.op (Ev.cb (Ea.cons (Ev.var rfl) Ea.nil) (oc_setD (Ds.fz (l := Dc.mk (sortF a))) (by show (sortF a).length ≤ 15; omega))) (Ev.cb (Ea.cons (Ev.var rfl) Ea.nil) (oc_setD (Ds.fz (l := Dc.mk (sortF b))) (by show (sortF b).length ≤ 15; omega))) (o2_setOr (la := kys (sortF a)) (lb := kys (sortF b)) (fun m h => ⟨h.1, h.2.1, by rw [len_sort]; exact la ▸ h.2.2⟩) (fun m h => ⟨h.1, h.2.1, by rw [len_sort]; exact lb ▸ h.2.2⟩) nl)) Ea.nil) (oc_sortSet (l := orL (kys (sortF a)) (kys (sortF b))) (fun m h => h) (orL_nodup na nb)))
      · have step := hN () True.intro
        rw [fm i x px] at step
        have vin (R : List Str) : True := trivial
        refine Nx.ite (P := fun t => t = !decide (x ∈ kys (sortF a))) (Et.isB ((Ev.dnotin (Ev.var (R := Is K x) rfl) (Ev.var (R := Is K (Dc.mk (sortF a))) rfl) Ds.fz).to ?_)) (fun hb => ?_) (fun hb => ?_)
        · rw [← look_iff]
          first | done | (cases lookD (sortF a) x <;> rfl)
        · have hm : x ∉ kys (sortF a) := by simpa using hb.symm
          have e : rowB (sortF a) (sortF b) x = some (("+", x) : Str × Str) := by unfold rowB; rw [if_pos hm]
          rw [e] at step
          exact Nx.app (K := K) (x := (("+", x) : Str × Str)) (j := 0) (a := rw_) (Ev.var rfl) (Ev.pair (K := K) Ev.str (Ev.var rfl)) rfl (lt i) (step.gle (by (repeat' (first | exact RP.GLe.nil | apply RP.GLe.keep | apply RP.GLe.drop))))
        · have hm : x ∈ kys (sortF a) := by simpa using hb.symm
          refine Nx.ite (P := fun t => t = !decide (x ∈ kys (sortF b))) (Et.isB ((Ev.dnotin (Ev.var (R := Is K x) rfl) (Ev.var (R := Is K (Dc.mk (sortF b))) rfl) Ds.fz).to ?_)) (fun hb => ?_) (fun hb => ?_)
          · rw [← look_iff]
            first | done | (cases lookD (sortF b) x <;> rfl)
          · have hm2 : x ∉ kys (sortF b) := by simpa using hb.symm
            have e : rowB (sortF a) (sortF b) x = some (("-", x) : Str × Str) := by unfold rowB; rw [if_neg (by simpa using hm), if_pos hm2]
            rw [e] at step
            exact Nx.app (K := K) (x := (("-", x) : Str × Str)) (j := 0) (a := rw_) (Ev.var rfl) (Ev.pair (K := K) Ev.str (Ev.var rfl)) rfl (lt i) (step.gle (by (repeat' (first | exact RP.GLe.nil | apply RP.GLe.keep | apply RP.GLe.drop))))
          · have hm2 : x ∈ kys (sortF b) := by simpa using hb.symm
            refine Nx.ite (P := fun t => t = !decide (getF (sortF a) x = getF (sortF b) x)) (Et.is (Ev.op (Ev.dget (Ev.var (R := Is K (Dc.mk (sortF a))) rfl) Ds.fz (Ev.var rfl) (get_sort hm)) (Ev.dget (Ev.var (R := Is K (Dc.mk (sortF b))) rfl) Ds.fz (Ev.var rfl) (get_sort hm2)) o2_ne)) (fun hb => ?_) (fun hb => ?_)
            · have hm3 : getF (sortF a) x ≠ getF (sortF b) x := by simpa using hb.symm
              have e : rowB (sortF a) (sortF b) x = some (("*", x) : Str × Str) := by unfold rowB; rw [if_neg (by simpa using hm), if_neg (by simpa using hm2), if_pos hm3]
              rw [e] at step
              exact Nx.app (K := K) (x := (("*", x) : Str × Str)) (j := 0) (a := rw_) (Ev.var rfl) (Ev.pair (K := K) Ev.str (Ev.var rfl)) rfl (lt i) (step.gle (by (repeat' (first | exact RP.GLe.nil | apply RP.GLe.keep | apply RP.GLe.drop))))
            · have hm3 : getF (sortF a) x = getF (sortF b) x := by simpa using hb.symm
              have e : rowB (sortF a) (sortF b) x = none := by unfold rowB; rw [if_neg (by simpa using hm), if_neg (by simpa using hm2), if_neg (by simpa using hm3)]
              rw [e, show (none : Option (Str × Str)).toList = [] from rfl, List.append_nil] at step
              exact step.gle (by (repeat' (first | exact RP.GLe.nil | apply RP.GLe.keep | apply RP.GLe.drop)))
      · rw [List.take_length]
        have he : (if (okFold a && okFold b) = true then none else some Bp) = none := if_pos (by rw [ok1, ok2]; rfl)
        exact Nx.ret (R := Is K (Tl.mk (betwF (sortF a) (sortF b)))) (Ev.cb (Ea.cons (Ev.var (R := At rw_) rfl) Ea.nil) (oc_tuple (Ls.mu (List.mem_singleton.mpr rfl)))) fun v σ F H sa r => hrt he v _ _ _ _ _ (own _) sa r
    · have he : (if (okFold a && okFold b) = true then none else some Bp) = some Bp := if_neg (by rw [ok1]; simpa using ok2)
      exact Nx.seq (Nx.asgR (E := E) (a := Bp) (EvR.callo (M := []) (fun _ h => nomatch h) b (Ea.cons (Ev.var rfl) Ea.nil) pb (if_neg ok2)) fun σ F H sa => hx Bp he _ [] _ _ _ (fun _ h => nomatch h) sa)
  · have he : (if (okFold a && okFold b) = true then none else some Bp) = some Bp := if_neg (by simp [ok1])
    exact Nx.seq (Nx.asgR (E := E) (a := Bp) (EvR.callo (M := []) (fun _ h => nomatch h) a (Ea.cons (Ev.var rfl) Ea.nil) pa (if_neg ok1)) fun σ F H sa => hx Bp he _ [] _ _ _ (fun _ h => nomatch h) sa)
end
end K01

-- D01R
set_option maxRecDepth 100000
set_option maxHeartbeats 4000000
namespace RP
open PySem PySem.Spec PyProof.Rows L2
theorem EvR.tupG {Ps : Tbs} {M : Mu} {G : Gm} {wi : TI} {E : XK} {a P : Addr} {g : TG} {tt : TT} {te : TE} {ix : List (Option Nat)} {vs : List Nat} (h : EiR Ps G M wi E a) : EvR Ps G M (GX.tTupG (GX.tGenL P wi g tt te ix vs)) E a := fun σ F H Q e s x => h σ F H _ e s x
end RP
namespace K01
open PySem PySem.Spec PyProof.Rows L2 BG
open RP hiding Tb
open SSt
section
variable {P : Program} {w : World} {K : PySem.W.Frag} {mg : Str → Option Value} {base : Heap} {Bp : Addr} {Ps : Tbs}
/-! changes_to: slots one=0 other=1 -/
abbrev s_changes_to : Stmt := topS 19
abbrev Nct : List Str := ["one", "other"]
theorem sc_changes_to : FnScope Nct ["one", "other"] (defScope s_changes_to) := ⟨rfl, rfl, rfl, by decide +kernel, rfl, by decide +kernel, by decide +kernel⟩
theorem gs_changes_to : GX.GScp Nct (defScope s_changes_to) { kind := ScopeKind.function, names := [(".0", NameKind.local), ("sign", NameKind.local), ("path", NameKind.local), ("other", NameKind.free)], isGenerator := true, isCoroutine := false } ["sign", "path", "other"] [none, none, some 1] := GX.gsc_by (by decide +kernel)
abbrev Chg := List (Str × Option Str)
def chgF (a b : Fold) : Chg := (betwF (sortF a) (sortF b)).map fun r => (r.2, lookD b r.2)
abbrev sp_changes_to (Ps : Tbs) (K : PySem.W.Frag) (Bp : Addr) : Sp := Spx (γ := Fold × Fold) Ps (fun c => [Is K (Dc.mk c.1), Is K (Dc.mk c.2)]) SmB (fun c => Is K (Tl.mk (chgF c.1 c.2))) (fun c => if (okFold c.1 && okFold c.2) = true then none else some Bp)
theorem len_betw {a b : Fold} (h : SmB (a, b)) : (betwF (sortF a) (sortF b)).length ≤ 15 := by
  unfold betwF
  refine Nat.le_trans (List.length_filterMap_le _ _) ?_
  unfold bothK
  rw [(ss_perm _).length_eq]
  refine Nat.le_trans orL_len ?_
  rw [len_sort, len_sort]
  exact h.2.2
theorem ok_changes_to {f g1 cc pp : Addr} {fd fd1 : FuncData} {k k1 : Nat} (Fn : BG.FunC K "changes_to" "changes_to" s_changes_to f fd cc) (TB : GxR.TabB base mg cc pp) (hpp : (pp, none) ∈ Ps) (un : ∀ e ∈ Ps, e.1 = pp → e.2 = none)
    (G1 : Cal P w K mg base (L2.CX P w) k1 "between" ["one", "other"] (sp_between Ps K Bp) g1 fd1) (h1 : k1 ≤ k) (z_tuple : mg "tuple" = none) : FnOk P w K mg base (L2.CX P w) (k + 8) f fd ["one", "other"] (sp_changes_to Ps K Bp) := by
  refine BG.FunC.okP Fn sc_changes_to (fun _ => rfl) fun A outer s H0 E hr => ?_
  have hr0 : Room k (A.deeper (envOfC "changes_to" (defScope s_changes_to) s.heap.objs.size f (.ref cc))) := hr.mono (by omega)
  have hr5 : Room (k + 1 + 5) (A.deeper (envOfC "changes_to" (defScope s_changes_to) s.heap.objs.size f (.ref cc))) := hr.mono (by omega)
  refine ⟨_, (pss_one (ps_ret (GX.pe_tupG (GX.pgen_exp (k := k) (Ng := ["sign", "path", "other"]) (ix := [none, none, some 1]) (vs := [0, 1]) hr0 TB rfl gs_changes_to (pi_tupK (K0 := K) rfl (pe_call G1.ok (hr0.mono h1) (by rfl) G1.g G1.kp G1.b .nil (passes_call (takes_of rfl rfl rfl rfl) (fun _ _ _ _ h => h)) (pa_cons (pv 0) (pa_cons (pv 1) pa_nil)))) (fun _ _ _ _ _ _ _ => (pg_tupKK (n := 2) (K0 := K) rfl rfl (pgs_cons (pg_name (i := 0) gs_changes_to.nd rfl (.inl rfl)) (pgs_cons (pg_name (i := 1) gs_changes_to.nd rfl (.inl rfl)) pgs_nil)))) (fun _ _ _ _ _ _ _ hr => pts_nil) (fun _ _ _ _ _ _ _ hr => (pe_tup (pa_cons (pv 1) (pa_cons (pe_dget1 (by exact SSt.room_u (hr _)) (pv 2) (pv 1) ⟨rfl, by rfl, by rfl, by rfl⟩) pa_nil))))) hr5 (by rfl) z_tuple (by decide +kernel)))), fun c B D pre hrt hx hnx => ?_⟩
  obtain ⟨a, b⟩ := c
  by_cases ok : (okFold a && okFold b) = true
  · refine Nx.ret (R := Is K (Tl.mk (chgF a b))) ?_ fun v σ F H sa r => hrt (if_pos ok) v _ [] _ _ _ (fun _ h => nomatch h) sa r
    refine (Ev.tupG (K := K) (α := Str × Str) (β := Str × Option Str) (L := []) (sl := [0, 1]) (xs := betwF (sortF a) (sortF b)) (p := fun _ => true) (f := fun x => (x.2, lookD b x.2)) hpp un (Ei.tup (xs := Tl.mk (betwF (sortF a) (sortF b))) (Ev.callx (M := []) (fun _ h => nomatch h) (a, b) (Ea.cons (Ev.var rfl) (Ea.cons (Ev.var rfl) Ea.nil)) pre (if_pos ok))) (fun _ h => nomatch h) (by have := len_betw pre; omega) _ (fun x _ => Eg.pair Eg.name Eg.name) (fun k hk => hk) (fun x _ => Et.yes) (fun x hx _ => Ev.pair (Ev.var (R := Is K x.2) rfl) (Ev.dget1 (Ev.var (R := Is K (Dc.mk b)) rfl) Ds.fz (Ev.var rfl)))).to ?_
    rw [List.filter_eq_self.mpr fun _ _ => rfl]
    rfl
  · have he : (if (okFold a && okFold b) = true then none else some Bp) = some Bp := if_neg ok
    exact Nx.retR (E := E) (a := Bp) (EvR.tupG (EiR.tup (EvR.callx (M := []) (fun _ h => nomatch h) (a, b) (Ea.cons (Ev.var rfl) (Ea.cons (Ev.var rfl) Ea.nil)) pre he))) fun σ F H sa => hx Bp he _ [] _ _ _ (fun _ h => nomatch h) sa
end
end K01

-- D01S
set_option maxRecDepth 100000
set_option maxHeartbeats 4000000
namespace RP
open PySem PySem.Spec PyProof.Rows L2
open Rp (rp)
section
variable {Ps : Tbs} {B : Bs} {M M' : Mu} {G : Gm} {K : PySem.W.Frag} {σ : L2.St} {F H : Hp} {k : L2.St → Hp → Prop} {κ α : Type}
theorem o2_notN [Rp α] {x : Option α} (hx : ∀ y, x = some y → ∀ F, ¬ rp K F .non y) : O2 Ps M (fun x y H Q => y = .non ∧ Q (.bl (!decide (x = .non))) H) (Is K x) (Is K (none : Option α)) (Is K x.isSome) := fun F H v w Q s r1 r2 q => by
  have h := o2_isN (Ps := Ps) (M := M) hx F H v w (fun z H' => ∃ b, z = .bl b ∧ Q (.bl (!b)) H') s r1 r2 fun z F' H' e r => by
    cases r
    refine ⟨_, rfl, ?_⟩
    cases x with
    | none => exact q _ F' H' e rfl
    | some y => exact q _ F' H' e rfl
  obtain ⟨h1, b, h2, h3⟩ := h
  cases h2
  exact ⟨h1, h3⟩
/-- a table of ours told -/
theorem Nx.frzD [Ky κ] [Rp α] {i j : Nat} {d : Addr} {l : List (κ × α)} (hi : G[i]? = some (some (At d))) (hj : M[j]? = some (d, DicM K l)) (hB : ∀ a, ¬ B.W a) (n : Nx Ps B (G.set i (some (Is K (Dc.mk l)))) (M.eraseIdx j) k) : Nx Ps B G M k := fun σ F H s => by
  obtain ⟨o, h1, kv, rfl, p⟩ := s.sh.mu _ (List.mem_of_getElem? hj)
  have s2 := s.frz hj rfl (s.newM hB (List.mem_of_getElem? hj)) h1
  have nF := (s.sh.ow _ (List.mem_of_getElem? hj)).2 rfl
  obtain ⟨v, hv, rv⟩ := s.en.2 i _ hi
  cases rv
  refine n σ _ H (s2.env (s2.en.re hv ⟨d, kv, rfl, upd_same, p.mono fun b o e => ?_⟩))
  rw [upd_ne (ne_of_none e nF)]
  exact e
end
end RP
namespace K01
open PySem PySem.Spec PyProof.Rows L2 BG
open RP hiding Tb
open SSt
open SkE (pmk_own1)
section
variable {P : Program} {w : World} {K : PySem.W.Frag} {mg : Str → Option Value} {base : Heap} {Bp : Addr} {Ps : Tbs}
/-! changed: slots table=0 changes=1 found=2 path=3 text=4 -/
abbrev s_changed : Stmt := topS 20
abbrev Nch : List Str := ["table", "changes", "found", "path", "text"]
theorem sc_changed : FnScope Nch ["table", "changes"] (defScope s_changed) := ⟨rfl, rfl, rfl, by decide +kernel, rfl, by decide +kernel, by decide +kernel⟩
def dels : Chg → Fold → Option Fold
  | [], l => some l
  | (p, none) :: r, l => if p ∈ kys l then dels r (dropD l p) else none
  | (_, some _) :: r, l => dels r l
def puts : Chg → Fold → Fold
  | [], l => l
  | (_, none) :: r, l => puts r l
  | (p, some t) :: r, l => puts r (putD l p t)
def IsC (K : PySem.W.Frag) (c : Bool × Chg) : VRel := if c.1 then Is K (Tl.mk c.2) else Is K c.2
/-- what comes of it -/
def chgdF (l : Fold) (c : Chg) : Fold := sortF (puts c ((dels c (sortF l)).getD []))
def okChgd (l : Fold) (c : Chg) : Bool := okFold l && match dels c (sortF l) with
  | none => false
  | some m => okFold (puts c m)
def SmC (c : Fold × (Bool × Chg)) : Prop := SmD c.1 ∧ c.2.2.length ≤ 100 ∧ (∀ e ∈ c.2.2, (reprText e.1).length ≤ 1000) ∧ ∀ m, dels c.2.2 (sortF c.1) = some m → SmD (puts c.2.2 m)
theorem dropD_len {l : Fold} {p : Str} : (dropD l p).length ≤ l.length := List.length_filter_le _ _
abbrev sp_changed (Ps : Tbs) (K : PySem.W.Frag) (Bp : Addr) : Sp := Spo (γ := Fold × (Bool × Chg)) Ps (fun c => [Is K (Dc.mk c.1), IsC K c.2]) SmC (fun c => DicM K (chgdF c.1 c.2.2)) (fun c => if okChgd c.1 c.2.2 = true then none else some Bp)
theorem ok_changed {f g1 : Addr} {fd fd1 : FuncData} {k k1 : Nat} (Fn : Fun K "changed" "changed" s_changed f fd) (X : Exn K mg "BadPath" Bp)
    (G1 : Cal P w K mg base (L2.CX P w) k1 "check_folder" ["table"] (sp_check_folder Ps K Bp) g1 fd1) (h1 : k1 ≤ k) : FnOk P w K mg base (L2.CX P w) (k + 1) f fd ["table", "changes"] (sp_changed Ps K Bp) := by
  refine Fun.okPo Fn sc_changed (fun _ => rfl) fun cdv A outer s H0 E hr => ?_
  have hu := hr.units
  have hu1 : (A.deeper (envOfC "changed" (defScope s_changed) s.heap.objs.size f cdv)).units + 1 < cLine := by omega
  refine ⟨_, (pss_cons (ps_set (i := 2) sc_changed.nd rfl (.inl rfl) (pe_call G1.ok (hr.mono h1) (by rfl) G1.g G1.kp G1.b .nil (passes_call (takes_of rfl rfl rfl rfl) (fun _ _ _ _ h => h)) (pa_cons (pv 0) pa_nil)))
    (pss_cons (ps_for (passes_of rfl) rfl (pi_alt (pi_list (pv 1)) (pi_tup (pv 1))) (pg_tupKK (K0 := K) (n := 2) rfl rfl (pgs_cons (pg_name (i := 3) sc_changed.nd rfl (.inl rfl)) (pgs_cons (pg_name (i := 4) sc_changed.nd rfl (.inl rfl)) pgs_nil)))
      (pss_one (ps_if (pt_cmpR op_isN (pv 4) pe_non (nomark _))
      (pss_cons (ps_if (pt_cmp (pc_dnotin hu1 (pv 3) (pv 2)) (by with_unfolding_all rfl))
      (pss_one (ps_raise rfl (takes_of rfl rfl rfl rfl) (pmk_own1 PySem.F.excBase_ValueError X.e X.g X.k (raises_own X.b X.t) (by rfl) (pe_joined (.cons pe_str (.cons (pe_fmtR (pv 3)) .nil)))))) pss_nil)
    (pss_one (ps_ddel (pv 2) (pv 3)))) pss_nil)))
    (pss_cons (ps_for (passes_of rfl) rfl (pi_alt (pi_list (pv 1)) (pi_tup (pv 1))) (pg_tupKK (K0 := K) (n := 2) rfl rfl (pgs_cons (pg_name (i := 3) sc_changed.nd rfl (.inl rfl)) (pgs_cons (pg_name (i := 4) sc_changed.nd rfl (.inl rfl)) pgs_nil)))
      (pss_one (ps_if (pt_cmpR op_notN (pv 4) pe_non (nomark _))
      (pss_one (ps_dput hu1 (pv 2) (pv 3) (pv 4) rfl)) pss_nil)))
    (pss_one (ps_ret (pe_call G1.ok (hr.mono h1) (by rfl) G1.g G1.kp G1.b .nil (passes_call (takes_of rfl rfl rfl rfl) (fun _ _ _ _ h => h)) (pa_cons (pv 2) pa_nil))))))), fun c B D hB pre hrt hx => ?_⟩
  obtain ⟨l, b, ch⟩ := c
  obtain ⟨pl, pc, pr, pm⟩ := pre
  have pc : ch.length ≤ 100 := pc
  have ll : (sortF l).length < 64 := by
    have h1 := len_sort l
    rw [List.length_map] at h1
    have h2 : l.length < 64 := pl.1
    omega
  by_cases ok1 : okFold l = true
  · refine Nx.seq (Nx.setS (EvS.callo (M := []) (fun _ h => nomatch h) l (Ea.cons (Ev.var rfl) Ea.nil) pl (if_pos ok1)) fun R1 M1 e1 => ?_)
    obtain ⟨d, rfl, rfl⟩ := e1
    dsimp only
    have own : ∀ m : Fold, ∀ e ∈ [(d, DicM K m)], e.2.own = true := fun m e he => by
      rw [List.mem_singleton.mp he]
      rfl
    have walk : ∀ M : Mu, Ei Ps [some (Is K (Dc.mk l)), some (IsC K (b, ch)), some (At d), none, none] M [] (iAlt (iList K (tVar 1)) (iTup K (tVar 1))) ch.length (Nth K ch) := fun M => by
      cases b with
      | true => exact Ei.altR (Ei.tup (K := K) (xs := Tl.mk ch) (Ev.var rfl))
      | false => exact Ei.altL (Ei.list (K := K) (xs := ch) (Ev.var rfl))
    refine Nx.seq (Nx.for0 (γ := Str × Option Str) (δ := Fold) (n := ch.length) (Rs := Nth K ch) (L := []) (walk _) (fun i m => dels (ch.drop i) m = dels ch (sortF l) ∧ m.length < 64) (fun _ _ => [some (Is K (Dc.mk l)), some (IsC K (b, ch)), some (At d), none, none]) (fun i m => [(d, DicM K m)]) (fun _ _ _ _ h => nomatch h) (fun i x => ch[i]? = some x) (fun _ x => Is K x) (fun i _ F v r => r) (sortF l) ⟨rfl, ll⟩ GLe.refl rfl _ (fun i c x _ _ _ => Eg.pair Eg.name Eg.name) (fun B' ble i m x hlt iv px N hN => ?_) fun m iv => ?_)
    · obtain ⟨iv1, iv2⟩ := iv
      have hdr : ch.drop i = x :: ch.drop (i + 1) := by
        have := (List.getElem?_eq_some_iff.mp px)
        obtain ⟨h, e⟩ := this
        rw [← e]
        exact List.drop_eq_getElem_cons h
      obtain ⟨p, t⟩ := x
      refine Nx.ite (P := fun b => b = t.isNone) (Et.is (Ev.op (Ev.var (R := Is K t) rfl) (Ev.non (K := K) (α := Str)) (o2_isN fun y _ F h => nomatch h))) (fun hb => ?_) (fun hb => ?_)
      · obtain rfl : t = none := by simpa using hb.symm
        rw [hdr] at iv1
        refine Nx.seq (Nx.ite (P := fun b => b = !decide (p ∈ kys m)) (Et.isB ((Ev.dnotin (Ev.var (R := Is K p) rfl) (Ev.var (R := At d) rfl) (Ds.mu (List.mem_singleton.mpr rfl))).to ?_)) (fun hb => ?_) (fun hb => ?_))
        · rw [← look_iff]
          first | done | (cases lookD m p <;> rfl)
        · have nm : p ∉ kys m := by simpa using hb.symm
          refine Nx.raiseM (ts := [tC (.str "not there: "), tFmtR (tVar 3)]) ⟨⟨1000, by decide, Ev.strN (by decide +kernel)⟩, ⟨1000, by decide, Ev.fmtR (K := K) (Ev.var rfl) (pr (p, none) (List.mem_of_getElem? px)) (by decide)⟩, trivial⟩ (by show 1000 * 2 ≤ 99000; decide) fun σ F H sa => ?_
          refine hx Bp (if_neg fun z => ?_) _ _ _ _ _ (own m) (ble _ _ _ _ _ sa)
          rw [show dels ((p, none) :: ch.drop (i + 1)) m = (if p ∈ kys m then dels (ch.drop (i + 1)) (dropD m p) else none) from rfl, if_neg nm] at iv1
          unfold okChgd at z
          rw [← iv1] at z
          simp at z
        · have nm : p ∈ kys m := by simpa using hb.symm
          rw [show dels ((p, none) :: ch.drop (i + 1)) m = (if p ∈ kys m then dels (ch.drop (i + 1)) (dropD m p) else none) from rfl, if_pos nm] at iv1
          exact Nx.ddel (K := K) (l := m) (j := 0) (a := d) (Ev.var rfl) (Ev.var rfl) rfl nm ((hN (dropD m p) ⟨iv1, Nat.lt_of_le_of_lt dropD_len iv2⟩).gle (by (repeat' (first | exact RP.GLe.nil | apply RP.GLe.keep | apply RP.GLe.drop))))
      · cases t with
        | none => cases hb
        | some t =>
          rw [hdr] at iv1
          exact (hN m ⟨iv1, iv2⟩).gle (by (repeat' (first | exact RP.GLe.nil | apply RP.GLe.keep | apply RP.GLe.drop)))
    · obtain ⟨iv1, iv2⟩ := iv
      rw [List.drop_length] at iv1
      have iv1 : dels ch (sortF l) = some m := iv1.symm
      refine Nx.seq (Nx.for0 (γ := Str × Option Str) (δ := Fold) (n := ch.length) (Rs := Nth K ch) (L := []) (walk _) (fun i r => puts (ch.drop i) r = puts ch m ∧ r.length < 64 + i) (fun _ _ => [some (Is K (Dc.mk l)), some (IsC K (b, ch)), some (At d), none, none]) (fun i m => [(d, DicM K m)]) (fun _ _ _ _ h => nomatch h) (fun i x => ch[i]? = some x) (fun _ x => Is K x) (fun i _ F v r => r) m ⟨rfl, iv2⟩ GLe.refl rfl _ (fun i c x _ _ _ => Eg.pair Eg.name Eg.name) (fun B' ble i m x hlt iv px N hN => ?_) fun r iv => ?_)
      · obtain ⟨jv1, jv2⟩ := iv
        have hdr : ch.drop i = x :: ch.drop (i + 1) := by
          obtain ⟨h, e⟩ := (List.getElem?_eq_some_iff.mp px)
          rw [← e]
          exact List.drop_eq_getElem_cons h
        obtain ⟨p, t⟩ := x
        rw [hdr] at jv1
        refine Nx.ite (P := fun b => b = t.isSome) (Et.is (Ev.op (Ev.var (R := Is K t) rfl) (Ev.non (K := K) (α := Str)) (o2_notN fun y _ F h => nomatch h))) (fun hb => ?_) (fun hb => ?_)
        · cases t with
          | none => cases hb
          | some t =>
            exact Nx.dput (K := K) (l := m) (k := p) (x := t) (j := 0) (a := d) (Ev.ofSome (Ev.var (R := Is K (some t : Option Str)) rfl) rfl) (Ev.var rfl) (Ev.var rfl) rfl (by omega) ((hN (putD m p t) ⟨jv1, by have := putD_len (l := m) (k := p) (x := t); omega⟩).gle (by (repeat' (first | exact RP.GLe.nil | apply RP.GLe.keep | apply RP.GLe.drop))))
        · cases t with
          | none => exact (hN m ⟨jv1, by omega⟩).gle (by (repeat' (first | exact RP.GLe.nil | apply RP.GLe.keep | apply RP.GLe.drop)))
          | some t => cases hb
      · obtain ⟨jv1, jv2⟩ := iv
        rw [List.drop_length] at jv1
        have jv1 : r = puts ch m := jv1
        have pp : SmD r := jv1 ▸ pm m iv1
        refine Nx.frzD (K := K) (i := 2) (j := 0) (d := d) (l := r) rfl rfl hB ?_
        by_cases ok2 : okFold r = true
        · have he : (if okChgd l ch = true then none else some Bp) = none := if_pos (by
            unfold okChgd
            rw [ok1, iv1]
            rw [jv1] at ok2
            simpa using ok2)
          refine Nx.retE (EvS.callo (M := []) (γ := Fold) (Rs := fun l => [Is K (Dc.mk l)]) (pre := SmD) (r := fun l => DicM K (sortF l)) (er := fun l => if okFold l = true then none else some Bp) (fun _ h => nomatch h) r (Ea.cons (Ev.var rfl) Ea.nil) pp (if_pos ok2)) fun R M' v σ F H p s rr => ?_
          obtain ⟨d2, rfl, rfl⟩ := p
          cases rr
          refine hrt he d2 _ _ _ _ _ (fun e he => ?_) s ?_
          · rw [List.mem_singleton.mp he]
            rfl
          · unfold chgdF
            rw [iv1, jv1]
            exact List.mem_singleton.mpr rfl
        · have he : (if okChgd l ch = true then none else some Bp) = some Bp := if_neg fun z => by
            unfold okChgd at z
            rw [ok1, iv1] at z
            have z : okFold (puts ch m) = true := by simpa using z
            exact ok2 (jv1 ▸ z)
          exact Nx.retR (E := E) (a := Bp) (EvR.callo (M := []) (γ := Fold) (Rs := fun l => [Is K (Dc.mk l)]) (pre := SmD) (r := fun l => DicM K (sortF l)) (er := fun l => if okFold l = true then none else some Bp) (fun _ h => nomatch h) r (Ea.cons (Ev.var rfl) Ea.nil) pp (if_neg ok2)) fun σ F H sa => hx Bp he _ [] _ _ _ (fun _ h => nomatch h) sa
  · have he : (if okChgd l ch = true then none else some Bp) = some Bp := if_neg (by unfold okChgd; simp [ok1])
    exact Nx.seq (Nx.asgR (E := E) (a := Bp) (EvR.callo (M := []) (fun _ h => nomatch h) l (Ea.cons (Ev.var rfl) Ea.nil) pl (if_neg ok1)) fun σ F H sa => hx Bp he _ [] _ _ _ (fun _ h => nomatch h) sa)
end
end K01

-- RQc
set_option maxRecDepth 100000
set_option maxHeartbeats 4000000
/-! sums of generators, what stands ahead of a sign and behind it, three names at once -/
namespace RP
open PySem PySem.Spec PyProof.Rows L2
open Rp (rp)
section
variable {Ps : Tbs} {B : Bs} {M M' L : Mu} {G : Gm} {K : PySem.W.Frag} {ta tb tc te td ty tv to : TE} {tt : TT} {R Ra Rb : VRel} {g g1 g2 g3 : TG} {α β : Type} [Rp α] [Rp β] {wi : TI} {n : Nat} {Rs : Nat → VRel} {ix : List (Option Nat)} {vs sl s1 s2 s3 : List Nat} {P : Addr}
def sumI {α : Type} (f : α → Int) (xs : List α) : Int := (xs.map f).sum
theorem Ev.sumG {xs : List α} {p : α → Bool} {f : α → Int} (hP : (P, none) ∈ Ps) (un : ∀ e ∈ Ps, e.1 = P → e.2 = none) (hi : Ei Ps G M L wi xs.length (Nth K xs)) (hL : ∀ e ∈ L, e ∈ M) (hn : xs.length ≤ 100000) (hf : ∀ x ∈ xs, 0 ≤ f x ∧ f x ≤ 1000000) (Gb : α → Gm) (hg : ∀ x ∈ xs, Eg Ps (wipeG (captG ix G) vs) M g (Is K x) (Gb x) sl) (hsl : ∀ k ∈ sl, k ∈ vs)
    (ht : ∀ x ∈ xs, Et Ps (Gb x) M tt (· = p x)) (he : ∀ x ∈ xs, p x = true → Ev Ps (Gb x) M te (Is K (f x))) : Ev Ps G M (GX.tSumG P wi g tt te ix vs) (Is K (sumI f (xs.filter p))) := fun σ F H Q e s qq => hi σ F H _ e s fun J F1 H1 e1 wk => by
  have s1 := s.evo e1
  refine ⟨s1.tabG hP, fun H2 tb => ?_⟩
  have e2 := Evo.tab s1 hP un tb
  refine ⟨fun i m t H' => m = xs.length - i ∧ i ≤ xs.length ∧ t = sumI f ((xs.take i).filter p) ∧ 0 ≤ t ∧ t ≤ 1000000 * i ∧ ∃ F', Evo Ps M F1 H1 F' H', ⟨xs.length, rfl, Nat.zero_le _, rfl, by decide, by omega, F1, e2⟩, ?_⟩
  rintro i m t H' ⟨rfl, hin, et, t0, t1, F', e3⟩
  have s3 := s1.evo e3
  by_cases hlt : i < xs.length
  · have hx : xs[i]? = some xs[i] := List.getElem?_eq_getElem hlt
    have hmem : xs[i] ∈ xs := List.getElem_mem hlt
    have tk1 := filter_take (p := p) hx
    refine .inr ⟨wk.goes M i F' H' hL hlt e3.le s3, fun t' H'' => t' = sumI f ((xs.take (i + 1)).filter p) ∧ 0 ≤ t' ∧ t' ≤ 1000000 * (i + 1 : Nat) ∧ ∃ F', Evo Ps M F1 H1 F' H'', fun t' H'' h => ⟨xs.length - (i + 1), by omega, rfl, hlt, h⟩, fun x H3 y => ?_⟩
    obtain ⟨F3, e4, r3⟩ := wk.yields M i F' H' x H3 hL hlt e3.le s3 y
    obtain ⟨x', ex, rx⟩ := r3
    rw [hx] at ex
    cases ex
    have e5 := e3.trans e4
    refine hg _ hmem x (L2.wipe (GX.capt ix σ) vs) F3 H3 _ (((e.mono (e1.le.trans e5.le)).capt).wipe vs) (s1.evo e5) rx fun σ2 en l2 k2 => ⟨?_, ?_⟩
    · refine wipe_eq (l2.trans (wipe_length ..)) fun k hk => ?_
      exact k2 k fun z => hk (hsl k z)
    · refine ht _ hmem σ2 F3 H3 _ en (s1.evo e5) fun b F4 H4 e6 pb => ?_
      cases b with
      | false =>
        refine ⟨?_, t0, by omega, F4, e5.trans e6⟩
        rw [tk1, if_neg (by rw [← pb]; exact Bool.false_ne_true), List.append_nil]
        exact et
      | true =>
        refine he _ hmem pb.symm σ2 F4 H4 _ (en.mono e6.le) ((s1.evo e5).evo e6) fun w F5 H5 e7 r5 => ?_
        cases r5
        obtain ⟨f0, f1⟩ := hf _ hmem
        have b1 : xs.length ≤ 100000 := hn
        have il : ∀ j : Int, 0 ≤ j → j ≤ 200000000000 → InLong j := fun j h0 h1 => by
          unfold InLong
          constructor
          · exact Int.le_trans (by decide) h0
          · exact Int.lt_of_le_of_lt h1 (by decide)
        refine ⟨f xs[i], rfl, il _ f0 (by omega), il _ (by omega) (by omega), ?_, by omega, by omega, F5, (e5.trans e6).trans e7⟩
        rw [tk1, if_pos pb.symm, et]
        unfold sumI
        rw [List.map_append, List.sum_append]
        simp
  · have ei : i = xs.length := by omega
    subst ei
    rw [List.take_length] at et
    exact .inl ⟨wk.stops M F' H' hL e3.le s3, qq _ F' H' (e1.trans e3) (by rw [et]; rfl)⟩
theorem EiR.keysN {E : XK} {a : Addr} (h : EvR Ps G M te E a) : EiR Ps G M (iKeysN te) E a := fun σ F H R e s x => h σ F H _ e s x
/-- a, b, c = .. -/
theorem Eg.three {a b c : Str} {G1 G2 G3 : Gm} (h1 : Eg Ps G M g1 (Is K a) G1 s1) (h2 : Eg Ps G1 M g2 (Is K b) G2 s2) (h3 : Eg Ps G2 M g3 (Is K c) G3 s3) : Eg Ps G M (gTup K 3 (gCons g1 (gCons g2 (gCons g3 gNil)))) (Is K (Tl.mk [a, b, c])) G3 (s1 ++ (s2 ++ s3)) := fun v σ F H Q e s r q => by
  obtain ⟨p, ws, rfl, ht, hp⟩ := r
  have ew := ps2_str hp
  subst ew
  refine ⟨p, _, rfl, s.sub.sqT ht, rfl, .str a, [.str b, .str c], rfl, h1 (.str a) σ F H _ e s rfl fun σ1 e1 l1 k1 => ⟨.str b, [.str c], rfl, h2 (.str b) σ1 F H _ e1 s rfl fun σ2 e2 l2 k2 => ⟨.str c, [], rfl, h3 (.str c) σ2 F H _ e2 s rfl fun σ3 e3 l3 k3 => ⟨rfl, q σ3 e3 (l3.trans (l2.trans l1)) fun k hk => ?_⟩⟩⟩⟩
  rw [k3 k fun z => hk (List.mem_append_right _ (List.mem_append_right _ z)), k2 k fun z => hk (List.mem_append_right _ (List.mem_append_left _ z)), k1 k fun z => hk (List.mem_append_left _ z)]
theorem Ev.part {a b : Str} (ho : Ev Ps G M to (Is K a)) (he : Ev Ps G M te (Is K b)) (hb : (b.length == 0) = false) (ln : a.length ≤ 100000) : Ev Ps G M (tM1 (fun x xs H Q => ∃ a b, x = .str a ∧ xs = [.str b] ∧ (b.length == 0) = false ∧ a.length ≤ sizeLine ∧
    ∀ p, H p = none → Q (.ref p) (upd H p (.tup [.str (Txt.partition a b).1, .str (Txt.partition a b).2.1, .str (Txt.partition a b).2.2]))) to te) (Is K (Tl.mk [(Txt.partition a b).1, (Txt.partition a b).2.1, (Txt.partition a b).2.2])) := Ev.m1 ho he fun F H w Q s r q => by
  cases r
  have big : 200000 ≤ sizeLine := by decide
  refine ⟨a, b, rfl, rfl, hb, by omega, fun p hp => ?_⟩
  have ev := Evo.newT s (K := K) (str_ps2 (K := K) [(Txt.partition a b).1, (Txt.partition a b).2.1, (Txt.partition a b).2.2]) hp
  exact q _ _ _ ev.1 ev.2
theorem EvS.lc0 {β γ : Type} [Rp β] (hi : Ei Ps G M L wi n Rs) (hL : ∀ e ∈ L, e ∈ M) (hn : n ≤ 100000) (Pg : Nat → γ → Prop) (Rg : Nat → γ → VRel) (hx : ∀ i, i < n → ∀ F v, (Rs i).R F v → ∃ c, Pg i c ∧ (Rg i c).R F v) (Gb : Nat → γ → Gm)
    (hg : ∀ i c, i < n → Pg i c → Eg Ps (wipeG G vs) M g (Rg i c) (Gb i c) sl) (hsl : ∀ k ∈ sl, k ∈ vs) {P : Nat → γ → Bool → Prop} (ht : ∀ i c, i < n → Pg i c → Et Ps (Gb i c) M tt (P i c)) {Pe : Nat → γ → β → Prop} (he : ∀ i c, i < n → Pg i c → P i c true → Ev Ps (Gb i c) M te (Exi K (Pe i c)))
    (Pr : Nat → List β → Prop) (p0 : Pr 0 []) (p1 : ∀ i c ys y, i < n → Pg i c → P i c true → Pe i c y → Pr i ys → Pr (i + 1) (ys ++ [y])) (p2 : ∀ i c ys, i < n → Pg i c → P i c false → Pr i ys → Pr (i + 1) ys) : EvS Ps B G M (tLc wi g tt te vs) (fun R M' => ∃ d ys, Pr n ys ∧ R = At d ∧ M' = (d, LstM K ys) :: M) := fun σ F H Q sa q => hi σ F H _ sa.en sa.sh fun J F1 H1 e1 wk D hD => by
  have e := sa.en
  have s1 := sa.sh.evo e1
  have e0 : Evo Ps M F1 H1 F1 (upd H1 D (.lst [])) := s1.new0 hD
  obtain ⟨nP, nM, _⟩ := s1.mono_new hD (s1.evo e0).refl
  refine ⟨fun i m H' => m = n - i ∧ i ≤ n ∧ ∃ F' ws ys, Evo Ps M F1 H1 F' H' ∧ F' D = none ∧ H' D = some (.lst ws) ∧ Ps2 K F' ws ys ∧ ys.length ≤ i ∧ Pr i ys, ⟨n, rfl, Nat.zero_le _, F1, [], [], e0, s1.new_none hD, upd_same, .nil, Nat.le_refl _, p0⟩, ?_⟩
  rintro i m H' ⟨rfl, hin, F', ws, ys, e2, nF, hw, hp, hl, pr⟩
  have s2 := s1.evo e2
  by_cases hlt : i < n
  · refine .inr ⟨wk.goes M i F' H' hL hlt e2.le s2, fun H'' => ∃ F' ws ys, Evo Ps M F1 H1 F' H'' ∧ F' D = none ∧ H'' D = some (.lst ws) ∧ Ps2 K F' ws ys ∧ ys.length ≤ i + 1 ∧ Pr (i + 1) ys, fun H'' h => ⟨n - (i + 1), by omega, rfl, hlt, h⟩, fun x H3 y => ?_⟩
    obtain ⟨F3, e3, r3⟩ := wk.yields M i F' H' x H3 hL hlt e2.le s2 y
    obtain ⟨c, pc, rc⟩ := hx i hlt F3 x r3
    have e3' := e2.trans e3
    have nF3 : F3 D = none := by
      cases z : F3 D with
      | none => rfl
      | some o =>
        rcases e3.nw D o z with h | h
        · rw [nF] at h; cases h
        · rw [hw] at h; cases h
    have hw3 := e3.keep D _ hw nP nM
    refine hg i c hlt pc x (L2.wipe σ vs) F3 H3 _ ((e.mono (e1.le.trans e3'.le)).wipe vs) (s1.evo e3') rc fun σ2 en l2 k2 => ⟨?_, ?_⟩
    · refine wipe_eq (l2.trans (wipe_length ..)) fun k hk => ?_
      exact k2 k fun z => hk (hsl k z)
    · refine ht i c hlt pc σ2 F3 H3 _ en (s1.evo e3') fun b F4 H4 e4 pb => ?_
      have nF4 : F4 D = none := by
        cases z : F4 D with
        | none => rfl
        | some o =>
          rcases e4.nw D o z with h | h
          · rw [nF3] at h; cases h
          · rw [hw3] at h; cases h
      have hw4 := e4.keep D _ hw3 nP nM
      cases b with
      | false => exact ⟨F4, ws, ys, e3'.trans e4, nF4, hw4, hp.mono (e3.le.trans e4.le), Nat.le_succ_of_le hl, p2 i c ys hlt pc pb pr⟩
      | true =>
        refine he i c hlt pc pb σ2 F4 H4 _ (en.mono e4.le) ((s1.evo e3').evo e4) fun w F5 H5 e5 ⟨yy, py, ry⟩ => ?_
        have nF5 : F5 D = none := by
          cases z : F5 D with
          | none => rfl
          | some o =>
            rcases e5.nw D o z with h | h
            · rw [nF4] at h; cases h
            · rw [hw4] at h; cases h
        have hw5 := e5.keep D _ hw4 nP nM
        have hln := Paired.length hp
        refine ⟨ws, hw5, ?_, F5, ws ++ [w], ys ++ [yy], ((e3'.trans e4).trans e5).wr hD nP nM nF5 (by rw [hw5]; exact fun φ z => nomatch z), nF5, upd_same, (hp.mono ((e3.le.trans e4.le).trans e5.le)).snoc ry, ?_, p1 i c ys yy hlt pc pb py pr⟩
        · have : 200000 ≤ sizeLine := by decide
          omega
        · rw [List.length_append]
          exact Nat.add_le_add_right hl 1
  · have ei : i = n := by omega
    subst ei
    refine .inl ⟨wk.stops M F' H' hL e2.le s2, ?_⟩
    exact q (At D) _ (.ref D) F' H' ⟨D, ys, pr, rfl, rfl⟩ ((sa.evo e1).add e2 hD nF hw ⟨ws, rfl, hp⟩) (e1.le.trans e2.le) rfl
theorem EvS.lcOf {xs : List α} (hi : Ei Ps G M L wi xs.length (Nth K xs)) (hL : ∀ e ∈ L, e ∈ M) (hn : xs.length ≤ 100000) (Gb : α → Gm) {p : α → Bool} {f : α → β}
    (hg : ∀ x ∈ xs, Eg Ps (wipeG G vs) M g (Is K x) (Gb x) sl) (hsl : ∀ k ∈ sl, k ∈ vs) (ht : ∀ x ∈ xs, Et Ps (Gb x) M tt (· = p x)) (he : ∀ x ∈ xs, p x = true → Ev Ps (Gb x) M te (Is K (f x))) : EvS Ps B G M (tLc wi g tt te vs) (fun R M' => ∃ d, R = At d ∧ M' = (d, LstM K ((xs.filter p).map f)) :: M) := fun σ F H Q s q =>
  EvS.lc0 (K := K) (β := β) (γ := α) hi hL hn (fun i x => xs[i]? = some x) (fun _ x => Is K x) (fun i _ F v r => r) (fun _ x => Gb x) (fun i x _ hx => hg x (mem_of? hx)) hsl (P := fun _ x b => b = p x) (fun i x _ hx => ht x (mem_of? hx)) (Pe := fun _ x y => y = f x)
    (fun i x _ hx pb => (he x (mem_of? hx) pb.symm).exi rfl) (fun i ys => ys = ((xs.take i).filter p).map f) rfl (fun i x ys y _ hx pb py pr => by
      rw [filter_take hx, ← pb, List.map_append, ← pr, py]
      rfl) (fun i x ys _ hx pb pr => by
      rw [filter_take hx, ← pb, List.map_append, ← pr]
      simp) σ F H Q s fun R M' v F' H' ⟨d, ys, e, e1, e2⟩ s' => q R M' v F' H' ⟨d, e1, by rw [e2, e, List.take_length]⟩ s'
end
end RP

-- D01T
set_option maxRecDepth 100000
set_option maxHeartbeats 4000000
namespace K01
open PySem PySem.Spec PyProof.Rows L2 BG
open RP hiding Tb
open SSt
section
variable {P : Program} {w : World} {K : PySem.W.Frag} {mg : Str → Option Value} {base : Heap} {Bp : Addr} {Ps : Tbs}
/-! size_of: slots table=0 -/
abbrev s_size_of : Stmt := topS 22
abbrev Nso : List Str := ["table"]
theorem sc_size_of : FnScope Nso ["table"] (defScope s_size_of) := ⟨rfl, rfl, rfl, by decide +kernel, rfl, by decide +kernel, by decide +kernel⟩
theorem gs_size_of : GX.GScp Nso (defScope s_size_of) { kind := ScopeKind.function, names := [(".0", NameKind.local), ("text", NameKind.local), ("len", NameKind.globalImplicit)], isGenerator := true, isCoroutine := false } ["text"] [none] := GX.gsc_by (by decide +kernel)
def sizeF (l : Fold) : Int := sumI (fun t : Str => (t.length : Int)) (l.map (·.2))
def SmZ (l : Fold) : Prop := l.length < 64 ∧ ∀ e ∈ l, e.2.length ≤ 1000
abbrev sp_size_of (Ps : Tbs) (K : PySem.W.Frag) : Sp := Spx (γ := Fold) Ps (fun l => [Is K (Dc.mk l)]) SmZ (fun l => Is K (sizeF l)) (fun _ => none)
theorem ok_size_of {f cc pp : Addr} {fd : FuncData} {k : Nat} (Fn : BG.FunC K "size_of" "size_of" s_size_of f fd cc) (TB : GxR.TabB base mg cc pp) (hpp : (pp, none) ∈ Ps) (un : ∀ e ∈ Ps, e.1 = pp → e.2 = none) (z_sum : mg "sum" = none) (z_len : mg "len" = none) : FnOk P w K mg base (L2.CX P w) (k + 8) f fd ["table"] (sp_size_of Ps K) := by
  refine BG.FunC.okP Fn sc_size_of (fun _ => rfl) fun A outer s H0 E hr => ?_
  have hr1 : Room (k + 1) (A.deeper (envOfC "size_of" (defScope s_size_of) s.heap.objs.size f (.ref cc))) := hr.mono (by omega)
  refine ⟨_, (pss_one (ps_ret (L2.pe_lock (GX.pe_sumG (k := k) (Ng := ["text"]) (ix := [none]) (vs := [0]) hr1 (by rfl) z_sum (by decide +kernel) TB rfl gs_size_of (pi_values (pv 0)) (fun _ _ _ _ _ _ _ => (pg_name (i := 0) gs_size_of.nd rfl (.inl rfl))) (fun _ _ _ _ _ _ _ hr => pts_nil) (fun _ _ _ _ _ _ _ hr => (pe_callB call_len_str (by rfl) z_len (by decide +kernel) (pa_cons (pv 0) pa_nil))))))), fun l B D pre hrt hx hnx => ?_⟩
  obtain ⟨p1, p2⟩ := pre
  have p1 : l.length < 64 := p1
  refine Nx.ret (R := Is K (sizeF l)) (Ev.lockF (K := K) (i := 0) (l := Dc.mk l) rfl (fun _ h => nomatch h) fun a kv od hk => ?_) fun v σ F H sa r => hrt rfl v _ [] _ _ _ (fun _ h => nomatch h) sa r
  have hx2 : ∀ x ∈ l.map (·.2), x.length ≤ 1000 := fun x hx => by
    obtain ⟨e, he, rfl⟩ := List.mem_map.mp hx
    exact p2 e he
  refine (Ev.sumG (K := K) (α := Str) (L := [(a, lkM od kv)]) (sl := [0]) (xs := l.map (·.2)) (p := fun _ => true) (f := fun t => (t.length : Int)) hpp un (Ei.vals (K := K) (Ev.var rfl) (List.mem_singleton.mpr rfl)) (fun e he => he) (by rw [List.length_map]; omega) (fun x hx => ⟨by omega, by have := hx2 x hx; omega⟩) _ (fun x _ => Eg.name) (fun k hk => hk) (fun x _ => Et.yes) (fun x hx _ => Ev.natI (Ev.cb (Ea.cons (Ev.var rfl) Ea.nil) (oc_lenS (by have := hx2 x hx; omega))))).to ?_
  rw [List.filter_eq_self.mpr fun _ _ => rfl]
  rfl
/-! names_in: slots table=0 over=1 found=2 path=3 name=4 stroke=5 _=6 -/
abbrev s_names_in : Stmt := topS 16
abbrev Nni : List Str := ["table", "over", "found", "path", "name", "stroke", "_"]
theorem sc_names_in : FnScope Nni ["table", "over"] (defScope s_names_in) := ⟨rfl, rfl, rfl, by decide +kernel, rfl, by decide +kernel, by decide +kernel⟩
theorem gs_names_in : GX.GScp Nni (defScope s_names_in) { kind := ScopeKind.function, names := [(".0", NameKind.local), ("name", NameKind.local), ("found", NameKind.free)], isGenerator := true, isCoroutine := false } ["name", "found"] [none, some 2] := GX.gsc_by (by decide +kernel)
abbrev Nms := List (Str × Bool)
def cutP (p : Str) : Str × Bool := ((Txt.partition p "/").1, decide ((Txt.partition p "/").2.1 = ""))
/-- the names, each with whether a text stands there -/
def tabN (ps : List Str) : Nms := mergeD (ps.map cutP)
def namesF (l : Fold) (over : Str) : Nms := (ss ((tabN (kys (partF l over))).map (·.1))).map fun n => (n, (lookD (tabN (kys (partF l over))) n).getD false)
abbrev sp_names_in (Ps : Tbs) (K : PySem.W.Frag) (Bp : Addr) : Sp := Spx (γ := Fold × Str) Ps (fun c => [Is K (Dc.mk c.1), Is K c.2]) (fun c => SmPt c ∧ ∀ p ∈ kys (partF c.1 c.2), p.length ≤ 1000) (fun c => Is K (Tl.mk (namesF c.1 c.2))) (fun c => if okFold c.1 = true then none else some Bp)
theorem len_part {l : Fold} {over : Str} (h : l.length < 64) : (kys (partF l over)).length < 64 := by
  unfold partF
  rw [List.length_map]
  refine Nat.lt_of_le_of_lt (mergeD_len _) ?_
  rw [List.length_map]
  refine Nat.lt_of_le_of_lt (List.length_filter_le _ _) ?_
  rw [len_sort]
  exact h
theorem ok_names_in {f g1 cc pp : Addr} {fd fd1 : FuncData} {k k1 : Nat} (Fn : BG.FunC K "names_in" "names_in" s_names_in f fd cc) (TB : GxR.TabB base mg cc pp) (hpp : (pp, none) ∈ Ps) (un : ∀ e ∈ Ps, e.1 = pp → e.2 = none)
    (G1 : Cal P w K mg base (L2.CX P w) k1 "part_of" ["table", "over"] (sp_part_of Ps K Bp) g1 fd1) (h1 : k1 ≤ k) (z_tuple : mg "tuple" = none) (z_sorted : mg "sorted" = none) : FnOk P w K mg base (L2.CX P w) (k + 8) f fd ["table", "over"] (sp_names_in Ps K Bp) := by
  refine BG.FunC.okP Fn sc_names_in (fun _ => rfl) fun A outer s H0 E hr => ?_
  have hr0 : Room k (A.deeper (envOfC "names_in" (defScope s_names_in) s.heap.objs.size f (.ref cc))) := hr.mono (by omega)
  have hr5 : Room (k + 1 + 5) (A.deeper (envOfC "names_in" (defScope s_names_in) s.heap.objs.size f (.ref cc))) := hr.mono (by omega)
  refine ⟨_, (pss_cons (ps_set (i := 2) sc_names_in.nd rfl (.inr rfl) pe_dnewK)
    (pss_cons (ps_for (passes_of rfl) rfl (pi_keysN (pe_call G1.ok (hr0.mono h1) (by rfl) G1.g G1.kp G1.b .nil (passes_call (takes_of rfl rfl rfl rfl) (fun _ _ _ _ h => h)) (pa_cons (pv 0) (pa_cons (pv 1) pa_nil)))) (pg_name (i := 3) sc_names_in.nd rfl (.inl rfl))
      (pss_cons (ps_asg (pe_partition (pv 3) pe_str) (pg_tupKK (n := 3) (K0 := K) rfl rfl (pgs_cons (pg_name (i := 4) sc_names_in.nd rfl (.inl rfl)) (pgs_cons (pg_name (i := 5) sc_names_in.nd rfl (.inl rfl)) (pgs_cons (pg_name (i := 6) sc_names_in.nd rfl (.inl rfl)) pgs_nil)))))
    (pss_one (ps_dput (by exact SSt.room_u hr) (pv 2) (pv 4) (pe_cmpR op_eq (pv 5) pe_str (nomark _)) rfl))))
    (pss_one (ps_ret (GX.pe_tupG (GX.pgen_exp (k := k) (Ng := ["name", "found"]) (ix := [none, some 2]) (vs := [0]) hr0 TB rfl gs_names_in (pi_listK (K0 := K) rfl (pe_callB (call_sortedD rfl) (by rfl) z_sorted (by decide +kernel) (pa_cons (pv 2) pa_nil))) (fun _ _ _ _ _ _ _ => (pg_name (i := 0) gs_names_in.nd rfl (.inl rfl))) (fun _ _ _ _ _ _ _ hr => pts_nil) (fun _ _ _ _ _ _ _ hr => (pe_tup (pa_cons (pv 0) (pa_cons (pe_dget (by exact SSt.room_u (hr _)) (pv 1) (pv 0) (fun _ _ => rfl)) pa_nil))))) hr5 (by rfl) z_tuple (by decide +kernel)))))), fun c B D pre hrt hx hnx => ?_⟩
  obtain ⟨l, over⟩ := c
  obtain ⟨pp1, pp2⟩ := pre
  refine Nx.seq (Nx.newD (K := K) (κ := Str) (α := Bool) fun d => ?_)
  dsimp only
  have own (m : Nms) : ∀ e ∈ [(d, DicM K m)], e.2.own = true := fun e he => by
    rw [List.mem_singleton.mp he]
    rfl
  by_cases ok : okFold l = true
  · refine Nx.seq (Nx.forN (K := K) (κ := Str) (α := Str) (l := partF l over) (j := 0) ?_)
    refine fun σ F H Q s q => EvS.callo (own []) (l, over) (Ea.cons (Ev.var rfl) (Ea.cons (Ev.var rfl) Ea.nil)) pp1 (if_pos ok) σ F H Q s fun R M' v F' H' ⟨t, e1, e2⟩ s' => q R M' v F' H' ⟨t, e1, by rw [e2]; rfl, fun od kv => ?_⟩ s'
    subst e2
    have lp : (kys (partF l over)).length < 64 := len_part pp1.1.1
    have lt (i : Nat) : (tabN ((kys (partF l over)).take i)).length < 64 := by
      refine Nat.lt_of_le_of_lt (mergeD_len _) ?_
      rw [List.length_map]
      exact Nat.lt_of_le_of_lt (List.length_take_le' _ _) lp
    have own2 (m : Nms) : ∀ e ∈ [(t, LkD K (partF l over) od kv), (d, DicM K m)], e.2.own = true := fun e he => by
      simp only [List.mem_cons, List.not_mem_nil, or_false] at he
      rcases he with rfl | rfl <;> rfl
    refine Nx.for0 (γ := Str) (δ := Unit) (Ei.keysD (K := K) (l := partF l over) (d := t) (Ev.c fun _ => rfl) (List.mem_cons_self ..)) (fun i _ => True) (fun _ _ => [some (Is K (Dc.mk l)), some (Is K over), some (At d), none, none, none, none]) (fun i _ => [(t, LkD K (partF l over) od kv), (d, DicM K (tabN ((kys (partF l over)).take i)))]) (fun _ _ _ e he => by rw [List.mem_singleton.mp he]; exact List.mem_cons_self ..) (fun i x => (kys (partF l over))[i]? = some x) (fun _ x => Is K x) (fun i _ F v r => r) () True.intro GLe.refl rfl _ (fun i c x _ _ _ => Eg.name) (fun B' ble i c x hlt iv px N hN => ?_) fun _ iv => ?_
    · have hmem : x ∈ kys (partF l over) := List.mem_of_getElem? px
      refine Nx.seq (Nx.asg (Ev.part (K := K) (Ev.var (R := Is K x) rfl) (Ev.str (K := K)) (by decide) (by have := pp2 x hmem; omega)) (Eg.three Eg.name Eg.name Eg.name) ?_)
      dsimp only
      have step := hN () True.intro
      have e3 : tabN ((kys (partF l over)).take (i + 1)) = putD (tabN ((kys (partF l over)).take i)) (cutP x).1 (cutP x).2 := by
        unfold tabN
        rw [List.take_add_one, px, List.map_append]
        exact mergeD_snoc
      rw [e3] at step
      exact Nx.dput (K := K) (l := tabN ((kys (partF l over)).take i)) (k := (cutP x).1) (x := (cutP x).2) (j := 1) (a := d) (Ev.op (Ev.var (R := Is K (Txt.partition x "/").2.1) rfl) (Ev.str (K := K)) o2_eq) (Ev.var rfl) (Ev.var (R := Is K (Txt.partition x "/").1) rfl) rfl (by have := lt i; omega) (step.gle (by (repeat' (first | exact RP.GLe.nil | apply RP.GLe.keep | apply RP.GLe.drop))))
    · rw [List.take_length]
      have hmD : (d, DicM K (tabN (kys (partF l over)))) ∈ [(t, LkD K (partF l over) od kv), (d, DicM K (tabN (kys (partF l over))))] := List.mem_cons_of_mem _ (List.mem_cons_self ..)
      dsimp only
      refine Nx.ret (R := Is K (Tl.mk (namesF l over))) ?_ fun v σ F H sa r => hrt (if_pos ok) v _ _ _ _ _ (own2 _) sa r
      have l9 := lt (kys (partF l over)).length
      rw [List.take_length] at l9
      refine (Ev.tupG (K := K) (α := Str) (β := Str × Bool) (L := []) (sl := [0]) (xs := ss ((tabN (kys (partF l over))).map (·.1))) (p := fun _ => true) (f := fun n => (n, (lookD (tabN (kys (partF l over))) n).getD false)) hpp un (Ei.list (Ev.exiIs (Ev.cb (Ea.cons (Ev.var (R := At d) rfl) Ea.nil) (oc_sortD (Ds.mu hmD) l9)) fun ys h => eq_ssS h.1 h.2)) (fun _ h => nomatch h) (by rw [(ss_perm _).length_eq, List.length_map]; omega) _ (fun x _ => Eg.name) (fun k hk => hk) (fun x _ => Et.yes) (fun x hx _ => Ev.pair (Ev.var (R := Is K x) rfl) (Ev.dget (Ev.var (R := At d) rfl) (Ds.mu hmD) (Ev.var rfl) ?_))).to ?_
      · have hx : x ∈ (tabN (kys (partF l over))).map (·.1) := ss_mem.mp hx
        cases e : lookD (tabN (kys (partF l over))) x with
        | some y => rfl
        | none =>
          exfalso
          unfold lookD at e
          rw [Option.map_eq_none_iff, List.find?_eq_none] at e
          obtain ⟨z, hz, ez⟩ := List.mem_map.mp hx
          exact e z hz (by simpa using ez)
      · rw [List.filter_eq_self.mpr fun _ _ => rfl]
        rfl
  · have he : (if okFold l = true then none else some Bp) = some Bp := if_neg ok
    exact Nx.seq (Nx.forR (E := E) (a := Bp) (EiR.keysN (EvR.callo (own []) (l, over) (Ea.cons (Ev.var rfl) (Ea.cons (Ev.var rfl) Ea.nil)) pp1 he)) fun σ F H sa => hx Bp he _ _ _ _ _ (own []) sa)
end
end K01

-- RQd
set_option maxRecDepth 100000
set_option maxHeartbeats 4000000
/-! xs.remove(text) -/
namespace L2
open PySem PySem.Spec PyProof.Rows
theorem first_S : ∀ {ns : List Str} {k : Str}, k ∈ ns → ∃ j, j < ns.length ∧ ns[j]? = some k ∧ (∀ i, i < j → ns[i]? ≠ some k) ∧ ns.eraseIdx j = ns.erase k
  | [], k, h => absurd h (by simp)
  | a :: r, k, h => by
    by_cases e : a = k
    · subst e
      exact ⟨0, Nat.succ_pos _, rfl, fun i hi => absurd hi (Nat.not_lt_zero _), by rw [List.erase_cons_head]; rfl⟩
    · have hr : k ∈ r := (List.mem_cons.mp h).resolve_left fun z => e z.symm
      obtain ⟨j, h1, h2, h3, h4⟩ := first_S hr
      refine ⟨j + 1, Nat.succ_lt_succ h1, h2, fun i hi => ?_, ?_⟩
      · cases i with
        | zero => exact fun z => e (Option.some.inj z)
        | succ i => exact h3 i (Nat.lt_of_succ_lt_succ hi)
      · rw [List.erase_cons_tail (by rw [beq_iff_eq]; exact e), ← h4]
        rfl
theorem map_erase_S : ∀ (ns : List Str) (j : Nat), (ns.map V.str).eraseIdx j = (ns.eraseIdx j).map V.str
  | [], _ => rfl
  | _ :: _, 0 => rfl
  | n :: r, j + 1 => by
    show V.str n :: (r.map V.str).eraseIdx j = V.str n :: (r.eraseIdx j).map V.str
    rw [map_erase_S r j]
theorem strs_get : ∀ {us : List Value} {ns : List Str}, StrsAre us ns → ∀ (i : Nat) (h : i < us.length), ∃ t : Str × Tok, ns[i]? = some t.1 ∧ us[i] = Value.str t.1 t.2
  | _, _, .nil, i, h => absurd h (by simp)
  | _, _, .cons n t hr, 0, _ => ⟨(n, t), rfl, rfl⟩
  | _, _, .cons n t hr, i + 1, h => by
    obtain ⟨t2, h1, h2⟩ := strs_get hr i (Nat.lt_of_succ_lt_succ h)
    exact ⟨t2, h1, h2⟩
section
variable {X : Cx}
def rRemS : V → List V → Hp → VK → Prop := fun x xs H Q => ∃ (l : Addr) (ns : List Str) (k : Str), x = .ref l ∧ xs = [.str k] ∧ H l = some (.lst (ns.map V.str)) ∧ k ∈ ns ∧ Q .non (upd H l (.lst ((ns.erase k).map V.str)))
theorem mt_removeS : MtM X "list.remove" rRemS := by
  intro pins s σ H x xs v us Q I rx rxs h
  obtain ⟨l, ns, k, rfl, rfl, hH, hk, q⟩ := h
  cases rx
  obtain ⟨u, rfl, ru⟩ := rxs.one
  obtain ⟨t, rfl⟩ := ru
  obtain ⟨z, its, n, r, hl, e⟩ := I.lstM hH
  have hi : StrsAre its ns := strsAre_of r
  rw [List.length_map] at hl z
  obtain ⟨j, j1, j2, j3, j4⟩ := first_S hk
  have hjl : j < its.toArray.size := by rw [List.size_toArray]; omega
  have at_ : ∀ (i : Nat) (h : i < its.length), isStrOf k its[i] = decide (ns[i]? = some k) := fun i h => by
    obtain ⟨⟨n, t'⟩, e1, e'⟩ := strs_get hi i h
    rw [e', e1]
    show (n == k) = _
    rw [Bool.eq_iff_iff]
    simp
  refine call_meets PySem.F.slot_list_remove ⟨_, e, rfl⟩ PySem.F.entry_list_remove (PySem.F.args_list_remove_2 _ _)
    (MeetsSeq.list_remove l its.toArray n (.str k t) (isStrOf k) (fun y hy => eq_isStrOf k t hi y (by simpa using hy)) j hjl ?_ ?_ (by rw [List.size_toArray]; omega)) ⟨e, ?_⟩
  · have : j < its.length := by omega
    show isStrOf k its[j] = true
    rw [at_ j this, j2]
    simp
  · intro m hm hmj
    have hmn : m < its.length := by rw [List.size_toArray] at hm; exact hm
    show isStrOf k its[m] = false
    rw [at_ m hmn]
    exact decide_eq_false (j3 m hmj)
  · have rr := r.eraseIdx j
    rw [map_erase_S, j4] at rr
    refine ⟨.non, _, I.lset (its' := its.eraseIdx j) (t' := s.toks) hH e ?_ rr ?_, rfl, q⟩
    · show its.toArray.eraseIdxIfInBounds j = (its.eraseIdx j).toArray
      rw [List.eraseIdxIfInBounds_toArray]
    · rw [List.length_map]
      have := List.length_erase_le (a := k) (l := ns)
      omega
end
end L2
namespace RP
open PySem PySem.Spec PyProof.Rows L2
open Rp (rp)
section
variable {Ps : Tbs} {B : Bs} {M : Mu} {G : Gm} {K : PySem.W.Frag} {td te : TE} {D : L2.Ends}
theorem Ei.listM {α : Type} [Rp α] {xs : List α} {a : Addr} (hd : Ev Ps G M te (At a)) (hM : (a, LstM K xs) ∈ M) : Ei Ps G M [(a, LstM K xs)] (iList K te) xs.length (Nth K xs) := fun σ F H R e s q => hd σ F H _ e s fun v F1 H1 e1 ev => by
  cases ev
  have lk : ∀ {M' : Mu} {F' H' : Hp}, (∀ e ∈ [(a, LstM K xs)], e ∈ M') → Sh Ps M' F' H' → ∃ vs, H' a = some (.lst vs) ∧ Ps2 K F' vs xs := fun h s' => by
    obtain ⟨o, h1, vs, rfl, p⟩ := s'.mu _ (h _ (List.mem_singleton.mpr rfl))
    exact ⟨vs, h1, p⟩
  obtain ⟨o, h1, vs0, rfl, p0⟩ := (s.evo e1).mu _ hM
  refine ⟨a, rfl, ⟨vs0, SqL.of h1⟩, q _ F1 H1 e1 ⟨fun _ i F' H' h hi _ s' => ?_, fun _ F' H' h _ s' => ?_, fun _ i F' H' x H'' h hi _ s' y => ?_⟩⟩
  · obtain ⟨vs, h2, p⟩ := lk h s'
    have ln := Paired.length p
    exact ⟨vs, vs[i], SqL.of h2, by simp [show i < vs.length by omega]⟩
  · obtain ⟨vs, h2, p⟩ := lk h s'
    have ln := Paired.length p
    exact ⟨vs, SqL.of h2, by omega⟩
  · obtain ⟨vs, h2, p⟩ := lk h s'
    obtain ⟨rfl, y⟩ := y
    have := y vs (SqL.of h2)
    exact ⟨F', s'.refl, xs[i], by simp [hi], Paired.get? p this (by simp [hi])⟩
theorem Nx.rem {xs : List Str} {x : Str} {j : Nat} {a : Addr} (hd : Ev Ps G M td (At a)) (hx : Ev Ps G M te (Is K x)) (hj : M[j]? = some (a, LstM K xs)) (hm : x ∈ xs) (nx : Nx Ps B G (M.set j (a, LstM K (xs.erase x))) D.nx) : Nx Ps B G M (tDrop (tBM K "list" rRemS td (tCons te tNil)) D) := fun σ F H s =>
  hd σ F H _ s.en s.sh fun d F1 H1 e1 r1 => by
    cases r1
    obtain ⟨o, h1, vs, rfl, p⟩ := (s.sh.evo e1).mu _ (List.mem_of_getElem? hj)
    refine ⟨.inl ⟨rfl, _, SqL.of h1⟩, hx σ F1 H1 _ (s.en.mono e1.le) (s.sh.evo e1) fun y F2 H2 e2 r2 => ?_⟩
    have s2 := (s.evo e1).evo e2
    cases r2
    obtain ⟨o, h1, vs, rfl, p⟩ := s2.sh.mu _ (List.mem_of_getElem? hj)
    have ev := ps2_str p
    subst ev
    exact ⟨a, xs, x, rfl, rfl, h1, hm, nx σ F2 _ (s2.wr hj rfl ⟨_, rfl, str_ps2 (xs.erase x)⟩)⟩
end
end RP

-- D01U
set_option maxRecDepth 100000
set_option maxHeartbeats 4000000
namespace K01
open PySem PySem.Spec PyProof.Rows L2 BG
open RP hiding Tb
open SSt
section
variable {P : Program} {w : World} {K : PySem.W.Frag} {mg : Str → Option Value} {base : Heap} {Bp : Addr} {Ps : Tbs}
/-! moved: slots one=0 other=1 rows=2 gone=3 sign=4 path=5 come=6 found=7 new=8 alike=9 old=10, cells new one other -/
abbrev s_moved : Stmt := topS 21
abbrev Nmv : List Str := ["one", "other", "rows", "gone", "sign", "path", "come", "found", "new", "alike", "old"]
theorem sc_moved : FnScope Nmv ["one", "other"] (defScope s_moved) := ⟨rfl, rfl, rfl, by decide +kernel, rfl, by decide +kernel, by decide +kernel⟩
def signF (c : Str) (a b : Fold) : List Str := ((betwF (sortF a) (sortF b)).filter fun r => decide (r.1 = c)).map (·.2)
def sameF (a b : Fold) (gone : List Str) (new : Str) : List Str := gone.filter fun o => decide (getF a o = getF b new)
def mvStep (a b : Fold) (st : List Str × List (Str × Str)) (new : Str) : List Str × List (Str × Str) := match sameF a b st.1 new with
  | [] => st
  | o :: _ => (st.1.erase o, st.2 ++ [(o, new)])
def movedF (a b : Fold) : List (Str × Str) := ((signF "+" a b).foldl (mvStep a b) (signF "-" a b, [])).2
def SmM (c : Fold × Fold) : Prop := SmB c ∧ (signF "+" c.1 c.2).length ≤ 1 ∧ ∀ p ∈ kys c.1, PyData.strOk p = true
abbrev sp_moved (Ps : Tbs) (K : PySem.W.Frag) (Bp : Addr) : Sp := Spx (γ := Fold × Fold) Ps (fun c => [Is K (Dc.mk c.1), Is K (Dc.mk c.2)]) SmM (fun c => Is K (Tl.mk (movedF c.1 c.2))) (fun c => if (okFold c.1 && okFold c.2) = true then none else some Bp)
theorem sign_in {c : Str} {a b : Fold} {p : Str} (h : p ∈ signF c a b) : (c = "-" → p ∈ kys a) ∧ (c = "+" → p ∈ kys b) := by
  unfold signF at h
  obtain ⟨⟨c2, p2⟩, h1, rfl⟩ := List.mem_map.mp h
  obtain ⟨h0, h2⟩ := List.mem_filter.mp h1
  have h2 : c2 = c := by simpa using h2
  subst h2
  unfold betwF at h0
  obtain ⟨q, h3, h4⟩ := List.mem_filterMap.mp h0
  have hq : q ∈ kys a ∨ q ∈ kys b := by
    unfold bothK at h3
    have := mem_orL.mp (ss_mem.mp h3)
    exact this.imp mem_sort.mp mem_sort.mp
  unfold rowB at h4
  by_cases c1 : q ∉ kys (sortF a)
  · rw [if_pos c1] at h4
    cases h4
    exact ⟨fun z => absurd z (by decide), fun _ => hq.resolve_left fun z => c1 (mem_sort.mpr z)⟩
  · rw [if_neg c1] at h4
    have c1 : q ∈ kys (sortF a) := Classical.not_not.mp c1
    by_cases c2 : q ∉ kys (sortF b)
    · rw [if_pos c2] at h4
      cases h4
      exact ⟨fun _ => mem_sort.mp c1, fun z => absurd z (by decide)⟩
    · rw [if_neg c2] at h4
      by_cases c3 : getF (sortF a) q ≠ getF (sortF b) q
      · rw [if_pos c3] at h4
        cases h4
        exact ⟨fun z => absurd z (by decide), fun z => absurd z (by decide)⟩
      · rw [if_neg c3] at h4
        cases h4
theorem len_sign {c : Str} {a b : Fold} (h : SmB (a, b)) : (signF c a b).length ≤ 15 := by
  unfold signF
  rw [List.length_map]
  exact Nat.le_trans (List.length_filter_le _ _) (len_betw h)
theorem get_of {l : Fold} {x : Str} (h : x ∈ kys l) : lookD l x = some (getF l x) := by
  obtain ⟨y, hy⟩ := look_mem h
  unfold getF
  rw [hy]
  rfl
theorem perm_le1 {α : Type} : ∀ {xs ys : List α}, xs.Perm ys → ys.length ≤ 1 → xs = ys
  | xs, [], p, _ => p.eq_nil
  | xs, [y], p, _ => p.eq_singleton
  | _, _ :: _ :: _, _, h => absurd h (by simp)
theorem ok_moved {f g1 : Addr} {fd fd1 : FuncData} {k k1 : Nat} (Fn : Fun K "moved" "moved" s_moved f fd)
    (G1 : Cal P w K mg base (L2.CX P w) k1 "between" ["one", "other"] (sp_between Ps K Bp) g1 fd1) (h1 : k1 ≤ k) (z_tuple : mg "tuple" = none) (z_sorted : mg "sorted" = none) : FnOk P w K mg base (L2.CX P w) (k + 1) f fd ["one", "other"] (sp_moved Ps K Bp) := by
  refine Fun.okP Fn sc_moved (fun _ => rfl) fun cdv A outer s H0 E hr => ?_
  have hu := hr.units
  have hu1 : (A.deeper (envOfC "moved" (defScope s_moved) s.heap.objs.size f cdv)).units + 1 < cLine := by omega
  refine ⟨_, (pss_cons (ps_set (i := 2) sc_moved.nd rfl (.inl rfl) (pe_call G1.ok (hr.mono h1) (by rfl) G1.g G1.kp G1.b .nil (passes_call (takes_of rfl rfl rfl rfl) (fun _ _ _ _ h => h)) (pa_cons (pv 0) (pa_cons (pv 1) pa_nil))))
    (pss_cons (ps_setLc (i := 3) (own := [("sign", 4), ("path", 5)]) rfl sc_moved.nd rfl rfl (sw_true rfl rfl rfl (by rfl)) (pi_tupK (K0 := K) rfl (pv 2)) (blkOk_by (by show blkC Nmv (defScope s_moved) _ _ = true; decide +kernel)) (fun _ _ _ _ _ => (pg_tupKK (n := 2) (K0 := K) rfl rfl (pgs_cons (pg_name (i := 4) sc_moved.nd rfl (.inl rfl)) (pgs_cons (pg_name (i := 5) sc_moved.nd rfl (.inl rfl)) pgs_nil)))) (fun _ _ _ _ _ => (pts_one (pt_cmpR op_eq (pv 4) pe_str (nomark _)))) (fun _ _ _ _ _ => (pv 5)))
    (pss_cons (ps_setLc (i := 6) (own := [("sign", 4), ("path", 5)]) rfl sc_moved.nd rfl rfl (sw_true rfl rfl rfl (by rfl)) (pi_tupK (K0 := K) rfl (pv 2)) (blkOk_by (by show blkC Nmv (defScope s_moved) _ _ = true; decide +kernel)) (fun _ _ _ _ _ => (pg_tupKK (n := 2) (K0 := K) rfl rfl (pgs_cons (pg_name (i := 4) sc_moved.nd rfl (.inl rfl)) (pgs_cons (pg_name (i := 5) sc_moved.nd rfl (.inl rfl)) pgs_nil)))) (fun _ _ _ _ _ => (pts_one (pt_cmpR op_eq (pv 4) pe_str (nomark _)))) (fun _ _ _ _ _ => (pv 5)))
    (pss_cons (ps_set (i := 7) sc_moved.nd rfl (.inl rfl) (pe_lst pa_nil))
    (pss_cons (ps_for (passes_of rfl) rfl (pi_listK (K0 := K) rfl (pv 6)) (pg_name (i := 8) sc_moved.nd rfl (.inr rfl))
      (pss_cons (ps_setLc (i := 9) (own := [("old", 10)]) rfl sc_moved.nd rfl rfl (sw_true rfl rfl rfl (by rfl)) (pi_listK (K0 := K) rfl (pv 3)) (blkOk_by (by show blkC Nmv (defScope s_moved) _ _ = true; decide +kernel)) (fun _ _ _ _ _ => (pg_name (i := 10) sc_moved.nd rfl (.inl rfl))) (fun _ _ _ _ _ => (pts_one (pt_cmpR op_eq (pe_dget hu1 (pv 0) (pv 10) (fun _ _ => rfl)) (pe_dget hu1 (pv 1) (pv 8) (fun _ _ => rfl)) (nomark _)))) (fun _ _ _ _ _ => (pv 10)))
    (pss_one (ps_if (pt_cmpR (op_neKK (K0 := K) rfl (by first | exact hr.units | (have := hr.units; omega))) (pv 9) (pe_lst pa_nil) (nomark _))
      (pss_cons (ps_expr (pe_bm PySem.F.plainAttrs_list PySem.F.slot_list_remove PySem.F.type_list_remove mt_removeS (pv 3) (pa_cons (pe_ix (ix_listKK (K0 := K) rfl) (pv 9) pe_int (fun _ _ => rfl)) pa_nil)))
    (pss_one (ps_expr (pe_bm PySem.F.plainAttrs_list PySem.F.slot_list_append PySem.F.type_list_append mt_append (pv 7) (pa_cons (pe_tup (pa_cons (pe_ix (ix_listKK (K0 := K) rfl) (pv 9) pe_int (fun _ _ => rfl)) (pa_cons (pv 8) pa_nil))) pa_nil))))) pss_nil))))
    (pss_one (ps_ret (pe_callTy call_tuple_of (by rfl) z_tuple (by decide +kernel) (pa_cons (pe_callB RU.cr_sortedSS (by rfl) z_sorted (by decide +kernel) (pa_cons (pv 7) pa_nil)) pa_nil))))))))), fun c B D pre hrt hx hnx => ?_⟩
  obtain ⟨a, b⟩ := c
  obtain ⟨pb, pc, po⟩ := pre
  by_cases ok : (okFold a && okFold b) = true
  · have lb := len_betw pb
    refine Nx.seq (Nx.set (R := Is K (Tl.mk (betwF (sortF a) (sortF b)))) (Ev.callx (M := []) (fun _ h => nomatch h) (a, b) (Ea.cons (Ev.var rfl) (Ea.cons (Ev.var rfl) Ea.nil)) pb (if_pos ok)) ?_)
    dsimp only
    refine Nx.seq (Nx.setS (EvS.lcOf (K := K) (L := []) (sl := [4, 5]) (xs := betwF (sortF a) (sortF b)) (p := fun r => decide (r.1 = "-")) (f := fun r => r.2) (Ei.tup (xs := Tl.mk (betwF (sortF a) (sortF b))) (Ev.var rfl)) (fun _ h => nomatch h) (by omega) _ (fun x _ => Eg.pair Eg.name Eg.name) (fun k hk => hk) (fun x _ => Et.is (Ev.op (Ev.var (R := Is K x.1) rfl) (Ev.str (K := K)) o2_eq)) (fun x _ _ => Ev.var rfl)) fun R1 M1 e1 => ?_)
    obtain ⟨g, rfl, rfl⟩ := e1
    dsimp only
    refine Nx.seq (Nx.set (R := Is K (signF "+" a b)) (Ev.lcOf (K := K) (L := []) (sl := [4, 5]) (xs := betwF (sortF a) (sortF b)) (p := fun r => decide (r.1 = "+")) (f := fun r => r.2) (Ei.tup (xs := Tl.mk (betwF (sortF a) (sortF b))) (Ev.var rfl)) (fun _ h => nomatch h) (by omega) _ (fun x _ => Eg.pair Eg.name Eg.name) (fun k hk => hk) (fun x _ => Et.is (Ev.op (Ev.var (R := Is K x.1) rfl) (Ev.str (K := K)) o2_eq)) (fun x _ _ => Ev.var rfl)) ?_)
    dsimp only
    refine Nx.seq (Nx.newL (K := K) (α := Str × Str) fun fo => ?_)
    dsimp only
    have pl : (signF "-" a b).length ≤ 15 := len_sign pb
    refine Nx.seq (Nx.for0 (γ := Str) (δ := List Str × List (Str × Str)) (L := []) (Ei.list (K := K) (xs := signF "+" a b) (Ev.var rfl)) (fun i st => st = ((signF "+" a b).take i).foldl (mvStep a b) (signF "-" a b, []) ∧ (∀ o ∈ st.1, o ∈ kys a) ∧ st.1.length ≤ 15 ∧ st.2.length ≤ i) (fun _ _ => [some (Is K (Dc.mk a)), some (Is K (Dc.mk b)), some (Is K (Tl.mk (betwF (sortF a) (sortF b)))), some (At g), none, none, some (Is K (signF "+" a b)), some (At fo), none, none, none]) (fun _ st => [(fo, LstM K st.2), (g, LstM K st.1)]) (fun _ _ _ _ h => nomatch h) (fun i x => (signF "+" a b)[i]? = some x) (fun _ x => Is K x) (fun i _ F v r => r) (signF "-" a b, []) ⟨rfl, fun o ho => (sign_in ho).1 rfl, pl, Nat.le_refl _⟩ (by (repeat' (first | exact RP.GLe.nil | apply RP.GLe.keep | apply RP.GLe.drop))) rfl _ (fun i c x _ _ _ => Eg.name) (fun B' ble i st x hlt iv px N hN => ?_) fun st iv => ?_)
    · obtain ⟨iv1, iv2, iv3, iv4⟩ := iv
      have hi : x ∈ kys b := (sign_in (List.mem_of_getElem? px)).2 rfl
      have lt1 : i < 1 := Nat.lt_of_lt_of_le hlt pc
      have nxt : ((signF "+" a b).take (i + 1)).foldl (mvStep a b) (signF "-" a b, []) = mvStep a b st x := by
        rw [List.take_add_one, px, List.foldl_append, ← iv1]
        rfl
      refine Nx.seq (Nx.set (R := Is K (sameF a b st.1 x)) ((Ev.lcOf (K := K) (L := [(g, LstM K st.1)]) (sl := [10]) (xs := st.1) (p := fun o => decide (getF a o = getF b x)) (f := fun o => o) (Ei.listM (Ev.var rfl) (List.mem_cons_of_mem _ (List.mem_cons_self ..))) (fun e he => List.mem_cons_of_mem _ he) (by omega) _ (fun x _ => Eg.name) (fun k hk => hk) (fun o ho => Et.is (Ev.op (Ev.dget (Ev.var (R := Is K (Dc.mk a)) rfl) Ds.fz (Ev.var rfl) (get_of (iv2 o ho))) (Ev.dget (Ev.var (R := Is K (Dc.mk b)) rfl) Ds.fz (Ev.var (R := Is K x) rfl) (get_of hi)) o2_eq)) (fun o _ _ => Ev.var rfl)).to (List.map_id' _)) ?_)
      dsimp only
      refine Nx.ite (P := fun t => t = !decide (sameF a b st.1 x = [])) (Et.is (Ev.op (Ev.var (R := Is K (sameF a b st.1 x)) rfl) (Ev.lstL (K := K) (xs := ([] : List Str)) Ea.nil (by show 0 ≤ 100; decide)) (o2_neD (fun o ho => po o (iv2 o (List.mem_filter.mp ho).1)) (fun _ h => nomatch h)))) (fun hb => ?_) (fun hb => ?_)
      · obtain ⟨o, r, e⟩ : ∃ o r, sameF a b st.1 x = o :: r := by
          cases e : sameF a b st.1 x with
          | nil => rw [e] at hb; cases hb
          | cons o r => exact ⟨o, r, rfl⟩
        have om : o ∈ st.1 := by
          have : o ∈ sameF a b st.1 x := by rw [e]; exact List.mem_cons_self ..
          exact (List.mem_filter.mp this).1
        have es : mvStep a b st x = (st.1.erase o, st.2 ++ [(o, x)]) := by
          unfold mvStep
          rw [e]
        have i0 : Ev Ps [some (Is K (Dc.mk a)), some (Is K (Dc.mk b)), some (Is K (Tl.mk (betwF (sortF a) (sortF b)))), some (At g), none, none, some (Is K (signF "+" a b)), some (At fo), some (Is K x), some (Is K (sameF a b st.1 x)), none] [(fo, LstM K st.2), (g, LstM K st.1)] (tOp (rIxL K) (tVar 9) (tC (.int 0))) (Is K o) := Ev.op (Ev.var (R := Is K (sameF a b st.1 x)) rfl) Ev.int (o2_ixL Ls.fz (by rw [e]; simp [atI, ixN]))
        refine Nx.seq (Nx.rem (K := K) (xs := st.1) (x := o) (j := 1) (a := g) (Ev.var rfl) i0 rfl om ?_)
        have i1 : Ev Ps [some (Is K (Dc.mk a)), some (Is K (Dc.mk b)), some (Is K (Tl.mk (betwF (sortF a) (sortF b)))), some (At g), none, none, some (Is K (signF "+" a b)), some (At fo), some (Is K x), some (Is K (sameF a b st.1 x)), none] [(fo, LstM K st.2), (g, LstM K (st.1.erase o))] (tOp (rIxL K) (tVar 9) (tC (.int 0))) (Is K o) := Ev.op (Ev.var (R := Is K (sameF a b st.1 x)) rfl) Ev.int (o2_ixL Ls.fz (by rw [e]; simp [atI, ixN]))
        refine Nx.app (K := K) (x := ((o, x) : Str × Str)) (xs := st.2) (j := 0) (a := fo) (Ev.var rfl) (Ev.pair (K := K) i1 (Ev.var (R := Is K x) rfl)) rfl (by omega) ?_
        exact (hN (st.1.erase o, st.2 ++ [(o, x)]) ⟨by rw [nxt, es], fun p hp => iv2 p (List.mem_of_mem_erase hp), Nat.le_trans (List.length_erase_le ..) iv3, by rw [List.length_append]; exact Nat.add_le_add_right iv4 1⟩).gle (by (repeat' (first | exact RP.GLe.nil | apply RP.GLe.keep | apply RP.GLe.drop)))
      · have e : sameF a b st.1 x = [] := by simpa using hb.symm
        have es : mvStep a b st x = st := by
          unfold mvStep
          rw [e]
        exact (hN st ⟨by rw [nxt, es], iv2, iv3, by omega⟩).gle (by (repeat' (first | exact RP.GLe.nil | apply RP.GLe.keep | apply RP.GLe.drop)))
    · obtain ⟨iv1, iv2, iv3, iv4⟩ := iv
      rw [List.take_length] at iv1
      have l2 : st.2.length ≤ 1 := Nat.le_trans iv4 pc
      have e2 : st.2 = movedF a b := by
        unfold movedF
        rw [← iv1]
      have own : ∀ e ∈ [(fo, LstM K st.2), (g, LstM K st.1)], e.2.own = true := fun e he => by
        simp only [List.mem_cons, List.not_mem_nil, or_false] at he
        rcases he with rfl | rfl <;> rfl
      refine Nx.ret (R := Is K (Tl.mk (movedF a b))) (Ev.cb (Ea.cons (Ev.exiIs (y := movedF a b) (Ev.cb (Ea.cons (Ev.var (R := At fo) rfl) Ea.nil) (oc_sortSS (Ls.mu (List.mem_cons_self ..)))) fun ys h => ?_) Ea.nil) (oc_tuple (Ls.fz (K := K)))) fun v σ F H sa r => hrt (if_pos ok) v _ _ _ _ _ own sa r
      obtain ⟨l1, l2', h1, h2, h3, _⟩ := h
      have p1 : ys.Perm st.2 := by
        rw [← h1, ← h2]
        exact h3.map _
      rw [← e2]
      exact perm_le1 p1 l2
  · have he : (if (okFold a && okFold b) = true then none else some Bp) = some Bp := if_neg ok
    exact Nx.seq (Nx.asgR (E := E) (a := Bp) (EvR.callx (M := []) (fun _ h => nomatch h) (a, b) (Ea.cons (Ev.var rfl) (Ea.cons (Ev.var rfl) Ea.nil)) pb he) fun σ F H sa => hx Bp he _ [] _ _ _ (fun _ h => nomatch h) sa)
end
end K01

-- RQe
set_option maxRecDepth 100000
set_option maxHeartbeats 4000000
/-! a table of lists of texts, all our own: d.setdefault(k, []).append(x), and its values walked -/
namespace RP
open PySem PySem.Spec PyProof.Rows L2
open Rp (rp)
/-- a key, where its list stands, and what is in it -/
structure Lot where
  t : Str
  a : Addr
  xs : List Str
instance : Rp Lot := ⟨fun _ _ v x => v = .ref x.a, fun _ _ _ _ _ _ h => h⟩
abbrev kvL (L : List Lot) : List (Key × V) := L.map fun e => (Sum.inr e.t, V.ref e.a)
def LotsM (L : List Lot) : MRel := EqM (.dK (kvL L)) true fun _ z => nomatch z
def LotsK (L : List Lot) (od : PySem.Obj) : MRel := EqM (.frz od (.dK (kvL L))) true fun _ z => nomatch z
abbrev LL (K : PySem.W.Frag) (L : List Lot) : Mu := L.map fun e => (e.a, LstM K e.xs)
theorem kvL_cons {e : Lot} {L : List Lot} : kvL (e :: L) = (Sum.inr e.t, V.ref e.a) :: kvL L := rfl
theorem kvL_app {L L' : List Lot} : kvL (L ++ L') = kvL L ++ kvL L' := List.map_append
theorem LL_app {K : PySem.W.Frag} {L L' : List Lot} : LL K (L ++ L') = LL K L ++ LL K L' := List.map_append
section
variable {Ps : Tbs} {B : Bs} {M M' : Mu} {G : Gm} {K : PySem.W.Frag} {te td ty : TE} {R : VRel} {D : L2.Ends} {σ : L2.St} {F H : Hp}
theorem Sh.perm (s : Sh Ps M F H) (p : M.Perm M') : Sh Ps M' F H :=
  ⟨s.sub, s.tb, s.fp, fun e he => s.mu e (p.mem_iff.mpr he), fun e he => s.ow e (p.mem_iff.mpr he), (p.map _).nodup_iff.mp s.nd, fun a kvs hF c => s.fz a kvs hF fun e he z => c e (p.mem_iff.mp he) z⟩
theorem Sa.perm (s : Sa Ps B G M σ F H) (p : M.Perm M') : Sa Ps B G M' σ F H :=
  ⟨s.en, s.sh.perm p, s.le, s.keep, s.dom, s.nw, fun e he => s.mw e (p.mem_iff.mpr he)⟩
theorem val_kvL : ∀ {L : List Lot} {k : Str}, (valV (kvL L) (Sum.inr k) = none ∧ k ∉ L.map (·.t)) ∨ ∃ L1 e L2, L = L1 ++ e :: L2 ∧ e.t = k ∧ k ∉ L1.map (·.t) ∧ valV (kvL L) (Sum.inr k) = some (.ref e.a)
  | [], k => .inl ⟨rfl, by simp⟩
  | e :: L, k => by
    by_cases h : e.t = k
    · refine .inr ⟨[], e, L, rfl, h, by simp, ?_⟩
      unfold valV
      rw [kvL_cons, List.find?_cons_of_pos (by rw [h]; simp)]
      rfl
    · have hv : valV (kvL (e :: L)) (Sum.inr k) = valV (kvL L) (Sum.inr k) := by
        unfold valV
        rw [kvL_cons, List.find?_cons_of_neg (by simpa using h)]
      rcases val_kvL (L := L) (k := k) with ⟨h1, h2⟩ | ⟨L1, e1, L2, h1, h2, h3, h4⟩
      · refine .inl ⟨hv.trans h1, fun z => ?_⟩
        rcases List.mem_cons.mp z with z | z
        · exact h z.symm
        · exact h2 z
      · refine .inr ⟨e :: L1, e1, L2, by rw [h1]; rfl, h2, fun z => ?_, hv.trans h4⟩
        rcases List.mem_cons.mp z with z | z
        · exact h z.symm
        · exact h3 z
theorem put_kvL {L : List Lot} {k : Str} {a : Addr} (h : k ∉ L.map (·.t)) (xs : List Str) : putK (kvL L) (Sum.inr k) (.ref a) = kvL (L ++ [⟨k, a, xs⟩]) := by
  unfold putK
  rw [if_neg, kvL_app]
  · rfl
  · rw [List.any_eq_true]
    rintro ⟨e, he, z⟩
    obtain ⟨x, hx, rfl⟩ := List.mem_map.mp he
    have z : (Sum.inr x.t : Key) = Sum.inr k := by simpa using z
    exact h (List.mem_map.mpr ⟨x, hx, Sum.inr.inj z⟩)
/-- d.setdefault(k, []).append(x) -/
theorem Nx.setApp {L : List Lot} {q : Addr} {e0 : Addr × MRel} {k x : Str} (own : e0.2.own = true) (hd : Ev Ps G (e0 :: (q, LotsM L) :: LL K L) td (At q)) (hy : Ev Ps G (e0 :: (q, LotsM L) :: LL K L) ty (Is K k))
    (hx : ∀ M, e0 ∈ M → Ev Ps G M te (Is K x)) (ln : L.length ≤ 1000) (lx : ∀ e ∈ L, e.xs.length ≤ 1000)
    (hnew : k ∉ L.map (·.t) → ∀ a, Nx Ps B G (e0 :: (q, LotsM (L ++ [⟨k, a, [x]⟩])) :: LL K (L ++ [⟨k, a, [x]⟩])) D.nx)
    (hold : ∀ L1 e L2, L = L1 ++ e :: L2 → e.t = k → k ∉ L1.map (·.t) → Nx Ps B G (e0 :: (q, LotsM (L1 ++ ⟨k, e.a, e.xs ++ [x]⟩ :: L2)) :: LL K (L1 ++ ⟨k, e.a, e.xs ++ [x]⟩ :: L2)) D.nx) :
    Nx Ps B G (e0 :: (q, LotsM L) :: LL K L) (tDrop (tBM K "list" rAppend (tDSetd td ty (tLst tNil)) (tCons te tNil)) D) := fun σ F H s =>
  hd σ F H _ s.en s.sh fun d F1 H1 e1 r1 => by
    cases r1
    have s1 := s.evo e1
    have big : 200000 ≤ sizeLine := by decide
    obtain ⟨o, h1, rfl⟩ := s1.sh.mu _ (List.mem_cons_of_mem _ (List.mem_cons_self ..))
    refine ⟨q, rfl, .inl ⟨_, .inl h1⟩, hy σ F1 H1 _ s1.en s1.sh fun y F2 H2 e2 r2 => ?_⟩
    cases r2
    have s2 := s1.evo e2
    refine ⟨Nat.zero_le _, fun p hp => ?_⟩
    have s3 := s2.new (r := LstM K ([] : List Str)) hp ⟨_, rfl, .nil⟩
    obtain ⟨o, h3, rfl⟩ := s3.sh.mu (q, LotsM L) (List.mem_cons_of_mem _ (List.mem_cons_of_mem _ (List.mem_cons_self ..)))
    refine ⟨kvL L, Sum.inr k, h3, rfl, by rw [List.length_map]; omega, fun v hv => ?_, fun hv => ?_⟩
    · rcases val_kvL (L := L) (k := k) with ⟨h4, _⟩ | ⟨L1, e, L2, rfl, h5, h6, h7⟩
      · rw [h4] at hv
        cases hv
      · rw [h7] at hv
        cases hv
        have s4 : Sa Ps B G (e0 :: (q, LotsM (L1 ++ e :: L2)) :: LL K (L1 ++ e :: L2)) σ F2 (upd H2 p (.lst [])) := s3.less (List.sublist_cons_self ..) fun e' he => by
          rcases List.mem_cons.mp he with rfl | he
          · exact .inr rfl
          · exact .inl he
        have hj : (e0 :: (q, LotsM (L1 ++ e :: L2)) :: LL K (L1 ++ e :: L2))[L1.length + 2]? = some (e.a, LstM K e.xs) := by
          show (LL K (L1 ++ e :: L2))[L1.length]? = _
          rw [List.getElem?_map, List.getElem?_append_right (Nat.le_refl _), Nat.sub_self]
          rfl
        obtain ⟨o, g1, vs, rfl, gp⟩ := s4.sh.mu _ (List.mem_of_getElem? hj)
        refine ⟨.inl ⟨rfl, _, SqL.of g1⟩, hx _ (List.mem_cons_self ..) σ F2 _ _ s4.en s4.sh fun z F5 H5 e5 r5 => ?_⟩
        have s5 := s4.evo e5
        obtain ⟨o, g2, vs2, rfl, gp2⟩ := s5.sh.mu _ (List.mem_of_getElem? hj)
        have ll := Paired.length gp2
        have := lx e (List.mem_append_right _ (List.mem_cons_self ..))
        refine ⟨e.a, vs2, z, rfl, rfl, g2, by omega, hold L1 e L2 rfl h5 h6 σ F5 _ ?_⟩
        have s6 := s5.wr (r' := LstM K (e.xs ++ [x])) hj rfl ⟨_, rfl, gp2.snoc r5⟩
        have em : (e0 :: (q, LotsM (L1 ++ e :: L2)) :: LL K (L1 ++ e :: L2)).set (L1.length + 2) (e.a, LstM K (e.xs ++ [x])) = e0 :: (q, LotsM (L1 ++ ⟨k, e.a, e.xs ++ [x]⟩ :: L2)) :: LL K (L1 ++ ⟨k, e.a, e.xs ++ [x]⟩ :: L2) := by
          rw [List.set_cons_succ, List.set_cons_succ]
          congr 2
          · refine congrArg (Prod.mk q) ?_
            unfold LotsM
            have : kvL (L1 ++ e :: L2) = kvL (L1 ++ ⟨k, e.a, e.xs ++ [x]⟩ :: L2) := by
              rw [kvL_app, kvL_app, kvL_cons, kvL_cons, h5]
            simp only [this]
          · rw [LL_app, LL_app, List.set_append_right _ _ (by rw [List.length_map]; exact Nat.le_refl _), List.length_map, Nat.sub_self]
            rfl
        rw [em] at s6
        exact s6
    · rcases val_kvL (L := L) (k := k) with ⟨_, h5⟩ | ⟨L1, e, L2, rfl, h5, h6, h7⟩
      · have s4 := s3.wr (j := 2) (r' := LotsM (L ++ [⟨k, p, [x]⟩])) (o := .dK (putK (kvL L) (Sum.inr k) (.ref p))) rfl rfl (by rw [put_kvL h5 [x]]; rfl)
        obtain ⟨o, g1, vs, rfl, gp⟩ := s4.sh.mu (p, LstM K ([] : List Str)) (List.mem_cons_self ..)
        refine ⟨.inl ⟨rfl, _, SqL.of g1⟩, hx _ (List.mem_cons_of_mem _ (List.mem_cons_self ..)) σ F2 _ _ s4.en s4.sh fun z F5 H5 e5 r5 => ?_⟩
        have s5 := s4.evo e5
        obtain ⟨o, g2, vs2, rfl, gp2⟩ := s5.sh.mu (p, LstM K ([] : List Str)) (List.mem_cons_self ..)
        have ll := Paired.length gp2
        have s6 := s5.wr (j := 0) (r' := LstM K (([] : List Str) ++ [x])) rfl rfl ⟨_, rfl, gp2.snoc r5⟩
        refine ⟨p, vs2, z, rfl, rfl, g2, by rw [ll]; exact Nat.lt_of_lt_of_le (by decide) big, hnew h5 p σ F5 _ (s6.perm ?_)⟩
        show List.Perm ((p, LstM K [x]) :: e0 :: (q, LotsM (L ++ [⟨k, p, [x]⟩])) :: LL K L) (e0 :: (q, LotsM (L ++ [⟨k, p, [x]⟩])) :: LL K (L ++ [⟨k, p, [x]⟩]))
        rw [LL_app]
        exact ((List.perm_append_singleton (p, LstM K [x]) (e0 :: (q, LotsM (L ++ [⟨k, p, [x]⟩])) :: LL K L)).symm)
      · rw [h7] at hv
        cases hv
/-- an expression that walks it -/
theorem EvS.lockL {j j' : Nat} {d : Addr} {L : List Lot} {P : VRel → Mu → Prop} (hj : M[j]? = some (d, LotsM L))
    (h : ∀ (od : PySem.Obj), EvS Ps B G (M.set j (d, LotsK L od)) te (fun R M' => M'[j']? = some (d, LotsK L od) ∧ P R (M'.set j' (d, LotsM L)))) : EvS Ps B G M (tLockE te) P := fun σ F H Q s q => by
  obtain ⟨o, h1, rfl⟩ := s.sh.mu _ (List.mem_of_getElem? hj)
  refine ⟨d, .dK (kvL L), h1, True.intro, fun od => ?_⟩
  refine h od σ F _ _ (s.retell hj rfl rfl h1 (fun _ z => nomatch z) rfl) fun R M' v F' H' ⟨hj', p⟩ s' le r => ?_
  obtain ⟨o, g1, rfl⟩ := s'.sh.mu _ (List.mem_of_getElem? hj')
  exact ⟨g1, q R _ v F' _ p (s'.retell (r' := LotsM L) hj' rfl rfl g1 (fun _ z => nomatch z) rfl) le r⟩
theorem Ei.lots {d : Addr} {od : PySem.Obj} {L : List Lot} (hd : Ev Ps G M td (At d)) (hM : (d, LotsK L od) ∈ M) : Ei Ps G M [(d, LotsK L od)] (iVals td) L.length (Nth K L) := fun σ F H R e s q => hd σ F H _ e s fun v F1 H1 e1 ev => by
  cases ev
  have lk : ∀ {M' : Mu} {F' H' : Hp}, (∀ e ∈ [(d, LotsK L od)], e ∈ M') → Sh Ps M' F' H' → H' d = some (.frz od (.dK (kvL L))) := fun h s' => by
    obtain ⟨o, h1, rfl⟩ := s'.mu _ (h _ (List.mem_singleton.mpr rfl))
    exact h1
  obtain ⟨o, h1, rfl⟩ := (s.evo e1).mu _ hM
  have ln : (kvL L).length = L.length := List.length_map _
  refine ⟨d, od, kvL L, rfl, h1, q _ F1 H1 e1 ⟨fun _ i F' H' h hi _ s' => ?_, fun _ F' H' h _ s' => ?_, fun _ i F' H' x H'' h hi le s' y => ?_⟩⟩
  · rw [← ln] at hi
    exact walk_values.goes i H' hi (lk h s')
  · rw [← ln]
    exact walk_values.stops H' (lk h s')
  · obtain ⟨rfl, k, h1⟩ := walk_values.yields i H' x H'' (by rw [ln]; exact hi) (lk h s') y
    refine ⟨F', s'.refl, L[i], List.getElem?_eq_getElem hi, ?_⟩
    rw [List.getElem?_map, List.getElem?_eq_getElem hi] at h1
    have h1 := Option.some.inj h1
    show x = V.ref L[i].a
    exact (congrArg Prod.snd h1).symm
end
end RP

-- D01V
set_option maxRecDepth 100000
set_option maxHeartbeats 4000000
namespace RP
open PySem PySem.Spec PyProof.Rows L2
theorem Nx.perm {Ps : Tbs} {B : Bs} {M M' : Mu} {G : Gm} {k : L2.St → Hp → Prop} (p : M.Perm M') (n : Nx Ps B G M' k) : Nx Ps B G M k := fun σ F H s => n σ F H (s.perm p)
theorem Nx.newLots {Ps : Tbs} {B : Bs} {M : Mu} {G : Gm} {D : L2.Ends} {i : Nat} (nx : ∀ a, Nx Ps B (G.set i (some (At a))) ((a, LotsM []) :: M) D.nx) : Nx Ps B G M (tAsg tDNewK (gName i) D) := fun σ F H s =>
  fun p hp => nx p _ F _ (((s.new (r := LotsM []) hp rfl)).env (s.en.set rfl))
theorem Ls.lot {Ps : Tbs} {M : Mu} {K : PySem.W.Frag} {x : Lot} (h : (x.a, LstM K x.xs) ∈ M) : Ls Ps M K (Is K x) x.xs := fun F H v s e => Ls.mu (Ps := Ps) h F H v s e
end RP
namespace K01
open PySem PySem.Spec PyProof.Rows L2 BG
open RP hiding Tb
open SSt
section
variable {P : Program} {w : World} {K : PySem.W.Frag} {mg : Str → Option Value} {base : Heap} {Bp : Addr} {Ps : Tbs}
/-! twins: slots table=0 found=1 lots=2 path=3 -/
abbrev s_twins : Stmt := topS 23
abbrev Ntw : List Str := ["table", "found", "lots", "path"]
theorem sc_twins : FnScope Ntw ["table"] (defScope s_twins) := ⟨rfl, rfl, rfl, by decide +kernel, rfl, by decide +kernel, by decide +kernel⟩
theorem gs_twins : GX.GScp Ntw (defScope s_twins) { kind := ScopeKind.function, names := [(".0", NameKind.local), ("lot", NameKind.local), ("len", NameKind.globalImplicit), ("tuple", NameKind.globalImplicit)], isGenerator := true, isCoroutine := false } ["lot"] [none] := GX.gsc_by (by decide +kernel)
abbrev Lts := List (Str × List Str)
def addP : Lts → Str → Str → Lts
  | [], t, x => [(t, [x])]
  | e :: r, t, x => if e.1 = t then (e.1, e.2 ++ [x]) :: r else e :: addP r t x
def lotsP (l : Fold) (ps : List Str) : Lts := ps.foldl (fun P p => addP P (getF l p) p) []
def twinsF (l : Fold) : List (Tl Str) := ((lotsP (sortF l) (kys (sortF l))).filter fun e => decide (1 < e.2.length)).map fun e => Tl.mk e.2
abbrev erL (L : List Lot) : Lts := L.map fun e => (e.t, e.xs)
theorem add_new : ∀ {P : Lts} {t x : Str}, t ∉ P.map (·.1) → addP P t x = P ++ [(t, [x])]
  | [], _, _, _ => rfl
  | e :: r, t, x, h => by
    have h1 : e.1 ≠ t := fun z => h (by rw [← z]; exact List.mem_cons_self ..)
    show (if e.1 = t then _ else e :: addP r t x) = _
    rw [if_neg h1, add_new fun z => h (List.mem_cons_of_mem _ z)]
    rfl
theorem add_old : ∀ {L1 : List Lot} {e : Lot} {L2 : List Lot} {t x : Str}, e.t = t → t ∉ L1.map (·.t) → addP (erL (L1 ++ e :: L2)) t x = erL (L1 ++ ⟨t, e.a, e.xs ++ [x]⟩ :: L2)
  | [], e, L2, t, x, h, _ => by
    show (if e.t = t then (e.t, e.xs ++ [x]) :: erL L2 else _) = _
    rw [if_pos h, h]
    rfl
  | f :: L1, e, L2, t, x, h, n => by
    have h1 : f.t ≠ t := fun z => n (by rw [← z]; exact List.mem_cons_self ..)
    show (if f.t = t then _ else (f.t, f.xs) :: addP (erL (L1 ++ e :: L2)) t x) = _
    rw [if_neg h1, add_old h fun z => n (List.mem_cons_of_mem _ z)]
    rfl
abbrev sp_twins (Ps : Tbs) (K : PySem.W.Frag) (Bp : Addr) : Sp := Spx (γ := Fold) Ps (fun l => [Is K (Dc.mk l)]) SmD (fun l => Is K (Tl.mk (twinsF l))) (fun l => if okFold l = true then none else some Bp)
theorem ok_twins {f g1 cc pp : Addr} {fd fd1 : FuncData} {k k1 : Nat} (Fn : BG.FunC K "twins" "twins" s_twins f fd cc) (TB : GxR.TabB base mg cc pp) (hpp : (pp, none) ∈ Ps) (un : ∀ e ∈ Ps, e.1 = pp → e.2 = none)
    (G1 : Cal P w K mg base (L2.CX P w) k1 "check_folder" ["table"] (sp_check_folder Ps K Bp) g1 fd1) (h1 : k1 ≤ k) (z_tuple : mg "tuple" = none) (z_len : mg "len" = none) : FnOk P w K mg base (L2.CX P w) (k + 8) f fd ["table"] (sp_twins Ps K Bp) := by
  refine BG.FunC.okP Fn sc_twins (fun _ => rfl) fun A outer s H0 E hr => ?_
  have hr0 : Room k (A.deeper (envOfC "twins" (defScope s_twins) s.heap.objs.size f (.ref cc))) := hr.mono (by omega)
  have hr5 : Room (k + 1 + 5) (A.deeper (envOfC "twins" (defScope s_twins) s.heap.objs.size f (.ref cc))) := hr.mono (by omega)
  refine ⟨_, (pss_cons (ps_set (i := 1) sc_twins.nd rfl (.inl rfl) (pe_call G1.ok (hr0.mono h1) (by rfl) G1.g G1.kp G1.b .nil (passes_call (takes_of rfl rfl rfl rfl) (fun _ _ _ _ h => h)) (pa_cons (pv 0) pa_nil)))
    (pss_cons (ps_set (i := 2) sc_twins.nd rfl (.inl rfl) pe_dnewK)
    (pss_cons (ps_lock (ps_for (passes_of rfl) rfl (pi_keys (pv 1)) (pg_name (i := 3) sc_twins.nd rfl (.inl rfl))
      (pss_one (ps_expr (pe_bm PySem.F.plainAttrs_list PySem.F.slot_list_append PySem.F.type_list_append mt_append (pe_dsetd (pv 2) (pe_dget (SSt.room_u hr) (pv 1) (pv 3) (fun _ _ => rfl)) (pe_lst pa_nil) ⟨rfl, by rfl, by rfl, by rfl⟩) (pa_cons (pv 3) pa_nil))))))
    (pss_one (ps_ret (L2.pe_lock (GX.pe_tupG (GX.pgen_exp (k := k) (Ng := ["lot"]) (ix := [none]) (vs := [0]) hr0 TB rfl gs_twins (pi_values (pv 2)) (fun _ _ _ _ _ _ _ => (pg_name (i := 0) gs_twins.nd rfl (.inl rfl))) (fun _ _ _ _ _ _ _ hr => (pts_one (pt_cmpR op_gt (pe_callB (call_lenKK (K0 := K) rfl) (by rfl) z_len (by decide +kernel) (pa_cons (pv 0) pa_nil)) pe_int (nomark _)))) (fun _ _ _ _ _ _ _ hr => (pe_callTy (call_tupleKK (K0 := K) rfl) (by rfl) z_tuple (by decide +kernel) (pa_cons (pv 0) pa_nil)))) hr5 (by rfl) z_tuple (by decide +kernel)))))))), fun l B D pre hrt hx hnx => ?_⟩
  have pl : l.length < 64 := pre.1
  by_cases ok : okFold l = true
  · refine Nx.seq (Nx.setS (EvS.callo (M := []) (fun _ h => nomatch h) l (Ea.cons (Ev.var rfl) Ea.nil) pre (if_pos ok)) fun R1 M1 e1 => ?_)
    obtain ⟨d, rfl, rfl⟩ := e1
    dsimp only
    refine Nx.seq (Nx.newLots fun q => ?_)
    dsimp only
    refine Nx.perm (M' := [(d, DicM K (sortF l)), (q, LotsM [])]) (List.Perm.swap ..) ?_
    refine Nx.seq (Nx.lockS (κ := Str) (α := Str) (K := K) (j := 0) (d := d) (l := sortF l) rfl fun od kv D' back => ?_)
    have ls : (kys (sortF l)).length < 64 := by rw [len_sort]; exact pl
    have hM (L : List Lot) : (d, LkD K (sortF l) od kv) ∈ ((d, LkD K (sortF l) od kv) :: (q, LotsM L) :: LL K L) := List.mem_cons_self ..
    refine Nx.for0 (γ := Str) (δ := List Lot) (Ei.keysD (K := K) (l := sortF l) (Ev.var rfl) (hM [])) (fun i L => erL L = lotsP (sortF l) ((kys (sortF l)).take i) ∧ L.length ≤ i ∧ ∀ e ∈ L, e.xs.length ≤ i) (fun _ _ => [some (Is K (Dc.mk l)), some (At d), some (At q), none]) (fun i L => (d, LkD K (sortF l) od kv) :: (q, LotsM L) :: LL K L) (fun _ L _ e he => by rw [List.mem_singleton.mp he]; exact hM L) (fun i x => (kys (sortF l))[i]? = some x) (fun _ x => Is K x) (fun i _ F v r => r) [] ⟨rfl, Nat.le_refl _, fun _ h => nomatch h⟩ GLe.refl rfl _ (fun i c x _ _ _ => Eg.name) (fun B' ble i L x hlt iv px N hN => ?_) fun L iv => ?_
    · obtain ⟨iv1, iv2, iv3⟩ := iv
      have hi : i < (kys (sortF l)).length := hlt
      have hmem : x ∈ kys (sortF l) := List.mem_of_getElem? px
      have stp : lotsP (sortF l) ((kys (sortF l)).take (i + 1)) = addP (erL L) (getF (sortF l) x) x := by
        unfold lotsP
        rw [List.take_add_one, px, List.foldl_append, iv1]
        rfl
      refine Nx.setApp (K := K) (e0 := (d, LkD K (sortF l) od kv)) (k := getF (sortF l) x) (x := x) rfl (Ev.var rfl) (Ev.dget (Ev.var rfl) (Ds.lkd (hM L)) (Ev.var (R := Is K x) rfl) (get_sort hmem)) (fun M _ => Ev.var rfl) (by omega) (fun e he => by have := iv3 e he; omega) (fun nk a => ?_) (fun L1 e L2 e1 e2 e3 => ?_)
      · refine (hN _ ⟨?_, ?_, fun e he => ?_⟩).gle (by (repeat' (first | exact RP.GLe.nil | apply RP.GLe.keep | apply RP.GLe.drop)))
        · rw [stp, add_new (by rw [List.map_map]; exact nk)]
          show List.map _ _ = _
          rw [List.map_append]
          rfl
        · rw [List.length_append]
          exact Nat.add_le_add_right iv2 1
        · rcases List.mem_append.mp he with he | he
          · have := iv3 e he
            omega
          · rw [List.mem_singleton.mp he]
            exact Nat.succ_le_succ (Nat.zero_le _)
      · subst e1
        refine (hN _ ⟨?_, ?_, fun e' he => ?_⟩).gle (by (repeat' (first | exact RP.GLe.nil | apply RP.GLe.keep | apply RP.GLe.drop)))
        · rw [stp, add_old e2 e3]
        · have : (L1 ++ e :: L2).length = (L1 ++ (⟨getF (sortF l) x, e.a, e.xs ++ [x]⟩ : Lot) :: L2).length := by simp
          omega
        · have i3 : ∀ f ∈ L1 ++ e :: L2, f.xs.length ≤ i := iv3
          rcases List.mem_append.mp he with he | he
          · have := i3 e' (List.mem_append_left _ he)
            omega
          · rcases List.mem_cons.mp he with rfl | he
            · have := i3 e (List.mem_append_right _ (List.mem_cons_self ..))
              show (e.xs ++ [x]).length ≤ _
              rw [List.length_append]
              exact Nat.add_le_add_right this 1
            · have := i3 e' (List.mem_append_right _ (List.mem_cons_of_mem _ he))
              omega
    · obtain ⟨iv1, iv2, iv3⟩ := iv
      have iv2 : L.length ≤ (kys (sortF l)).length := iv2
      rw [List.take_of_length_le (Nat.le_refl _)] at iv1
      refine back _ _ rfl ?_
      dsimp only [List.set_cons_zero]
      have ownL : ∀ e ∈ ((d, DicM K (sortF l)) :: (q, LotsM L) :: LL K L), e.2.own = true := fun e he => by
        rcases List.mem_cons.mp he with rfl | he
        · rfl
        · rcases List.mem_cons.mp he with rfl | he
          · rfl
          · obtain ⟨z, _, rfl⟩ := List.mem_map.mp he
            rfl
      refine Nx.retE (P := fun R M' => R = Is K (Tl.mk (twinsF l)) ∧ M' = (d, DicM K (sortF l)) :: (q, LotsM L) :: LL K L) (EvS.lockL (j := 1) (j' := 1) (d := q) (L := L) rfl fun od2 => ?_) fun R M' v σ F H p sa r => ?_
      · refine Ev.toS (R := Is K (Tl.mk (twinsF l))) ?_ ⟨rfl, rfl, rfl⟩
        refine (Ev.tupG (K := K) (α := Lot) (β := Tl Str) (L := [(q, LotsK L od2)]) (sl := [0]) (xs := L) (p := fun e => decide (1 < e.xs.length)) (f := fun e => Tl.mk e.xs) hpp un (Ei.lots (Ev.var rfl) (List.mem_cons_of_mem _ (List.mem_cons_self ..))) (fun e he => by rw [List.mem_singleton.mp he]; exact List.mem_cons_of_mem _ (List.mem_cons_self ..)) (by omega) _ (fun x _ => Eg.name) (fun k hk => hk) (fun x hx => ?_) (fun x hx _ => ?_)).to ?_
        · have hm : (x.a, LstM K x.xs) ∈ ((d, DicM K (sortF l)) :: (q, LotsK L od2) :: LL K L) := List.mem_cons_of_mem _ (List.mem_cons_of_mem _ (List.mem_map.mpr ⟨x, hx, rfl⟩))
          refine Et.is ((Ev.op (Ev.natI (Ev.cb (Ea.cons (Ev.var (R := Is K x) rfl) Ea.nil) (oc_len (Ls.sq (Ls.lot hm))))) Ev.int o2_cmp).to ?_)
          exact decide_eq_decide.mpr (by omega)
        · have hm : (x.a, LstM K x.xs) ∈ ((d, DicM K (sortF l)) :: (q, LotsK L od2) :: LL K L) := List.mem_cons_of_mem _ (List.mem_cons_of_mem _ (List.mem_map.mpr ⟨x, hx, rfl⟩))
          exact Ev.cb (Ea.cons (Ev.var (R := Is K x) rfl) Ea.nil) (oc_tuple (Ls.lot hm))
        · unfold twinsF
          rw [← iv1, List.filter_map, List.map_map]
          rfl
      · obtain ⟨rfl, rfl⟩ := p
        exact hrt (if_pos ok) v _ _ _ _ _ ownL sa r
  · have he : (if okFold l = true then none else some Bp) = some Bp := if_neg ok
    exact Nx.seq (Nx.asgR (E := E) (a := Bp) (EvR.callo (M := []) (fun _ h => nomatch h) l (Ea.cons (Ev.var rfl) Ea.nil) pre he) fun σ F H sa => hx Bp he _ [] _ _ _ (fun _ h => nomatch h) sa)
end
end K01

-- L01A
set_option maxRecDepth 100000
set_option maxHeartbeats 4000000
namespace K01
open PySem PySem.Spec PyProof.Rows L2 BG LW
open RP hiding Tb
local macro_rules | `(tactic| walk_at "evL") => `(tactic| simp only [tSeq, tIfS, tNot, XT.tChain3, rI0, tC, tVar, tRet, tTup, tLst, tCons, tNil, tJs, tFmt, tNext, tTest, tOp, tUn, rI, rU, tCall, tCB, tAnd, tOr, tB, tDrop, tAsg, gName, tAug, tPar, ipI, tBM, rAppend, tSl, rSlS, tPart, tNoPart, tIf, tM1, rEq, rNe, tFld, tMeth, tMake, L2.start, List.map_cons, List.map_nil, List.length_cons, List.length_nil, Nat.reduceAdd, Nat.reduceSub, Nat.sub_self, List.replicate_zero, List.append_nil, List.replicate_succ, List.cons_append, List.nil_append, tChain,
  List.getElem?_cons_zero, List.getElem?_cons_succ, Option.some.injEq, exists_eq_left', exists_eq_left, V.int.injEq, V.str.injEq, V.bl.injEq, V.ref.injEq, List.set_cons_zero, List.set_cons_succ, List.cons.injEq, and_true, true_and, reduceCtorEq, false_and, exists_false, false_or, or_false, exists_and_left, and_assoc, decide_eq_true_eq, Bool.not_eq_true', decide_eq_false_iff_not, Bool.not_false, Bool.not_true, if_true, if_false, Bool.false_eq_true, ↓reduceIte])
section
variable {P : Program} {w : World} {K : PySem.W.Frag} {mg : Str → Option Value} {base : Heap}
abbrev s__law_dice : Stmt := topS 25
theorem sc__law_dice : FnScope ["cell"] ["cell"] (defScope s__law_dice) := ⟨rfl, rfl, rfl, by decide +kernel, rfl, by decide +kernel, by decide +kernel⟩
theorem ok__law_dice {f : Addr} {fd : FuncData} {k : Nat} (F : Fun K "_law_dice" "_law_dice" s__law_dice f fd) (T : Zs mg) : FnOk P w K mg base (L2.CX P w) (k + 1) f fd ["cell"] sp_dice := by
  refine F.okX sc__law_dice (fun vs H Q E h => ?_) (fun cdv A outer s H vs Q E hr h => ?_)
  · obtain ⟨c, rfl, _⟩ := h
    rfl
  · obtain ⟨c, rfl, hq⟩ := h
    refine ⟨_, (pss_cons (ps_if (pt_chain op_lt op_lt (pe_op op_sub pe_int pe_int) (pv 0) pe_int)
      (pss_one (ps_ret (pe_lst (pa_cons (pe_callB call_abs (by rfl) T.abs (by decide +kernel) (pa_cons (pv 0) pa_nil)) (pa_cons pe_int (pa_cons pe_int pa_nil)))))) pss_nil)
    (pss_one (ps_ret (pe_lst (pa_cons (pv 0) (pa_cons (pe_op op_add pe_int (pe_op op_modN (pe_callTy call_int1 (by rfl) T.int (by decide +kernel) (pa_cons (pv 0) pa_nil)) pe_int)) (pa_cons (pe_callTy call_int1 (by rfl) T.int (by decide +kernel) (pa_cons (pe_cmpR op_ge (pv 0) (pe_op op_pow pe_int pe_int) (nomark _)) pa_nil)) pa_nil))))))), ?_⟩
    walk_at "evL"
    have e18 : CPow 10 18 := ⟨by decide, by decide, by decide⟩
    by_cases c1 : 0 - 10 < c
    · rw [if_pos c1]
      by_cases c2 : c < 10
      · rw [if_pos c2]
        exact ⟨by decide, fun p hp => hq p _ _ _ hp⟩
      · rw [if_neg c2]
        exact ⟨by decide, e18, by decide, fun p hp => hq p _ _ _ hp⟩
    · rw [if_neg c1]
      exact ⟨by decide, e18, by decide, fun p hp => hq p _ _ _ hp⟩
abbrev s__law_roll : Stmt := topS 26
theorem sc__law_roll : FnScope ["dice", "many", "found"] ["dice", "many"] (defScope s__law_roll) := ⟨rfl, rfl, rfl, by decide +kernel, rfl, by decide +kernel, by decide +kernel⟩
theorem ok__law_roll {f : Addr} {fd : FuncData} {k : Nat} (F : Fun K "_law_roll" "_law_roll" s__law_roll f fd) (T : Zs mg) : FnOk P w K mg base (L2.CX P w) (k + 1) f fd ["dice", "many"] sp_roll := by
  refine F.okX sc__law_roll (fun vs H Q E h => ?_) (fun cdv A outer s H vs Q E hr h => ?_)
  · obtain ⟨d, m, rfl, _⟩ := h
    rfl
  · obtain ⟨d, m, rfl, ⟨a, b, c, hd⟩, m1, m2, hq⟩ := h
    refine ⟨_, (pss_cons (ps_if (PW.pt (pw_or (pt_cmpR op_eq (pe_ix ix_list (pv 0) pe_int (fun _ _ => rfl)) pe_int (nomark _)) (pw_or1 (PW.pt (pw_and (pt_cmpR op_eq (pe_ix ix_list (pv 0) pe_int (fun _ _ => rfl)) pe_int (nomark _)) (pw_and1 (pt_cmpR op_gt (pe_ix ix_list (pv 0) pe_int (fun _ _ => rfl)) pe_int (nomark _))))))))
      (pss_cons (ps_set (i := 2) sc__law_roll.nd rfl (.inl rfl) (pe_op op_modN (pe_callTy call_int1 (by rfl) T.int (by decide +kernel) (pa_cons (pe_ix ix_list (pv 0) pe_int (fun _ _ => rfl)) pa_nil)) (pv 1)))
    (pss_cons (ps_asg (pe_op op_fdivN (pe_ix ix_list (pv 0) pe_int (fun _ _ => rfl)) (pv 1)) (pg_sub (pv 0) pe_int set_list))
    (pss_one (ps_ret (pv 2))))) pss_nil)
    (pss_cons (ps_asg pe_int (pg_sub (pv 0) pe_int set_list))
    (pss_cons (ps_asg (pe_op op_modN (pe_callTy call_int1 (by rfl) T.int (by decide +kernel) (pa_cons (pe_op op_add (pe_op op_add (pe_op op_mul (pe_ix ix_list (pv 0) pe_int (fun _ _ => rfl)) pe_int) (pe_op op_mul (pe_ix ix_list (pv 0) pe_int (fun _ _ => rfl)) pe_int)) pe_int) pa_nil)) pe_int) (pg_sub (pv 0) pe_int set_list))
    (pss_cons (ps_asg (pe_op op_add (pe_ix ix_list (pv 0) pe_int (fun _ _ => rfl)) pe_int) (pg_sub (pv 0) pe_int set_list))
    (pss_one (ps_ret (pe_op op_modN (pe_callTy call_int1 (by rfl) T.int (by decide +kernel) (pa_cons (pe_op op_add (pe_op op_fdivN (pe_ix ix_list (pv 0) pe_int (fun _ _ => rfl)) pe_int) (pe_ix ix_list (pv 0) pe_int (fun _ _ => rfl))) pa_nil)) (pv 1)))))))), ?_⟩
    walk_at "evL"
    have fm : ∀ x : Int, x.fmod m = ((x.fmod m).toNat : Int) ∧ x.fmod m < m := fun x => by
      have h1 := Int.fmod_nonneg_of_pos x (show 0 < m by omega)
      have h2 := Int.fmod_lt_of_pos x (show 0 < m by omega)
      exact ⟨by omega, h2⟩
    refine ⟨d, _, 2, _, rfl, rfl, SqL.of hd, rfl, rfl, ?_⟩
    by_cases c1 : c = 2
    · rw [if_pos (by rw [c1])]
      refine ⟨d, _, 0, _, rfl, rfl, SqL.of hd, rfl, .inl ⟨_, rfl, by omega, d, _, 0, _, rfl, rfl, SqL.of hd, rfl, _, rfl, ⟨by omega, by omega⟩, ?_⟩⟩
      refine ⟨_, rfl, d, _, 0, 0, rfl, rfl, hd, rfl, _, rfl, ?_⟩
      rw [(fm a).1]
      exact hq _ _ _ _ (by rw [← (fm a).1]; exact (fm a).2)
    rw [if_neg (fun z => c1 (V.int.inj z))]
    refine ⟨d, _, 2, _, rfl, rfl, SqL.of hd, rfl, rfl, ?_⟩
    by_cases c2 : c = 1
    · rw [if_pos (by rw [c2])]
      refine ⟨d, _, 0, _, rfl, rfl, SqL.of hd, rfl, _, rfl, ?_⟩
      by_cases c3 : 0 < a
      · rw [if_pos c3]
        refine ⟨d, _, 0, _, rfl, rfl, SqL.of hd, rfl, .inl ⟨_, rfl, by omega, d, _, 0, _, rfl, rfl, SqL.of hd, rfl, _, rfl, ⟨by omega, by omega⟩, ?_⟩⟩
        refine ⟨_, rfl, d, _, 0, 0, rfl, rfl, hd, rfl, _, rfl, ?_⟩
        rw [(fm a).1]
        exact hq _ _ _ _ (by rw [← (fm a).1]; exact (fm a).2)
      rw [if_neg c3]
      refine ⟨_, rfl, d, _, 2, 2, rfl, rfl, hd, rfl, ?_⟩
      walk_at "evL"
      refine ⟨d, _, 0, _, rfl, rfl, SqL.of upd_same, rfl, _, rfl, .inr ⟨by decide, by decide⟩, ?_⟩
      refine ⟨d, _, 1, _, rfl, rfl, SqL.of upd_same, rfl, _, rfl, .inr ⟨by decide, by decide⟩, ?_⟩
      refine ⟨by decide, _, rfl, d, _, 0, 0, rfl, rfl, upd_same, rfl, ?_⟩
      rw [upd_upd]
      walk_at "evL"
      refine ⟨d, _, 1, _, rfl, rfl, SqL.of upd_same, rfl, _, rfl, ?_⟩
      refine ⟨_, rfl, d, _, 1, 1, rfl, rfl, upd_same, rfl, ?_⟩
      rw [upd_upd]
      walk_at "evL"
      refine ⟨d, _, 0, _, rfl, rfl, SqL.of upd_same, rfl, _, rfl, ⟨by decide, by decide⟩, ?_⟩
      refine ⟨d, _, 0, _, rfl, rfl, SqL.of upd_same, rfl, _, rfl, by omega, ?_⟩
      rw [(fm _).1]
      exact hq _ _ _ _ (by rw [← (fm _).1]; exact (fm _).2)
    rw [if_neg (fun z => c2 (V.int.inj z))]
    refine ⟨_, rfl, d, _, 2, 2, rfl, rfl, hd, rfl, ?_⟩
    walk_at "evL"
    refine ⟨d, _, 0, _, rfl, rfl, SqL.of upd_same, rfl, _, rfl, .inr ⟨by decide, by decide⟩, ?_⟩
    refine ⟨d, _, 1, _, rfl, rfl, SqL.of upd_same, rfl, _, rfl, .inr ⟨by decide, by decide⟩, ?_⟩
    refine ⟨by decide, _, rfl, d, _, 0, 0, rfl, rfl, upd_same, rfl, ?_⟩
    rw [upd_upd]
    walk_at "evL"
    refine ⟨d, _, 1, _, rfl, rfl, SqL.of upd_same, rfl, _, rfl, ?_⟩
    refine ⟨_, rfl, d, _, 1, 1, rfl, rfl, upd_same, rfl, ?_⟩
    rw [upd_upd]
    walk_at "evL"
    refine ⟨d, _, 0, _, rfl, rfl, SqL.of upd_same, rfl, _, rfl, ⟨by decide, by decide⟩, ?_⟩
    refine ⟨d, _, 0, _, rfl, rfl, SqL.of upd_same, rfl, _, rfl, by omega, ?_⟩
    rw [(fm _).1]
    exact hq _ _ _ _ (by rw [← (fm _).1]; exact (fm _).2)
abbrev s__law_rounds : Stmt := topS 27
theorem sc__law_rounds : FnScope ["script", "most", "cells", "cell"] ["script", "most"] (defScope s__law_rounds) := ⟨rfl, rfl, rfl, by decide +kernel, rfl, by decide +kernel, by decide +kernel⟩
theorem bk_lr : BlkOk ["script", "most", "cells", "cell"] (defScope s__law_rounds) { kind := ScopeKind.function, names := [(".0", NameKind.local), ("cell", NameKind.local), ("_law_dice", NameKind.globalImplicit)], isGenerator := false, isCoroutine := false } [("cell", 3)] := blkOk_by (by decide +kernel)
theorem ok__law_rounds {f fe : Addr} {fd fde : FuncData} {k ke : Nat} (F : Fun K "_law_rounds" "_law_rounds" s__law_rounds f fd) (Ge : Cal P w K mg base (L2.CX P w) ke "_law_dice" ["cell"] sp_dice fe fde) (hk : ke ≤ k) : FnOk P w K mg base (L2.CX P w) (k + 1) f fd ["script", "most"] (sp_rounds K) := by
  refine F.okX sc__law_rounds (fun vs H Q E h => ?_) (fun cdv A outer s H vs Q E hr h => ?_)
  · obtain ⟨a, ns, rfl, _⟩ := h
    rfl
  · obtain ⟨a, ns, rfl, hx, hq⟩ := h
    refine ⟨_, (pss_cons (ps_set (i := 2) sc__law_rounds.nd rfl (.inl rfl) (pe_slice sl_list (pv 0) po_none (po_some (pv 1))))
    (pss_cons (ps_if (pt_cmpR (op_eqD hr.units) (pv 2) (pe_lst pa_nil) (nomark _))
      (pss_one (ps_set (i := 2) sc__law_rounds.nd rfl (.inl rfl) (pe_lst (pa_cons pe_int pa_nil)))) pss_nil)
    (pss_one (ps_ret (pe_lc (own := [("cell", 3)]) rfl sc__law_rounds.nd (pi_list (pv 2)) bk_lr (fun _ _ _ _ _ => (pg_name (i := 3) sc__law_rounds.nd rfl (.inl rfl))) (fun _ _ _ _ _ => pts_nil) (fun _ _ _ _ _ => (pe_call Ge.ok (hr.mono hk) (by rfl) Ge.g Ge.kp Ge.b .nil passF (pa_cons (pv 3) pa_nil)))))))), ?_⟩
    walk_at "evL"
    have fin : ∀ (q : Addr) (c : Int) (G : Hp) (σ : L2.St), σ[2]? = some (some (.ref q)) → Kp H G → G q = some (.lst [V.int c]) → tLc (iList K (tVar 2)) (gName 3) tYes (tCall sp_dice [] (fun x x_2 x_3 => False) (tCons (tVar 3) tNil)) [3] [some (.ref a), some (.int 1), some (.ref q), none] G Q := by
      intro q c G σ _ g hl
      refine ⟨_, rfl, q, rfl, ⟨_, SqL.of hl⟩, fun D hD => ?_⟩
      have nqD : q ≠ D := fun z => by
        rw [z, hD] at hl
        cases hl
      have hDH : H D = none := g.none hD
      refine lc_list (xs := [V.int c]) (fun i H' => H' q = some (.lst [V.int c]) ∧ Kp H H' ∧ (i = 0 → H' D = some (.lst [])) ∧ (i = 1 → ∃ d, H d = none ∧ d ≠ D ∧ H' D = some (.lst [.ref d]) ∧ Dice H' d)) ⟨by rw [upd_ne nqD]; exact hl, g.new hD, fun _ => upd_same, fun z => by cases z⟩ (fun i H' _ z => SqL.of z.1) ?_ ?_
      · intro i x H' hx hP
        obtain ⟨p1, p2, p3, p4⟩ := hP
        cases i with
        | succ i => simp at hx
        | zero =>
          obtain rfl : V.int c = x := Option.some.inj hx
          refine ⟨rfl, ?_⟩
          simp only [tYes, wipe, List.set_cons_zero, List.set_cons_succ, ↓reduceIte]
          walk_at "evL"
          refine ⟨c, rfl, fun p a1 b1 c1 hp => ?_⟩
          have hD0 := p3 rfl
          have np : D ≠ p := fun z => by
            rw [z, hp] at hD0
            cases hD0
          refine ⟨[], by rw [upd_ne np]; exact hD0, by decide, ?_, ?_, (fun z => z.elim), fun _ => ⟨p, p2.none hp, np.symm, upd_same, a1, b1, c1, by rw [upd_ne np.symm]; exact upd_same⟩⟩
          · rw [upd_ne nqD, upd_ne (fun z => by rw [z, hp] at p1; cases p1)]
            exact p1
          · exact (p2.new hp).set hDH
      · intro H' hP
        obtain ⟨p1, p2, p3, p4⟩ := hP
        obtain ⟨d, h1, h2, h3, h4⟩ := p4 rfl
        exact hq H' D d p2 hDH h1 h2 h3 h4
    refine ⟨a, _, rfl, hx, fun q hq1 => ⟨by decide, fun e he => ?_⟩⟩
    have g1 : Kp H (upd H q (.lst (cutV (ns.map V.int) none (some 1)))) := (Kp.refl H).new hq1
    have nqe : q ≠ e := fun z => by
      rw [z, upd_same] at he
      cases he
    cases ns with
    | nil =>
      refine eqLI (ns := []) (ms := []) (SqL.of (by rw [upd_ne nqe]; exact upd_same)) (SqL.of upd_same) ⟨_, rfl, ?_⟩
      rw [if_pos (by decide)]
      exact ⟨by decide, fun p2 hp2 => fin p2 0 _ [none, none, some (.ref p2)] rfl ((g1.new he).new hp2) upd_same⟩
    | cons n r =>
      have ec : cutV ((n :: r).map V.int) none (some 1) = [n].map V.int := by
        unfold cutV
        have e1 : HT.sIx ((n :: r).map V.int).length 0 none = 0 := rfl
        have e2 : HT.sIx ((n :: r).map V.int).length ((n :: r).map V.int).length (some 1) = 1 := by
          rw [show ((1 : Int)) = ((1 : Nat) : Int) from rfl, HT.sIx_nat]
          simp
        rw [e1, e2]
        rfl
      rw [ec] at g1 he ⊢
      refine eqLI (ns := [n]) (ms := []) (SqL.of (by rw [upd_ne nqe]; exact upd_same)) (SqL.of upd_same) ⟨_, rfl, ?_⟩
      rw [if_neg (by simp)]
      exact fin q n _ [none, none, some (.ref q)] rfl (g1.new he) (by rw [upd_ne nqe]; exact upd_same)
abbrev s__law_told : Stmt := topS 28
theorem sc__law_told : FnScope ["what"] ["what"] (defScope s__law_told) := ⟨rfl, rfl, rfl, by decide +kernel, rfl, by decide +kernel, by decide +kernel⟩
theorem told9_gives {X : Cx} {g : Addr} {cdg : Value} {q : Str} {c : Fin 9 → Addr} (N : Nine X.K X.mg c) : LamX.GivesTo X ["what"] "_law_told" (defScope s__law_told) g cdg (defBody s__law_told) "what" q (TT9 c) := by
  intro f c' s H Q tl act hc h
  refine ⟨_, pss_one (ps_try_many (X := (cxOf C8.CX0 X.prog X.w X.K X.mg X.base ["what"] "_law_told" (defScope s__law_told) g cdg X.A X.stack s H C8.E0).nox) (Wout := fun _ _ _ _ => False) (tb := fun W D σ H => ∃ Ech : XK, (∀ cls d σ' H', Ech cls d H' → W cls d σ' H') ∧ σ[0]? = some (some (.ref f)) ∧ H c' = some (LamX.CodeO c' q) ∧ tl Ech H D.rt) rfl rfl LamX.takes0 (fun W pn xe tk _ => ?_)
      (.cons (c := .ref (c 0)) (ts := rw9 "path") ⟨by rfl, by decide, .inl N.path⟩ (fun a oe cls d pn _ _ => pss_one (ps_ret pe_str))
      (.cons (c := .ref (c 1)) (ts := rw9 "piece") ⟨by rfl, by decide, .inl N.piece⟩ (fun a oe cls d pn _ _ => pss_one (ps_ret pe_str))
      (.cons (c := .ref (c 2)) (ts := rw9 "rule") ⟨by rfl, by decide, .inl N.rule⟩ (fun a oe cls d pn _ _ => pss_one (ps_ret pe_str))
      (.cons (c := .ref (c 3)) (ts := rw9 "paper") ⟨by rfl, by decide, .inl N.paper⟩ (fun a oe cls d pn _ _ => pss_one (ps_ret pe_str))
      (.cons (c := .ref (c 4)) (ts := rw9 "size") ⟨by rfl, by decide, .inl N.size⟩ (fun a oe cls d pn _ _ => pss_one (ps_ret pe_str))
      (.cons (c := .ref (c 5)) (ts := rw9 "store") ⟨by rfl, by decide, .inl N.store⟩ (fun a oe cls d pn _ _ => pss_one (ps_ret pe_str))
      (.cons (c := .ref (c 6)) (ts := rw9 "text") ⟨by rfl, by decide, .inl N.text⟩ (fun a oe cls d pn _ _ => pss_one (ps_ret pe_str))
      (.cons (c := .ref (c 7)) (ts := rw9 "lost") ⟨by rfl, by decide, .inl N.lost⟩ (fun a oe cls d pn _ _ => pss_one (ps_ret pe_str))
      (.cons (c := .ref (c 8)) (ts := rw9 "no such") ⟨by rfl, by decide, .inl N.such⟩ (fun a oe cls d pn _ _ => pss_one (ps_ret pe_str)) .nil)))))))))), ?_⟩
  · refine ⟨fun pins s' σ H' D I h' => ?_⟩
    obtain ⟨Ech, hW, h1, h2, h3⟩ := h'
    exact (pss_one (ps_ret (act W pn xe Ech _ _ tk hW))).run pins s' σ H' D I ⟨h1, h2, h3⟩
  · exact ⟨E9 c Q, fun cls d σ' H' h => many9 N rfl h, rfl, hc, h⟩
end
end K01

-- RQf
set_option maxRecDepth 100000
set_option maxHeartbeats 4000000
/-! defs of the law that roll dice and hand over something told -/
namespace RP
open PySem PySem.Spec PyProof.Rows L2
open Rp (rp)
section
variable {Ps : Tbs} {B : Bs} {M : Mu} {G : Gm} {K : PySem.W.Frag} {σ : L2.St} {F H F' H' : Hp}
def Spd {γ : Type} (Ps : Tbs) (Rs : γ → List VRel) (pre : γ → Prop) (R : γ → VRel) : Sp := fun vs H Q E => ∃ c d us F, vs = V.ref d :: us ∧ Sh Ps [(d, DiceM)] F H ∧ pre c ∧ RsOk F (Rs c) us ∧ ∀ v F' H', Evo Ps [(d, DiceM)] F H F' H' → (R c).R F' v → Q v H'
theorem Sa.evoM {F0 H0 : Hp} (s : Sa Ps ⟨F0, H0, fun a => a ∈ M.map (·.1)⟩ G M σ F H) : Evo Ps M F0 H0 F H := ⟨s.le, s.sh.sub, s.keep, s.nw, s.sh.tb, s.sh.mu, s.sh.fz⟩
theorem Sh.dice {d : Addr} (s : Sh Ps M F H) (hM : (d, DiceM) ∈ M) (ow : ∀ e ∈ M, e.2.own = true) : Sh Ps [(d, DiceM)] F H :=
  ⟨s.sub, s.tb, s.fp, fun e he => by rw [List.mem_singleton.mp he]; exact s.mu _ hM, fun e he => by rw [List.mem_singleton.mp he]; exact s.ow _ hM, List.nodup_cons.mpr ⟨(fun h => nomatch h), List.nodup_nil⟩, fun a kvs h _ => s.fz a kvs h fun e he _ => ow e he⟩
theorem Evo.of_dice {d : Addr} (s : Sh Ps M F H) (hM : (d, DiceM) ∈ M) (v : Evo Ps [(d, DiceM)] F H F' H') : Evo Ps M F H F' H' := by
  have nd1 : ∀ e ∈ M, e.1 = d → e = (d, DiceM) := fun e he z => by
    obtain ⟨i, hi⟩ := List.getElem?_of_mem hM
    exact nd_of s.nd hi he z
  refine ⟨v.le, v.sub, fun a o h p m => v.keep a o h p fun z => m (by rw [List.mem_singleton.mp z]; exact List.mem_map.mpr ⟨_, hM, rfl⟩), v.nw, v.tb, fun e he => ?_, fun a kvs h k => v.fz a kvs h fun e he _ => by rw [List.mem_singleton.mp he]; rfl⟩
  by_cases z : e.1 = d
  · rw [nd1 e he z]
    exact v.mu _ (List.mem_singleton.mpr rfl)
  · obtain ⟨o, h1, h2⟩ := s.mu e he
    exact ⟨o, v.keep _ o h1 (s.ow e he).1 (fun q => z (List.mem_singleton.mp q)), e.2.mono _ _ _ v.le h2⟩
theorem Oc.spd {γ : Type} {d : Addr} (hM : (d, DiceM) ∈ M) (ow : ∀ e ∈ M, e.2.own = true) {Rs : γ → List VRel} {pre : γ → Prop} {R : γ → VRel} {E : XK} (c : γ) (p : pre c) : Oc Ps M (fun vs H Q => Spd Ps Rs pre R (vs ++ []) H Q E) (At d :: Rs c) (R c) := fun F H vs Q s r q => by
  show Spd Ps Rs pre R (vs ++ []) H Q E
  rw [List.append_nil]
  cases r with
  | cons r1 rr =>
    cases r1
    exact ⟨c, d, _, F, rfl, s.dice hM ow, p, rr, fun v F' H' ev rv => q v F' H' (Evo.of_dice s hM ev) rv⟩
theorem Ev.calld {γ : Type} {d : Addr} {Rs : γ → List VRel} {pre : γ → Prop} {R : γ → VRel} {E : XK} {t : TA} (hM : (d, DiceM) ∈ M) (ow : ∀ e ∈ M, e.2.own = true) (c : γ) (ha : Ea Ps G M t (At d :: Rs c)) (p : pre c) : Ev Ps G M (tCall (Spd Ps Rs pre R) [] E t) (R c) := Ev.call ha (Oc.spd hM ow c p)
end
end RP
namespace BG
open PySem PySem.Spec PyProof.Rows L2 RP
section
variable {P : Program} {w : World} {K : PySem.W.Frag} {mg : Str → Option Value} {base : Heap}
theorem Fun.okD {Ps : Tbs} {γ : Type} {x qual : Str} {st : Stmt} {f : Addr} {fd : FuncData} {N ps : List Str} {k : Nat} {Rs : γ → List VRel} {pre : γ → Prop} {R : γ → VRel} (Fn : L2.Fun K x qual st f fd) (S : FnScope N ps (defScope st)) (len : ∀ c, (Rs c).length + 1 = ps.length)
    (hbody : ∀ (cdv : Value) (A : Around) (outer : List Env) (s : Shared) (H0 : Hp) (E : XK), Room k (A.deeper (envOfC qual (defScope st) s.heap.objs.size f cdv)) →
      ∃ t, PSs (cxOf (L2.CX P w) P w K mg base N qual (defScope st) f cdv A outer s H0 E) (defBody st) t ∧ ∀ (c : γ) (d : Addr) (B : Bs) (D : L2.Ends), pre c → (∀ v G σ F H, Sa Ps B G [(d, DiceM)] σ F H → (R c).R F v → D.rt v H) → Nx Ps B (startG N (At d :: Rs c)) [(d, DiceM)] (t D)) : FnOk P w K mg base (L2.CX P w) (k + 1) f fd ps (Spd Ps Rs pre R) := by
  refine L2.Fun.okX Fn S (fun vs H Q E h => ?_) (fun cdv A outer s H vs Q E hr h => ?_)
  · obtain ⟨c, d, us, F, rfl, _, _, r, _⟩ := h
    rw [List.length_cons, ← Paired.length r, len]
  · obtain ⟨c, d, us, F, rfl, sh, p, r, q⟩ := h
    obtain ⟨t, ht, h⟩ := hbody cdv A outer s H E hr
    exact ⟨t, ht, h c d ⟨F, H, fun a => a ∈ ([(d, DiceM)] : Mu).map (·.1)⟩ _ p (fun v G σ F' H' s' rr => q v F' H' s'.evoM rr) _ F H (Sa.start sh (.cons rfl r))⟩
end
end BG

-- L01T
set_option maxRecDepth 100000
set_option maxHeartbeats 4000000
namespace K01
open PySem PySem.Spec PyProof.Rows L2 BG LW
open RP hiding Tb
open SSt
section
variable {P : Program} {w : World} {K : PySem.W.Frag} {mg : Str → Option Value} {base : Heap} {Ps : Tbs}
/-! _law_text: slots dice=0 most=1 k=2 -/
abbrev s__law_text : Stmt := topS 29
abbrev Nlt : List Str := ["dice", "most", "k"]
theorem sc__law_text : FnScope Nlt ["dice", "most"] (defScope s__law_text) := ⟨rfl, rfl, rfl, by decide +kernel, rfl, by decide +kernel, by decide +kernel⟩
/-- a text of up to n signs of a, b and = -/
def TextN (n : Int) (t : Str) : Prop := ∃ xs : List Str, t = Txt.join "" xs ∧ (xs.length : Int) ≤ n ∧ ∀ x ∈ xs, x ∈ sgn "ab="
abbrev sp__law_text (Ps : Tbs) (K : PySem.W.Frag) : Sp := Spd (γ := Int) Ps (fun n => [Is K n]) (fun n => 0 ≤ n ∧ n ≤ 100) (fun n => Exi K (TextN n))
theorem ok__law_text {f g1 : Addr} {fd fd1 : FuncData} {k k1 : Nat} (Fn : Fun K "_law_text" "_law_text" s__law_text f fd) (T : Zs mg)
    (G1 : Cal P w K mg base (L2.CX P w) k1 "_law_roll" ["dice", "many"] sp_roll g1 fd1) (h1 : k1 ≤ k) : FnOk P w K mg base (L2.CX P w) (k + 1) f fd ["dice", "most"] (sp__law_text Ps K) := by
  refine Fun.okD Fn sc__law_text (fun _ => rfl) fun cdv A outer s H0 E hr => ?_
  refine ⟨_, (pss_one (ps_ret (pe_joinKK (K0 := K) rfl pe_str (pe_lc (own := [("k", 2)]) rfl sc__law_text.nd (pi_range1 (by rfl) T.range (pa_cons (pe_call G1.ok (hr.mono h1) (by rfl) G1.g G1.kp G1.b .nil passF (pa_cons (pv 0) (pa_cons (pe_op op_add (pv 1) pe_int) pa_nil))) pa_nil)) (blkOk_by (by show blkC Nlt (defScope s__law_text) _ _ = true; decide +kernel)) (fun _ _ _ _ _ => (pg_name (i := 2) sc__law_text.nd rfl (.inl rfl))) (fun _ _ _ _ _ => pts_nil) (fun _ _ _ _ _ => (pe_ix ix_str pe_str (pe_call G1.ok (hr.mono h1) (by rfl) G1.g G1.kp G1.b .nil passF (pa_cons (pv 0) (pa_cons pe_int pa_nil))) (fun _ _ => rfl))))))), fun n d B D pre hrt => ?_⟩
  obtain ⟨n0, n1⟩ := pre
  have hM : (d, DiceM) ∈ [(d, DiceM)] := List.mem_singleton.mpr rfl
  refine Nx.ret (R := Exi K (TextN n)) ?_ fun v σ F H sa r => hrt v _ _ _ _ sa r
  refine Exi.imp (K := K) (Ev.joinX (p := fun xs : List Str => (xs.length : Int) < n + 1 ∧ ∀ x ∈ xs, x ∈ sgn "ab=") Ev.str (Exi.imp (K := K) (Ev.lcRx (K := K) (i := 2) (p := fun r => 0 ≤ r ∧ r < n + 1) (Pe := fun _ x => x ∈ sgn "ab=") (Ea.cons (Ev.call (Ea.cons (Ev.var rfl) (Ea.cons (Ev.op (Ev.var (R := Is K n) rfl) Ev.int o2_int) Ea.nil)) (oc_roll hM (by omega) (by omega))) Ea.nil) (fun m hm => ⟨hm.1, by omega⟩) (fun m hm k hk => ?_)) (fun xs h => ?_)) (fun xs h => ?_)) (fun t ⟨xs, h, e⟩ => ?_)
  · exact Ev.op (Ev.str (K := K)) (Ev.call (Ea.cons (Ev.var rfl) (Ea.cons (Ev.int (K := K)) Ea.nil)) (oc_roll hM (by decide) (by decide))) (o2_ixSx (by decide) fun i hi => ⟨hi.1, by have : ("ab=" : Str).cps.size = 3 := rfl; omega⟩)
  · obtain ⟨a, b⟩ := h
    refine ⟨a.2, fun x hx => ?_⟩
    obtain ⟨i, hi⟩ := List.getElem?_of_mem hx
    exact b i x hi
  · obtain ⟨a, b⟩ := h
    have l1 : ∀ x ∈ sgn ("ab=" : Str), x.length = 1 := by decide +kernel
    have : (xs.map (·.length)).sum = xs.length := by
      clear a
      induction xs with
      | nil => rfl
      | cons x r ih =>
        rw [List.map_cons, List.sum_cons, ih fun y hy => b y (List.mem_cons_of_mem _ hy), l1 x (b x (List.mem_cons_self ..)), List.length_cons]
        omega
    have e0 : ("" : Str).length = 0 := rfl
    rw [this, e0]
    omega
  · exact ⟨xs, e, by omega, h.2⟩
end
end K01

-- RQg
set_option maxRecDepth 100000
set_option maxHeartbeats 4000000
/-! list(d.items()), xs[::-1] -/
namespace RP
open PySem PySem.Spec PyProof.Rows L2
open Rp (rp)
section
variable {Ps : Tbs} {B : Bs} {M : Mu} {G : Gm} {K : PySem.W.Frag} {te : TE} {R : VRel} {κ α : Type} [Ky κ] [Rp κ] [KyR κ] [Rp α]
theorem ps2_rev {F : Hp} {vs : List V} {xs : List α} (h : Ps2 K F vs xs) : Ps2 K F vs.reverse xs.reverse := by
  unfold Ps2 at h
  induction h with
  | nil => exact .nil
  | cons r t ih =>
    rw [List.reverse_cons, List.reverse_cons]
    exact Paired.snoc ih r
theorem Ev.rev {xs : List α} (h : Ev Ps G M te R) (hs : Ls Ps M K R xs) : Ev Ps G M (tRevL K te) (Is K xs.reverse) := fun σ F H Q e s q => h σ F H _ e s fun v F1 H1 e1 r1 => by
  have s1 := s.evo e1
  obtain ⟨a, vs, rfl, h1, hp⟩ := hs F1 H1 v s1 r1
  exact ⟨a, vs, rfl, SqL.of h1, fun p hn => q _ _ _ (e1.trans (Evo.newL s1 (ps2_rev hp) hn).1) (Evo.newL s1 (ps2_rev hp) hn).2⟩
theorem Evo.kpN {F H H' : Hp} (s : Sh Ps M F H) (g : LW.Kp H H') : Evo Ps M F H (fzN F H H') H' := by
  have e := LW.Evo.kp s g
  have le : Le F (fzN F H H') := fun a o h => by
    have : ∃ u, H a = some u := (s.sub a o h).some_
    obtain ⟨u, hu⟩ := this
    unfold fzN
    rw [hu]
    exact h
  refine ⟨le, fun a o h => ?_, e.keep, fun a o h => ?_, e.tb, fun x hx => ?_, fun a kvs h c => ?_⟩
  · rcases fzN_cases h with ⟨_, h2, _⟩ | ⟨_, h2⟩
    · exact .inl h2
    · exact e.sub a o h2
  · rcases fzN_cases h with ⟨h1, _, _⟩ | ⟨_, h2⟩
    · exact .inr h1
    · exact .inl h2
  · obtain ⟨o, h1, h2⟩ := e.mu x hx
    exact ⟨o, h1, x.2.mono _ _ _ le h2⟩
  · rcases fzN_cases h with ⟨_, _, h3⟩ | ⟨_, h2⟩
    · exact absurd rfl (h3 kvs)
    · exact e.fz a kvs h2 c
theorem items_ps2 {F : Hp} : ∀ {ts : List Addr} {kv : List (Key × V)} {l : List (κ × α)}, Paired (fun (t : Addr) (q : Key × V) => F t = some (.tup [kV q.1, q.2])) ts kv → Kvs K F kv l → Ps2 K F (ts.map V.ref) l
  | _, _, _, .nil, .nil => .nil
  | _, _, _, .cons (a := t) (b := q) ht hr, .cons (b := x) r rest => .cons ⟨t, kV q.1, q.2, rfl, ht, by rw [r.1]; exact (KyR.r ..).mpr rfl, r.2⟩ (items_ps2 hr rest)
theorem paired_imp {A C : Type} {P Q : A → C → Prop} : ∀ {l : List A} {r : List C}, Paired P l r → (∀ a b, a ∈ l → P a b → Q a b) → Paired Q l r
  | _, _, .nil, _ => .nil
  | _, _, .cons h t, k => .cons (k _ _ (List.mem_cons_self ..) h) (paired_imp t fun a b ha hb => k a b (List.mem_cons_of_mem _ ha) hb)
theorem items_core {l : List (κ × α)} {F1 H1 : Hp} {a : Addr} {kv : List (Key × V)} {Q : VK} (s1 : Sh Ps M F1 H1) (ow : ∀ e ∈ M, e.2.own = true) (hF : F1 a = some (.dK kv)) (hp : Kvs K F1 kv l) (q : ∀ v F' H', Evo Ps M F1 H1 F' H' → (Is K l).R F' v → Q v H') : LiI.rItemsL (.ref a) H1 Q := by
  refine ⟨a, kv, rfl, s1.fz a kv hF fun e he _ => ow e he, fun H' p ts g n nts np hl hts => ?_⟩
  have ev := Evo.kpN s1 g
  have hF' : fzN F1 H1 H' p = some (.lst (ts.map V.ref)) := fzN_lst n hl
  refine q _ _ _ ev ⟨p, _, rfl, hF', ?_⟩
  have hp2 : Kvs K (fzN F1 H1 H') kv l := hp.mono ev.le
  refine items_ps2 ?_ hp2
  refine paired_imp hts fun t q ht hq => fzN_tup (nts t ht) hq
theorem Ev.listItems {l : List (κ × α)} (ow : ∀ e ∈ M, e.2.own = true) (h : Ev Ps G M te (Is K (Dc.mk l))) : Ev Ps G M (LiI.tListItems te) (Is K l) := fun σ F H Q e s q => h σ F H _ e s fun v F1 H1 e1 ⟨a, kv, e2, hF, hp⟩ => by
  subst e2
  exact items_core (s.evo e1) ow hF hp fun v F' H' ev r => q v F' H' (e1.trans ev) r
theorem Ev.listItemsX {P : List (κ × α) → Prop} (ow : ∀ e ∈ M, e.2.own = true) (h : Ev Ps G M te (Exi K fun d : Dc κ α => P d.l)) : Ev Ps G M (LiI.tListItems te) (Exi K P) := fun σ F H Q e s q => h σ F H _ e s fun v F1 H1 e1 ⟨l, pl, a, kv, e2, hF, hp⟩ => by
  subst e2
  exact items_core (s.evo e1) ow hF hp fun v F' H' ev r => q v F' H' (e1.trans ev) ⟨l.l, pl, r⟩
theorem Ev.revX {P : List α → Prop} (h : Ev Ps G M te (Exi K P)) : Ev Ps G M (tRevL K te) (Exi K fun xs : List α => P xs.reverse) := fun σ F H Q e s q => h σ F H _ e s fun v F1 H1 e1 ⟨xs, px, a, vs, e2, hF, hp⟩ => by
  subst e2
  have s1 := s.evo e1
  exact ⟨a, vs, rfl, SqL.of (s1.sub.lst hF), fun p hn => q _ _ _ (e1.trans (Evo.newL s1 (ps2_rev hp) hn).1) ⟨xs.reverse, by show P xs.reverse.reverse; rw [List.reverse_reverse]; exact px, (Evo.newL s1 (ps2_rev hp) hn).2⟩⟩
end
end RP

-- L01U
set_option maxRecDepth 100000
set_option maxHeartbeats 4000000
namespace K01
open PySem PySem.Spec PyProof.Rows L2 BG LW
open RP hiding Tb
open SSt
section
variable {P : Program} {w : World} {K : PySem.W.Frag} {mg : Str → Option Value} {base : Heap} {Ps : Tbs}
/-! _law_folder: slots dice=0 most=1 paths=2 path=3 -/
abbrev s__law_folder : Stmt := topS 30
abbrev Nlo : List Str := ["dice", "most", "paths", "path"]
theorem sc__law_folder : FnScope Nlo ["dice", "most"] (defScope s__law_folder) := ⟨rfl, rfl, rfl, by decide +kernel, rfl, by decide +kernel, by decide +kernel⟩
def A5 : List Str := ["a", "b.c", "d/a", "d/e/c", "d/e/x"]
def A3 : List Str := ["a", "b.c", "d"]
def FoldP (n : Int) (l : Fold) : Prop := ((kys l).Sublist A5 ∨ (kys l).Sublist A3) ∧ ∀ e ∈ l, TextN n e.2
abbrev sp__law_folder (Ps : Tbs) (K : PySem.W.Frag) : Sp := Spd (γ := Int) Ps (fun n => [Is K n]) (fun n => 0 ≤ n ∧ n ≤ 100) (fun n => Exi K fun l : Dc Str Str => FoldP n l.l)
theorem Oc.toE {M : Mu} {r : List V → Hp → VK → Prop} {Rs : List VRel} {R R' : VRel} (h : Oc Ps M r Rs R) (k : ∀ F v, R.R F v → R'.R F v) : Oc Ps M r Rs R' := fun F H vs Q s a q => h F H vs Q s a fun z F' H' e rr => q z F' H' e (k _ _ rr)
theorem rollT {M : Mu} {G : Gm} {d : Addr} {n m : Int} {te : TE} {g : Int → Int → Bool} (h : Ev Ps G M te (Exi K fun r : Int => 0 ≤ r ∧ r < n)) : Et Ps G M (tTest (tOp (rI0 fun i j => .bl (g i j)) te (tC (.int m)))) (fun _ => True) :=
  Et.of (Ev.op h (Ev.int (K := K)) (O2.exi fun x hx => O2.bl o2_cmp True.intro))
theorem rollE {M : Mu} {G : Gm} {n m : Int} {te : TE} (h : Ev Ps G M te (Exi K fun r : Int => 0 ≤ r ∧ r < n)) : Et Ps G M (tTest (tOp rEq te (tC (.int m)))) (fun _ => True) :=
  Et.of (Ev.op h (Ev.int (K := K)) (O2.exi fun x hx => O2.bl o2_eq True.intro))
theorem roll0 {M : Mu} {G : Gm} {d : Addr} {n : Int} (h1 : G[0]? = some (some (At d))) (hM : (d, DiceM) ∈ M) (n1 : 1 ≤ n) (n2 : n ≤ 1000) : Ev Ps G M (tCall sp_roll [] (fun _ _ _ => False) (tCons (tVar 0) (tCons (tC (.int n)) tNil))) (Exi K fun r : Int => 0 ≤ r ∧ r < n) :=
  Ev.call (Ea.cons (Ev.var h1) (Ea.cons (Ev.int (K := K)) Ea.nil)) (oc_roll hM n1 n2)
theorem ok__law_folder {f g1 g2 : Addr} {fd fd1 fd2 : FuncData} {k k1 k2 : Nat} (Fn : Fun K "_law_folder" "_law_folder" s__law_folder f fd) (T : Zs mg)
    (G1 : Cal P w K mg base (L2.CX P w) k1 "_law_roll" ["dice", "many"] sp_roll g1 fd1) (G2 : Cal P w K mg base (L2.CX P w) k2 "_law_text" ["dice", "most"] (sp__law_text Ps K) g2 fd2) (h1 : k1 ≤ k) (h2 : k2 ≤ k) : FnOk P w K mg base (L2.CX P w) (k + 1) f fd ["dice", "most"] (sp__law_folder Ps K) := by
  refine Fun.okD Fn sc__law_folder (fun _ => rfl) fun cdv A outer s H0 E hr => ?_
  refine ⟨_, (pss_cons (ps_set (i := 2) sc__law_folder.nd rfl (.inl rfl) (pe_ifExp (pt_cmpR op_gt (pe_call G1.ok (hr.mono h1) (by rfl) G1.g G1.kp G1.b .nil passF (pa_cons (pv 0) (pa_cons pe_int pa_nil))) pe_int (nomark _)) (pe_lst (pa_cons pe_str (pa_cons pe_str (pa_cons pe_str (pa_cons pe_str (pa_cons pe_str pa_nil)))))) (pe_lst (pa_cons pe_str (pa_cons pe_str (pa_cons pe_str pa_nil))))))
    (pss_one (ps_ret (pe_callTy (call_dictP rfl) (by rfl) T.dict (by decide +kernel) (pa_cons (pe_lc (own := [("path", 3)]) rfl sc__law_folder.nd (pi_listK (K0 := K) rfl (pv 2)) (blkOk_by (by show blkC Nlo (defScope s__law_folder) _ _ = true; decide +kernel)) (fun _ _ _ _ _ => (pg_name (i := 3) sc__law_folder.nd rfl (.inl rfl))) (fun _ _ _ _ _ => (pts_one (pt_cmpR op_eq (pe_call G1.ok (hr.mono h1) (by rfl) G1.g G1.kp G1.b .nil passF (pa_cons (pv 0) (pa_cons pe_int pa_nil))) pe_int (nomark _)))) (fun _ _ _ _ _ => (pe_tup (pa_cons (pv 3) (pa_cons (pe_call G2.ok (hr.mono h2) (by rfl) G2.g G2.kp G2.b .nil passF (pa_cons (pv 0) (pa_cons (pv 1) pa_nil))) pa_nil))))) pa_nil))))), fun n d B D pre hrt => ?_⟩
  have hM : (d, DiceM) ∈ [(d, DiceM)] := List.mem_singleton.mpr rfl
  have own : ∀ e ∈ [(d, DiceM)], e.2.own = true := fun e he => by
    rw [List.mem_singleton.mp he]
    rfl
  refine Nx.seq (Nx.setX (K := K) (α := List Str) (P := fun A => A = A5 ∨ A = A3) (Ev.ite (rollT (K := K) (d := d) (roll0 rfl hM (by decide) (by decide))) (fun _ => Exi.imp (K := K) (Ev.toX (p := fun A => A = A5) (Ev.lstL (K := K) (xs := A5) (Ea.cons Ev.str (Ea.cons Ev.str (Ea.cons Ev.str (Ea.cons Ev.str (Ea.cons Ev.str Ea.nil))))) (by show 5 ≤ 100; decide)) rfl) fun _ h => .inl h) (fun _ => Exi.imp (K := K) (Ev.toX (p := fun A => A = A3) (Ev.lstL (K := K) (xs := A3) (Ea.cons Ev.str (Ea.cons Ev.str (Ea.cons Ev.str Ea.nil))) (by show 3 ≤ 100; decide)) rfl) fun _ h => .inr h)) fun As hA => ?_)
  dsimp only
  have ndA : As.Nodup ∧ As.length ≤ 5 := by
    rcases hA with rfl | rfl
    · exact ⟨by decide +kernel, by decide⟩
    · exact ⟨by decide +kernel, by decide⟩
  refine Nx.ret (R := Exi K fun l : Dc Str Str => FoldP n l.l) ?_ fun v σ F H sa r => hrt v _ _ _ _ sa r
  refine Ev.cb (Ea.cons (Ev.lc0 (K := K) (β := Str × Str) (γ := Str) (L := []) (sl := [3]) (Ei.list (xs := As) (Ev.var rfl)) (fun _ h => nomatch h) (by omega) (fun i x => As[i]? = some x) (fun _ x => Is K x) (fun i _ F v r => r) (fun _ x => _) (fun i x _ _ => Eg.name) (fun k hk => hk) (P := fun _ _ _ => True) (fun i x _ _ => rollE (K := K) (roll0 rfl hM (by decide) (by decide))) (Pe := fun _ x y => y.1 = x ∧ TextN n y.2) (fun i x _ _ _ => Exi.imp (K := K) (Ev.pairX (p := fun z : Str => z = x) (r := TextN n) (Ev.toX (Ev.var (R := Is K x) rfl) rfl) (Ev.calld hM own n (Ea.cons (Ev.var rfl) (Ea.cons (Ev.var rfl) Ea.nil)) pre)) fun y h => h) (fun i ys => (ys.map (·.1)).Sublist (As.take i) ∧ ∀ y ∈ ys, TextN n y.2) ⟨List.Sublist.refl _, fun _ h => nomatch h⟩ (fun i x ys y _ hx _ py pr => ?_) (fun i x ys _ hx _ pr => ?_)) Ea.nil) (Oc.exi fun xs hx => ?_)
  · refine ⟨?_, fun z hz => ?_⟩
    · rw [List.map_append, List.take_add_one, hx]
      exact pr.1.append (by show [y.1].Sublist [x]; rw [py.1]; exact List.Sublist.refl _)
    · rcases List.mem_append.mp hz with hz | hz
      · exact pr.2 z hz
      · rw [List.mem_singleton.mp hz]
        exact py.2
  · refine ⟨pr.1.trans ?_, pr.2⟩
    rw [List.take_add_one]
    exact List.sublist_append_left _ _
  · obtain ⟨sb, tx⟩ := hx
    rw [List.take_length] at sb
    have nd := ndA.1.sublist sb
    have em := mergeD_nodup nd
    have h := oc_dict (Ps := Ps) (M := [(d, DiceM)]) (K := K) (xs := xs) (R := Is K xs) Ls.fz
    rw [em] at h
    exact Oc.toE h fun F v r => ⟨Dc.mk xs, ⟨hA.elim (fun e => .inl (e ▸ sb)) (fun e => .inr (e ▸ sb)), tx⟩, r⟩
end
end K01

-- RQh
set_option maxRecDepth 100000
set_option maxHeartbeats 4000000
/-! rolls while a table is walked; slices with a rolled end -/
namespace RP
open PySem PySem.Spec PyProof.Rows L2
open Rp (rp)
section
variable {Ps : Tbs} {B : Bs} {M : Mu} {G : Gm} {K : PySem.W.Frag} {te ta : TE} {R : VRel} {α : Type} [Rp α] {F H F' H' : Hp}
theorem Evo.kd {d : Addr} (s : Sh Ps M F H) (hM : (d, DiceM) ∈ M) (g : ∀ b o, H b = some o → b ≠ d → b ∉ tk Ps → H' b = some o) (tabs : RP.Tb Ps H') (hd : ∃ o, H' d = some o ∧ DiceM.R F o) : Evo Ps M F H F H' := by
  have nF := (s.ow _ hM).2 rfl
  have nP := (s.ow _ hM).1
  have nd1 : ∀ e ∈ M, e.1 = d → e = (d, DiceM) := fun e he z => by
    obtain ⟨i, hi⟩ := List.getElem?_of_mem hM
    exact nd_of s.nd hi he z
  have notT : ∀ {a : Addr} {o : HO}, F a = some o → a ∉ tk Ps := fun h z => by
    rw [s.fp _ z] at h
    cases h
  refine ⟨Le.refl F, fun a o h => ?_, fun a o h p m => g a o h (fun z => m (by rw [z]; exact List.mem_map.mpr ⟨_, hM, rfl⟩)) p, fun a o h => .inl h, tabs, fun e he => ?_, fun a kvs h c => ?_⟩
  · have ne : a ≠ d := fun z => by
      subst z
      have nF : F a = none := nF
      rw [nF] at h
      cases h
    have nT := notT h
    rcases s.sub a o h with h | ⟨od, kvs, e, h⟩
    · exact .inl (g _ _ h ne nT)
    · exact .inr ⟨od, kvs, e, g _ _ h ne nT⟩
  · by_cases z : e.1 = d
    · rw [nd1 e he z]
      exact hd
    · obtain ⟨o, h1, h2⟩ := s.mu e he
      exact ⟨o, g _ _ h1 z (s.ow e he).1, h2⟩
  · have ne : a ≠ d := fun z => by
      subst z
      have nF : F a = none := nF
      rw [nF] at h
      cases h
    exact g _ _ (s.fz a kvs h c) ne (notT h)
/-- a def that rolls, of plain things, that hands over plain things -/
theorem Ev.calldS {γ : Type} {d : Addr} {Rs : γ → List VRel} {pre : γ → Prop} {R : γ → VRel} {E : XK} {t : TA} (hM : (d, DiceM) ∈ M) (c : γ) (ha : Ea Ps G M t (At d :: Rs c)) (hRs : ∀ F us, RsOk F (Rs c) us → RsOk (fun _ => none) (Rs c) us) (hR : ∀ F F' v, (R c).R F v → (R c).R F' v) (p : pre c) : Ev Ps G M (tCall (Spd Ps Rs pre R) [] E t) (R c) := Ev.call ha fun F H vs Q s r q => by
  show Spd Ps Rs pre R (vs ++ []) H Q E
  rw [List.append_nil]
  cases r with
  | cons r1 rr =>
    cases r1
    have dz : ∀ {F F' : Hp} {o : HO}, DiceM.R F o → DiceM.R F' o := fun h => h
    have s0 : Sh Ps [(d, DiceM)] (fun _ => none) H := by
      refine ⟨(fun _ _ h => nomatch h), s.tb, (fun _ _ => rfl), (fun e he => ?_), (fun e he => ?_), List.nodup_cons.mpr ⟨(fun h => nomatch h), List.nodup_nil⟩, (fun _ _ h => nomatch h)⟩
      · obtain rfl := List.mem_singleton.mp he
        obtain ⟨o, h1, h2⟩ := s.mu _ hM
        exact ⟨o, h1, dz h2⟩
      · obtain rfl := List.mem_singleton.mp he
        exact ⟨(s.ow _ hM).1, fun _ => rfl⟩
    refine ⟨c, d, _, fun _ => none, rfl, s0, p, hRs _ _ rr, fun v F' H' ev rv => q v F H' (Evo.kd s hM (fun b o h ne nt => ev.keep b o h nt fun z => ne (List.mem_singleton.mp z)) ev.tb ?_) (hR _ _ _ rv)⟩
    obtain ⟨o, h1, h2⟩ := ev.mu _ (List.mem_singleton.mpr rfl)
    exact ⟨o, h1, dz h2⟩
/-- xs[:n], n rolled -/
theorem Ev.slLX {P P' : List α → Prop} {p : Int → Prop} (ha : Ev Ps G M ta (Exi K P)) (hh : Ev Ps G M te (Exi K p)) (k : ∀ xs i, P xs → p i → P' (cutX xs none (some i))) : Ev Ps G M (tSl (rSlL K) ta tNoPart (tPart te)) (Exi K P') := fun σ F H Q e s q => ha σ F H _ e s fun v F1 H1 e1 ⟨xs, px, a, vs, ev, hF, hp⟩ => by
  subst ev
  have s1 := s.evo e1
  refine hh σ F1 H1 _ (e.mono e1.le) s1 fun w F2 H2 e2 ⟨i, pi, r2⟩ => ?_
  cases r2
  have s2 := s1.evo e2
  refine ⟨i, rfl, a, vs, rfl, SqL.of (s2.sub.lst (e2.le _ _ hF)), fun b hb => ?_⟩
  have ev := Evo.newL s2 ((hp.mono e2.le).cut none (some i)) hb
  exact q _ _ _ ((e1.trans e2).trans ev.1) ⟨_, k xs i px pi, ev.2⟩
end
end RP

-- L01V
set_option maxRecDepth 100000
set_option maxHeartbeats 4000000
namespace K01
open PySem PySem.Spec PyProof.Rows L2 BG LW
open RP hiding Tb
open SSt
section
variable {P : Program} {w : World} {K : PySem.W.Frag} {mg : Str → Option Value} {base : Heap} {Ps : Tbs}
theorem putD_vals {κ α : Type} [DecidableEq κ] {l : List (κ × α)} {k : κ} {x : α} {P : α → Prop} (h : ∀ e ∈ l, P e.2) (hx : P x) : ∀ e ∈ putD l k x, P e.2 := fun e he => by
  unfold putD at he
  split at he
  · obtain ⟨e', he', rfl⟩ := List.mem_map.mp he
    by_cases z : e'.1 = k
    · rw [if_pos z]; exact hx
    · rw [if_neg z]; exact h e' he'
  · rcases List.mem_append.mp he with he | he
    · exact h e he
    · rw [List.mem_singleton.mp he]; exact hx
theorem mergeD_vals {κ α : Type} [DecidableEq κ] {P : α → Prop} {l : List (κ × α)} (h : ∀ e ∈ l, P e.2) : ∀ e ∈ mergeD l, P e.2 := by
  have : ∀ (l acc : List (κ × α)), (∀ e ∈ l, P e.2) → (∀ e ∈ acc, P e.2) → ∀ e ∈ l.foldl (fun acc e => putD acc e.1 e.2) acc, P e.2 := by
    intro l
    induction l with
    | nil => exact fun acc _ h => h
    | cons a r ih => exact fun acc h1 h2 => ih _ (fun e he => h1 e (List.mem_cons_of_mem _ he)) (putD_vals h2 (h1 a (List.mem_cons_self ..)))
  exact this l [] h (fun _ h => nomatch h)
variable {pts : List Str}
/-! _law_next: slots dice=0 table=1 most=2 found=3 path=4 both=5 -/
abbrev s__law_next : Stmt := topS 31
abbrev Nln : List Str := ["dice", "table", "most", "found", "path", "both"]
theorem sc__law_next : FnScope Nln ["dice", "table", "most"] (defScope s__law_next) := ⟨rfl, rfl, rfl, by decide +kernel, rfl, by decide +kernel, by decide +kernel⟩
def A6 : List Str := ["a", "b.c", "d/a", "d/e/c", "d/e/x", "d"]
def OutD (m : Fold) (p : Str) : Bool := decide (p = "d") || (!decide (Str.ofString "d" ∈ kys m) || !decide (cutS p none (some 2) = "d/"))
/-- what comes of a folder: at most one path more -/
def NextP (l : Fold) (n : Int) (m : Fold) : Prop := (kys m).Nodup ∧ (∀ e ∈ m, TextN n e.2) ∧ (∃ k0 ∈ A6, ∀ p ∈ kys m, p ∈ kys l ∨ p = k0) ∧ ∀ p ∈ kys m, OutD m p = true
def NextPre (c : Fold × Int) : Prop := (0 ≤ c.2 ∧ c.2 ≤ 100) ∧ (kys c.1).Nodup ∧ c.1.length ≤ 50 ∧ (∀ e ∈ c.1, TextN c.2 e.2) ∧ ∀ p ∈ kys c.1, p ∈ A6
abbrev sp__law_next (Ps : Tbs) (K : PySem.W.Frag) : Sp := Spd (γ := Fold × Int) Ps (fun c => [Is K (Dc.mk c.1), Is K c.2]) NextPre (fun c => Exi K fun m : Dc Str Str => NextP c.1 c.2 m.l)
theorem out_less {bo m : Fold} {p : Str} (h9 : Str.ofString "d" ∈ kys m → Str.ofString "d" ∈ kys bo) (h1 : OutD bo p = true) : OutD m p = true := by
  unfold OutD at h1 ⊢
  by_cases c1 : p = "d"
  · rw [decide_eq_true c1, Bool.true_or]
  · rw [decide_eq_false c1, Bool.false_or] at h1 ⊢
    by_cases c2 : Str.ofString "d" ∈ kys m
    · rw [decide_eq_true (h9 c2)] at h1
      rw [decide_eq_true c2]
      exact h1
    · rw [decide_eq_false c2]
      rfl
theorem ok__law_next {f g1 g2 g3 : Addr} {fd fd1 fd2 fd3 : FuncData} {k k1 k2 k3 : Nat} (Fn : Fun K "_law_next" "_law_next" s__law_next f fd) (T : Zs mg)
    (G1 : Cal P w K mg base (L2.CX P w) k1 "_law_roll" ["dice", "many"] sp_roll g1 fd1) (G2 : Cal P w K mg base (L2.CX P w) k2 "_law_text" ["dice", "most"] (sp__law_text Ps K) g2 fd2) (G3 : Cal P w K mg base (L2.CX P w) k3 "_law_folder" ["dice", "most"] (sp__law_folder Ps K) g3 fd3) (h1 : k1 ≤ k) (h2 : k2 ≤ k) (h3 : k3 ≤ k) : FnOk P w K mg base (L2.CX P w) (k + 1) f fd ["dice", "table", "most"] (sp__law_next Ps K) := by
  refine Fun.okD Fn sc__law_next (fun _ => rfl) fun cdv A outer s H0 E hr => ?_
  refine ⟨_, (pss_cons (ps_set (i := 3) sc__law_next.nd rfl (.inl rfl) (pe_callTy (call_dictP rfl) (by rfl) T.dict (by decide +kernel) (pa_cons (L2.pe_lock (pe_lc (own := [("path", 4)]) rfl sc__law_next.nd (pi_keys (pv 1)) (blkOk_by (by show blkC Nln (defScope s__law_next) _ _ = true; decide +kernel)) (fun _ _ _ _ _ => (pg_name (i := 4) sc__law_next.nd rfl (.inl rfl))) (fun _ _ _ _ _ => (pts_one (pt_cmpR op_gt (pe_call G1.ok (hr.mono h1) (by rfl) G1.g G1.kp G1.b .nil passF (pa_cons (pv 0) (pa_cons pe_int pa_nil))) pe_int (nomark _)))) (fun _ _ _ _ _ => (pe_tup (pa_cons (pv 4) (pa_cons (pe_ifExp (pt_cmpR op_gt (pe_call G1.ok (hr.mono h1) (by rfl) G1.g G1.kp G1.b .nil passF (pa_cons (pv 0) (pa_cons pe_int pa_nil))) pe_int (nomark _)) (pe_dget (SSt.room_u hr) (pv 1) (pv 4) (fun _ _ => rfl)) (pe_call G2.ok (hr.mono h2) (by rfl) G2.g G2.kp G2.b .nil passF (pa_cons (pv 0) (pa_cons (pv 2) pa_nil)))) pa_nil)))))) pa_nil)))
    (pss_cons (ps_set (i := 5) sc__law_next.nd rfl (.inr rfl) (pe_callTy (call_dictP rfl) (by rfl) T.dict (by decide +kernel) (pa_cons (pe_op op_cat (pe_slice (sl_listKK (K0 := K) rfl) (pe_revL (LiI.pe_listItems rfl (pe_call G3.ok (hr.mono h3) (by rfl) G3.g G3.kp G3.b .nil passF (pa_cons (pv 0) (pa_cons (pv 2) pa_nil))) (by rfl) T.list (by decide +kernel))) po_none (po_some (pe_call G1.ok (hr.mono h1) (by rfl) G1.g G1.kp G1.b .nil passF (pa_cons (pv 0) (pa_cons pe_int pa_nil))))) (LiI.pe_listItems rfl (pv 3) (by rfl) T.list (by decide +kernel))) pa_nil)))
    (pss_one (ps_ret (pe_callTy (call_dictP rfl) (by rfl) T.dict (by decide +kernel) (pa_cons (L2.pe_lock (pe_lc (own := [("path", 4)]) rfl sc__law_next.nd (pi_keys (pv 5)) (blkOk_by (by show blkC Nln (defScope s__law_next) _ _ = true; decide +kernel)) (fun _ _ _ _ _ => (pg_name (i := 4) sc__law_next.nd rfl (.inl rfl))) (fun _ _ _ _ _ => (pts_one (PW.pt (pw_or (pt_cmpR op_eq (pv 4) pe_str (nomark _)) (pw_or (pt_cmp (pc_dnotin (SSt.room_u hr) pe_str (pv 5)) (by with_unfolding_all rfl)) (pw_or1 (pt_cmpR op_ne (pe_slice sl_str (pv 4) po_none (po_some pe_int)) pe_str (nomark _)))))))) (fun _ _ _ _ _ => (pe_tup (pa_cons (pv 4) (pa_cons (pe_dget (SSt.room_u hr) (pv 5) (pv 4) (fun _ _ => rfl)) pa_nil)))))) pa_nil)))))), fun c d B D pre hrt => ?_⟩
  obtain ⟨l, n⟩ := c
  obtain ⟨⟨n0, n1⟩, nd, ll, tx, ka⟩ := pre
  have ll : l.length ≤ 50 := ll
  have hM : (d, DiceM) ∈ [(d, DiceM)] := List.mem_singleton.mpr rfl
  have own : ∀ e ∈ [(d, DiceM)], e.2.own = true := fun e he => by
    rw [List.mem_singleton.mp he]
    rfl
  refine Nx.seq (Nx.setX (K := K) (α := Dc Str Str) (P := fun m => (kys m.l).Sublist (kys l) ∧ ∀ e ∈ m.l, TextN n e.2) ?_ fun fo hfo => ?_)
  · refine Ev.cb (Ea.cons (Ev.lockF (K := K) (i := 1) (l := Dc.mk l) (R := Exi K fun xs : List (Str × Str) => (xs.map (·.1)).Sublist (kys l) ∧ ∀ e ∈ xs, TextN n e.2) rfl own fun a kv od hk => ?_) Ea.nil) (Oc.exi fun xs hx => ?_)
    · have hm2 : (d, DiceM) ∈ (a, lkM od kv) :: [(d, DiceM)] := List.mem_cons_of_mem _ hM
      refine Exi.imp (K := K) (Ev.lc0 (K := K) (β := Str × Str) (γ := Str) (L := [(a, lkM od kv)]) (sl := [4]) (Ei.keys (K := K) (l := l) (Ev.var rfl) (List.mem_cons_self ..) hk) (fun e he => by rw [List.mem_singleton.mp he]; exact List.mem_cons_self ..) (by rw [List.length_map]; omega) (fun i x => (kys l)[i]? = some x) (fun _ x => Is K x) (fun i _ F v r => r) (fun _ x => _) (fun i x _ _ => Eg.name) (fun k hk => hk) (P := fun _ _ _ => True) (fun i x _ _ => rollT (K := K) (d := d) (roll0 rfl hm2 (by decide) (by decide))) (Pe := fun _ x y => y.1 = x ∧ TextN n y.2) (fun i x _ px _ => Exi.imp (K := K) (Ev.pairX (p := fun z : Str => z = x) (r := TextN n) (Ev.toX (Ev.var (R := Is K x) rfl) rfl) (Ev.ite (rollT (K := K) (d := d) (roll0 rfl hm2 (by decide) (by decide))) (fun _ => Ev.toX (Ev.dget (Ev.var rfl) (Ds.atk (List.mem_cons_self ..)) (Ev.var (R := Is K x) rfl) (get_of (List.mem_of_getElem? px))) ?_) (fun _ => Ev.calldS hm2 n (Ea.cons (Ev.var rfl) (Ea.cons (Ev.var rfl) Ea.nil)) (fun F us h => ?_) (fun F F' v h => h) ⟨n0, n1⟩))) fun y h => h) (fun i ys => (ys.map (·.1)).Sublist ((kys l).take i) ∧ ∀ y ∈ ys, TextN n y.2) ⟨List.Sublist.refl _, fun _ h => nomatch h⟩ (fun i x ys y _ hx _ py pr => ?_) (fun i x ys _ hx _ pr => ?_)) fun xs h => ⟨?_, h.2⟩
      · obtain ⟨e, he, hv⟩ : ∃ e ∈ l, e.2 = getF l x := by
          have := get_of (List.mem_of_getElem? px)
          unfold lookD at this
          obtain ⟨e, h1, h2⟩ := Option.map_eq_some_iff.mp this
          exact ⟨e, List.mem_of_find?_eq_some h1, h2⟩
        rw [← hv]
        exact tx e he
      · cases h with
        | cons a b =>
          cases b
          exact .cons a .nil
      · refine ⟨?_, fun z hz => ?_⟩
        · rw [List.map_append, List.take_add_one, hx]
          exact pr.1.append (by show [y.1].Sublist [x]; rw [py.1]; exact List.Sublist.refl _)
        · rcases List.mem_append.mp hz with hz | hz
          · exact pr.2 z hz
          · rw [List.mem_singleton.mp hz]
            exact py.2
      · refine ⟨pr.1.trans ?_, pr.2⟩
        rw [List.take_add_one]
        exact List.sublist_append_left _ _
      · have := h.1
        rwa [List.take_length] at this
    · obtain ⟨sb, tx⟩ := hx
      have h := oc_dict (Ps := Ps) (M := [(d, DiceM)]) (K := K) (xs := xs) (R := Is K xs) Ls.fz
      rw [mergeD_nodup (nd.sublist sb)] at h
      exact Oc.toE h fun F v r => ⟨Dc.mk xs, ⟨sb, tx⟩, r⟩
  · dsimp only
    obtain ⟨fo⟩ := fo
    obtain ⟨sb, tf⟩ := hfo
    have lf : fo.length ≤ 50 := by
      have := sb.length_le
      rw [List.length_map, List.length_map] at this
      exact Nat.le_trans this ll
    refine Nx.seq (Nx.setX (K := K) (α := Dc Str Str) (P := fun m => (kys m.l).Nodup ∧ m.l.length ≤ 60 ∧ (∀ e ∈ m.l, TextN n e.2) ∧ ∃ k0 ∈ A6, ∀ p ∈ kys m.l, p ∈ kys l ∨ p = k0) ?_ fun bo hbo => ?_)
    · refine Ev.cb (Ea.cons (Ra := Exi K fun xs : List (Str × Str) => xs.length ≤ 60 ∧ (∀ e ∈ xs, TextN n e.2) ∧ ∃ k0 ∈ A6, ∀ p ∈ xs.map (·.1), p ∈ kys l ∨ p = k0) (Ev.op (Ev.slLX (K := K) (P := fun xs => FoldP n xs.reverse) (P' := fun xs : List (Str × Str) => (∀ e ∈ xs, TextN n e.2) ∧ ∃ k0 ∈ A6, xs.length ≤ 1 ∧ ∀ p ∈ xs.map (·.1), p = k0) (p := fun r => 0 ≤ r ∧ r < 2) ?_ (roll0 rfl hM (by decide) (by decide)) (fun xs i hx hi => ?_)) (Ev.listItems (K := K) own (Ev.var (R := Is K (Dc.mk fo)) rfl)) (O2.exi fun xs hx => ?_)) Ea.nil) (Oc.exi fun xs hx => ?_)
      · exact Ev.revX (Ev.listItemsX (P := FoldP n) own (Ev.calld hM own n (Ea.cons (Ev.var rfl) (Ea.cons (Ev.var rfl) Ea.nil)) ⟨n0, n1⟩))
      · have ec : cutX xs none (some i) = xs.take i.toNat := by
          have e := cutX_to xs i.toNat
          rw [show ((i.toNat : Nat) : Int) = i by omega] at e
          exact e
        rw [ec]
        obtain ⟨hk, ht⟩ := hx
        have l1 : i.toNat ≤ 1 := by omega
        have hkey : ∀ e ∈ xs, e.1 ∈ A6 := fun e he => by
          have hm : e.1 ∈ kys xs.reverse := List.mem_map.mpr ⟨e, List.mem_reverse.mpr he, rfl⟩
          rcases hk with h | h
          · exact (by decide +kernel : ∀ x ∈ A5, x ∈ A6) _ (h.subset hm)
          · exact (by decide +kernel : ∀ x ∈ A3, x ∈ A6) _ (h.subset hm)
        refine ⟨fun e he => ht e (List.mem_reverse.mpr (List.mem_of_mem_take he)), ?_⟩
        match xs, i.toNat, l1, hkey with
        | [], _, _, _ => exact ⟨"a", by decide +kernel, by simp, by simp⟩
        | e :: r, 0, _, _ => exact ⟨"a", by decide +kernel, by simp, by simp⟩
        | e :: r, 1, _, hkey => exact ⟨e.1, hkey e (List.mem_cons_self ..), by simp, by simp⟩
      · obtain ⟨h1, k0, h2, h3, h4⟩ := hx
        refine O2.imp (o2_cat Ls.fz Ls.fz (by omega)) fun F v r => ⟨xs ++ fo, ⟨by rw [List.length_append]; omega, fun e he => ?_, k0, h2, fun p hp => ?_⟩, r⟩
        · rcases List.mem_append.mp he with he | he
          · exact h1 e he
          · exact tf e he
        · rw [List.map_append] at hp
          rcases List.mem_append.mp hp with hp | hp
          · exact .inr (h4 p hp)
          · exact .inl (sb.subset hp)
      · obtain ⟨h1, h2, k0, h3, h4⟩ := hx
        obtain ⟨m1, m2⟩ := mergeD_keys xs
        exact Oc.toE (oc_dict (K := K) (xs := xs) Ls.fz) fun F v r => ⟨Dc.mk (mergeD xs), ⟨m1, Nat.le_trans (mergeD_len _) h1, mergeD_vals (P := TextN n) h2, k0, h3, fun p hp => h4 p ((m2 p).mp hp)⟩, r⟩
    · dsimp only
      obtain ⟨bo⟩ := bo
      obtain ⟨nb, lb, tb, k0, hk0, hkb⟩ := hbo
      have lb : bo.length ≤ 60 := lb
      refine Nx.ret (R := Exi K fun m : Dc Str Str => NextP l n m.l) (Ev.cb (Ea.cons (Ev.lockF (K := K) (i := 5) (l := Dc.mk bo) (R := Is K (((kys bo).filter (OutD bo)).map fun p => (p, getF bo p))) rfl own fun a kv od hk => ?_) Ea.nil) ?_) fun v σ F H sa r => hrt v _ _ _ _ sa r
      · refine Ev.lcOf (K := K) (L := [(a, lkM od kv)]) (sl := [4]) (xs := kys bo) (p := OutD bo) (f := fun p => (p, getF bo p)) (Ei.keys (K := K) (l := bo) (Ev.var rfl) (List.mem_cons_self ..) hk) (fun e he => by rw [List.mem_singleton.mp he]; exact List.mem_cons_self ..) (by rw [List.length_map]; omega) (fun x => _) (fun x _ => Eg.name) (fun k hk => hk) (fun x hx => ?_) (fun x hx _ => Ev.pair (Ev.var (R := Is K x) rfl) (Ev.dget (Ev.var rfl) (Ds.atk (List.mem_cons_self ..)) (Ev.var (R := Is K x) rfl) (get_of hx)))
        have hin : x ∈ A6 := (hkb x hx).elim (fun h => ka x h) fun h => h ▸ hk0
        have hl : x.length ≤ 5 := (by decide +kernel : ∀ y ∈ A6, y.length ≤ 5) x hin
        show Et _ _ _ _ (· = OutD bo x)
        unfold OutD
        refine Et.or (P1 := fun b => b = decide (x = "d")) (Et.is (Ev.op (Ev.var (R := Is K x) rfl) (Ev.str (K := K)) o2_eq)) (fun h => by rw [← h]; rfl) (fun h => ?_)
        rw [← h, Bool.false_or]
        refine Et.or (P1 := fun b => b = !decide (Str.ofString "d" ∈ kys bo)) (Et.isB ((Ev.dnotin (K := K) (κ := Str) (k := Str.ofString "d") Ev.str (Ev.var rfl) (Ds.atk (List.mem_cons_self ..))).to ?_)) (fun h => by rw [← h]; rfl) (fun h => ?_)
        · rw [← look_iff]
          first | done | (cases lookD bo (Str.ofString "d") <;> rfl)
        · rw [← h, Bool.false_or]
          exact Et.is (Ev.op (Ev.slS (K := K) (Ev.var (R := Is K x) rfl) Eo.none (Eo.some Ev.int) (by omega)) (Ev.str (K := K)) o2_ne)
      · have nf : ((((kys bo).filter (OutD bo)).map fun p => (p, getF bo p)).map (·.1)) = (kys bo).filter (OutD bo) := by
          rw [List.map_map]
          exact List.map_id' _
        have nd2 : ((((kys bo).filter (OutD bo)).map fun p => (p, getF bo p)).map (·.1)).Nodup := by
          rw [nf]
          exact nb.sublist List.filter_sublist
        have h := oc_dict (Ps := Ps) (M := [(d, DiceM)]) (K := K) (xs := ((kys bo).filter (OutD bo)).map fun p => (p, getF bo p)) Ls.fz
        rw [mergeD_nodup nd2] at h
        refine Oc.toE h fun F v r => ⟨Dc.mk _, ⟨nd2, fun e he => ?_, ⟨k0, hk0, fun p hp => ?_⟩, fun p hp => ?_⟩, r⟩
        · obtain ⟨p, hp, rfl⟩ := List.mem_map.mp he
          have := get_of (List.mem_filter.mp hp).1
          unfold lookD at this
          obtain ⟨e, h1, h2⟩ := Option.map_eq_some_iff.mp this
          show TextN n (getF bo p)
          rw [← h2]
          exact tb e (List.mem_of_find?_eq_some h1)
        · have hp : p ∈ ((((kys bo).filter (OutD bo)).map fun p => (p, getF bo p)).map (·.1)) := hp
          rw [nf] at hp
          exact hkb p (List.mem_filter.mp hp).1
        · have hp : p ∈ ((((kys bo).filter (OutD bo)).map fun p => (p, getF bo p)).map (·.1)) := hp
          rw [nf] at hp
          have h1 := (List.mem_filter.mp hp).2
          exact out_less (fun z => by
            have z : Str.ofString "d" ∈ ((((kys bo).filter (OutD bo)).map fun p => (p, getF bo p)).map (·.1)) := z
            rw [nf] at z
            exact (List.mem_filter.mp z).1) h1
end
end K01

-- RQi
set_option maxRecDepth 100000
set_option maxHeartbeats 4000000
/-! list(a table), tables alike -/
namespace RP
open PySem PySem.Spec PyProof.Rows L2
open Rp (rp)
section
variable {Ps : Tbs} {M : Mu} {G : Gm} {K : PySem.W.Frag} {R : VRel} {α : Type} [Rp α]
theorem oc_listD {l : List (Str × α)} (h : Ds Ps M K R l) : Oc Ps M (fun xs H Q => ∃ (a : Addr) (kvs : List (Key × V)), xs = [.ref a] ∧ Rd H a (.dK kvs) ∧ ∀ p, H p = none → Q (.ref p) (upd H p (.lst (kvs.map fun kv => kV kv.1)))) [R] (Is K (l.map (·.1))) := fun F H vs Q s r q => by
  obtain ⟨v, ev, rr⟩ := rs1 r
  subst ev
  obtain ⟨a, kv, rfl, h1, p⟩ := h F H v s rr
  refine ⟨a, kv, rfl, h1, fun b hb => ?_⟩
  have e : kv.map (fun kv => kV kv.1) = (l.map (·.1)).map V.str := by
    have := congrArg (List.map kV) (kvs_keys p)
    rw [List.map_map, List.map_map] at this
    exact this
  rw [e]
  have ev := Evo.newL s (K := K) (str_ps2 (K := K) (l.map (·.1))) hb
  exact q _ _ _ ev.1 ev.2
end
theorem look_at {κ α : Type} [DecidableEq κ] {l : List (κ × α)} (nd : (l.map (·.1)).Nodup) {e : κ × α} (he : e ∈ l) : lookD l e.1 = some e.2 := by
  induction l with
  | nil => cases he
  | cons f r ih =>
    rw [List.map_cons, List.nodup_cons] at nd
    unfold lookD
    by_cases c : f.1 = e.1
    · rw [List.find?_cons_of_pos (by simpa using c)]
      rcases List.mem_cons.mp he with rfl | he
      · rfl
      · exact absurd (List.mem_map.mpr ⟨e, he, c.symm⟩) nd.1
    · rw [List.find?_cons_of_neg (by simpa using c)]
      rcases List.mem_cons.mp he with rfl | he
      · exact absurd rfl c
      · exact ih nd.2 he
/-- alike, where each key has alike texts -/
theorem deq_of {κ α : Type} [DecidableEq κ] [DecidableEq α] {l m : List (κ × α)} (nl : (l.map (·.1)).Nodup) (hl : l.length = m.length) (h : ∀ k ∈ l.map (·.1), lookD m k = lookD l k) : deqL l m = true := by
  unfold deqL
  rw [decide_eq_true hl, Bool.true_and, List.all_eq_true]
  intro e he
  rw [decide_eq_true_iff, h e.1 (List.mem_map.mpr ⟨e, he, rfl⟩)]
  exact look_at nl he
end RP

-- F01A
set_option maxRecDepth 100000
set_option maxHeartbeats 4000000
/-! of drawn folders -/
namespace K01
open PySem PySem.Spec PyProof.Rows L2 BG LW
open RP hiding Tb
open SSt
theorem a6_facts : ∀ p ∈ A6, okPath p = true ∧ p.length ≤ 5 ∧ (reprText p).length ≤ 1000 ∧ (Txt.split p "/").length ≤ 3 ∧ (∀ n ∈ Txt.split p "/", n.length ≤ 5) ∧ PyData.strOk p = true ∧ (∀ o ∈ oversL p, o = Str.ofString "d" ∨ o ∉ A6) ∧ (Str.ofString "d" ∈ oversL p → p ≠ Str.ofString "d" ∧ cutS p none (some 2) = Str.ofString "d/") := by decide +kernel
theorem a6_smP {p : Str} (h : p ∈ A6) : SmP p ∧ SmO p := by
  obtain ⟨h1, h2, h3, h4, h5, _⟩ := a6_facts p h
  refine ⟨⟨by omega, h3, fun n hn => by have := h5 n hn; omega⟩, by omega, by omega, fun k => ?_⟩
  have hl : ∀ xs : List Str, (∀ x ∈ xs, x.length ≤ 5) → (xs.map (·.length)).sum ≤ 5 * xs.length := by
    intro xs
    induction xs with
    | nil => intro _; exact Nat.le_refl _
    | cons x r ih =>
      intro hx
      have h1 := hx x (List.mem_cons_self ..)
      have h2 := ih fun y hy => hx y (List.mem_cons_of_mem _ hy)
      rw [List.map_cons, List.sum_cons, List.length_cons]
      omega
  have := hl ((Txt.split p "/").take k) fun x hx => h5 x (List.mem_of_mem_take hx)
  rw [List.length_take] at this
  omega
theorem sub5 {l : List Str} (h : l.Sublist A5) : ∀ p ∈ l, p ∈ A6 := fun p hp => (by decide +kernel : ∀ x ∈ A5, x ∈ A6) p (h.subset hp)
theorem sub3 {l : List Str} (h : l.Sublist A3) : ∀ p ∈ l, p ∈ A6 := fun p hp => (by decide +kernel : ∀ x ∈ A3, x ∈ A6) p (h.subset hp)
theorem text_len {t : Str} (h : TextN 3 t) : t.length ≤ 3 := by
  obtain ⟨xs, rfl, hl, hx⟩ := h
  have l1 : ∀ x ∈ sgn ("ab=" : Str), x.length = 1 := by decide +kernel
  have jl : ∀ ps : List (List Nat), (∀ p ∈ ps, p.length = 1) → (TL.joinL [] ps).length = ps.length := by
    intro ps
    induction ps with
    | nil => intro _; rfl
    | cons p r ih =>
      intro hp
      cases r with
      | nil => exact hp p (List.mem_cons_self ..)
      | cons q r =>
        show (p ++ ([] ++ TL.joinL [] (q :: r))).length = _
        rw [List.nil_append, List.length_append, hp p (List.mem_cons_self ..), ih fun z hz => hp z (List.mem_cons_of_mem _ hz)]
        simp only [List.length_cons]
        omega
  have tlen : ∀ x : Str, (TL.tl x).length = x.length := fun x => Array.length_toList
  have : ∀ xs : List Str, (∀ x ∈ xs, x ∈ sgn "ab=") → (Txt.join "" xs).length = xs.length := fun xs hx => by
    rw [← tlen, TL.join_eq, TL.tl_join]
    show (TL.joinL [] (xs.map TL.tl)).length = _
    rw [jl _ fun p hp => ?_, List.length_map]
    obtain ⟨x, hx2, rfl⟩ := List.mem_map.mp hp
    rw [tlen]
    exact l1 x (hx x hx2)
  rw [this xs hx]
  omega
/-- a folder as drawn -/
structure Fd (l : Fold) : Prop where
  nd : (kys l).Nodup
  a6 : ∀ p ∈ kys l, p ∈ A6
  tx : ∀ e ∈ l, TextN 3 e.2
  ok : ∀ p ∈ kys l, OutD l p = true
theorem nodup_len : ∀ {l m : List Str}, l.Nodup → (∀ x ∈ l, x ∈ m) → l.length ≤ m.length
  | [], m, _, _ => Nat.zero_le _
  | x :: r, m, nd, s => by
    obtain ⟨n1, n2⟩ := List.nodup_cons.mp nd
    have hx := s x (List.mem_cons_self ..)
    have := nodup_len n2 (m := m.erase x) fun y hy => (List.mem_erase_of_ne (fun (z : y = x) => n1 (by rw [← z]; exact hy))).mpr (s y (List.mem_cons_of_mem _ hy))
    rw [List.length_erase_of_mem hx] at this
    have : 0 < m.length := List.length_pos_of_mem hx
    rw [List.length_cons]
    omega
theorem a6_len {l : List Str} (nd : l.Nodup) (h : ∀ p ∈ l, p ∈ A6) : l.length ≤ 6 := by
  exact nodup_len nd h
theorem Fd.len {l : Fold} (h : Fd l) : l.length ≤ 6 := by
  have := a6_len h.nd h.a6
  rwa [List.length_map] at this
theorem Fd.smD {l : Fold} (h : Fd l) : SmD l := ⟨by have := h.len; omega, h.nd, fun p hp => a6_smP (h.a6 p hp)⟩
theorem Fd.okF {l : Fold} (h : Fd l) : okFold l = true := by
  unfold okFold
  rw [Bool.and_eq_true, List.all_eq_true, List.all_eq_true]
  refine ⟨fun p hp => (a6_facts p (h.a6 p hp)).1, fun p hp => ?_⟩
  obtain ⟨_, _, _, _, _, _, o1, o2⟩ := a6_facts p (h.a6 p hp)
  rw [Bool.not_eq_true']
  unfold overIn
  rw [List.any_eq_false]
  intro o ho
  rw [decide_eq_true_iff]
  intro hk
  rcases o1 o ho with rfl | n
  · obtain ⟨n1, n2⟩ := o2 ho
    have := h.ok p hp
    unfold OutD at this
    rw [decide_eq_false n1, decide_eq_true hk, decide_eq_true n2] at this
    cases this
  · exact n (h.a6 o hk)
theorem Fd.sort {l : Fold} (h : Fd l) : Fd (sortF l) := ⟨by rw [kys_sort]; exact (ss_perm _).nodup_iff.mpr h.nd, fun p hp => h.a6 p (mem_sort.mp hp), fun e he => by
  unfold sortF at he
  obtain ⟨p, hp, rfl⟩ := List.mem_map.mp he
  obtain ⟨e, he, hv⟩ : ∃ e ∈ l, e.2 = getF l p := by
    have := get_of (ss_mem.mp hp)
    unfold lookD at this
    obtain ⟨e, h1, h2⟩ := Option.map_eq_some_iff.mp this
    exact ⟨e, List.mem_of_find?_eq_some h1, h2⟩
  show TextN 3 (getF l p)
  rw [← hv]
  exact h.tx e he, fun p hp => out_less (fun z => mem_sort.mp z) (h.ok p (mem_sort.mp hp))⟩
theorem Fd.of_folder {l : Fold} (h : FoldP 3 l) : Fd l := by
  obtain ⟨hk, ht⟩ := h
  rcases hk with hk | hk
  · refine ⟨(by decide +kernel : A5.Nodup).sublist hk, sub5 hk, ht, fun p hp => ?_⟩
    have : Str.ofString "d" ∉ kys l := fun z => (by decide +kernel : Str.ofString "d" ∉ A5) (hk.subset z)
    unfold OutD
    rw [decide_eq_false this]
    simp
  · refine ⟨(by decide +kernel : A3.Nodup).sublist hk, sub3 hk, ht, fun p hp => ?_⟩
    have h3 : ∀ x ∈ A3, x = Str.ofString "d" ∨ cutS x none (some 2) ≠ Str.ofString "d/" := by decide +kernel
    unfold OutD
    rcases h3 p (hk.subset hp) with e | e
    · rw [e, decide_eq_true rfl]
      rfl
    · rw [decide_eq_false e]
      simp
theorem Fd.of_next {l m : Fold} (hl : Fd l) (h : NextP l 3 m) : Fd m := by
  obtain ⟨h1, h2, ⟨k0, h3, h4⟩, h5⟩ := h
  exact ⟨h1, fun p hp => (h4 p hp).elim (fun z => hl.a6 p z) fun z => z ▸ h3, h2, h5⟩
theorem Fd.next {l : Fold} (h : Fd l) : NextPre (l, 3) := ⟨⟨(by decide : (0 : Int) ≤ 3), (by decide : (3 : Int) ≤ 100)⟩, h.nd, by have := h.len; show l.length ≤ 50; omega, h.tx, h.a6⟩
theorem Fd.smB {a b : Fold} (ha : Fd a) (hb : Fd b) : SmB (a, b) := ⟨ha.smD, hb.smD, by have := ha.len; have := hb.len; show a.length + b.length ≤ 15; omega⟩
end K01

-- L01B
set_option maxRecDepth 100000
set_option maxHeartbeats 4000000
namespace K01
open PySem PySem.Spec PyProof.Rows L2 BG LW
open RP hiding Tb
open SSt
abbrev s_law : Stmt := topS 32
abbrev Nlaw : List Str := ["script", "dice", "one", "other", "paths", "back", "path", "over", "mine", "rest", "k", "heads", "head", "both_now", "signs", "sign", "gone", "found", "same", "old", "texts", "lots", "text", "lot", "word", "names", "good", "name", "wrong", "pair"]
theorem sc_law : FnScope Nlaw ["script"] (defScope s_law) := ⟨rfl, rfl, rfl, by decide +kernel, rfl, by decide +kernel, by decide +kernel⟩
def nthS (l : List Stmt) (i : Nat) : Stmt := l.getD i (.Pass ⟨0, 0, 0, 0⟩)
def forB : Stmt → List Stmt
  | .For _ _ b _ _ => b
  | .If _ b _ _ => b
  | _ => []
def lawS (i : Nat) : Stmt := nthS (defBody s_law) i
def lb (i : Nat) : Stmt := nthS (forB (lawS 0)) i
abbrev LX0 (P : Program) (w : World) (K : PySem.W.Frag) (mg : Str → Option Value) (base : Heap) (f c : Addr) (A : Around) (outer : List Env) (s : Shared) (H : Hp) (E : XK) : Cx := cxOf (L2.CX P w) P w K mg base Nlaw "law" (defScope s_law) f (.ref c) A outer s H E
/-- the law's callees -/
structure Callees (P : Program) (w : World) (K : PySem.W.Frag) (mg : Str → Option Value) (base : Heap) (Bp : Addr) (Pt : Tbs) (k : Nat) : Prop where
  roll : ∃ f fd j, j ≤ k ∧ Cal P w K mg base (L2.CX P w) j "_law_roll" ["dice", "many"] sp_roll f fd
  rounds : ∃ f fd j, j ≤ k ∧ Cal P w K mg base (L2.CX P w) j "_law_rounds" ["script", "most"] (sp_rounds K) f fd
  text : ∃ f fd j, j ≤ k ∧ Cal P w K mg base (L2.CX P w) j "_law_text" ["dice", "most"] (sp__law_text Pt K) f fd
  folder : ∃ f fd j, j ≤ k ∧ Cal P w K mg base (L2.CX P w) j "_law_folder" ["dice", "most"] (sp__law_folder Pt K) f fd
  next : ∃ f fd j, j ≤ k ∧ Cal P w K mg base (L2.CX P w) j "_law_next" ["dice", "table", "most"] (sp__law_next Pt K) f fd
  check_path : ∃ f fd j, j ≤ k ∧ Cal P w K mg base (L2.CX P w) j "check_path" ["path"] (sp_check_path Pt K Bp) f fd
  check_folder : ∃ f fd j, j ≤ k ∧ Cal P w K mg base (L2.CX P w) j "check_folder" ["table"] (sp_check_folder Pt K Bp) f fd
  overs_of : ∃ f fd j, j ≤ k ∧ Cal P w K mg base (L2.CX P w) j "overs_of" ["path"] (sp_overs_of Pt K) f fd
  names_in : ∃ f fd j, j ≤ k ∧ Cal P w K mg base (L2.CX P w) j "names_in" ["table", "over"] (sp_names_in Pt K Bp) f fd
  part_of : ∃ f fd j, j ≤ k ∧ Cal P w K mg base (L2.CX P w) j "part_of" ["table", "over"] (sp_part_of Pt K Bp) f fd
  between : ∃ f fd j, j ≤ k ∧ Cal P w K mg base (L2.CX P w) j "between" ["one", "other"] (sp_between Pt K Bp) f fd
  changes_to : ∃ f fd j, j ≤ k ∧ Cal P w K mg base (L2.CX P w) j "changes_to" ["one", "other"] (sp_changes_to Pt K Bp) f fd
  changed : ∃ f fd j, j ≤ k ∧ Cal P w K mg base (L2.CX P w) j "changed" ["table", "changes"] (sp_changed Pt K Bp) f fd
  moved : ∃ f fd j, j ≤ k ∧ Cal P w K mg base (L2.CX P w) j "moved" ["one", "other"] (sp_moved Pt K Bp) f fd
  size_of : ∃ f fd j, j ≤ k ∧ Cal P w K mg base (L2.CX P w) j "size_of" ["table"] (sp_size_of Pt K) f fd
  twins : ∃ f fd j, j ≤ k ∧ Cal P w K mg base (L2.CX P w) j "twins" ["table"] (sp_twins Pt K Bp) f fd
section
variable {P : Program} {w : World} {K : PySem.W.Frag} {mg : Str → Option Value} {base : Heap} {Bp : Addr} {Ps : List Addr} {pT : Addr} {q0 : Str}
variable {f c : Addr} {k : Nat} {A : Around} {outer : List Env} {s : Shared} {H0 : Hp} {E : XK}
/-- the slots of a round: dice at d -/
def gA (d : Addr) (s2 s3 s4 s5 s7 s8 s9 s11 s13 s14 s16 s17 s20 s21 s24 s25 s26 : Option VRel) : Gm := [none, some (At d), s2, s3, s4, s5, none, s7, s8, s9, none, s11, none, s13, s14, none, s16, s17, none, none, s20, s21, none, none, s24, s25, s26, none, none, none]
abbrev iD (K : PySem.W.Frag) (l : Fold) : Option VRel := some (Is K (Dc.mk l))
abbrev iS (K : PySem.W.Frag) (l : List Str) : Option VRel := some (Is K l)
/-- with one, other and one's paths -/
abbrev gO (K : PySem.W.Frag) (d : Addr) (a b : Fold) (s5 s7 s8 s9 s11 s13 s14 s16 s17 s20 s21 s24 s25 s26 : Option VRel) : Gm := gA d (iD K a) (iD K b) (iS K (ss (kys a))) s5 s7 s8 s9 s11 s13 s14 s16 s17 s20 s21 s24 s25 s26
abbrev g0 (K : PySem.W.Frag) (d : Addr) (a b : Fold) : Gm := gO K d a b none none none none none none none none none none none none none none
theorem inD {d : Addr} : (d, DiceM) ∈ [(d, DiceM)] := List.mem_singleton.mpr rfl
theorem ownD {d : Addr} : ∀ e ∈ [(d, DiceM)], e.2.own = true := fun e he => by
  rw [List.mem_singleton.mp he]
  rfl
theorem l00 (Z : Callees P w K mg base Bp (PT Ps pT q0) k) (T : Zs mg) (hr : Room k (A.deeper (envOfC "law" (defScope s_law) s.heap.objs.size f (.ref c)))) : ∃ t, PS (LX0 P w K mg base f c A outer s H0 E) (lb 0) t ∧ ∀ d B D, (∀ a, Fd a → Nx (PT Ps pT q0) B (gA d (iD K a) none none none none none none none none none none none none none none none none) [(d, DiceM)] D.nx) → Nx (PT Ps pT q0) B (gA d none none none none none none none none none none none none none none none none none) [(d, DiceM)] (t D) := by
  obtain ⟨_, _, _, k_law_folder, G_law_folder⟩ := Z.folder
  refine ⟨_, (ps_set (i := 2) sc_law.nd rfl (.inr rfl) (pe_call G_law_folder.ok (hr.mono k_law_folder) (by rfl) G_law_folder.g G_law_folder.kp G_law_folder.b .nil passF (pa_cons (pv 1) (pa_cons pe_int pa_nil)))), fun d B D nx => ?_⟩
  exact Nx.setX (P := fun m : Dc Str Str => FoldP 3 m.l) (Ev.calld inD ownD (3 : Int) (Ea.cons (Ev.var rfl) (Ea.cons Ev.int Ea.nil)) ⟨by decide, by decide⟩) fun m h => nx m.l (Fd.of_folder h)
theorem l01 (Z : Callees P w K mg base Bp (PT Ps pT q0) k) (T : Zs mg) (hr : Room k (A.deeper (envOfC "law" (defScope s_law) s.heap.objs.size f (.ref c)))) : ∃ t, PS (LX0 P w K mg base f c A outer s H0 E) (lb 1) t ∧ ∀ d a B D, Fd a → (∀ b, NextP a 3 b → Nx (PT Ps pT q0) B (gA d (iD K a) (iD K b) none none none none none none none none none none none none none none none) [(d, DiceM)] D.nx) → Nx (PT Ps pT q0) B (gA d (iD K a) none none none none none none none none none none none none none none none none) [(d, DiceM)] (t D) := by
  obtain ⟨_, _, _, k_law_next, G_law_next⟩ := Z.next
  refine ⟨_, (ps_set (i := 3) sc_law.nd rfl (.inr rfl) (pe_call G_law_next.ok (hr.mono k_law_next) (by rfl) G_law_next.g G_law_next.kp G_law_next.b .nil passF (pa_cons (pv 1) (pa_cons (pv 2) (pa_cons pe_int pa_nil))))), fun d a B D ha nx => ?_⟩
  exact Nx.setX (P := fun m : Dc Str Str => NextP a 3 m.l) (Ev.calld inD ownD ((a, 3) : Fold × Int) (Ea.cons (Ev.var rfl) (Ea.cons (Ev.var rfl) (Ea.cons Ev.int Ea.nil))) ha.next) fun m h => nx m.l h
theorem l02 (T : Zs mg) : ∃ t, PS (LX0 P w K mg base f c A outer s H0 E) (lb 2) t ∧ ∀ d a b B D, Fd a → Nx (PT Ps pT q0) B (g0 K d a b) [(d, DiceM)] D.nx → Nx (PT Ps pT q0) B (gA d (iD K a) (iD K b) none none none none none none none none none none none none none none none) [(d, DiceM)] (t D) := by
  refine ⟨_, (ps_set (i := 4) sc_law.nd rfl (.inr rfl) (pe_callB (call_sortedD rfl) (by rfl) T.sorted (by decide +kernel) (pa_cons (pv 2) pa_nil))), fun d a b B D ha nx => ?_⟩
  exact Nx.set (R := Is K (ss (kys a))) (Ev.exiIs (Ev.cb (Ea.cons (Ev.var rfl) Ea.nil) (oc_sortD (Ds.fz (l := Dc.mk a)) (by have := ha.len; show a.length < 64; omega))) fun ys h => eq_ssS h.1 h.2) nx
def backF (a : Fold) : Fold := (ss (kys a)).reverse.map fun p => (p, getF a p)
theorem back_kys (a : Fold) : kys (backF a) = (ss (kys a)).reverse := by
  unfold backF kys
  rw [List.map_map]
  exact List.map_id' _
theorem back_perm (a : Fold) : (kys (backF a)).Perm (kys a) := by
  rw [back_kys]
  exact (List.reverse_perm _).trans (ss_perm _)
theorem back_nd {a : Fold} (h : Fd a) : (kys (backF a)).Nodup := (back_perm a).nodup_iff.mpr h.nd
theorem look_map {ks : List Str} {g : Str → Str} {p : Str} (h : p ∈ ks) : lookD (ks.map fun p => (p, g p)) p = some (g p) := by
  induction ks with
  | nil => cases h
  | cons q r ih =>
    unfold lookD
    rw [List.map_cons]
    by_cases c : q = p
    · rw [List.find?_cons_of_pos (by simpa using c), c]
      rfl
    · rw [List.find?_cons_of_neg (by simpa using c)]
      exact ih ((List.mem_cons.mp h).resolve_left fun z => c z.symm)
theorem back_get {a : Fold} {p : Str} (h : p ∈ kys a) : getF (backF a) p = getF a p := by
  unfold getF backF
  rw [look_map (List.mem_reverse.mpr (ss_mem.mpr h))]
  rfl
theorem Fd.back {a : Fold} (h : Fd a) : Fd (backF a) := ⟨back_nd h, fun p hp => h.a6 p ((back_perm a).mem_iff.mp hp), fun e he => by
  unfold backF at he
  obtain ⟨p, hp, rfl⟩ := List.mem_map.mp he
  have hp := ss_mem.mp (List.mem_reverse.mp hp)
  have := get_of hp
  unfold lookD at this
  obtain ⟨e, h1, h2⟩ := Option.map_eq_some_iff.mp this
  show TextN 3 (getF a p)
  rw [← h2]
  exact h.tx e (List.mem_of_find?_eq_some h1), fun p hp => out_less (fun z => (back_perm a).mem_iff.mp z) (h.ok p ((back_perm a).mem_iff.mp hp))⟩
theorem l03 (T : Zs mg) (hr : Room k (A.deeper (envOfC "law" (defScope s_law) s.heap.objs.size f (.ref c)))) : ∃ t, PS (LX0 P w K mg base f c A outer s H0 E) (lb 3) t ∧ ∀ d a b B D, Fd a → Nx (PT Ps pT q0) B (gO K d a b (iD K (backF a)) none none none none none none none none none none none none none) [(d, DiceM)] D.nx → Nx (PT Ps pT q0) B (g0 K d a b) [(d, DiceM)] (t D) := by
  refine ⟨_, (ps_set (i := 5) sc_law.nd rfl (.inl rfl) (pe_callTy (call_dictP rfl) (by rfl) T.dict (by decide +kernel) (pa_cons (pe_lc (own := [("path", 6)]) rfl sc_law.nd (pi_listK (K0 := K) rfl (pe_revL (pv 4))) (blkOk_by (by show blkC Nlaw (defScope s_law) _ _ = true; decide +kernel)) (fun _ _ _ _ _ => (pg_name (i := 6) sc_law.nd rfl (.inl rfl))) (fun _ _ _ _ _ => pts_nil) (fun _ _ _ _ _ => (pe_tup (pa_cons (pv 6) (pa_cons (pe_dget (by first | exact hu1 | exact SSt.room_u hr) (pv 2) (pv 6) (fun _ _ => rfl)) pa_nil))))) pa_nil))), fun d a b B D ha nx => ?_⟩
  refine Nx.set (R := Is K (Dc.mk (backF a))) ((Ev.cb (Ea.cons (Ev.lcL (K := K) (xs := (ss (kys a)).reverse) (i := 6) (β := Str × Str) (p := fun _ => true) (f := fun p => (p, getF a p)) (Ev.rev (Ev.var rfl) Ls.fz) (by have := ha.len; rw [List.length_reverse, (ss_perm _).length_eq, List.length_map]; omega) (fun x _ => Et.yes) (fun x hx _ => Ev.pair (Ev.var (R := Is K x) rfl) (Ev.dget (Ev.var (R := Is K (Dc.mk a)) rfl) Ds.fz (Ev.var rfl) (get_of (ss_mem.mp (List.mem_reverse.mp hx)))))) Ea.nil) (oc_dict Ls.fz)).to ?_) nx
  rw [List.filter_eq_self.mpr fun _ _ => rfl]
  exact congrArg Dc.mk (mergeD_nodup (back_nd ha))
end
end K01

-- L01C
set_option maxRecDepth 100000
set_option maxHeartbeats 4000000
namespace K01
open PySem PySem.Spec PyProof.Rows L2 BG LW
open RP hiding Tb
open SSt
section
variable {P : Program} {w : World} {K : PySem.W.Frag} {mg : Str → Option Value} {base : Heap} {Bp : Addr} {Ps : List Addr} {pT : Addr} {q0 : Str}
variable {f c : Addr} {k : Nat} {A : Around} {outer : List Env} {s : Shared} {H0 : Hp} {E : XK}
theorem look_none {l : Fold} {p : Str} (h : p ∉ kys l) : lookD l p = none := by
  have := look_iff (l := l) (p := p)
  rw [decide_eq_false h] at this
  exact Option.isNone_iff_eq_none.mp (by simpa using this)
/-- tables of alike keys and alike texts -/
theorem deq_get {l m : Fold} (nl : (kys l).Nodup) (p : (kys l).Perm (kys m)) (h : ∀ k ∈ kys l, getF m k = getF l k) : deqL l m = true :=
  deq_of nl (by have := p.length_eq; rwa [List.length_map, List.length_map] at this) fun k hk => by
    rw [get_of hk, get_of (p.mem_iff.mp hk), h k hk]
theorem get_sort' {l : Fold} {x : Str} (h : x ∈ kys l) : getF (sortF l) x = getF l x := by
  unfold sortF
  show (lookD _ _).getD _ = _
  rw [look_map (ss_mem.mpr h)]
  rfl
theorem back_deq {a : Fold} (h : Fd a) : deqL (sortF (backF a)) a = true := by
  refine deq_get (h.back.sort.nd) ?_ fun k hk => ?_
  · rw [kys_sort]
    exact (ss_perm _).trans (back_perm a)
  · have hk := mem_sort.mp hk
    rw [get_sort' hk, back_get ((back_perm a).mem_iff.mp hk)]
theorem size_is {a : Fold} (h : Fd a) : sizeF a = ((kys a).map fun p => ((getF a p).length : Int)).sum := by
  unfold sizeF sumI
  rw [List.map_map, List.map_map]
  refine congrArg List.sum (List.map_congr_left fun e he => ?_)
  show ((e.2.length : Nat) : Int) = (((getF a e.1).length : Nat) : Int)
  have := look_at h.nd he
  unfold getF
  rw [this]
  rfl
theorem l04 (Z : Callees P w K mg base Bp (PT Ps pT q0) k) (T : Zs mg) (hr : Room k (A.deeper (envOfC "law" (defScope s_law) s.heap.objs.size f (.ref c)))) : ∃ t, PS (LX0 P w K mg base f c A outer s H0 E) (lb 4) t ∧ ∀ d a b B D, Fd a → Nx (PT Ps pT q0) B (g0 K d a b) [(d, DiceM)] D.nx → Nx (PT Ps pT q0) B (gO K d a b (iD K (backF a)) none none none none none none none none none none none none none) [(d, DiceM)] (t D) := by
  obtain ⟨_, _, _, k_check_folder, G_check_folder⟩ := Z.check_folder
  obtain ⟨_, _, _, k_size_of, G_size_of⟩ := Z.size_of
  refine ⟨_, (ps_if (PW.pt (pw_or (pt_cmpR (RU.op_neF (Nat.lt_of_le_of_lt (Nat.le_add_right _ _) hr.units)) (pe_call G_check_folder.ok (hr.mono k_check_folder) (by rfl) G_check_folder.g G_check_folder.kp G_check_folder.b .nil passF (pa_cons (pv 5) pa_nil)) (pv 2) (nomark _)) (pw_or (pt_cmpR (op_neKK (K0 := K) rfl (by first | exact hr.units | (have := hr.units; omega))) (pe_callTy (call_listD rfl) (by rfl) T.list (by decide +kernel) (pa_cons (pe_call G_check_folder.ok (hr.mono k_check_folder) (by rfl) G_check_folder.g G_check_folder.kp G_check_folder.b .nil passF (pa_cons (pv 5) pa_nil)) pa_nil)) (pv 4) (nomark _)) (pw_or1 (pt_cmpR op_ne (pe_call G_size_of.ok (hr.mono k_size_of) (by rfl) G_size_of.g G_size_of.kp G_size_of.b .nil passF (pa_cons (pv 2) pa_nil)) (pe_callB (cr_sumKK (K0 := K) rfl rfl) (by rfl) T.sum (by decide +kernel) (pa_cons (L2.pe_lock (pe_lc (own := [("path", 6)]) rfl sc_law.nd (pi_keys (pv 2)) (blkOk_by (by show blkC Nlaw (defScope s_law) _ _ = true; decide +kernel)) (fun _ _ _ _ _ => (pg_name (i := 6) sc_law.nd rfl (.inl rfl))) (fun _ _ _ _ _ => pts_nil) (fun _ _ _ _ _ => (pe_callB call_len_str (by rfl) T.len (by decide +kernel) (pa_cons (pe_dget (by first | exact hu1 | exact SSt.room_u hr) (pv 2) (pv 6) (fun _ _ => rfl)) pa_nil))))) pa_nil)) (nomark _))))))
      (pss_one (ps_ret pe_bl)) pss_nil), fun d a b B D ha nx => ?_⟩
  have cf : ∀ {G : Gm} {te : TE}, Ev (PT Ps pT q0) G [(d, DiceM)] te (Is K (Dc.mk (backF a))) → Ev (PT Ps pT q0) G [(d, DiceM)] (tCall (sp_check_folder (PT Ps pT q0) K Bp) [] (fun _ _ _ => False) (tCons te tNil)) (Is K (Dc.mk (sortF (backF a)))) := fun h => Ev.calloD ownD (backF a) (Ea.cons h Ea.nil) ha.back.smD (if_pos ha.back.okF)
  refine Nx.noIf (Et.orF (Et.isF (Ev.op (Ra := Is K (Dc.mk (sortF (backF a)))) (Rb := Is K (Dc.mk a)) (cf (Ev.var rfl)) (Ev.var rfl) (o2_deq (neg := true) (l := sortF (backF a)) (m := a) (Ds.fz (l := Dc.mk (sortF (backF a)))) (Ds.fz (l := Dc.mk a)))) ?_) (Et.orF (Et.isF (Ev.op (Ra := Is K (kys (sortF (backF a)))) (Rb := Is K (ss (kys a))) (Ev.cb (Ea.cons (cf (Ev.var rfl)) Ea.nil) (oc_listD (Ds.fz (l := Dc.mk (sortF (backF a)))))) (Ev.var rfl) (o2_neD (fun p hp => ?_) (fun p hp => ?_))) ?_) (Et.isF (Ev.op (Ra := Is K (sizeF a)) (Rb := Is K (sizeF a)) (Ev.callx ownD a (Ea.cons (Ev.var rfl) Ea.nil) ⟨by have := ha.len; omega, fun e he => by have := text_len (ha.tx e he); omega⟩ rfl) ((Ev.cb (Ea.cons (Ev.lockF (K := K) (i := 2) (l := Dc.mk a) (R := Is K ((kys a).map fun p => ((getF a p).length : Int))) rfl ownD fun ad kv od hk => ?_) Ea.nil) (oc_sum Ls.fz)).to (size_is ha).symm) o2_ne) (ne_self rfl)))) (nx.gle (by (repeat' (first | exact RP.GLe.nil | apply RP.GLe.keep | apply RP.GLe.drop))))
  · show (!deqL _ _) = false
    rw [back_deq ha]
    rfl
  · exact (a6_facts p (ha.back.sort.a6 p hp)).2.2.2.2.2.1
  · exact (a6_facts p (ha.a6 p (ss_mem.mp hp))).2.2.2.2.2.1
  · refine ne_self ?_
    rw [kys_sort]
    exact ss_congr (back_perm a)
  · refine (Ev.lcOf (K := K) (L := [(ad, lkM od kv)]) (sl := [6]) (xs := kys a) (p := fun _ => true) (f := fun p => ((getF a p).length : Int)) (Ei.keys (K := K) (l := a) (Ev.var rfl) (List.mem_cons_self ..) hk) (fun e he => by rw [List.mem_singleton.mp he]; exact List.mem_cons_self ..) (by have := ha.len; rw [List.length_map]; omega) (fun x => _) (fun x _ => Eg.name) (fun k hk => hk) (fun x hx => Et.yes) (fun x hx _ => Ev.natI (Ev.cb (Ea.cons (Ev.dget (Ev.var rfl) (Ds.atk (List.mem_cons_self ..)) (Ev.var (R := Is K x) rfl) (get_of hx)) Ea.nil) (oc_lenS ?_)))).to ?_
    · have := get_of hx
      unfold lookD at this
      obtain ⟨e, h1, h2⟩ := Option.map_eq_some_iff.mp this
      rw [← h2]
      have := text_len (ha.tx e (List.mem_of_find?_eq_some h1))
      omega
    · rw [List.filter_eq_self.mpr fun _ _ => rfl]
end
end K01

-- F01B
set_option maxRecDepth 100000
set_option maxHeartbeats 4000000
/-! parts and names of drawn folders -/
namespace K01
open PySem PySem.Spec PyProof.Rows L2 BG LW
open RP hiding Tb
open SSt
def subsL : List Str → List (List Str)
  | [] => [[]]
  | x :: r => subsL r ++ (subsL r).map (x :: ·)
theorem filter_subs (q : Str → Bool) : ∀ l : List Str, l.filter q ∈ subsL l
  | [] => List.mem_singleton.mpr rfl
  | x :: r => by
    show _ ∈ subsL r ++ (subsL r).map (x :: ·)
    rw [List.filter_cons]
    by_cases c : q x = true
    · rw [if_pos c]
      exact List.mem_append_right _ (List.mem_map.mpr ⟨_, filter_subs q r, rfl⟩)
    · rw [if_neg c]
      exact List.mem_append_left _ (filter_subs q r)
/-- A6, in order -/
def A6s : List Str := ["a", "b.c", "d", "d/a", "d/e/c", "d/e/x"]
theorem a6s_is : ss A6 = A6s := by
  refine (eq_ssS ?_ ?_).symm
  · decide +kernel
  · decide +kernel
/-- S has no text within a text -/
def okS (S : List Str) : Bool := S.all fun p => decide (p = Str.ofString "d") || (!decide (Str.ofString "d" ∈ S) || !decide (cutS p none (some 2) = Str.ofString "d/"))
theorem Fd.inS {a : Fold} (h : Fd a) : ss (kys a) ∈ subsL A6s ∧ okS (ss (kys a)) = true := by
  constructor
  · have e : ss (kys a) = A6s.filter fun p => decide (p ∈ kys a) := by
      rw [← a6s_is, ss_filter]
      refine ss_congr ((List.perm_ext_iff_of_nodup h.nd ((by decide +kernel : A6.Nodup).sublist List.filter_sublist)).mpr fun p => ?_)
      rw [List.mem_filter, decide_eq_true_iff]
      exact ⟨fun hp => ⟨h.a6 p hp, hp⟩, fun hp => hp.2⟩
    rw [e]
    exact filter_subs _ _
  · unfold okS
    rw [List.all_eq_true]
    intro p hp
    have := h.ok p (ss_mem.mp hp)
    unfold OutD at this
    rw [show decide (Str.ofString "d" ∈ ss (kys a)) = decide (Str.ofString "d" ∈ kys a) from decide_eq_decide.mpr ss_mem]
    exact this
def O4 : List Str := ["", "d", "d/e", "q"]
def inO (o p : Str) : Bool := decide (o = "") || decide (cutS p none (some ((o.length : Int) + 1)) = o ++ "/")
def restF (o p : Str) : Str := if o = "" then p else cutS p (some ((o.length : Int) + 1)) none
theorem o4_facts : ∀ o ∈ O4, o.length ≤ 3 ∧ ∀ p ∈ A6, Txt.startswith p (headP o) = inO o p ∧ (inO o p = true → cutS p (some ((headP o).length : Int)) none = restF o p ∧ (restF o p).length ≤ 5 ∧ PyData.strOk (restF o p) = true) := by decide +kernel
theorem o4_inj : ∀ o ∈ O4, ∀ p ∈ A6, inO o p = true → ∀ q ∈ A6, inO o q = true → restF o p = restF o q → p = q := by decide +kernel
def mineL (a : Fold) (o : Str) : List Str := (ss (kys a)).filter (inO o)
theorem mine_in {a : Fold} (h : Fd a) {o p : Str} (hp : p ∈ mineL a o) : p ∈ kys a ∧ p ∈ A6 ∧ inO o p = true := by
  obtain ⟨h1, h2⟩ := List.mem_filter.mp hp
  exact ⟨ss_mem.mp h1, h.a6 p (ss_mem.mp h1), h2⟩
theorem rest_nd {a : Fold} (h : Fd a) {o : Str} (ho : o ∈ O4) : ((mineL a o).map (restF o)).Nodup := by
  have nd : (mineL a o).Nodup := ((ss_perm _).nodup_iff.mpr h.nd).sublist List.filter_sublist
  have key : ∀ l : List Str, l.Nodup → (∀ p ∈ l, p ∈ A6 ∧ inO o p = true) → (l.map (restF o)).Nodup := by
    intro l
    induction l with
    | nil => intro _ _; exact List.nodup_nil
    | cons x r ih =>
      intro n hl
      obtain ⟨n1, n2⟩ := List.nodup_cons.mp n
      rw [List.map_cons, List.nodup_cons]
      refine ⟨fun z => ?_, ih n2 fun p hp => hl p (List.mem_cons_of_mem _ hp)⟩
      obtain ⟨y, hy, e⟩ := List.mem_map.mp z
      have hx := hl x (List.mem_cons_self ..)
      have hy2 := hl y (List.mem_cons_of_mem _ hy)
      have := o4_inj o ho y hy2.1 hy2.2 x hx.1 hx.2 e
      exact n1 (this ▸ hy)
  exact key _ nd fun p hp => ⟨(mine_in h hp).2.1, (mine_in h hp).2.2⟩
/-- what part_of gives -/
def partL (a : Fold) (o : Str) : Fold := (mineL a o).map fun p => (restF o p, getF a p)
theorem part_kys (a : Fold) (o : Str) : kys (partL a o) = (mineL a o).map (restF o) := by
  unfold partL kys
  rw [List.map_map]
  rfl
theorem part_is {a : Fold} (h : Fd a) {o : Str} (ho : o ∈ O4) : partF a o = partL a o := by
  have e : ((kys (sortF a)).filter fun p => Txt.startswith p (headP o)) = mineL a o := by
    rw [kys_sort]
    unfold mineL
    refine List.filter_congr fun p hp => ?_
    exact ((o4_facts o ho).2 p (h.a6 p (ss_mem.mp hp))).1
  unfold partF
  rw [e]
  have e2 : ((mineL a o).map fun p => (cutS p (some ((headP o).length : Int)) none, getF (sortF a) p)) = partL a o := by
    unfold partL
    refine List.map_congr_left fun p hp => ?_
    obtain ⟨h1, h2, h3⟩ := mine_in h hp
    rw [(((o4_facts o ho).2 p h2).2 h3).1, get_sort' h1]
  rw [e2]
  exact mergeD_nodup (by show (kys (partL a o)).Nodup; rw [part_kys]; exact rest_nd h ho)
def hdP (p : Str) : Str := ((Txt.split p "/").head?).getD ""
def headsL (rs : List Str) : List Str := ss ((mergeD (rs.map fun p => (hdP p, (1 : Int)))).map (·.1))
def namesL (S : List Str) (o : Str) : Bool := let rs := (S.filter (inO o)).map (restF o)
  decide ((mergeD (rs.map cutP)).map (·.1) = (mergeD (rs.map fun p => (hdP p, (1 : Int)))).map (·.1)) && (((mergeD (rs.map cutP)).map (·.1)).all fun n => decide ((lookD (mergeD (rs.map cutP)) n).getD false = decide (n ∈ rs)))
theorem names_all : ∀ S ∈ subsL A6s, okS S = true → ∀ o ∈ O4, namesL S o = true := by decide +kernel
theorem names_is {a : Fold} (h : Fd a) {o : Str} (ho : o ∈ O4) : namesF a o = (headsL ((mineL a o).map (restF o))).map fun n => (n, decide (n ∈ (mineL a o).map (restF o))) := by
  obtain ⟨h1, h2⟩ := h.inS
  have := names_all _ h1 h2 o ho
  unfold namesL at this
  rw [Bool.and_eq_true, decide_eq_true_iff, List.all_eq_true] at this
  obtain ⟨e1, e2⟩ := this
  unfold namesF headsL tabN
  rw [part_is h ho, part_kys]
  show (ss ((mergeD (((mineL a o).map (restF o)).map cutP)).map (·.1))).map _ = _
  rw [show ((mergeD (((mineL a o).map (restF o)).map cutP)).map (·.1)) = (mergeD (((mineL a o).map (restF o)).map fun p => (hdP p, (1 : Int)))).map (·.1) from e1]
  refine List.map_congr_left fun n hn => ?_
  have hn := ss_mem.mp hn
  rw [← show ((mergeD (((mineL a o).map (restF o)).map cutP)).map (·.1)) = (mergeD (((mineL a o).map (restF o)).map fun p => (hdP p, (1 : Int)))).map (·.1) from e1] at hn
  have := e2 n hn
  rw [decide_eq_true_iff] at this
  rw [show lookD (mergeD (((mineL a o).map (restF o)).map cutP)) n = _ from rfl]
  exact congrArg (Prod.mk n) this
end K01

-- L01D
set_option maxRecDepth 100000
set_option maxHeartbeats 4000000
namespace K01
open PySem PySem.Spec PyProof.Rows L2 BG LW
open RP hiding Tb
open SSt
section
variable {P : Program} {w : World} {K : PySem.W.Frag} {mg : Str → Option Value} {base : Heap} {Bp : Addr} {Ps : List Addr} {pT : Addr} {q0 : Str}
variable {f c : Addr} {k : Nat} {A : Around} {outer : List Env} {s : Shared} {H0 : Hp} {E : XK}
theorem map_range {α β : Type} (l : List α) (d : α) (g : α → β) : (List.range l.length).map (fun i => g (l.getD i d)) = l.map g := by
  refine List.ext_getElem (by simp) fun i h1 h2 => ?_
  have : i < l.length := by simpa using h1
  simp [List.getD_eq_getElem?_getD, List.getElem?_eq_getElem this]
theorem atI_getD {l : List Str} {i : Nat} (h : i < l.length) : atI l (i : Int) = some (l.getD i "") := by
  unfold atI ixN
  rw [if_pos (by omega), if_pos (by omega)]
  show l[(i : Int).toNat]? = _
  rw [Int.toNat_natCast, List.getD_eq_getElem?_getD, List.getElem?_eq_getElem h]
  rfl
theorem rng0 (n : Nat) : rngL 0 n = (List.range n).map fun i : Nat => (i : Int) := by
  unfold rngL
  exact List.map_congr_left fun i _ => Int.zero_add _
theorem o4_hd : ∀ o ∈ O4, ∀ p ∈ A6, inO o p = true → atI (Txt.split (restF o p) "/") 0 = some (hdP (restF o p)) ∧ PyData.strOk (hdP (restF o p)) = true ∧ (Txt.split (restF o p) "/").length ≤ 3 := by decide +kernel
theorem heads_in {rs : List Str} {n : Str} (h : n ∈ headsL rs) : ∃ r ∈ rs, hdP r = n := by
  have h := ((mergeD_keys _).2 n).mp (ss_mem.mp h)
  rw [List.map_map] at h
  exact List.mem_map.mp h
theorem sort_len {a : Fold} (ha : Fd a) : (ss (kys a)).length ≤ 6 := by
  have := ha.len
  rw [(ss_perm _).length_eq, List.length_map]
  exact this
theorem mine_len {a : Fold} (ha : Fd a) (o : Str) : (mineL a o).length ≤ 6 := Nat.le_trans (List.length_filter_le _ _) (sort_len ha)
theorem l05 (Z : Callees P w K mg base Bp (PT Ps pT q0) k) (T : Zs mg) (hr : Room k (A.deeper (envOfC "law" (defScope s_law) s.heap.objs.size f (.ref c)))) : ∃ t, PS (LX0 P w K mg base f c A outer s H0 E) (lb 5) t ∧ ∀ d a b B D, Fd a → (∀ B', BLe (PT Ps pT q0) B' B → True) → Nx (PT Ps pT q0) B (g0 K d a b) [(d, DiceM)] D.nx → Nx (PT Ps pT q0) B (g0 K d a b) [(d, DiceM)] (t D) := by
  obtain ⟨_, _, _, k_part_of, G_part_of⟩ := Z.part_of
  obtain ⟨_, _, _, k_names_in, G_names_in⟩ := Z.names_in
  refine ⟨_, (ps_for (passes_of rfl) rfl (pi_listK (K0 := K) rfl (pe_lst (pa_cons pe_str (pa_cons pe_str (pa_cons pe_str (pa_cons pe_str pa_nil)))))) (pg_name (i := 7) sc_law.nd rfl (.inr rfl))
      (pss_cons (ps_set (i := 8) sc_law.nd rfl (.inr rfl) (pe_lc (own := [("path", 6)]) rfl sc_law.nd (pi_listK (K0 := K) rfl (pv 4)) (blkOk_by (by show blkC Nlaw (defScope s_law) _ _ = true; decide +kernel)) (fun _ _ _ _ _ => (pg_name (i := 6) sc_law.nd rfl (.inl rfl))) (fun _ _ _ _ _ => (pts_one (PW.pt (pw_or (pt_cmpR op_eq (pv 7) pe_str (nomark _)) (pw_or1 (pt_cmpR op_eq (pe_slice sl_str (pv 6) po_none (po_some (pe_op op_add (pe_callB call_len_str (by rfl) T.len (by decide +kernel) (pa_cons (pv 7) pa_nil)) pe_int))) (pe_op op_add_str (pv 7) pe_str) (nomark _))))))) (fun _ _ _ _ _ => (pv 6))))
    (pss_cons (ps_set (i := 9) sc_law.nd rfl (.inr rfl) (pe_lc (own := [("path", 6)]) rfl sc_law.nd (pi_listK (K0 := K) rfl (pv 8)) (blkOk_by (by show blkC Nlaw (defScope s_law) _ _ = true; decide +kernel)) (fun _ _ _ _ _ => (pg_name (i := 6) sc_law.nd rfl (.inl rfl))) (fun _ _ _ _ _ => pts_nil) (fun _ _ _ _ _ => (pe_ifExp (pt_cmpR op_eq (pv 7) pe_str (nomark _)) (pv 6) (pe_slice sl_str (pv 6) (po_some (pe_op op_add (pe_callB call_len_str (by rfl) T.len (by decide +kernel) (pa_cons (pv 7) pa_nil)) pe_int)) po_none)))))
    (pss_cons (ps_if (pt_cmpR (RU.op_neF (Nat.lt_of_le_of_lt (Nat.le_add_right _ _) hr.units)) (pe_call G_part_of.ok (hr.mono k_part_of) (by rfl) G_part_of.g G_part_of.kp G_part_of.b .nil passF (pa_cons (pv 2) (pa_cons (pv 7) pa_nil))) (pe_callTy (call_dictP rfl) (by rfl) T.dict (by decide +kernel) (pa_cons (pe_lc (own := [("k", 10)]) rfl sc_law.nd (pi_range1 (by rfl) T.range (pa_cons (pe_callB (call_lenKK (K0 := K) rfl) (by rfl) T.len (by decide +kernel) (pa_cons (pv 8) pa_nil)) pa_nil)) (blkOk_by (by show blkC Nlaw (defScope s_law) _ _ = true; decide +kernel)) (fun _ _ _ _ _ => (pg_name (i := 10) sc_law.nd rfl (.inl rfl))) (fun _ _ _ _ _ => pts_nil) (fun _ _ _ _ _ => (pe_tup (pa_cons (pe_ix (ix_listKK (K0 := K) rfl) (pv 9) (pv 10) (fun _ _ => rfl)) (pa_cons (pe_dget (by first | exact hu1 | exact SSt.room_u hr) (pv 2) (pe_ix (ix_listKK (K0 := K) rfl) (pv 8) (pv 10) (fun _ _ => rfl)) (fun _ _ => rfl)) pa_nil))))) pa_nil)) (nomark _))
      (pss_one (ps_ret pe_bl)) pss_nil)
    (pss_cons (ps_set (i := 11) sc_law.nd rfl (.inl rfl) (pe_callB (call_sortedD rfl) (by rfl) T.sorted (by decide +kernel) (pa_cons (pe_callTy (call_dictP rfl) (by rfl) T.dict (by decide +kernel) (pa_cons (pe_lc (own := [("path", 6)]) rfl sc_law.nd (pi_listK (K0 := K) rfl (pv 9)) (blkOk_by (by show blkC Nlaw (defScope s_law) _ _ = true; decide +kernel)) (fun _ _ _ _ _ => (pg_name (i := 6) sc_law.nd rfl (.inl rfl))) (fun _ _ _ _ _ => pts_nil) (fun _ _ _ _ _ => (pe_tup (pa_cons (pe_ix (ix_listKK (K0 := K) rfl) (pe_split (pv 6) pe_str) pe_int (fun _ _ => rfl)) (pa_cons pe_int pa_nil))))) pa_nil)) pa_nil)))
    (pss_one (ps_if (pt_cmpR (op_neKK (K0 := K) rfl (by first | exact hr.units | (have := hr.units; omega))) (pe_callTy (call_listKK (K0 := K) rfl) (by rfl) T.list (by decide +kernel) (pa_cons (pe_call G_names_in.ok (hr.mono k_names_in) (by rfl) G_names_in.g G_names_in.kp G_names_in.b .nil passF (pa_cons (pv 2) (pa_cons (pv 7) pa_nil))) pa_nil)) (pe_lc (own := [("head", 12)]) rfl sc_law.nd (pi_listK (K0 := K) rfl (pv 11)) (blkOk_by (by show blkC Nlaw (defScope s_law) _ _ = true; decide +kernel)) (fun _ _ _ _ _ => (pg_name (i := 12) sc_law.nd rfl (.inl rfl))) (fun _ _ _ _ _ => pts_nil) (fun _ _ _ _ _ => (pe_tup (pa_cons (pv 12) (pa_cons (pe_cmpR (op_inKK (K0 := K) rfl) (pv 12) (pv 9) (by with_unfolding_all rfl)) pa_nil))))) (nomark _))
      (pss_one (ps_ret pe_bl)) pss_nil))))))), fun d a b B D ha _ nx => ?_⟩
  refine Nx.for0 (γ := Str) (δ := Unit) (L := []) (Ei.list (K := K) (xs := O4) (Ev.lstL (K := K) (xs := O4) (Ea.cons Ev.str (Ea.cons Ev.str (Ea.cons Ev.str (Ea.cons Ev.str Ea.nil)))) (by show 4 ≤ 100; decide))) (fun _ _ => True) (fun _ _ => g0 K d a b) (fun _ _ => [(d, DiceM)]) (fun _ _ _ _ h => nomatch h) (fun i x => O4[i]? = some x) (fun _ x => Is K x) (fun i _ F v r => r) () True.intro GLe.refl rfl _ (fun i c x _ _ _ => Eg.name) (fun B' ble i c o hlt iv px N hN => ?_) fun _ _ => nx
  have ho : o ∈ O4 := List.mem_of_getElem? px
  obtain ⟨ol, of⟩ := o4_facts o ho
  have fin : ∀ s7 s8 s9 s11 : Option VRel, Nx (PT Ps pT q0) B' (gO K d a b none s7 s8 s9 s11 none none none none none none none none none) [(d, DiceM)] N := fun s7 s8 s9 s11 => (hN () True.intro).gle (by (repeat' (first | exact RP.GLe.nil | apply RP.GLe.keep | apply RP.GLe.drop)))
  have lenO : ∀ {G : Gm} (hG : G[7]? = some (some (Is K o))), Ev (PT Ps pT q0) G [(d, DiceM)] (tOp (rI0 fun i j => .int (i + j)) (tCB (fun xs H Q => ∃ z, xs = [.str z] ∧ z.length ≤ sizeLine ∧ Q (.int z.length) H) (tCons (tVar 7) tNil)) (tC (.int 1))) (Is K ((o.length : Int) + 1)) := fun hG => Ev.op (Ev.natI (Ev.cb (Ea.cons (Ev.var hG) Ea.nil) (oc_lenS (by omega)))) Ev.int o2_int
  have ml := mine_len ha o
  refine Nx.seq (Nx.set (R := Is K (mineL a o)) ((Ev.lcL (K := K) (xs := ss (kys a)) (i := 6) (p := inO o) (f := fun p => p) (Ev.var rfl) (by have := sort_len ha; omega) (fun x hx => ?_) (fun x _ _ => Ev.var rfl)).to (List.map_id' _)) ?_)
  · have hx6 := ha.a6 x (ss_mem.mp hx)
    have hl := (a6_facts x hx6).2.1
    show Et _ _ _ _ (· = inO o x)
    unfold inO
    refine Et.or (P1 := fun b => b = decide (o = "")) (Et.is (Ev.op (Ev.var (R := Is K o) rfl) (Ev.str (K := K)) o2_eq)) (fun h => by rw [← h]; rfl) (fun h => ?_)
    rw [← h, Bool.false_or]
    refine Et.is (Ev.op (Ra := Is K (cutS x none (some ((o.length : Int) + 1)))) (Rb := Is K (o ++ "/")) (Ev.slS (K := K) (Ev.var (R := Is K x) rfl) Eo.none (Eo.some (lenO rfl)) (by omega)) (Ev.op (Ev.var (R := Is K o) rfl) Ev.str (o2_addS ?_)) o2_eq)
    have : ("/" : Str).length = 1 := rfl
    omega
  dsimp only
  refine Nx.seq (Nx.set (R := Is K ((mineL a o).map (restF o))) (Ev.lcLy (K := K) (xs := mineL a o) (i := 6) (f := restF o) (Ev.var rfl) (by omega) fun x hx => ?_) ?_)
  · obtain ⟨_, h6, _⟩ := mine_in ha hx
    have hl := (a6_facts x h6).2.1
    unfold restF
    refine Ev.ite (P := fun b => b = decide (o = "")) (Et.is (Ev.op (Ev.var (R := Is K o) rfl) (Ev.str (K := K)) o2_eq)) (fun h => ?_) (fun h => ?_)
    · rw [if_pos (of_decide_eq_true h.symm)]
      exact Ev.var rfl
    · rw [if_neg (of_decide_eq_false h.symm)]
      exact Ev.slS (K := K) (Ev.var (R := Is K x) rfl) (Eo.some (lenO rfl)) Eo.none (by omega)
  dsimp only
  have rl : ((mineL a o).map (restF o)).length ≤ 6 := by rw [List.length_map]; exact ml
  have rfx : ∀ r ∈ (mineL a o).map (restF o), ∃ p ∈ A6, inO o p = true ∧ restF o p = r := fun r hr => by
    obtain ⟨p, hp, e⟩ := List.mem_map.mp hr
    obtain ⟨_, h6, hi⟩ := mine_in ha hp
    exact ⟨p, h6, hi, e⟩
  refine Nx.seq (Nx.noIf (Et.isF (Ev.op (Ra := Is K (Dc.mk (partF a o))) (Rb := Is K (Dc.mk (partL a o))) (Ev.calloD ownD ((a, o) : Fold × Str) (Ea.cons (Ev.var rfl) (Ea.cons (Ev.var rfl) Ea.nil)) ⟨ha.smD, by show o.length ≤ 1000; omega⟩ (if_pos ha.okF)) ((Ev.cb (Ea.cons (Ev.lcOf (K := K) (β := Str × Str) (L := []) (sl := [10]) (xs := rngL 0 (mineL a o).length) (p := fun _ => true) (f := fun i => (((mineL a o).map (restF o)).getD i.toNat "", getF a ((mineL a o).getD i.toNat ""))) (Ei.range1L (K := K) (Ea.cons (Ev.natI (Ev.cb (Ea.cons (Ev.var rfl) Ea.nil) (oc_len (Ls.sq (Ls.fz (xs := mineL a o)))))) Ea.nil) ⟨by omega, by omega⟩) (fun _ h => nomatch h) (by rw [rng_len]; omega) (fun x => _) (fun x _ => Eg.name) (fun k hk => hk) (fun x _ => Et.yes) (fun x hx _ => ?_)) Ea.nil) (oc_dict Ls.fz)).to ?_) (o2_deq (neg := true) (l := partF a o) (m := partL a o) (Ds.fz (l := Dc.mk (partF a o))) (Ds.fz (l := Dc.mk (partL a o))))) ?_) ?_)
  · rw [rng0] at hx
    obtain ⟨i, hi, rfl⟩ := List.mem_map.mp hx
    have hi := List.mem_range.mp hi
    have hm : (mineL a o).getD i "" ∈ mineL a o := by
      rw [List.getD_eq_getElem?_getD, List.getElem?_eq_getElem hi]
      exact List.getElem_mem hi
    rw [Int.toNat_natCast]
    exact Ev.pair (Ev.op (Ev.var (R := Is K ((mineL a o).map (restF o))) rfl) (Ev.var (R := Is K (i : Int)) rfl) (o2_ixL Ls.fz (atI_getD (by rw [List.length_map]; exact hi)))) (Ev.dget (Ev.var (R := Is K (Dc.mk a)) rfl) Ds.fz (Ev.op (Ev.var (R := Is K (mineL a o)) rfl) (Ev.var (R := Is K (i : Int)) rfl) (o2_ixL Ls.fz (atI_getD hi))) (get_of (mine_in ha hm).1))
  · rw [List.filter_eq_self.mpr fun _ _ => rfl, rng0, List.map_map]
    have e : ((List.range (mineL a o).length).map ((fun i : Int => (((mineL a o).map (restF o)).getD i.toNat "", getF a ((mineL a o).getD i.toNat ""))) ∘ fun i : Nat => (i : Int))) = partL a o := by
      unfold partL
      rw [← map_range (mineL a o) "" fun p => (restF o p, getF a p)]
      refine List.map_congr_left fun i hi => ?_
      have hi := List.mem_range.mp hi
      show (((mineL a o).map (restF o)).getD (i : Int).toNat "", getF a ((mineL a o).getD (i : Int).toNat "")) = _
      rw [Int.toNat_natCast]
      refine congrArg (fun z => (z, getF a ((mineL a o).getD i ""))) ?_
      rw [List.getD_eq_getElem?_getD, List.getD_eq_getElem?_getD, List.getElem?_map, List.getElem?_eq_getElem hi]
      rfl
    rw [e]
    exact congrArg Dc.mk (mergeD_nodup (by show (kys (partL a o)).Nodup; rw [part_kys]; exact rest_nd ha ho))
  · show (!deqL _ _) = false
    rw [part_is ha ho, deq_refl (by show (kys (partL a o)).Nodup; rw [part_kys]; exact rest_nd ha ho)]
    rfl
  have hok : ∀ n ∈ headsL ((mineL a o).map (restF o)), PyData.strOk n = true := fun n hn => by
    obtain ⟨r, hr, rfl⟩ := heads_in hn
    obtain ⟨p, h6, hi, rfl⟩ := rfx r hr
    exact (o4_hd o ho p h6 hi).2.1
  have lh : (headsL ((mineL a o).map (restF o))).length ≤ 6 := by
    unfold headsL
    rw [(ss_perm _).length_eq, List.length_map]
    refine Nat.le_trans (mergeD_len _) ?_
    rw [List.length_map]
    exact rl
  refine Nx.seq (Nx.set (R := Is K (headsL ((mineL a o).map (restF o)))) (Ev.exiIs (Ev.cb (Ea.cons (Ev.cb (Ea.cons (Ev.lcLy (K := K) (β := Str × Int) (xs := (mineL a o).map (restF o)) (i := 6) (f := fun p => (hdP p, (1 : Int))) (Ev.var rfl) (by omega) fun x hx => ?_) Ea.nil) (oc_dict Ls.fz)) Ea.nil) (oc_sortD (l := mergeD (((mineL a o).map (restF o)).map fun p => (hdP p, (1 : Int)))) (Ds.fz (l := Dc.mk _)) ?_)) fun ys h => eq_ssS h.1 h.2) ?_)
  · obtain ⟨p, h6, hi, rfl⟩ := rfx x hx
    obtain ⟨e1, e2, e3⟩ := o4_hd o ho p h6 hi
    have l5 := ((of p h6).2 hi).2.1
    exact Ev.pair (Ev.op (Ev.split (K := K) (Ev.var (R := Is K (restF o p)) rfl) Ev.str (by decide) (by omega)) Ev.int (o2_ixL Ls.fz e1)) Ev.int
  · refine Nat.lt_of_le_of_lt (mergeD_len _) ?_
    rw [List.length_map]
    omega
  dsimp only
  refine Nx.noIf (Et.isF (Ev.op (Ra := Is K (namesF a o)) (Rb := Is K ((headsL ((mineL a o).map (restF o))).map fun n => (n, decide (n ∈ (mineL a o).map (restF o))))) (Ev.cb (Ea.cons (Ev.callx ownD ((a, o) : Fold × Str) (Ea.cons (Ev.var rfl) (Ea.cons (Ev.var rfl) Ea.nil)) ⟨⟨ha.smD, by show o.length ≤ 1000; omega⟩, fun p hp => ?_⟩ (if_pos ha.okF)) Ea.nil) (oc_list (Sq.tl (xs := Tl.mk (namesF a o))))) (Ev.lcLy (K := K) (β := Str × Bool) (xs := headsL ((mineL a o).map (restF o))) (i := 12) (f := fun n => (n, decide (n ∈ (mineL a o).map (restF o)))) (Ev.var rfl) (by omega) fun x hx => Ev.pair (Ev.var (R := Is K x) rfl) (Ev.op (Ev.var (R := Is K x) rfl) (Ev.var (R := Is K ((mineL a o).map (restF o))) rfl) (o2_inS (neg := false) (Ls.sq Ls.fz)))) (o2_neD (fun e he => ?_) (fun e he => ?_))) (ne_self (names_is ha ho))) (fin _ _ _ _)
  · rw [part_is ha ho, part_kys] at hp
    obtain ⟨q, h6, hi, e⟩ := rfx p hp
    have l5 := ((of q h6).2 hi).2.1
    rw [e] at l5
    omega
  · rw [names_is ha ho] at he
    obtain ⟨n, hn, rfl⟩ := List.mem_map.mp he
    exact ⟨hok n hn, True.intro⟩
  · obtain ⟨n, hn, rfl⟩ := List.mem_map.mp he
    exact ⟨hok n hn, True.intro⟩
end
end K01

-- L01E
set_option maxRecDepth 100000
set_option maxHeartbeats 4000000
namespace K01
open PySem PySem.Spec PyProof.Rows L2 BG LW
open RP hiding Tb
open SSt
section
variable {P : Program} {w : World} {K : PySem.W.Frag} {mg : Str → Option Value} {base : Heap} {Bp : Addr} {Ps : List Addr} {pT : Addr} {q0 : Str}
variable {f c : Addr} {k : Nat} {A : Around} {outer : List Env} {s : Shared} {H0 : Hp} {E : XK}
def bothL (a b : Fold) : List Str := ss (orL (kys a) (kys b))
theorem both_is {a b : Fold} (ha : Fd a) (hb : Fd b) : ss ((mergeD ((kys a ++ kys b).map fun p => (p, (1 : Int)))).map (·.1)) = bothL a b := by
  obtain ⟨m1, m2⟩ := mergeD_keys ((kys a ++ kys b).map fun p => (p, (1 : Int)))
  refine ss_congr ((List.perm_ext_iff_of_nodup m1 (orL_nodup ha.nd hb.nd)).mpr fun p => ?_)
  rw [m2, mem_orL, List.map_map]
  show p ∈ List.map (fun p => p) _ ↔ _
  rw [List.map_id', List.mem_append]
theorem bothL_len {a b : Fold} (ha : Fd a) (hb : Fd b) : (bothL a b).length ≤ 12 := by
  unfold bothL
  rw [(ss_perm _).length_eq]
  refine Nat.le_trans orL_len ?_
  have := ha.len
  have := hb.len
  rw [List.length_map, List.length_map]
  omega
theorem both_in {a b : Fold} {p : Str} (h : p ∈ bothL a b) : p ∈ kys a ∨ p ∈ kys b := mem_orL.mp (ss_mem.mp h)
theorem l06 (T : Zs mg) (hr : Room k (A.deeper (envOfC "law" (defScope s_law) s.heap.objs.size f (.ref c)))) : ∃ t, PS (LX0 P w K mg base f c A outer s H0 E) (lb 6) t ∧ ∀ d a b B D, Fd a → Fd b → Nx (PT Ps pT q0) B (gO K d a b none none none none none (iS K (bothL a b)) none none none none none none none none) [(d, DiceM)] D.nx → Nx (PT Ps pT q0) B (g0 K d a b) [(d, DiceM)] (t D) := by
  refine ⟨_, (ps_set (i := 13) sc_law.nd rfl (.inl rfl) (pe_callB (call_sortedD rfl) (by rfl) T.sorted (by decide +kernel) (pa_cons (pe_callTy (call_dictP rfl) (by rfl) T.dict (by decide +kernel) (pa_cons (pe_lc (own := [("path", 6)]) rfl sc_law.nd (pi_listK (K0 := K) rfl (pe_op op_cat (pe_callTy (call_listD rfl) (by rfl) T.list (by decide +kernel) (pa_cons (pv 2) pa_nil)) (pe_callTy (call_listD rfl) (by rfl) T.list (by decide +kernel) (pa_cons (pv 3) pa_nil)))) (blkOk_by (by show blkC Nlaw (defScope s_law) _ _ = true; decide +kernel)) (fun _ _ _ _ _ => (pg_name (i := 6) sc_law.nd rfl (.inl rfl))) (fun _ _ _ _ _ => pts_nil) (fun _ _ _ _ _ => (pe_tup (pa_cons (pv 6) (pa_cons pe_int pa_nil))))) pa_nil)) pa_nil))), fun d a b B D ha hb nx => ?_⟩
  have la := ha.len
  have lb := hb.len
  refine Nx.set (R := Is K (bothL a b)) ((Ev.exiIs (y := ss ((mergeD ((kys a ++ kys b).map fun p => (p, (1 : Int)))).map (·.1))) (Ev.cb (Ea.cons (Ev.cb (Ea.cons (Ev.lcLy (K := K) (β := Str × Int) (xs := kys a ++ kys b) (i := 6) (f := fun p => (p, (1 : Int))) (Ev.op (Ev.cb (Ea.cons (Ev.var rfl) Ea.nil) (oc_listD (Ds.fz (l := Dc.mk a)))) (Ev.cb (Ea.cons (Ev.var rfl) Ea.nil) (oc_listD (Ds.fz (l := Dc.mk b)))) (o2_cat Ls.fz Ls.fz (by rw [List.length_map, List.length_map]; show a.length + b.length ≤ 100000; omega))) (by rw [List.length_append, List.length_map, List.length_map]; omega) fun x hx => Ev.pair (Ev.var rfl) Ev.int) Ea.nil) (oc_dict Ls.fz)) Ea.nil) (oc_sortD (l := mergeD ((kys a ++ kys b).map fun p => (p, (1 : Int)))) (Ds.fz (l := Dc.mk _)) ?_)) fun ys h => eq_ssS h.1 h.2).to (both_is ha hb)) nx
  refine Nat.lt_of_le_of_lt (mergeD_len _) ?_
  rw [List.length_map, List.length_append, List.length_map, List.length_map]
  omega
def sgnF (a b : Fold) (p : Str) : Str := if p ∉ kys a then "+" else if p ∉ kys b then "-" else "*"
def difF (a b : Fold) (p : Str) : Bool := !decide (p ∈ kys a) || (!decide (p ∈ kys b) || !decide (getF a p = getF b p))
def signsL (a b : Fold) : List (Str × Str) := ((bothL a b).filter (difF a b)).map fun p => (sgnF a b p, p)
theorem l07 (T : Zs mg) (hr : Room k (A.deeper (envOfC "law" (defScope s_law) s.heap.objs.size f (.ref c)))) : ∃ t, PS (LX0 P w K mg base f c A outer s H0 E) (lb 7) t ∧ ∀ d a b B D, Fd a → Fd b → Nx (PT Ps pT q0) B (gO K d a b none none none none none none (some (Is K (signsL a b))) none none none none none none none) [(d, DiceM)] D.nx → Nx (PT Ps pT q0) B (gO K d a b none none none none none (iS K (bothL a b)) none none none none none none none none) [(d, DiceM)] (t D) := by
  refine ⟨_, (ps_setLc (i := 14) (own := [("path", 6)]) rfl sc_law.nd rfl rfl (sw_true rfl rfl rfl (by rfl)) (pi_listK (K0 := K) rfl (pv 13)) (blkOk_by (by show blkC Nlaw (defScope s_law) _ _ = true; decide +kernel)) (fun _ _ _ _ _ => (pg_name (i := 6) sc_law.nd rfl (.inl rfl))) (fun _ _ _ _ _ => (pts_one (PW.pt (pw_or (pt_cmp (pc_dnotin (by first | exact hu1 | exact SSt.room_u hr) (pv 6) (pv 2)) (by with_unfolding_all rfl)) (pw_or (pt_cmp (pc_dnotin (by first | exact hu1 | exact SSt.room_u hr) (pv 6) (pv 3)) (by with_unfolding_all rfl)) (pw_or1 (pt_cmpR op_ne (pe_dget (by first | exact hu1 | exact SSt.room_u hr) (pv 2) (pv 6) (fun _ _ => rfl)) (pe_dget (by first | exact hu1 | exact SSt.room_u hr) (pv 3) (pv 6) (fun _ _ => rfl)) (nomark _)))))))) (fun _ _ _ _ _ => (pe_tup (pa_cons (pe_ifExp (pt_cmp (pc_dnotin (by first | exact hu1 | exact SSt.room_u hr) (pv 6) (pv 2)) (by with_unfolding_all rfl)) pe_str (pe_ifExp (pt_cmp (pc_dnotin (by first | exact hu1 | exact SSt.room_u hr) (pv 6) (pv 3)) (by with_unfolding_all rfl)) pe_str pe_str)) (pa_cons (pv 6) pa_nil))))), fun d a b B D ha hb nx => ?_⟩
  refine Nx.set (R := Is K (signsL a b)) (Ev.lcL (K := K) (β := Str × Str) (xs := bothL a b) (i := 6) (p := difF a b) (f := fun p => (sgnF a b p, p)) (Ev.var rfl) (by have := bothL_len ha hb; omega) (fun x hx => ?_) (fun x hx _ => Ev.pair ?_ (Ev.var (R := Is K x) rfl))) (nx.gle (by (repeat' (first | exact RP.GLe.nil | apply RP.GLe.keep | apply RP.GLe.drop))))
  · show Et _ _ _ _ (· = difF a b x)
    have na : ∀ {G : Gm} (hG : G[2]? = some (some (Is K (Dc.mk a)))) (hx : G[6]? = some (some (Is K x))), Ev (PT Ps pT q0) G [(d, DiceM)] (tDNotIn (tVar 6) (tVar 2)) (Is K (!decide (x ∈ kys a))) := fun hG hx => (Ev.dnotin (Ev.var hx) (Ev.var hG) Ds.fz).to (by rw [← look_iff]; first | done | (cases lookD a x <;> rfl))
    have nb : ∀ {G : Gm} (hG : G[3]? = some (some (Is K (Dc.mk b)))) (hx : G[6]? = some (some (Is K x))), Ev (PT Ps pT q0) G [(d, DiceM)] (tDNotIn (tVar 6) (tVar 3)) (Is K (!decide (x ∈ kys b))) := fun hG hx => (Ev.dnotin (Ev.var hx) (Ev.var hG) Ds.fz).to (by rw [← look_iff]; first | done | (cases lookD b x <;> rfl))
    unfold difF
    refine Et.or (P1 := fun t => t = !decide (x ∈ kys a)) (Et.isB (na rfl rfl)) (fun h => by rw [← h]; rfl) (fun h => ?_)
    rw [← h, Bool.false_or]
    refine Et.or (P1 := fun t => t = !decide (x ∈ kys b)) (Et.isB (nb rfl rfl)) (fun h => by rw [← h]; rfl) (fun h2 => ?_)
    rw [← h2, Bool.false_or]
    have ia : x ∈ kys a := by simpa using h.symm
    have ib : x ∈ kys b := by simpa using h2.symm
    exact Et.is (Ev.op (Ev.dget (Ev.var (R := Is K (Dc.mk a)) rfl) Ds.fz (Ev.var (R := Is K x) rfl) (get_of ia)) (Ev.dget (Ev.var (R := Is K (Dc.mk b)) rfl) Ds.fz (Ev.var (R := Is K x) rfl) (get_of ib)) o2_ne)
  · unfold sgnF
    refine Ev.ite (P := fun t => t = !decide (x ∈ kys a)) (Et.isB ((Ev.dnotin (Ev.var (R := Is K x) rfl) (Ev.var (R := Is K (Dc.mk a)) rfl) Ds.fz).to (by rw [← look_iff]; first | done | (cases lookD a x <;> rfl)))) (fun h => ?_) (fun h => ?_)
    · have n : x ∉ kys a := by simpa using h.symm
      rw [if_pos n]
      exact Ev.str
    · have n : x ∈ kys a := by simpa using h.symm
      rw [if_neg (by simpa using n)]
      refine Ev.ite (P := fun t => t = !decide (x ∈ kys b)) (Et.isB ((Ev.dnotin (Ev.var (R := Is K x) rfl) (Ev.var (R := Is K (Dc.mk b)) rfl) Ds.fz).to (by rw [← look_iff]; first | done | (cases lookD b x <;> rfl)))) (fun h => ?_) (fun h => ?_)
      · have n : x ∉ kys b := by simpa using h.symm
        rw [if_pos n]
        exact Ev.str
      · have n : x ∈ kys b := by simpa using h.symm
        rw [if_neg (by simpa using n)]
        exact Ev.str
theorem betw_is {a b : Fold} (ha : Fd a) (hb : Fd b) : betwF (sortF a) (sortF b) = signsL a b := by
  have e : bothK (sortF a) (sortF b) = bothL a b := by
    unfold bothK bothL
    refine ss_congr ((List.perm_ext_iff_of_nodup (orL_nodup ha.sort.nd hb.sort.nd) (orL_nodup ha.nd hb.nd)).mpr fun p => ?_)
    rw [mem_orL, mem_orL, mem_sort, mem_sort]
  unfold betwF signsL
  rw [e]
  have key : ∀ l : List Str, (∀ p ∈ l, p ∈ kys a ∨ p ∈ kys b) → l.filterMap (rowB (sortF a) (sortF b)) = (l.filter (difF a b)).map fun p => (sgnF a b p, p) := by
    intro l
    induction l with
    | nil => intro _; rfl
    | cons p r ih =>
      intro hp
      have ih := ih fun q hq => hp q (List.mem_cons_of_mem _ hq)
      have e : rowB (sortF a) (sortF b) p = if difF a b p = true then some (sgnF a b p, p) else none := by
        unfold rowB difF sgnF
        by_cases c1 : p ∈ kys a
        · by_cases c2 : p ∈ kys b
          · rw [get_sort' c1, get_sort' c2]
            simp [mem_sort, c1, c2]
          · simp [mem_sort, c1, c2]
        · simp [mem_sort, c1]
      rw [List.filterMap_cons, List.filter_cons, e]
      by_cases c : difF a b p = true
      · rw [if_pos c, if_pos c, List.map_cons, ih]
      · rw [if_neg c, if_neg c, ih]
  exact key _ fun p hp => both_in hp
end
end K01

-- L01F
set_option maxRecDepth 100000
set_option maxHeartbeats 4000000
namespace K01
open PySem PySem.Spec PyProof.Rows L2 BG LW
open RP hiding Tb
open SSt
theorem text_ok {t : Str} (h : TextN 3 t) : PyData.strOk t = true := by
  obtain ⟨xs, rfl, hl, hx⟩ := h
  have l1 : ∀ x ∈ sgn ("ab=" : Str), ∀ c ∈ TL.tl x, c < 1000 := by decide +kernel
  have jl : ∀ ps : List (List Nat), ∀ c ∈ TL.joinL [] ps, ∃ p ∈ ps, c ∈ p := by
    intro ps
    induction ps with
    | nil => intro c h; cases h
    | cons p r ih =>
      intro c h
      cases r with
      | nil => exact ⟨p, List.mem_cons_self .., h⟩
      | cons q r =>
        have h : c ∈ p ++ ([] ++ TL.joinL [] (q :: r)) := h
        rw [List.nil_append] at h
        rcases List.mem_append.mp h with h | h
        · exact ⟨p, List.mem_cons_self .., h⟩
        · obtain ⟨p', h1, h2⟩ := ih c h
          exact ⟨p', List.mem_cons_of_mem _ h1, h2⟩
  unfold PyData.strOk
  rw [Array.all_eq_true_iff_forall_mem]
  intro c hc
  have hc : c ∈ TL.tl (Txt.join "" xs) := Array.mem_toList_iff.mpr hc
  rw [TL.join_eq, TL.tl_join] at hc
  obtain ⟨p, hp, hcp⟩ := jl _ c hc
  obtain ⟨x, hx2, rfl⟩ := List.mem_map.mp hp
  have := l1 x (hx x hx2) c hcp
  rw [decide_eq_true_iff]
  omega
section
variable {P : Program} {w : World} {K : PySem.W.Frag} {mg : Str → Option Value} {base : Heap} {Bp : Addr} {Ps : List Addr} {pT : Addr} {q0 : Str}
variable {f c : Addr} {k : Nat} {A : Around} {outer : List Env} {s : Shared} {H0 : Hp} {E : XK}
theorem look_tx {a : Fold} (ha : Fd a) {p t : Str} (h : lookD a p = some t) : TextN 3 t := by
  unfold lookD at h
  obtain ⟨e, h1, h2⟩ := Option.map_eq_some_iff.mp h
  rw [← h2]
  exact ha.tx e (List.mem_of_find?_eq_some h1)
theorem signs_in {a b : Fold} (ha : Fd a) (hb : Fd b) {r : Str × Str} (h : r ∈ signsL a b) : r.2 ∈ A6 ∧ (r.1 = "+" ∨ r.1 = "-" ∨ r.1 = "*") := by
  obtain ⟨p, hp, rfl⟩ := List.mem_map.mp h
  have hp := (List.mem_filter.mp hp).1
  refine ⟨(both_in hp).elim (fun h => ha.a6 p h) fun h => hb.a6 p h, ?_⟩
  show sgnF a b p = _ ∨ sgnF a b p = _ ∨ sgnF a b p = _
  unfold sgnF
  split
  · exact .inl rfl
  · split
    · exact .inr (.inl rfl)
    · exact .inr (.inr rfl)
theorem signs_len {a b : Fold} (ha : Fd a) (hb : Fd b) : (signsL a b).length ≤ 12 := by
  unfold signsL
  rw [List.length_map]
  exact Nat.le_trans (List.length_filter_le _ _) (bothL_len ha hb)
theorem chg_is {a b : Fold} (ha : Fd a) (hb : Fd b) : chgF a b = (signsL a b).map fun r => (r.2, lookD b r.2) := by
  unfold chgF
  rw [betw_is ha hb]
theorem oks {a b : Fold} (ha : Fd a) (hb : Fd b) : (okFold a && okFold b) = true := by rw [ha.okF, hb.okF]; rfl
theorem l08 (Z : Callees P w K mg base Bp (PT Ps pT q0) k) (T : Zs mg) (hr : Room k (A.deeper (envOfC "law" (defScope s_law) s.heap.objs.size f (.ref c)))) : ∃ t, PS (LX0 P w K mg base f c A outer s H0 E) (lb 8) t ∧ ∀ d a b B D, Fd a → Fd b → Nx (PT Ps pT q0) B (g0 K d a b) [(d, DiceM)] D.nx → Nx (PT Ps pT q0) B (gO K d a b none none none none none none (some (Is K (signsL a b))) none none none none none none none) [(d, DiceM)] (t D) := by
  obtain ⟨_, _, _, k_between, G_between⟩ := Z.between
  obtain ⟨_, _, _, k_changes_to, G_changes_to⟩ := Z.changes_to
  refine ⟨_, (ps_if (PW.pt (pw_or (pt_cmpR (op_neKK (K0 := K) rfl (by first | exact hr.units | (have := hr.units; omega))) (pe_callTy (call_listKK (K0 := K) rfl) (by rfl) T.list (by decide +kernel) (pa_cons (pe_call G_between.ok (hr.mono k_between) (by rfl) G_between.g G_between.kp G_between.b .nil passF (pa_cons (pv 2) (pa_cons (pv 3) pa_nil))) pa_nil)) (pv 14) (nomark _)) (pw_or1 (pt_cmpR (op_neKK (K0 := K) rfl (by first | exact hr.units | (have := hr.units; omega))) (pe_callTy (call_listKK (K0 := K) rfl) (by rfl) T.list (by decide +kernel) (pa_cons (pe_call G_changes_to.ok (hr.mono k_changes_to) (by rfl) G_changes_to.g G_changes_to.kp G_changes_to.b .nil passF (pa_cons (pv 2) (pa_cons (pv 3) pa_nil))) pa_nil)) (pe_lc (own := [("sign", 15), ("path", 6)]) rfl sc_law.nd (pi_listK (K0 := K) rfl (pv 14)) (blkOk_by (by show blkC Nlaw (defScope s_law) _ _ = true; decide +kernel)) (fun _ _ _ _ _ => (pg_tupKK (n := 2) (K0 := K) rfl rfl (pgs_cons (pg_name (i := 15) sc_law.nd rfl (.inl rfl)) (pgs_cons (pg_name (i := 6) sc_law.nd rfl (.inl rfl)) pgs_nil)))) (fun _ _ _ _ _ => pts_nil) (fun _ _ _ _ _ => (pe_tup (pa_cons (pv 6) (pa_cons (pe_ifExp (pt_cmp (pc_din (by first | exact hu1 | exact SSt.room_u hr) (pv 6) (pv 3)) (by with_unfolding_all rfl)) (pe_dget (by first | exact hu1 | exact SSt.room_u hr) (pv 3) (pv 6) (fun _ _ => rfl)) pe_non) pa_nil))))) (nomark _)))))
      (pss_one (ps_ret pe_bl)) pss_nil), fun d a b B D ha hb nx => ?_⟩
  have sl := signs_len ha hb
  have sok : Dq.ok (signsL a b) := fun r hr => by
    obtain ⟨h1, h2⟩ := signs_in ha hb hr
    refine ⟨?_, (a6_facts r.2 h1).2.2.2.2.2.1⟩
    show PyData.strOk r.1 = true
    rcases h2 with e | e | e <;> rw [e] <;> decide +kernel
  have cok : Dq.ok (chgF a b) := fun e he => by
    rw [chg_is ha hb] at he
    obtain ⟨r, hr, rfl⟩ := List.mem_map.mp he
    exact ⟨(a6_facts r.2 (signs_in ha hb hr).1).2.2.2.2.2.1, fun t ht => text_ok (look_tx hb ht)⟩
  refine Nx.noIf (Et.orF (Et.isF (Ev.op (Ra := Is K (betwF (sortF a) (sortF b))) (Rb := Is K (signsL a b)) (Ev.cb (Ea.cons (Ev.callx ownD ((a, b) : Fold × Fold) (Ea.cons (Ev.var rfl) (Ea.cons (Ev.var rfl) Ea.nil)) (ha.smB hb) (if_pos (oks ha hb))) Ea.nil) (oc_list (Sq.tl (xs := Tl.mk (betwF (sortF a) (sortF b)))))) (Ev.var rfl) (o2_neD (betw_is ha hb ▸ sok) sok)) (ne_self (betw_is ha hb))) (Et.isF (Ev.op (Ra := Is K (chgF a b)) (Rb := Is K (chgF a b)) (Ev.cb (Ea.cons (Ev.callx ownD ((a, b) : Fold × Fold) (Ea.cons (Ev.var rfl) (Ea.cons (Ev.var rfl) Ea.nil)) (ha.smB hb) (if_pos (oks ha hb))) Ea.nil) (oc_list (Sq.tl (xs := Tl.mk (chgF a b))))) ((Ev.lcOf (K := K) (β := Str × Option Str) (L := []) (sl := [15, 6]) (xs := signsL a b) (p := fun _ => true) (f := fun r => (r.2, lookD b r.2)) (Ei.list (Ev.var rfl)) (fun _ h => nomatch h) (by omega) (fun x => _) (fun x _ => Eg.pair Eg.name Eg.name) (fun k hk => hk) (fun x _ => Et.yes) (fun x hx _ => Ev.pair (Ev.var (R := Is K x.2) rfl) (Ev.ite (P := fun t => t = decide (x.2 ∈ kys b)) (Et.isB ((Ev.din (Ev.var (R := Is K x.2) rfl) (Ev.var (R := Is K (Dc.mk b)) rfl) Ds.fz).to look_iff)) (fun h => ?_) (fun h => ?_)))).to ?_) (o2_neD cok cok)) (ne_self rfl))) (nx.gle (by (repeat' (first | exact RP.GLe.nil | apply RP.GLe.keep | apply RP.GLe.drop))))
  · have hm : x.2 ∈ kys b := of_decide_eq_true h.symm
    have e := get_of hm
    refine (Ev.dget (x := getF b x.2) (Ev.var (R := Is K (Dc.mk b)) rfl) Ds.fz (Ev.var (R := Is K x.2) rfl) e).imp fun F v r => ?_
    rw [e]
    exact r
  · have hm : x.2 ∉ kys b := of_decide_eq_false h.symm
    rw [look_none hm]
    exact Ev.non
  · rw [List.filter_eq_self.mpr fun _ _ => rfl]
    exact (chg_is ha hb).symm
end
end K01

-- L01G
set_option maxRecDepth 100000
set_option maxHeartbeats 4000000
namespace K01
open PySem PySem.Spec PyProof.Rows L2 BG LW
open RP hiding Tb
open SSt
theorem dels_is : ∀ {c : Chg} {l : Fold}, (c.map (·.1)).Nodup → (∀ e ∈ c, e.2 = none → e.1 ∈ kys l) → dels c l = some (l.filter fun e => !decide ((e.1, (none : Option Str)) ∈ c))
  | [], l, _, _ => by
    show some l = _
    rw [List.filter_eq_self.mpr]
    intro e _
    rfl
  | (p, some t) :: r, l, nd, h => by
    rw [List.map_cons, List.nodup_cons] at nd
    show dels r l = _
    rw [dels_is nd.2 fun e he => h e (List.mem_cons_of_mem _ he)]
    refine congrArg some (List.filter_congr fun e _ => ?_)
    refine congrArg Bool.not (decide_eq_decide.mpr ?_)
    simp
  | (p, none) :: r, l, nd, h => by
    rw [List.map_cons, List.nodup_cons] at nd
    show (if p ∈ kys l then dels r (dropD l p) else none) = _
    rw [if_pos (h (p, none) (List.mem_cons_self ..) rfl), dels_is nd.2 fun e he hn => ?_]
    · refine congrArg some ?_
      unfold dropD
      rw [List.filter_filter]
      refine List.filter_congr fun e _ => ?_
      by_cases c : e.1 = p
      · simp [c]
      · simp [c]
    · have h1 := h e (List.mem_cons_of_mem _ he) hn
      have ne : e.1 ≠ p := fun z => nd.1 (List.mem_map.mpr ⟨e, he, z⟩)
      obtain ⟨x, hx, e1⟩ := List.mem_map.mp h1
      exact List.mem_map.mpr ⟨x, List.mem_filter.mpr ⟨hx, by simpa [e1] using ne⟩, e1⟩
theorem puts_nd : ∀ {c : Chg} {m : Fold}, (kys m).Nodup → (kys (puts c m)).Nodup
  | [], _, h => h
  | (_, none) :: r, _, h => puts_nd (c := r) h
  | (_, some _) :: r, _, h => puts_nd (c := r) (putD_nodup h)
theorem puts_off : ∀ {c : Chg} {m : Fold} {k : Str}, (∀ t, (k, some t) ∉ c) → lookD (puts c m) k = lookD m k
  | [], _, _, _ => rfl
  | (p, none) :: r, m, k, h => puts_off (c := r) fun t z => h t (List.mem_cons_of_mem _ z)
  | (p, some t) :: r, m, k, h => by
    show lookD (puts r (putD m p t)) k = _
    rw [puts_off (c := r) fun t z => h t (List.mem_cons_of_mem _ z), lookD_put, if_neg]
    intro e
    subst e
    exact h t (List.mem_cons_self ..)
theorem puts_on : ∀ {c : Chg} {m : Fold} {k t : Str}, (c.map (·.1)).Nodup → (k, some t) ∈ c → lookD (puts c m) k = some t
  | [], _, _, _, _, h => nomatch h
  | (p, none) :: r, m, k, t, nd, h => by
    rw [List.map_cons, List.nodup_cons] at nd
    refine puts_on (c := r) nd.2 ?_
    rcases List.mem_cons.mp h with z | z
    · cases z
    · exact z
  | (p, some t2) :: r, m, k, t, nd, h => by
    rw [List.map_cons, List.nodup_cons] at nd
    rcases List.mem_cons.mp h with z | z
    · cases z
      show lookD (puts r (putD m _ _)) _ = _
      rw [puts_off fun t' z => nd.1 (List.mem_map.mpr ⟨_, z, rfl⟩), lookD_put, if_pos rfl]
    · exact puts_on (c := r) nd.2 z
theorem same_kys {r b : Fold} (h : ∀ k, lookD r k = lookD b k) (p : Str) : p ∈ kys r ↔ p ∈ kys b := by
  have h1 := look_iff (l := r) (p := p)
  have h2 := look_iff (l := b) (p := p)
  rw [h p] at h1
  have := h1.symm.trans h2
  exact decide_eq_decide.mp this
theorem Fd.same {r b : Fold} (hb : Fd b) (nd : (kys r).Nodup) (h : ∀ k, lookD r k = lookD b k) : Fd r := ⟨nd, fun p hp => hb.a6 p ((same_kys h p).mp hp), fun e he => look_tx hb ((h e.1).symm.trans (look_at nd he)), fun p hp => out_less (fun z => (same_kys h _).mp z) (hb.ok p ((same_kys h p).mp hp))⟩
theorem same_perm {r b : Fold} (hb : Fd b) (nd : (kys r).Nodup) (h : ∀ k, lookD r k = lookD b k) : (kys r).Perm (kys b) := (List.perm_ext_iff_of_nodup nd hb.nd).mpr (same_kys h)
theorem same_get {r b : Fold} (h : ∀ k, lookD r k = lookD b k) (p : Str) : getF r p = getF b p := by
  unfold getF
  rw [h p]
theorem same_deq {r b : Fold} (hb : Fd b) (nd : (kys r).Nodup) (h : ∀ k, lookD r k = lookD b k) : deqL (sortF r) b = true := by
  have hr := hb.same nd h
  refine deq_get hr.sort.nd ?_ fun k hk => ?_
  · rw [kys_sort]
    exact (ss_perm _).trans (same_perm hb nd h)
  · rw [get_sort' (mem_sort.mp hk), same_get h]
theorem look_sort {a : Fold} (p : Str) : lookD (sortF a) p = lookD a p := by
  by_cases h : p ∈ kys a
  · rw [get_of h, get_of (mem_sort.mpr h), get_sort' h]
  · rw [look_none h, look_none fun z => h (mem_sort.mp z)]
theorem look_filter {l : Fold} {q : Str → Bool} {k : Str} : lookD (l.filter fun e => q e.1) k = if q k = true then lookD l k else none := by
  induction l with
  | nil => unfold lookD; split <;> rfl
  | cons e r ih =>
    rw [List.filter_cons]
    by_cases c : q e.1 = true
    · rw [if_pos c]
      unfold lookD at ih ⊢
      by_cases c2 : e.1 = k
      · subst c2
        rw [if_pos c, List.find?_cons_of_pos (by simp), List.find?_cons_of_pos (by simp)]
      · rw [List.find?_cons_of_neg (by simpa using c2), ih, List.find?_cons_of_neg (by simpa using c2)]
    · rw [if_neg c, ih]
      by_cases c2 : q k = true
      · rw [if_pos c2, if_pos c2]
        have ne : e.1 ≠ k := fun z => c (z ▸ c2)
        unfold lookD
        rw [List.find?_cons_of_neg (by simpa using ne)]
      · rw [if_neg c2, if_neg c2]
theorem chg_kys {a b : Fold} (ha : Fd a) (hb : Fd b) : (chgF a b).map (·.1) = (bothL a b).filter (difF a b) := by
  rw [chg_is ha hb, signsL, List.map_map, List.map_map]
  exact List.map_id' _
theorem chg_nd {a b : Fold} (ha : Fd a) (hb : Fd b) : ((chgF a b).map (·.1)).Nodup := by
  rw [chg_kys ha hb]
  exact ((ss_perm _).nodup_iff.mpr (orL_nodup ha.nd hb.nd)).sublist List.filter_sublist
theorem chg_mem {a b : Fold} (ha : Fd a) (hb : Fd b) {p : Str} {o : Option Str} : (p, o) ∈ chgF a b ↔ (p ∈ kys a ∨ p ∈ kys b) ∧ difF a b p = true ∧ o = lookD b p := by
  rw [chg_is ha hb, signsL, List.map_map]
  constructor
  · intro h
    obtain ⟨q, hq, e⟩ := List.mem_map.mp h
    cases e
    obtain ⟨h1, h2⟩ := List.mem_filter.mp hq
    exact ⟨both_in h1, h2, rfl⟩
  · rintro ⟨h1, h2, rfl⟩
    exact List.mem_map.mpr ⟨p, List.mem_filter.mpr ⟨ss_mem.mpr (mem_orL.mpr h1), h2⟩, rfl⟩
/-- the changes from a to b, made on a -/
def doneF (a b : Fold) : Fold := puts (chgF a b) ((sortF a).filter fun e => !decide ((e.1, (none : Option Str)) ∈ chgF a b))
theorem dels_chg {a b : Fold} (ha : Fd a) (hb : Fd b) : dels (chgF a b) (sortF a) = some ((sortF a).filter fun e => !decide ((e.1, (none : Option Str)) ∈ chgF a b)) := dels_is (chg_nd ha hb) fun e he hn => by
  obtain ⟨p, o⟩ := e
  obtain ⟨h1, h2, h3⟩ := (chg_mem ha hb).mp he
  have hn : o = none := hn
  rw [hn] at h3
  refine mem_sort.mpr (h1.resolve_right fun z => ?_)
  rw [get_of z] at h3
  cases h3
theorem done_nd {a b : Fold} (ha : Fd a) : (kys (doneF a b)).Nodup := puts_nd (ha.sort.nd.sublist (List.filter_sublist.map _))
theorem done_look {a b : Fold} (ha : Fd a) (hb : Fd b) (k : Str) : lookD (doneF a b) k = lookD b k := by
  unfold doneF
  by_cases hd : difF a b k = true
  · by_cases kb : k ∈ kys b
    · have hm : (k, some (getF b k)) ∈ chgF a b := (chg_mem ha hb).mpr ⟨.inr kb, hd, (get_of kb).symm⟩
      rw [puts_on (chg_nd ha hb) hm, get_of kb]
    · have no : ∀ t, (k, some t) ∉ chgF a b := fun t z => by
        have := ((chg_mem ha hb).mp z).2.2
        rw [look_none kb] at this
        cases this
      rw [puts_off no, look_none kb]
      rw [look_filter (q := fun p => !decide ((p, (none : Option Str)) ∈ chgF a b))]
      by_cases ka : k ∈ kys a
      · have hm : (k, (none : Option Str)) ∈ chgF a b := (chg_mem ha hb).mpr ⟨.inl ka, hd, (look_none kb).symm⟩
        rw [if_neg (by simpa using hm)]
      · rw [look_sort, look_none ka]
        split <;> rfl
  · have nm : ∀ o, (k, o) ∉ chgF a b := fun o z => hd ((chg_mem ha hb).mp z).2.1
    rw [puts_off fun t => nm _, look_filter (q := fun p => !decide ((p, (none : Option Str)) ∈ chgF a b)), if_pos (by simpa using nm none), look_sort]
    unfold difF at hd
    simp only [Bool.or_eq_true, Bool.not_eq_true', decide_eq_false_iff_not, not_or, Classical.not_not] at hd
    obtain ⟨h1, h2, h3⟩ := hd
    rw [get_of h1, get_of h2, h3]
theorem done_is {a b : Fold} (ha : Fd a) (hb : Fd b) : chgdF a (chgF a b) = sortF (doneF a b) := by
  unfold chgdF
  rw [dels_chg ha hb]
  rfl
theorem done_ok {a b : Fold} (ha : Fd a) (hb : Fd b) : okChgd a (chgF a b) = true := by
  unfold okChgd
  rw [ha.okF, dels_chg ha hb]
  exact (hb.same (done_nd ha) (done_look ha hb)).okF
theorem done_sm {a b : Fold} (ha : Fd a) (hb : Fd b) (t : Bool) : SmC (a, (t, chgF a b)) := by
  refine ⟨ha.smD, ?_, fun e he => ?_, fun m hm => ?_⟩
  · show (chgF a b).length ≤ 100
    rw [chg_is ha hb, List.length_map]
    have := signs_len ha hb
    omega
  · have he : e ∈ chgF a b := he
    rw [chg_is ha hb] at he
    obtain ⟨r, hr, rfl⟩ := List.mem_map.mp he
    exact (a6_facts r.2 (signs_in ha hb hr).1).2.2.1
  · have hm : dels (chgF a b) (sortF a) = some m := hm
    rw [dels_chg ha hb] at hm
    cases hm
    exact (hb.same (done_nd ha) (done_look ha hb)).smD
section
variable {P : Program} {w : World} {K : PySem.W.Frag} {mg : Str → Option Value} {base : Heap} {Bp : Addr} {Ps : List Addr} {pT : Addr} {q0 : Str}
variable {f c : Addr} {k : Nat} {A : Around} {outer : List Env} {s : Shared} {H0 : Hp} {E : XK}
theorem l09 (Z : Callees P w K mg base Bp (PT Ps pT q0) k) (T : Zs mg) (hr : Room k (A.deeper (envOfC "law" (defScope s_law) s.heap.objs.size f (.ref c)))) : ∃ t, PS (LX0 P w K mg base f c A outer s H0 E) (lb 9) t ∧ ∀ d a b B D, Fd a → Fd b → Nx (PT Ps pT q0) B (g0 K d a b) [(d, DiceM)] D.nx → Nx (PT Ps pT q0) B (g0 K d a b) [(d, DiceM)] (t D) := by
  obtain ⟨_, _, _, k_changed, G_changed⟩ := Z.changed
  obtain ⟨_, _, _, k_changes_to, G_changes_to⟩ := Z.changes_to
  refine ⟨_, (ps_if (PW.pt (pw_or (pt_cmpR (RU.op_neF (Nat.lt_of_le_of_lt (Nat.le_add_right _ _) hr.units)) (pe_call G_changed.ok (hr.mono k_changed) (by rfl) G_changed.g G_changed.kp G_changed.b .nil passF (pa_cons (pv 2) (pa_cons (pe_call G_changes_to.ok (hr.mono k_changes_to) (by rfl) G_changes_to.g G_changes_to.kp G_changes_to.b .nil passF (pa_cons (pv 2) (pa_cons (pv 3) pa_nil))) pa_nil))) (pv 3) (nomark _)) (pw_or (pt_cmpR (op_neKK (K0 := K) rfl (by first | exact hr.units | (have := hr.units; omega))) (pe_callTy (call_listD rfl) (by rfl) T.list (by decide +kernel) (pa_cons (pe_call G_changed.ok (hr.mono k_changed) (by rfl) G_changed.g G_changed.kp G_changed.b .nil passF (pa_cons (pv 2) (pa_cons (pe_call G_changes_to.ok (hr.mono k_changes_to) (by rfl) G_changes_to.g G_changes_to.kp G_changes_to.b .nil passF (pa_cons (pv 2) (pa_cons (pv 3) pa_nil))) pa_nil))) pa_nil)) (pe_callB (call_sortedD rfl) (by rfl) T.sorted (by decide +kernel) (pa_cons (pv 3) pa_nil)) (nomark _)) (pw_or1 (pt_cmpR (RU.op_neF (Nat.lt_of_le_of_lt (Nat.le_add_right _ _) hr.units)) (pe_call G_changed.ok (hr.mono k_changed) (by rfl) G_changed.g G_changed.kp G_changed.b .nil passF (pa_cons (pv 2) (pa_cons (pe_tup pa_nil) pa_nil))) (pv 2) (nomark _))))))
      (pss_one (ps_ret pe_bl)) pss_nil), fun d a b B D ha hb nx => ?_⟩
  have hct : ∀ {G : Gm} (h2 : G[2]? = some (some (Is K (Dc.mk a)))) (h3 : G[3]? = some (some (Is K (Dc.mk b)))), Ev (PT Ps pT q0) G [(d, DiceM)] (tCall (sp_changes_to (PT Ps pT q0) K Bp) [] (fun _ _ _ => False) (tCons (tVar 2) (tCons (tVar 3) tNil))) (IsC K (true, chgF a b)) := fun h2 h3 => Ev.callx ownD ((a, b) : Fold × Fold) (Ea.cons (Ev.var h2) (Ea.cons (Ev.var h3) Ea.nil)) (ha.smB hb) (if_pos (oks ha hb))
  have hch : ∀ {G : Gm} {te : TE} (h2 : G[2]? = some (some (Is K (Dc.mk a)))) (ch : Chg) (h : Ev (PT Ps pT q0) G [(d, DiceM)] te (IsC K (true, ch))) (sm : SmC (a, (true, ch))) (ok : okChgd a ch = true), Ev (PT Ps pT q0) G [(d, DiceM)] (tCall (sp_changed (PT Ps pT q0) K Bp) [] (fun _ _ _ => False) (tCons (tVar 2) (tCons te tNil))) (Is K (Dc.mk (chgdF a ch))) := fun h2 ch h sm ok => Ev.calloD ownD ((a, (true, ch)) : Fold × (Bool × Chg)) (Ea.cons (Ev.var h2) (Ea.cons h Ea.nil)) sm (if_pos ok)
  have sm0 : SmC (a, (true, ([] : Chg))) := ⟨ha.smD, Nat.zero_le _, (fun e he => nomatch he), (fun m hm => by
    have hm : some (sortF a) = some m := hm
    cases hm
    exact ha.sort.smD)⟩
  have ok0 : okChgd a [] = true := by
    unfold okChgd
    rw [ha.okF]
    exact ha.sort.okF
  refine Nx.noIf (Et.orF (Et.isF (Ev.op (Ra := Is K (Dc.mk (chgdF a (chgF a b)))) (Rb := Is K (Dc.mk b)) (hch rfl _ (hct rfl rfl) (done_sm ha hb true) (done_ok ha hb)) (Ev.var rfl) (o2_deq (neg := true) (l := chgdF a (chgF a b)) (m := b) (Ds.fz (l := Dc.mk _)) (Ds.fz (l := Dc.mk b)))) ?_) (Et.orF (Et.isF (Ev.op (Ra := Is K (kys (chgdF a (chgF a b)))) (Rb := Is K (ss (kys b))) (Ev.cb (Ea.cons (hch rfl _ (hct rfl rfl) (done_sm ha hb true) (done_ok ha hb)) Ea.nil) (oc_listD (Ds.fz (l := Dc.mk _)))) (Ev.exiIs (Ev.cb (Ea.cons (Ev.var rfl) Ea.nil) (oc_sortD (Ds.fz (l := Dc.mk b)) (by have := hb.len; show b.length < 64; omega))) fun ys h => eq_ssS h.1 h.2) (o2_neD (fun p hp => ?_) (fun p hp => ?_))) ?_) (Et.isF (Ev.op (Ra := Is K (Dc.mk (chgdF a []))) (Rb := Is K (Dc.mk a)) (hch rfl [] (Ev.tupL (K := K) (xs := ([] : Chg)) Ea.nil (by show 0 ≤ 100; decide)) sm0 ok0) (Ev.var rfl) (o2_deq (neg := true) (l := chgdF a []) (m := a) (Ds.fz (l := Dc.mk _)) (Ds.fz (l := Dc.mk a)))) ?_))) nx
  · show (!deqL _ _) = false
    rw [done_is ha hb, same_deq hb (done_nd ha) (done_look ha hb)]
    rfl
  · rw [done_is ha hb] at hp
    exact (a6_facts p ((hb.same (done_nd ha) (done_look ha hb)).sort.a6 p hp)).2.2.2.2.2.1
  · exact (a6_facts p (hb.a6 p (ss_mem.mp hp))).2.2.2.2.2.1
  · refine ne_self ?_
    rw [done_is ha hb, kys_sort]
    exact ss_congr (same_perm hb (done_nd ha) (done_look ha hb))
  · show (!deqL _ _) = false
    have : chgdF a [] = sortF (sortF a) := rfl
    rw [this, same_deq ha ha.sort.nd fun k => look_sort k]
    rfl
end
end K01

-- L01H
set_option maxRecDepth 100000
set_option maxHeartbeats 4000000
namespace RP
open PySem PySem.Spec PyProof.Rows L2
open Rp (rp)
section
variable {Ps : Tbs} {B : Bs} {M : Mu} {G : Gm} {K : PySem.W.Frag} {R : VRel} {te : TE} {D : L2.Ends} {α β : Type} [Rp α] [Rp β]
theorem Nx.tparL {i j : Nat} (h : Ev Ps G M te R) (nx : ∀ a, Nx Ps B ((G.set i (some R)).set j (some (At a))) ((a, LstM K ([] : List α)) :: M) D.nx) : Nx Ps B G M (L2.tPar i j (tCons te (tCons (tLst tNil) tNil)) D) := fun σ F H s => h σ F H _ s.en s.sh fun v F1 H1 e1 r1 => by
  have s1 := s.evo e1
  refine ⟨Nat.zero_le _, fun p hp => ?_⟩
  have s2 := s1.new (r := LstM K ([] : List α)) hp ⟨_, rfl, .nil⟩
  exact ⟨v, _, rfl, nx p _ F1 _ (s2.env ((s2.en.set r1).set rfl))⟩
theorem o2_neDL [DecidableEq α] [Dq α] {x y : List α} {a : Addr} (hM : (a, LstM K y) ∈ M) (hx : Dq.ok x) (hy : Dq.ok y) (n : Dq.n (List α) ≤ 64 := by decide) : O2 Ps M (rNeD K) (Is K x) (At a) (Is K (!decide (x = y))) := fun F H v w Q s r1 r2 q => by
  cases r2
  obtain ⟨o, h1, vs, rfl, p⟩ := s.mu _ hM
  exact ⟨_, _, Dq.dp K F H v x s.sub r1, (show Dp K H (.ref a) (Dq.d y) from .lst (SqL.of h1) (dpAll s.sub p)), Dq.shaped hx n, Dq.shaped hy n, q _ F H s.refl (congrArg (fun b => V.bl (!b)) (by rw [Bool.eq_iff_iff, Dq.eqv, decide_eq_true_iff]))⟩
end
end RP
namespace K01
open PySem PySem.Spec PyProof.Rows L2 BG LW
open RP hiding Tb
open SSt
def goneL (a b : Fold) : List Str := (ss (kys a)).filter fun p => !decide (p ∈ kys b)
def lwS (a b : Fold) (st : List Str × List (Str × Str)) (p : Str) : List Str × List (Str × Str) := if p ∈ kys a then st else mvStep a b st p
def foundL (a b : Fold) : List (Str × Str) := ((ss (kys b)).foldl (lwS a b) (goneL a b, [])).2
theorem sign_plus {a b : Fold} (ha : Fd a) (hb : Fd b) : signF "+" a b = (ss (kys b)).filter fun p => !decide (p ∈ kys a) := by
  unfold signF
  rw [betw_is ha hb, signsL, List.filter_map, List.map_map]
  show List.map (fun p => p) _ = _
  rw [List.map_id', List.filter_filter]
  unfold bothL
  rw [ss_filter, ss_filter]
  refine ss_congr ((List.perm_ext_iff_of_nodup ((orL_nodup ha.nd hb.nd).sublist List.filter_sublist) (hb.nd.sublist List.filter_sublist)).mpr fun p => ?_)
  rw [List.mem_filter, List.mem_filter, mem_orL]
  by_cases c1 : p ∈ kys a
  · by_cases c2 : p ∈ kys b
    · simp [sgnF, c1, c2]
      exact fun h => absurd h (by decide +kernel)
    · simp [sgnF, c1, c2]
      exact fun h => absurd h (by decide +kernel)
  · simp [sgnF, difF, c1]
theorem sign_minus {a b : Fold} (ha : Fd a) (hb : Fd b) : signF "-" a b = goneL a b := by
  unfold signF goneL
  rw [betw_is ha hb, signsL, List.filter_map, List.map_map]
  show List.map (fun p => p) _ = _
  rw [List.map_id', List.filter_filter]
  unfold bothL
  rw [ss_filter, ss_filter]
  refine ss_congr ((List.perm_ext_iff_of_nodup ((orL_nodup ha.nd hb.nd).sublist List.filter_sublist) (ha.nd.sublist List.filter_sublist)).mpr fun p => ?_)
  rw [List.mem_filter, List.mem_filter, mem_orL]
  by_cases c1 : p ∈ kys a
  · by_cases c2 : p ∈ kys b
    · simp [sgnF, c1, c2]
      exact fun h => absurd h (by decide +kernel)
    · simp [sgnF, difF, c1, c2]
  · simp [sgnF, c1]
    exact fun _ _ h => absurd h (by decide +kernel)
theorem found_is {a b : Fold} (ha : Fd a) (hb : Fd b) : movedF a b = foundL a b := by
  unfold movedF foundL
  rw [sign_plus ha hb, sign_minus ha hb]
  have key : ∀ (l : List Str) st, (l.filter fun p => !decide (p ∈ kys a)).foldl (mvStep a b) st = l.foldl (lwS a b) st := by
    intro l
    induction l with
    | nil => intro st; rfl
    | cons p r ih =>
      intro st
      rw [List.filter_cons, List.foldl_cons]
      unfold lwS
      by_cases c : p ∈ kys a
      · rw [if_neg (by simpa using c), if_pos c]
        exact ih st
      · rw [if_pos (by simpa using c), if_neg c]
        exact ih _
  rw [key]
theorem fold_in {a b : Fold} : ∀ (L : List Str) (st : List Str × List (Str × Str)), (∀ o ∈ st.1, o ∈ A6) → (∀ e ∈ st.2, e.1 ∈ A6 ∧ e.2 ∈ A6) → (∀ p ∈ L, p ∈ A6) → ∀ e ∈ (L.foldl (lwS a b) st).2, e.1 ∈ A6 ∧ e.2 ∈ A6
  | [], _, _, h, _ => h
  | p :: r, st, h1, h2, h3 => by
    rw [List.foldl_cons]
    have h4 : ∀ q ∈ r, q ∈ A6 := fun q hq => h3 q (List.mem_cons_of_mem _ hq)
    unfold lwS
    split
    · exact fold_in r st h1 h2 h4
    · unfold mvStep
      split
      · exact fold_in r st h1 h2 h4
      · rename_i o t e
        have om : o ∈ st.1 := by
          have : o ∈ sameF a b st.1 p := by rw [e]; exact List.mem_cons_self ..
          exact (List.mem_filter.mp this).1
        refine fold_in r _ (fun q hq => h1 q (List.mem_of_mem_erase hq)) (fun q hq => ?_) h4
        rcases List.mem_append.mp hq with hq | hq
        · exact h2 q hq
        · rw [List.mem_singleton.mp hq]
          exact ⟨h1 o om, h3 p (List.mem_cons_self ..)⟩
theorem plus_le {a b : Fold} (ha : Fd a) (h : NextP a 3 b) : (signF "+" a b).length ≤ 1 := by
  obtain ⟨_, _, ⟨k0, _, h4⟩, _⟩ := id h
  have hb := ha.of_next h
  rw [sign_plus ha hb]
  have nd : ((ss (kys b)).filter fun p => !decide (p ∈ kys a)).Nodup := ((ss_perm _).nodup_iff.mpr hb.nd).sublist List.filter_sublist
  exact nodup_len (m := [k0]) nd fun p hp => by
    obtain ⟨h1, h2⟩ := List.mem_filter.mp hp
    have h2 : p ∉ kys a := by simpa using h2
    exact List.mem_singleton.mpr ((h4 p (ss_mem.mp h1)).resolve_left h2)
section
variable {P : Program} {w : World} {K : PySem.W.Frag} {mg : Str → Option Value} {base : Heap} {Bp : Addr} {Ps : List Addr} {pT : Addr} {q0 : Str}
variable {f c : Addr} {k : Nat} {A : Around} {outer : List Env} {s : Shared} {H0 : Hp} {E : XK}
theorem l10 (T : Zs mg) (hr : Room k (A.deeper (envOfC "law" (defScope s_law) s.heap.objs.size f (.ref c)))) : ∃ t, PS (LX0 P w K mg base f c A outer s H0 E) (lb 10) t ∧ ∀ d a b B D, Fd a → Fd b → (∀ fo, Nx (PT Ps pT q0) B (gO K d a b none none none none none none none (iS K (goneL a b)) (some (At fo)) none none none none none) [(fo, LstM K ([] : List (Str × Str))), (d, DiceM)] D.nx) → Nx (PT Ps pT q0) B (g0 K d a b) [(d, DiceM)] (t D) := by
  refine ⟨_, (ps_par (i := 16) (j := 17) rfl sc_law.nd rfl rfl (by decide) rfl rfl (pa_cons (pe_lc (own := [("path", 6)]) rfl sc_law.nd (pi_listK (K0 := K) rfl (pv 4)) (blkOk_by (by show blkC Nlaw (defScope s_law) _ _ = true; decide +kernel)) (fun _ _ _ _ _ => (pg_name (i := 6) sc_law.nd rfl (.inl rfl))) (fun _ _ _ _ _ => (pts_one (pt_cmp (pc_dnotin (by first | exact hu1 | exact SSt.room_u hr) (pv 6) (pv 3)) (by with_unfolding_all rfl)))) (fun _ _ _ _ _ => (pv 6))) (pa_cons (pe_lst pa_nil) pa_nil)) (by rfl)), fun d a b B D ha hb nx => ?_⟩
  refine Nx.tparL (K := K) (α := Str × Str) (R := Is K (goneL a b)) ((Ev.lcL (K := K) (xs := ss (kys a)) (i := 6) (p := fun p => !decide (p ∈ kys b)) (f := fun p => p) (Ev.var rfl) (by have := sort_len ha; omega) (fun x hx => Et.isB ((Ev.dnotin (Ev.var (R := Is K x) rfl) (Ev.var (R := Is K (Dc.mk b)) rfl) Ds.fz).to ?_)) (fun x _ _ => Ev.var rfl)).to (List.map_id' _)) nx
  rw [← look_iff]
  first | done | (cases lookD b x <;> rfl)
theorem l11 (T : Zs mg) (hr : Room k (A.deeper (envOfC "law" (defScope s_law) s.heap.objs.size f (.ref c)))) : ∃ t, PS (LX0 P w K mg base f c A outer s H0 E) (lb 11) t ∧ ∀ d a b fo B D, Fd a → Fd b → Nx (PT Ps pT q0) B (gO K d a b none none none none none none none none (some (At fo)) none none none none none) [(fo, LstM K (foundL a b)), (d, DiceM)] D.nx → Nx (PT Ps pT q0) B (gO K d a b none none none none none none none (iS K (goneL a b)) (some (At fo)) none none none none none) [(fo, LstM K ([] : List (Str × Str))), (d, DiceM)] (t D) := by
  refine ⟨_, (ps_for (passes_of rfl) rfl (pi_listK (K0 := K) rfl (pe_callB (call_sortedD rfl) (by rfl) T.sorted (by decide +kernel) (pa_cons (pv 3) pa_nil))) (pg_name (i := 6) sc_law.nd rfl (.inr rfl))
      (pss_cons (ps_set (i := 18) sc_law.nd rfl (.inr rfl) (pe_lc (own := [("old", 19)]) rfl sc_law.nd (pi_listK (K0 := K) rfl (pv 16)) (blkOk_by (by show blkC Nlaw (defScope s_law) _ _ = true; decide +kernel)) (fun _ _ _ _ _ => (pg_name (i := 19) sc_law.nd rfl (.inl rfl))) (fun _ _ _ _ _ => (pts_one (pt_cmpR op_eq (pe_dget (by first | exact hu1 | exact SSt.room_u hr) (pv 2) (pv 19) (fun _ _ => rfl)) (pe_dget (by first | exact hu1 | exact SSt.room_u hr) (pv 3) (pv 6) (fun _ _ => rfl)) (nomark _)))) (fun _ _ _ _ _ => (pv 19))))
    (pss_one (ps_if (PW.pt (pw_and (pt_cmp (pc_dnotin (by first | exact hu1 | exact SSt.room_u hr) (pv 6) (pv 2)) (by with_unfolding_all rfl)) (pw_and1 (pt_cmpR (op_neKK (K0 := K) rfl (by first | exact hr.units | (have := hr.units; omega))) (pv 18) (pe_lst pa_nil) (nomark _)))))
      (pss_cons (ps_expr (pe_bm PySem.F.plainAttrs_list PySem.F.slot_list_append PySem.F.type_list_append mt_append (pv 17) (pa_cons (pe_tup (pa_cons (pe_ix (ix_listKK (K0 := K) rfl) (pv 18) pe_int (fun _ _ => rfl)) (pa_cons (pv 6) pa_nil))) pa_nil)))
    (pss_one (ps_setLc (i := 16) (own := [("old", 19)]) rfl sc_law.nd rfl rfl (sw_true rfl rfl rfl (by rfl)) (pi_listK (K0 := K) rfl (pv 16)) (blkOk_by (by show blkC Nlaw (defScope s_law) _ _ = true; decide +kernel)) (fun _ _ _ _ _ => (pg_name (i := 19) sc_law.nd rfl (.inl rfl))) (fun _ _ _ _ _ => (pts_one (pt_cmpR op_ne (pv 19) (pe_ix (ix_listKK (K0 := K) rfl) (pv 18) pe_int (fun _ _ => rfl)) (nomark _)))) (fun _ _ _ _ _ => (pv 19))))) pss_nil)))), fun d a b fo B D ha hb nx => ?_⟩
  have la := ha.len
  have lb := hb.len
  refine Nx.for0 (γ := Str) (δ := List Str × List (Str × Str)) (L := []) (Ei.list (K := K) (xs := ss (kys b)) (Ev.exiIs (Ev.cb (Ea.cons (Ev.var rfl) Ea.nil) (oc_sortD (Ds.fz (l := Dc.mk b)) (by show b.length < 64; omega))) fun ys h => eq_ssS h.1 h.2)) (fun i st => st = ((ss (kys b)).take i).foldl (lwS a b) (goneL a b, []) ∧ st.1.Nodup ∧ (∀ o ∈ st.1, o ∈ kys a) ∧ st.1.length ≤ 6 ∧ st.2.length ≤ i) (fun _ st => gO K d a b none none none none none none none (iS K st.1) (some (At fo)) none none none none none) (fun _ st => [(fo, LstM K st.2), (d, DiceM)]) (fun _ _ _ _ h => nomatch h) (fun i x => (ss (kys b))[i]? = some x) (fun _ x => Is K x) (fun i _ F v r => r) (goneL a b, []) ⟨rfl, ((ss_perm _).nodup_iff.mpr ha.nd).sublist List.filter_sublist, fun o ho => ss_mem.mp (List.mem_filter.mp ho).1, Nat.le_trans (List.length_filter_le _ _) (sort_len ha), Nat.le_refl _⟩ GLe.refl rfl _ (fun i c x _ _ _ => Eg.name) (fun B' ble i st x hlt iv px N hN => ?_) fun st iv => ?_
  · obtain ⟨iv1, iv2, iv3, iv4, iv5⟩ := iv
    have hlt : i < 7 := Nat.lt_of_lt_of_le hlt (Nat.le_trans (sort_len hb) (by decide))
    have kb : x ∈ kys b := ss_mem.mp (List.mem_of_getElem? px)
    have nxt : ((ss (kys b)).take (i + 1)).foldl (lwS a b) (goneL a b, []) = lwS a b st x := by
      rw [List.take_add_one, px, List.foldl_append, ← iv1]
      rfl
    refine Nx.seq (Nx.set (R := Is K (sameF a b st.1 x)) ((Ev.lcL (K := K) (xs := st.1) (i := 19) (p := fun o => decide (getF a o = getF b x)) (f := fun o => o) (Ev.var rfl) (by omega) (fun o ho => Et.is (Ev.op (Ev.dget (Ev.var (R := Is K (Dc.mk a)) rfl) Ds.fz (Ev.var (R := Is K o) rfl) (get_of (iv3 o ho))) (Ev.dget (Ev.var (R := Is K (Dc.mk b)) rfl) Ds.fz (Ev.var (R := Is K x) rfl) (get_of kb)) o2_eq)) (fun o _ _ => Ev.var rfl)).to (List.map_id' _)) ?_)
    dsimp only
    refine Nx.ite (P := fun t => t = (!decide (x ∈ kys a) && !decide (sameF a b st.1 x = []))) (Et.and (P1 := fun t => t = !decide (x ∈ kys a)) (Et.isB ((Ev.dnotin (Ev.var (R := Is K x) rfl) (Ev.var (R := Is K (Dc.mk a)) rfl) Ds.fz).to ?_)) (fun h => by rw [← h]; rfl) (fun h => ?_)) (fun hb => ?_) (fun hb => ?_)
    · rw [← look_iff]
      first | done | (cases lookD a x <;> rfl)
    · rw [← h, Bool.true_and]
      exact Et.is (Ev.op (Ev.var (R := Is K (sameF a b st.1 x)) rfl) (Ev.lstL (K := K) (xs := ([] : List Str)) Ea.nil (by show 0 ≤ 100; decide)) (o2_neD (fun o ho => (a6_facts o (ha.a6 o (iv3 o (List.mem_filter.mp ho).1))).2.2.2.2.2.1) (fun _ h => nomatch h)))
    · have hb := hb.symm
      rw [Bool.and_eq_true] at hb
      have na : x ∉ kys a := by simpa using hb.1
      have ne : sameF a b st.1 x ≠ [] := by simpa using hb.2
      obtain ⟨o, r, e⟩ : ∃ o r, sameF a b st.1 x = o :: r := by
        cases e : sameF a b st.1 x with
        | nil => exact absurd e ne
        | cons o r => exact ⟨o, r, rfl⟩
      have om : o ∈ st.1 := by
        have : o ∈ sameF a b st.1 x := by rw [e]; exact List.mem_cons_self ..
        exact (List.mem_filter.mp this).1
      have es : lwS a b st x = (st.1.erase o, st.2 ++ [(o, x)]) := by
        unfold lwS mvStep
        rw [if_neg na, e]
      have ee : st.1.erase o = st.1.filter fun p => !decide (p = o) := by
        rw [iv2.erase_eq_filter]
        refine List.filter_congr fun p _ => ?_
        show (!(p == o)) = !decide (p = o)
        refine congrArg Bool.not ?_
        rw [Bool.eq_iff_iff]
        simp
      have ix : ∀ {G : Gm} {M : Mu} (hG : G[18]? = some (some (Is K (sameF a b st.1 x)))), Ev (PT Ps pT q0) G M (tOp (rIxL K) (tVar 18) (tC (.int 0))) (Is K o) := fun hG => Ev.op (Ev.var hG) Ev.int (o2_ixL Ls.fz (by rw [e]; simp [atI, ixN]))
      refine Nx.seq (Nx.app (K := K) (x := ((o, x) : Str × Str)) (xs := st.2) (j := 0) (a := fo) (Ev.var rfl) (Ev.pair (K := K) (ix rfl) (Ev.var (R := Is K x) rfl)) rfl (by omega) ?_)
      dsimp only
      refine Nx.set (R := Is K (st.1.erase o)) ((Ev.lcL (K := K) (xs := st.1) (i := 19) (p := fun p => !decide (p = o)) (f := fun p => p) (Ev.var rfl) (by omega) (fun p hp => Et.is (Ev.op (Ev.var (R := Is K p) rfl) (ix rfl) o2_ne)) (fun o _ _ => Ev.var rfl)).to ((List.map_id' _).trans ee.symm)) ?_
      exact (hN (st.1.erase o, st.2 ++ [(o, x)]) ⟨by rw [nxt, es], iv2.erase o, fun p hp => iv3 p (List.mem_of_mem_erase hp), Nat.le_trans (List.length_erase_le ..) iv4, by rw [List.length_append]; exact Nat.add_le_add_right iv5 1⟩).gle (by (repeat' (first | exact RP.GLe.nil | apply RP.GLe.keep | apply RP.GLe.drop)))
    · have hb := hb.symm
      have es : lwS a b st x = st := by
        unfold lwS
        by_cases c : x ∈ kys a
        · rw [if_pos c]
        · rw [if_neg c]
          rw [decide_eq_false c] at hb
          have e : sameF a b st.1 x = [] := by simpa using hb
          unfold mvStep
          rw [e]
      exact (hN st ⟨by rw [nxt, es], iv2, iv3, iv4, by omega⟩).gle (by (repeat' (first | exact RP.GLe.nil | apply RP.GLe.keep | apply RP.GLe.drop)))
  · obtain ⟨iv1, _⟩ := iv
    rw [List.take_length] at iv1
    have e : st.2 = foundL a b := by
      unfold foundL
      rw [iv1]
    rw [e]
    exact nx.gle (by (repeat' (first | exact RP.GLe.nil | apply RP.GLe.keep | apply RP.GLe.drop)))
theorem l12 (Z : Callees P w K mg base Bp (PT Ps pT q0) k) (T : Zs mg) (hr : Room k (A.deeper (envOfC "law" (defScope s_law) s.heap.objs.size f (.ref c)))) : ∃ t, PS (LX0 P w K mg base f c A outer s H0 E) (lb 12) t ∧ ∀ d a b fo B D, Fd a → NextP a 3 b → Nx (PT Ps pT q0) B (g0 K d a b) [(d, DiceM)] D.nx → Nx (PT Ps pT q0) B (gO K d a b none none none none none none none none (some (At fo)) none none none none none) [(fo, LstM K (foundL a b)), (d, DiceM)] (t D) := by
  obtain ⟨_, _, _, k_moved, G_moved⟩ := Z.moved
  refine ⟨_, (ps_if (pt_cmpR (op_neKK (K0 := K) rfl (by first | exact hr.units | (have := hr.units; omega))) (pe_callTy (call_listKK (K0 := K) rfl) (by rfl) T.list (by decide +kernel) (pa_cons (pe_call G_moved.ok (hr.mono k_moved) (by rfl) G_moved.g G_moved.kp G_moved.b .nil passF (pa_cons (pv 2) (pa_cons (pv 3) pa_nil))) pa_nil)) (pv 17) (nomark _))
      (pss_one (ps_ret pe_bl)) pss_nil), fun d a b fo B D ha hn nx => ?_⟩
  have hb := ha.of_next hn
  have own : ∀ e ∈ [(fo, LstM K (foundL a b)), (d, DiceM)], e.2.own = true := fun e he => by
    simp only [List.mem_cons, List.not_mem_nil, or_false] at he
    rcases he with rfl | rfl <;> rfl
  have fok : Dq.ok (foundL a b) := fun e he => by
    obtain ⟨h1, h2⟩ := fold_in (a := a) (b := b) (ss (kys b)) (goneL a b, []) (fun o ho => ha.a6 o (ss_mem.mp (List.mem_filter.mp ho).1)) (fun _ h => nomatch h) (fun p hp => hb.a6 p (ss_mem.mp hp)) e he
    exact ⟨(a6_facts e.1 h1).2.2.2.2.2.1, (a6_facts e.2 h2).2.2.2.2.2.1⟩
  refine Nx.noIf (Et.isF (Ev.op (Ra := Is K (movedF a b)) (Rb := At fo) (Ev.cb (Ea.cons (Ev.callx own ((a, b) : Fold × Fold) (Ea.cons (Ev.var rfl) (Ea.cons (Ev.var rfl) Ea.nil)) ⟨ha.smB hb, plus_le ha hn, fun p hp => (a6_facts p (ha.a6 p hp)).2.2.2.2.2.1⟩ (if_pos (oks ha hb))) Ea.nil) (oc_list (Sq.tl (xs := Tl.mk (movedF a b))))) (Ev.var rfl) (o2_neDL (List.mem_cons_self ..) (found_is ha hb ▸ fok) fok)) (ne_self (found_is ha hb))) ?_
  exact Nx.less (M' := [(d, DiceM)]) (List.sublist_cons_self ..) (fun e he => .inr (own e he)) (nx.gle (by (repeat' (first | exact RP.GLe.nil | apply RP.GLe.keep | apply RP.GLe.drop))))
end
end K01

-- L01I
set_option maxRecDepth 100000
set_option maxHeartbeats 4000000
namespace K01
open PySem PySem.Spec PyProof.Rows L2 BG LW
open RP hiding Tb
open SSt
def txsL (g : Str → Str) (L : List Str) : List Str := (mergeD (L.map fun p => (g p, (1 : Int)))).map (·.1)
theorem txs_snoc {g : Str → Str} {L : List Str} {x : Str} : txsL g (L ++ [x]) = if g x ∈ txsL g L then txsL g L else txsL g L ++ [g x] := by
  unfold txsL
  rw [List.map_append]
  show (mergeD (_ ++ [(g x, (1 : Int))])).map (·.1) = _
  rw [mergeD_snoc, putD_keys]
theorem txs_nd (g : Str → Str) (L : List Str) : (txsL g L).Nodup := (mergeD_keys _).1
theorem txs_mem {g : Str → Str} {L : List Str} {t : Str} : t ∈ txsL g L ↔ ∃ p ∈ L, g p = t := by
  refine ((mergeD_keys _).2 t).trans ?_
  rw [List.map_map]
  exact List.mem_map
theorem addP_off {F : Str → List Str} {x t : Str} : ∀ {ks : List Str}, t ∉ ks → addP (ks.map fun k => (k, F k)) t x = ks.map (fun k => (k, F k)) ++ [(t, [x])]
  | ks, h => add_new (by rw [List.map_map]; show t ∉ List.map (fun k => k) ks; rwa [List.map_id'])
theorem addP_on {F : Str → List Str} {x t : Str} : ∀ {ks : List Str}, ks.Nodup → t ∈ ks → addP (ks.map fun k => (k, F k)) t x = ks.map fun k => (k, if k = t then F k ++ [x] else F k)
  | [], _, h => nomatch h
  | k :: r, nd, h => by
    obtain ⟨n1, n2⟩ := List.nodup_cons.mp nd
    show (if k = t then (k, F k ++ [x]) :: r.map _ else (k, F k) :: addP (r.map fun k => (k, F k)) t x) = _
    by_cases c : k = t
    · subst c
      rw [if_pos rfl, List.map_cons, if_pos rfl]
      refine congrArg _ (List.map_congr_left fun z hz => ?_)
      rw [if_neg (fun e : z = k => n1 (e ▸ hz))]
    · rw [if_neg c, List.map_cons, if_neg c, addP_on n2 ((List.mem_cons.mp h).resolve_left fun z => c z.symm)]
theorem lots_is {l : Fold} {g : Str → Str} : ∀ (L : List Str), (∀ p ∈ L, getF l p = g p) → lotsP l L = (txsL g L).map fun t => (t, L.filter fun p => decide (g p = t)) := by
  intro L
  have key : ∀ n, n ≤ L.length → (∀ p ∈ L, getF l p = g p) → lotsP l (L.take n) = (txsL g (L.take n)).map fun t => (t, (L.take n).filter fun p => decide (g p = t)) := by
    intro n
    induction n with
    | zero => intro _ _; rfl
    | succ n ih =>
      intro hn hg
      have ih := ih (by omega) hg
      have hx : L[n]? = some L[n] := List.getElem?_eq_getElem (by omega)
      have hg2 := hg L[n] (List.getElem_mem _)
      generalize L[n] = x at hx hg2
      rw [List.take_add_one, hx]
      show lotsP l (L.take n ++ [x]) = _
      have e1 : lotsP l (L.take n ++ [x]) = addP (lotsP l (L.take n)) (getF l x) x := by
        unfold lotsP
        rw [List.foldl_append]
        rfl
      rw [e1, ih, hg2]
      show _ = (txsL g (L.take n ++ [x])).map _
      rw [txs_snoc]
      by_cases c : g x ∈ txsL g (L.take n)
      · rw [if_pos c, addP_on (txs_nd _ _) c]
        refine List.map_congr_left fun t _ => ?_
        refine congrArg (Prod.mk t) ?_
        show _ = (L.take n ++ [x]).filter _
        rw [List.filter_append]
        by_cases e : t = g x
        · rw [if_pos e]
          simp [e]
        · rw [if_neg e]
          have e2 : ¬ g x = t := fun z => e z.symm
          simp [e2]
      · rw [if_neg c, addP_off c, List.map_append]
        refine congr (congrArg (fun u v : Lts => u ++ v) (List.map_congr_left fun t ht => ?_)) ?_
        · refine congrArg (Prod.mk t) ?_
          show _ = (L.take n ++ [x]).filter _
          rw [List.filter_append]
          have e2 : ¬ g x = t := fun z => c (z ▸ ht)
          simp [e2]
        · show [(g x, [x])] = [(g x, (L.take n ++ [x]).filter _)]
          rw [List.filter_append]
          have e3 : (L.take n).filter (fun p => decide (g p = g x)) = [] := List.filter_eq_nil_iff.mpr fun p hp => by
            have : ¬ g p = g x := fun z => c (txs_mem.mpr ⟨p, hp, z⟩)
            simpa using this
          rw [e3]
          simp
  intro hg
  have := key L.length (Nat.le_refl _) hg
  rwa [List.take_length] at this
def lotsL (a : Fold) : List (Tl Str) := (txsL (getF a) (ss (kys a))).map fun t => Tl.mk ((ss (kys a)).filter fun p => decide (getF a p = t))
theorem twins_is {a : Fold} : twinsF a = (lotsL a).filter fun x => decide (1 < x.l.length) := by
  unfold twinsF lotsL
  rw [kys_sort, lots_is (l := sortF a) (g := getF a) (ss (kys a)) fun p hp => get_sort' (ss_mem.mp hp)]
  rw [List.filter_map, List.filter_map, List.map_map]
  rfl
section
variable {P : Program} {w : World} {K : PySem.W.Frag} {mg : Str → Option Value} {base : Heap} {Bp : Addr} {Ps : List Addr} {pT : Addr} {q0 : Str}
variable {f c : Addr} {k : Nat} {A : Around} {outer : List Env} {s : Shared} {H0 : Hp} {E : XK}
theorem txs_len {a : Fold} (ha : Fd a) : (txsL (getF a) (ss (kys a))).length ≤ 6 := by
  unfold txsL
  rw [List.length_map]
  refine Nat.le_trans (mergeD_len _) ?_
  rw [List.length_map]
  exact sort_len ha
theorem getF_len {a : Fold} (ha : Fd a) {p : Str} (h : p ∈ kys a) : TextN 3 (getF a p) := look_tx ha (get_of h)
theorem l13 (T : Zs mg) (hr : Room k (A.deeper (envOfC "law" (defScope s_law) s.heap.objs.size f (.ref c)))) : ∃ t, PS (LX0 P w K mg base f c A outer s H0 E) (lb 13) t ∧ ∀ d a b B D, Fd a → Nx (PT Ps pT q0) B (gO K d a b none none none none none none none none none (iS K (txsL (getF a) (ss (kys a)))) none none none none) [(d, DiceM)] D.nx → Nx (PT Ps pT q0) B (g0 K d a b) [(d, DiceM)] (t D) := by
  refine ⟨_, (ps_set (i := 20) sc_law.nd rfl (.inl rfl) (pe_callTy (call_listD rfl) (by rfl) T.list (by decide +kernel) (pa_cons (pe_callTy (call_dictP rfl) (by rfl) T.dict (by decide +kernel) (pa_cons (pe_lc (own := [("path", 6)]) rfl sc_law.nd (pi_listK (K0 := K) rfl (pv 4)) (blkOk_by (by show blkC Nlaw (defScope s_law) _ _ = true; decide +kernel)) (fun _ _ _ _ _ => (pg_name (i := 6) sc_law.nd rfl (.inl rfl))) (fun _ _ _ _ _ => pts_nil) (fun _ _ _ _ _ => (pe_tup (pa_cons (pe_dget (by first | exact hu1 | exact SSt.room_u hr) (pv 2) (pv 6) (fun _ _ => rfl)) (pa_cons pe_int pa_nil))))) pa_nil)) pa_nil))), fun d a b B D ha nx => ?_⟩
  exact Nx.set (R := Is K (txsL (getF a) (ss (kys a)))) (Ev.cb (Ea.cons (Ev.cb (Ea.cons (Ev.lcLy (K := K) (β := Str × Int) (xs := ss (kys a)) (i := 6) (f := fun p => (getF a p, (1 : Int))) (Ev.var rfl) (by have := sort_len ha; omega) fun x hx => Ev.pair (Ev.dget (Ev.var (R := Is K (Dc.mk a)) rfl) Ds.fz (Ev.var (R := Is K x) rfl) (get_of (ss_mem.mp hx))) Ev.int) Ea.nil) (oc_dict Ls.fz)) Ea.nil) (oc_listD (Ds.fz (l := Dc.mk _)))) nx
theorem l14 (T : Zs mg) (hr : Room k (A.deeper (envOfC "law" (defScope s_law) s.heap.objs.size f (.ref c)))) : ∃ t, PS (LX0 P w K mg base f c A outer s H0 E) (lb 14) t ∧ ∀ d a b B D, Fd a → Nx (PT Ps pT q0) B (gO K d a b none none none none none none none none none none (some (Is K (lotsL a))) none none none) [(d, DiceM)] D.nx → Nx (PT Ps pT q0) B (gO K d a b none none none none none none none none none (iS K (txsL (getF a) (ss (kys a)))) none none none none) [(d, DiceM)] (t D) := by
  refine ⟨_, (ps_setLc (i := 21) (own := [("text", 22)]) rfl sc_law.nd rfl rfl (sw_true rfl rfl rfl (by rfl)) (pi_listK (K0 := K) rfl (pv 20)) (blkOk_by (by show blkC Nlaw (defScope s_law) _ _ = true; decide +kernel)) (fun _ _ _ _ _ => (pg_name (i := 22) sc_law.nd rfl (.inr rfl))) (fun _ _ _ _ _ => pts_nil) (fun _ _ _ _ _ => (pe_callTy (call_tupleKK (K0 := K) rfl) (by rfl) T.tuple (by decide +kernel) (pa_cons (pe_lc (own := [("path", 6)]) rfl sc_law.nd (pi_listK (K0 := K) rfl (pv 4)) (blkOk_nest (by show blkC Nlaw (rlb (defScope s_law) _) _ _ = true; decide +kernel)) (fun _ _ _ _ _ => (pg_name (i := 6) sc_law.nd rfl (.inl rfl))) (fun _ _ _ _ _ => (pts_one (pt_cmpR op_eq (pe_dget (by first | exact hu1 | exact SSt.room_u hr) (pv 2) (pv 6) (fun _ _ => rfl)) (pv 22) (nomark _)))) (fun _ _ _ _ _ => (pv 6))) pa_nil)))), fun d a b B D ha nx => ?_⟩
  refine Nx.set (R := Is K (lotsL a)) (Ev.lcLy (K := K) (β := Tl Str) (xs := txsL (getF a) (ss (kys a))) (i := 22) (f := fun t => Tl.mk ((ss (kys a)).filter fun p => decide (getF a p = t))) (Ev.var rfl) (by have := txs_len ha; omega) fun t ht => Ev.cb (Ea.cons ((Ev.lcL (K := K) (xs := ss (kys a)) (i := 6) (p := fun p => decide (getF a p = t)) (f := fun p => p) (Ev.var rfl) (by have := sort_len ha; omega) (fun p hp => Et.is (Ev.op (Ev.dget (Ev.var (R := Is K (Dc.mk a)) rfl) Ds.fz (Ev.var (R := Is K p) rfl) (get_of (ss_mem.mp hp))) (Ev.var (R := Is K t) rfl) o2_eq)) (fun p _ _ => Ev.var rfl)).to (List.map_id' _)) Ea.nil) (oc_tuple Ls.fz)) (nx.gle (by (repeat' (first | exact RP.GLe.nil | apply RP.GLe.keep | apply RP.GLe.drop))))
theorem l15 (Z : Callees P w K mg base Bp (PT Ps pT q0) k) (T : Zs mg) (hr : Room k (A.deeper (envOfC "law" (defScope s_law) s.heap.objs.size f (.ref c)))) : ∃ t, PS (LX0 P w K mg base f c A outer s H0 E) (lb 15) t ∧ ∀ d a b B D, Fd a → Nx (PT Ps pT q0) B (g0 K d a b) [(d, DiceM)] D.nx → Nx (PT Ps pT q0) B (gO K d a b none none none none none none none none none none (some (Is K (lotsL a))) none none none) [(d, DiceM)] (t D) := by
  obtain ⟨_, _, _, k_twins, G_twins⟩ := Z.twins
  refine ⟨_, (ps_if (pt_cmpR (op_neKK (K0 := K) rfl (by first | exact hr.units | (have := hr.units; omega))) (pe_callTy (call_listKK (K0 := K) rfl) (by rfl) T.list (by decide +kernel) (pa_cons (pe_call G_twins.ok (hr.mono k_twins) (by rfl) G_twins.g G_twins.kp G_twins.b .nil passF (pa_cons (pv 2) pa_nil)) pa_nil)) (pe_lc (own := [("lot", 23)]) rfl sc_law.nd (pi_listK (K0 := K) rfl (pv 21)) (blkOk_by (by show blkC Nlaw (defScope s_law) _ _ = true; decide +kernel)) (fun _ _ _ _ _ => (pg_name (i := 23) sc_law.nd rfl (.inl rfl))) (fun _ _ _ _ _ => (pts_one (pt_cmpR op_gt (pe_callB (call_lenKK (K0 := K) rfl) (by rfl) T.len (by decide +kernel) (pa_cons (pv 23) pa_nil)) pe_int (nomark _)))) (fun _ _ _ _ _ => (pv 23))) (nomark _))
      (pss_one (ps_ret pe_bl)) pss_nil), fun d a b B D ha nx => ?_⟩
  have lok : ∀ x ∈ lotsL a, ∀ p ∈ x.l, PyData.strOk p = true := fun x hx p hp => by
    obtain ⟨t, _, rfl⟩ := List.mem_map.mp hx
    exact (a6_facts p (ha.a6 p (ss_mem.mp (List.mem_filter.mp hp).1))).2.2.2.2.2.1
  have fok : ∀ x ∈ (lotsL a).filter (fun x => decide (1 < x.l.length)), Dq.ok x := fun x hx p hp => lok x (List.mem_filter.mp hx).1 p hp
  refine Nx.noIf (Et.isF (Ev.op (Ra := Is K (twinsF a)) (Rb := Is K ((lotsL a).filter fun x => decide (1 < x.l.length))) (Ev.cb (Ea.cons (Ev.callx ownD a (Ea.cons (Ev.var rfl) Ea.nil) ha.smD (if_pos ha.okF)) Ea.nil) (oc_list (Sq.tl (xs := Tl.mk (twinsF a))))) ((Ev.lcL (K := K) (α := Tl Str) (β := Tl Str) (xs := lotsL a) (i := 23) (p := fun x => decide (1 < x.l.length)) (f := fun x => x) (Ev.var rfl) (by unfold lotsL; have := txs_len ha; rw [List.length_map]; omega) (fun x hx => Et.is ((Ev.op (Ev.natI (Ev.cb (Ea.cons (Ev.var (R := Is K x) rfl) Ea.nil) (oc_len (Sq.tl (xs := x))))) Ev.int o2_cmp).to (decide_eq_decide.mpr (by omega)))) (fun x _ _ => Ev.var rfl)).to (List.map_id' _)) (o2_neD (twins_is ▸ fok) fok)) (ne_self twins_is)) (nx.gle (by (repeat' (first | exact RP.GLe.nil | apply RP.GLe.keep | apply RP.GLe.drop))))
end
end K01

-- F01W
set_option maxRecDepth 100000
set_option maxHeartbeats 0
namespace K01
open PySem PySem.Spec PyProof.Rows L2 BG LW
open RP hiding Tb
open SSt
def wcs : List Nat := [97, 100, 46, 47, 90, 65]
/-- all lists of up to n of cs -/
def upTo (cs : List Nat) : Nat → List (List Nat)
  | 0 => [[]]
  | n + 1 => [] :: (upTo cs n).flatMap fun l => cs.map (· :: l)
theorem upTo_mem {cs : List Nat} : ∀ {n : Nat} {l : List Nat}, l.length ≤ n → (∀ c ∈ l, c ∈ cs) → l ∈ upTo cs n
  | 0, [], _, _ => List.mem_singleton.mpr rfl
  | 0, _ :: _, h, _ => absurd h (by simp)
  | n + 1, [], _, _ => List.mem_cons_self ..
  | n + 1, c :: l, h, hc => List.mem_cons_of_mem _ (List.mem_flatMap.mpr ⟨l, upTo_mem (Nat.le_of_succ_le_succ h) fun x hx => hc x (List.mem_cons_of_mem _ hx), List.mem_map.mpr ⟨c, hc c (List.mem_cons_self ..), rfl⟩⟩)
def badN (n : Str) : Bool := decide (n ∈ (["", ".", ".."] : List Str)) || !decide ((sgn n).filter (fun x => !hasS x "ad.") = [])
where hasS (i j : Str) : Bool := !(Builtin.Str.occurrences j i 0 j.length 1).isEmpty
def goodW (w : Str) : Bool := decide ((Txt.split w "/").filter badN = [])
def okW (l : List Nat) : Bool := let w : Str := ⟨l.toArray⟩
  (goodW w == okPath w) && decide ((reprText w).length ≤ 1000) && ((Txt.split w "/").all fun n => (decide (n.length ≤ 4) && PyData.strOk n) && (sgn n).all fun x => PyData.strOk x) && decide ((Txt.split w "/").length ≤ 10)
theorem words_all : ((upTo wcs 4).all okW) = true := by decide +kernel
end K01

-- L01J
set_option maxRecDepth 100000
set_option maxHeartbeats 4000000
namespace K01
open PySem PySem.Spec PyProof.Rows L2 BG LW
open RP hiding Tb
open SSt
/-- a drawn word -/
def WordP (w : Str) : Prop := ∃ xs : List Str, w = Txt.join "" xs ∧ xs.length ≤ 4 ∧ ∀ x ∈ xs, x ∈ sgn "ad./ZA"
theorem word_in {w : Str} (h : WordP w) : TL.tl w ∈ upTo wcs 4 := by
  obtain ⟨xs, rfl, hl, hx⟩ := h
  have l1 : ∀ x ∈ sgn ("ad./ZA" : Str), (TL.tl x).length = 1 ∧ ∀ c ∈ TL.tl x, c ∈ wcs := by decide +kernel
  have jl : ∀ ps : List (List Nat), (∀ p ∈ ps, p.length = 1 ∧ ∀ c ∈ p, c ∈ wcs) → (TL.joinL [] ps).length = ps.length ∧ ∀ c ∈ TL.joinL [] ps, c ∈ wcs := by
    intro ps
    induction ps with
    | nil => intro _; exact ⟨rfl, fun c h => nomatch h⟩
    | cons p r ih =>
      intro hp
      have h0 := hp p (List.mem_cons_self ..)
      cases r with
      | nil => exact ⟨h0.1, h0.2⟩
      | cons q r =>
        obtain ⟨i1, i2⟩ := ih fun z hz => hp z (List.mem_cons_of_mem _ hz)
        show (p ++ ([] ++ TL.joinL [] (q :: r))).length = _ ∧ ∀ c ∈ p ++ ([] ++ TL.joinL [] (q :: r)), c ∈ wcs
        rw [List.nil_append]
        refine ⟨?_, fun c hc => ?_⟩
        · rw [List.length_append, h0.1, i1]
          simp only [List.length_cons]
          omega
        · rcases List.mem_append.mp hc with hc | hc
          · exact h0.2 c hc
          · exact i2 c hc
  rw [TL.join_eq, TL.tl_join]
  show TL.joinL [] (xs.map TL.tl) ∈ _
  obtain ⟨j1, j2⟩ := jl (xs.map TL.tl) fun p hp => by
    obtain ⟨x, hx2, rfl⟩ := List.mem_map.mp hp
    exact l1 x (hx x hx2)
  rw [List.length_map] at j1
  exact upTo_mem (by omega) j2
theorem upTo_len {cs : List Nat} : ∀ {n : Nat} {l : List Nat}, l ∈ upTo cs n → l.length ≤ n
  | 0, l, h => by rw [List.mem_singleton.mp h]; exact Nat.le_refl _
  | n + 1, l, h => by
    rcases List.mem_cons.mp h with rfl | h
    · exact Nat.zero_le _
    · obtain ⟨m, hm, h⟩ := List.mem_flatMap.mp h
      obtain ⟨c, _, rfl⟩ := List.mem_map.mp h
      exact Nat.succ_le_succ (upTo_len hm)
theorem word_ok {w : Str} (h : WordP w) : goodW w = okPath w ∧ SmP w ∧ w.length ≤ 4 ∧ (∀ n ∈ Txt.split w "/", n.length ≤ 4 ∧ PyData.strOk n = true ∧ ∀ x ∈ sgn n, PyData.strOk x = true) ∧ (Txt.split w "/").length ≤ 10 := by
  have hi := word_in h
  have := List.all_eq_true.mp words_all _ hi
  unfold okW at this
  have ew : (⟨(TL.tl w).toArray⟩ : Str) = w := by cases w; rfl
  rw [ew] at this
  simp only [Bool.and_eq_true, beq_iff_eq, decide_eq_true_iff, List.all_eq_true] at this
  obtain ⟨⟨⟨h1, h2⟩, h3⟩, h4⟩ := this
  have hl : w.length ≤ 4 := by
    have := upTo_len hi
    have e : (TL.tl w).length = w.length := Array.length_toList
    omega
  exact ⟨h1, ⟨by omega, h2, fun n hn => by have := (h3 n hn).1.1; omega⟩, hl, fun n hn => ⟨(h3 n hn).1.1, (h3 n hn).1.2, fun x hx => (h3 n hn).2 x hx⟩, h4⟩
section
variable {P : Program} {w : World} {K : PySem.W.Frag} {mg : Str → Option Value} {base : Heap} {Bp : Addr} {Ps : List Addr} {pT : Addr} {q0 : Str}
variable {f c : Addr} {k : Nat} {A : Around} {outer : List Env} {s : Shared} {H0 : Hp} {E : XK}
theorem roll_1 {M : Mu} {G : Gm} {d : Addr} {n : Int} (h1 : G[1]? = some (some (At d))) (hM : (d, DiceM) ∈ M) (n1 : 1 ≤ n) (n2 : n ≤ 1000) : Ev (PT Ps pT q0) G M (tCall sp_roll [] (fun _ _ _ => False) (tCons (tVar 1) (tCons (tC (.int n)) tNil))) (Exi K fun r : Int => 0 ≤ r ∧ r < n) :=
  Ev.call (Ea.cons (Ev.var h1) (Ea.cons (Ev.int (K := K)) Ea.nil)) (oc_roll hM n1 n2)
theorem l16 (Z : Callees P w K mg base Bp (PT Ps pT q0) k) (T : Zs mg) (hr : Room k (A.deeper (envOfC "law" (defScope s_law) s.heap.objs.size f (.ref c)))) : ∃ t, PS (LX0 P w K mg base f c A outer s H0 E) (lb 16) t ∧ ∀ d a b B D, (∀ wd, WordP wd → Nx (PT Ps pT q0) B (gO K d a b none none none none none none none none none none none (some (Is K wd)) none none) [(d, DiceM)] D.nx) → Nx (PT Ps pT q0) B (g0 K d a b) [(d, DiceM)] (t D) := by
  obtain ⟨_, _, _, k_law_roll, G_law_roll⟩ := Z.roll
  refine ⟨_, (ps_set (i := 24) sc_law.nd rfl (.inr rfl) (pe_joinKK (K0 := K) rfl pe_str (pe_lc (own := [("k", 10)]) rfl sc_law.nd (pi_range1 (by rfl) T.range (pa_cons (pe_call G_law_roll.ok (hr.mono k_law_roll) (by rfl) G_law_roll.g G_law_roll.kp G_law_roll.b .nil passF (pa_cons (pv 1) (pa_cons pe_int pa_nil))) pa_nil)) (blkOk_by (by show blkC Nlaw (defScope s_law) _ _ = true; decide +kernel)) (fun _ _ _ _ _ => (pg_name (i := 10) sc_law.nd rfl (.inl rfl))) (fun _ _ _ _ _ => pts_nil) (fun _ _ _ _ _ => (pe_ix ix_str pe_str (pe_call G_law_roll.ok (hr.mono k_law_roll) (by rfl) G_law_roll.g G_law_roll.kp G_law_roll.b .nil passF (pa_cons (pv 1) (pa_cons pe_int pa_nil))) (fun _ _ => rfl)))))), fun d a b B D nx => ?_⟩
  refine Nx.setX (P := WordP) (Exi.imp (K := K) (Ev.joinX (p := fun xs : List Str => (xs.length : Int) < 5 ∧ ∀ x ∈ xs, x ∈ sgn "ad./ZA") Ev.str (Exi.imp (K := K) (Ev.lcRx (K := K) (i := 10) (p := fun r => 0 ≤ r ∧ r < 5) (Pe := fun _ x => x ∈ sgn "ad./ZA") (Ea.cons (roll_1 rfl inD (by decide) (by decide)) Ea.nil) (fun m hm => ⟨hm.1, by omega⟩) (fun m hm k hk => ?_)) (fun xs h => ?_)) (fun xs h => ?_)) (fun t ⟨xs, h, e⟩ => ?_)) nx
  · exact Ev.op (Ev.str (K := K)) (roll_1 rfl inD (by decide) (by decide)) (o2_ixSx (by decide) fun i hi => ⟨hi.1, by have : ("ad./ZA" : Str).cps.size = 6 := rfl; omega⟩)
  · obtain ⟨a, b⟩ := h
    refine ⟨a.2, fun x hx => ?_⟩
    obtain ⟨i, hi⟩ := List.getElem?_of_mem hx
    exact b i x hi
  · obtain ⟨a, b⟩ := h
    have l1 : ∀ x ∈ sgn ("ad./ZA" : Str), x.length = 1 := by decide +kernel
    have : (xs.map (·.length)).sum = xs.length := by
      clear a
      induction xs with
      | nil => rfl
      | cons x r ih =>
        rw [List.map_cons, List.sum_cons, ih fun y hy => b y (List.mem_cons_of_mem _ hy), l1 x (b x (List.mem_cons_self ..)), List.length_cons]
        omega
    have e0 : ("" : Str).length = 0 := rfl
    rw [this, e0]
    omega
  · exact ⟨xs, e, by omega, h.2⟩
theorem l17 : ∃ t, PS (LX0 P w K mg base f c A outer s H0 E) (lb 17) t ∧ ∀ d a b wd B D, WordP wd → Nx (PT Ps pT q0) B (gO K d a b none none none none none none none none none none none (some (Is K wd)) (iS K (Txt.split wd "/")) none) [(d, DiceM)] D.nx → Nx (PT Ps pT q0) B (gO K d a b none none none none none none none none none none none (some (Is K wd)) none none) [(d, DiceM)] (t D) := by
  refine ⟨_, (ps_set (i := 25) sc_law.nd rfl (.inl rfl) (pe_split (pv 24) pe_str)), fun d a b wd B D hw nx => ?_⟩
  exact Nx.set (R := Is K (Txt.split wd "/")) (Ev.split (K := K) (Ev.var rfl) Ev.str (by decide) (by have := (word_ok hw).2.2.1; omega)) nx
theorem o2_notInStr {M : Mu} {Ps : Tbs} {i j : Str} : O2 Ps M (fun x y H Q => ∃ i j, x = .str i ∧ y = .str j ∧ Q (.bl (!(!(Builtin.Str.occurrences j i 0 j.length 1).isEmpty))) H) (Is K i) (Is K j) (Is K (!badN.hasS i j)) := fun F H v w Q s a b q => by
  cases a
  cases b
  exact ⟨i, j, rfl, rfl, q _ F H s.refl rfl⟩
theorem l18 (T : Zs mg) (hr : Room k (A.deeper (envOfC "law" (defScope s_law) s.heap.objs.size f (.ref c)))) : ∃ t, PS (LX0 P w K mg base f c A outer s H0 E) (lb 18) t ∧ ∀ d a b wd B D, WordP wd → Nx (PT Ps pT q0) B (gO K d a b none none none none none none none none none none none (some (Is K wd)) none (some (Is K (goodW wd)))) [(d, DiceM)] D.nx → Nx (PT Ps pT q0) B (gO K d a b none none none none none none none none none none none (some (Is K wd)) (iS K (Txt.split wd "/")) none) [(d, DiceM)] (t D) := by
  refine ⟨_, (ps_set (i := 26) sc_law.nd rfl (.inl rfl) (pe_cmpR (op_eqKK (K0 := K) rfl (by first | exact hr.units | (have := hr.units; omega))) (pe_lc (own := [("name", 27)]) rfl sc_law.nd (pi_listK (K0 := K) rfl (pv 25)) (blkOk_by (by show blkC Nlaw (defScope s_law) _ _ = true; decide +kernel)) (fun _ _ _ _ _ => (pg_name (i := 27) sc_law.nd rfl (.inl rfl))) (fun _ _ _ _ _ => (pts_one (PW.pt (pw_or (pt_cmpR (op_inKK (K0 := K) rfl) (pv 27) (pe_lst (pa_cons pe_str (pa_cons pe_str (pa_cons pe_str pa_nil)))) (by with_unfolding_all rfl)) (pw_or1 (pt_cmpR (op_neKK (K0 := K) rfl (by first | exact hr.units | (have := hr.units; omega))) (pe_lc (own := [("sign", 15)]) rfl sc_law.nd (pi_str (pv 27)) (blkOk_nest (by show blkC Nlaw (rlb (defScope s_law) _) _ _ = true; decide +kernel)) (fun _ _ _ _ _ => (pg_name (i := 15) sc_law.nd rfl (.inl rfl))) (fun _ _ _ _ _ => (pts_one (pt_cmpR op_notIn_str (pv 15) pe_str (by with_unfolding_all rfl)))) (fun _ _ _ _ _ => (pv 15))) (pe_lst pa_nil) (nomark _))))))) (fun _ _ _ _ _ => (pv 27))) (pe_lst pa_nil) (nomark _))), fun d a b wd B D hw nx => ?_⟩
  obtain ⟨h1, h2, h3, h4, h5⟩ := word_ok hw
  refine Nx.set (R := Is K (goodW wd)) (Ev.op (Ra := Is K ((Txt.split wd "/").filter badN)) ((Ev.lcL (K := K) (xs := Txt.split wd "/") (i := 27) (p := badN) (f := fun n => n) (Ev.var rfl) (by omega) (fun n hn => ?_) (fun n _ _ => Ev.var rfl)).to (List.map_id' _)) (Ev.lstL (K := K) (xs := ([] : List Str)) Ea.nil (by show 0 ≤ 100; decide)) (o2_eqD (fun n hn => (h4 n (List.mem_filter.mp hn).1).2.1) (fun _ h => nomatch h))) (nx.gle (by (repeat' (first | exact RP.GLe.nil | apply RP.GLe.keep | apply RP.GLe.drop))))
  obtain ⟨n1, n2, n3⟩ := h4 n hn
  show Et _ _ _ _ (· = badN n)
  unfold badN
  refine Et.or (P1 := fun t => t = decide (n ∈ (["", ".", ".."] : List Str))) (Et.is (Ev.op (Ev.var (R := Is K n) rfl) (Ev.lstL (K := K) (xs := (["", ".", ".."] : List Str)) (Ea.cons Ev.str (Ea.cons Ev.str (Ea.cons Ev.str Ea.nil))) (by show 3 ≤ 100; decide)) (o2_inS (neg := false) (Ls.sq Ls.fz)))) (fun h => by rw [← h]; rfl) (fun h => ?_)
  rw [← h, Bool.false_or]
  refine Et.is (Ev.op (Ra := Is K ((sgn n).filter fun x => !badN.hasS x "ad.")) ((Ev.lcOf (K := K) (L := []) (sl := [15]) (xs := sgn n) (p := fun x => !badN.hasS x "ad.") (f := fun x => x) (Ei.strL (Ev.var (R := Is K n) rfl)) (fun _ h => nomatch h) (by rw [sgn_len]; have : n.cps.size = n.length := rfl; omega) (fun x => _) (fun x _ => Eg.name) (fun k hk => hk) (fun x _ => Et.is (Ev.op (Ev.var (R := Is K x) rfl) (Ev.str (K := K)) o2_notInStr)) (fun x _ _ => Ev.var rfl)).to (List.map_id' _)) (Ev.lstL (K := K) (xs := ([] : List Str)) Ea.nil (by show 0 ≤ 100; decide)) (o2_neD (fun x hx => n3 x (List.mem_filter.mp hx).1) (fun _ h => nomatch h)))
end
end K01

-- L01K
set_option maxRecDepth 100000
set_option maxHeartbeats 4000000
namespace K01
open PySem PySem.Spec PyProof.Rows L2 BG LW
open RP hiding Tb
open SSt
structure Tol (P : Program) (w : World) (K : PySem.W.Frag) (mg : Str → Option Value) (base : Heap) (c9 : Fin 9 → Addr) (c pT : Addr) : Prop where
  N : Nine K mg c9
  TB : LamX.TabB base mg c pT
  told : ∃ g fd, Fun K "_law_told" "_law_told" s__law_told g fd ∧ mg "_law_told" = some (.ref g) ∧ Binds K fd ["what"] []
section
variable {P : Program} {w : World} {K : PySem.W.Frag} {mg : Str → Option Value} {base : Heap} {c9 : Fin 9 → Addr} {Ps : List Addr} {pT : Addr} {q0 : Str}
variable {f c : Addr} {k : Nat} {A : Around} {outer : List Env} {s : Shared} {H0 : Hp} {E : XK}
theorem EvX.ofE {Pt : Tbs} {G : Gm} {M : Mu} {t : XK → TE} {Ef : VK → XK} {R : VRel} (h : ∀ E, Ev Pt G M (t E) R) : EvX Pt G M t Ef R := fun σ F H Q e s q => h (Ef Q) σ F H Q e s q
theorem l19 (nP : pT ∉ Ps) (Z : Callees P w K mg base (c9 0) (PT Ps pT q0) k) (T : Zs mg) (Y : Tol P w K mg base c9 c pT) (hq : q0 = (LX0 P w K mg base f c A outer s H0 E).env.qual ++ "<lambda>") (hr : Room (k + 2) (A.deeper (envOfC "law" (defScope s_law) s.heap.objs.size f (.ref c)))) : ∃ t, PS (LX0 P w K mg base f c A outer s H0 E) (lb 19) t ∧ ∀ d a b wd B D, WordP wd → Nx (PT Ps pT q0) B (g0 K d a b) [(d, DiceM)] D.nx → Nx (PT Ps pT q0) B (gO K d a b none none none none none none none none none none none (some (Is K wd)) none (some (Is K (goodW wd)))) [(d, DiceM)] (t D) := by
  obtain ⟨_, _, _, k_check_path, G_check_path⟩ := Z.check_path
  obtain ⟨_, _, _, k_overs_of, G_overs_of⟩ := Z.overs_of
  obtain ⟨g, fd, Fg, mgg, bd⟩ := Y.told
  subst hq
  have hr0 := hr
  replace hr : Room k (A.deeper (envOfC "law" (defScope s_law) s.heap.objs.size f (.ref c))) := hr.mono (by omega)
  refine ⟨_, (ps_if (PW.pt (pw_or (pt_cmpR op_ne (LX.pe_lamcall3 (TT := TT9 c9) (k := k) (Ng := ["what"]) (by rfl) mgg Fg bd sc__law_told rfl (.inl rfl) (fun cdv => told9_gives Y.N) Y.TB rfl (List.mem_singleton.mpr rfl) (fun p hp _ => by rw [List.mem_singleton.mp hp]) hr0 (LamX.lamS_by (by show LamX.lamSB (defScope s_law) _ = true; decide +kernel)) rfl (fun _ _ _ _ _ => rfl) (fun A outer s H E f c' hr2 => (pe_call G_check_path.ok (hr2.mono k_check_path) (by rfl) G_check_path.g G_check_path.kp G_check_path.b .nil (passes_call (takes_of rfl rfl rfl rfl) (fun _ _ _ _ h => h)) (pa_cons (pv 24) pa_nil)))) (pe_ifExp (pt_val (pv 26)) (pv 24) pe_str) (nomark _)) (pw_or1 (pt_cmpR (op_neKK (K0 := K) rfl (by first | exact hr.units | (have := hr.units; omega))) (pe_callTy (call_listKK (K0 := K) rfl) (by rfl) T.list (by decide +kernel) (pa_cons (pe_call G_overs_of.ok (hr.mono k_overs_of) (by rfl) G_overs_of.g G_overs_of.kp G_overs_of.b .nil passF (pa_cons pe_str pa_nil)) pa_nil)) (pe_lst (pa_cons pe_str (pa_cons pe_str pa_nil))) (nomark _)))))
      (pss_one (ps_ret pe_bl)) pss_nil), fun d a b wd B D hw nx => ?_⟩
  obtain ⟨h1, h2, h3, h4, h5⟩ := word_ok hw
  have e1 : oversL "a/b/c" = (["a", "a/b"] : List Str) := by decide +kernel
  have sm : SmO "a/b/c" := by
    refine ⟨by decide +kernel, by decide +kernel, fun k => ?_⟩
    have hl : ∀ xs : List Str, (∀ x ∈ xs, x.length ≤ 1) → (xs.map (·.length)).sum ≤ xs.length := by
      intro xs
      induction xs with
      | nil => intro _; exact Nat.le_refl _
      | cons x r ih =>
        intro hx
        have := hx x (List.mem_cons_self ..)
        have := ih fun y hy => hx y (List.mem_cons_of_mem _ hy)
        rw [List.map_cons, List.sum_cons, List.length_cons]
        omega
    have h6 : ∀ x ∈ Txt.split "a/b/c" "/", x.length ≤ 1 := by decide +kernel
    have h7 : (Txt.split "a/b/c" "/").length ≤ 3 := by decide +kernel
    have := hl ((Txt.split "a/b/c" "/").take k) fun x hx => h6 x (List.mem_of_mem_take hx)
    rw [List.length_take] at this
    omega
  have o2 : ∀ p ∈ (["a", "a/b"] : List Str), PyData.strOk p = true := by decide +kernel
  refine Nx.noIf (Et.orF (Et.isF (Ev.op (Ra := Is K (if okPath wd = true then wd else Str.ofString "path")) (Rb := Is K (if okPath wd = true then wd else Str.ofString "path")) (Ev.told (List.mem_cons_self ..) (un_mk nP) (Ef := E9 c9) ?_) (Ev.ite (P := fun t => t = goodW wd) (Et.isB (Ev.var rfl)) (fun h => ?_) (fun h => ?_)) o2_ne) (ne_self rfl)) (Et.isF (Ev.op (Ra := Is K (oversL "a/b/c")) (Rb := Is K (["a", "a/b"] : List Str)) (Ev.cb (Ea.cons (Ev.callx ownD (Str.ofString "a/b/c") (Ea.cons Ev.str Ea.nil) sm rfl) Ea.nil) (oc_list (Sq.tl (xs := Tl.mk (oversL "a/b/c"))))) (Ev.lstL (K := K) (xs := (["a", "a/b"] : List Str)) (Ea.cons Ev.str (Ea.cons Ev.str Ea.nil)) (by show 2 ≤ 100; decide)) (o2_neD (e1 ▸ o2) o2)) (ne_self e1))) (nx.gle (by (repeat' (first | exact RP.GLe.nil | apply RP.GLe.keep | apply RP.GLe.drop))))
  · by_cases ok : okPath wd = true
    · rw [if_pos ok]
      exact EvX.ofE fun E => Ev.callx ownD wd (Ea.cons (Ev.var rfl) Ea.nil) h2 (if_pos ok)
    · rw [if_neg ok]
      exact EvX.ofR (0 : Fin 9) fun E => EvR.callx ownD wd (Ea.cons (Ev.var rfl) Ea.nil) h2 (if_neg ok)
  · rw [if_pos (h1 ▸ h.symm)]
    exact Ev.var rfl
  · rw [if_neg (by rw [← h1, ← h]; exact Bool.false_ne_true)]
    exact Ev.str
end
end K01

-- L01L
set_option maxRecDepth 100000
set_option maxHeartbeats 4000000
namespace K01
open PySem PySem.Spec PyProof.Rows L2 BG LW
open RP hiding Tb
open SSt
open LamX (Tabs TabS CodeO ExtN codeO_ne)
theorem smPO {p : Str} (h2 : p.length ≤ 5) (h3 : (reprText p).length ≤ 1000) (h4 : (Txt.split p "/").length ≤ 3) (h5 : ∀ n ∈ Txt.split p "/", n.length ≤ 5) : SmP p ∧ SmO p := by
  refine ⟨⟨by omega, h3, fun n hn => by have := h5 n hn; omega⟩, by omega, by omega, fun k => ?_⟩
  have hl : ∀ xs : List Str, (∀ x ∈ xs, x.length ≤ 5) → (xs.map (·.length)).sum ≤ 5 * xs.length := by
    intro xs
    induction xs with
    | nil => intro _; exact Nat.le_refl _
    | cons x r ih =>
      intro hx
      have h1 := hx x (List.mem_cons_self ..)
      have h2 := ih fun y hy => hx y (List.mem_cons_of_mem _ hy)
      rw [List.map_cons, List.sum_cons, List.length_cons]
      omega
  have := hl ((Txt.split p "/").take k) fun x hx => h5 x (List.mem_of_mem_take hx)
  rw [List.length_take] at this
  omega
def wps : List Str := ["a", "a/b", "", "a//b", "../a", "/"]
theorem wps_facts : ∀ p ∈ wps, p.length ≤ 5 ∧ (reprText p).length ≤ 1000 ∧ (Txt.split p "/").length ≤ 3 ∧ ∀ n ∈ Txt.split p "/", n.length ≤ 5 := by decide +kernel
theorem wps_sm {p : Str} (h : p ∈ wps) : SmP p ∧ SmO p := smPO (wps_facts p h).1 (wps_facts p h).2.1 (wps_facts p h).2.2.1 (wps_facts p h).2.2.2
theorem wps_d {l : Fold} (h1 : l.length < 64) (h2 : (kys l).Nodup) (h3 : ∀ p ∈ kys l, p ∈ wps) : SmD l := ⟨h1, h2, fun p hp => wps_sm (h3 p hp)⟩
abbrev fA : Fold := [("a", "")]
abbrev fAB : Fold := [("a", ""), ("a/b", "")]
theorem w_facts : okFold fAB = false ∧ okFold [("", "")] = false ∧ okPath "a//b" = false ∧ okPath "../a" = false ∧ okChgd [] [("a", none)] = false ∧ okChgd fA [("a/b", some "")] = false ∧ okFold [("/", "")] = false ∧ dels [("a", none)] (sortF []) = none ∧ dels [("a/b", some "")] (sortF fA) = some fA ∧ puts [("a/b", some "")] fA = fAB := by decide +kernel
theorem r_facts : okChgd [("a", "x")] [("a", none), ("a/b", some "y")] = true ∧ dels [("a", none), ("a/b", some "y")] (sortF [("a", "x")]) = some [] ∧ puts [("a", none), ("a/b", some "y")] [] = ([("a/b", "y")] : Fold) ∧ deqL (chgdF [("a", "x")] [("a", none), ("a/b", some "y")]) [((Str.ofString "a/b"), (Str.ofString "y"))] = true ∧ oversL "a" = [] := by decide +kernel
theorem w_rep : ∀ p ∈ wps, (reprText p).length ≤ 1000 := fun p hp => (wps_facts p hp).2.1
section
variable {P : Program} {w : World} {K : PySem.W.Frag} {mg : Str → Option Value} {base : Heap} {c9 : Fin 9 → Addr} {Ps : List Addr} {pT : Addr} {q0 : Str}
variable {f c : Addr} {k : Nat} {A : Around} {outer : List Env} {s : Shared} {H0 : Hp} {E : XK}
theorem round_is : forB (lawS 0) = [lb 0, lb 1, lb 2, lb 3, lb 4, lb 5, lb 6, lb 7, lb 8, lb 9, lb 10, lb 11, lb 12, lb 13, lb 14, lb 15, lb 16, lb 17, lb 18, lb 19] := rfl
def gZ : Gm := List.replicate 30 none
def gB (a : Addr) : Gm := some (At a) :: List.replicate 29 none
theorem lround (nP : pT ∉ Ps) (Z : Callees P w K mg base (c9 0) (PT Ps pT q0) k) (T : Zs mg) (Y : Tol P w K mg base c9 c pT) (hq : q0 = (LX0 P w K mg base f c A outer s H0 E).env.qual ++ "<lambda>") (hr2 : Room (k + 2) (A.deeper (envOfC "law" (defScope s_law) s.heap.objs.size f (.ref c)))) : ∃ t, PSs (LX0 P w K mg base f c A outer s H0 E) (forB (lawS 0)) t ∧ ∀ d B D, Nx (PT Ps pT q0) B gZ [] D.nx → Nx (PT Ps pT q0) B (gA d none none none none none none none none none none none none none none none none none) [(d, DiceM)] (t D) := by
  have hr : Room k (A.deeper (envOfC "law" (defScope s_law) s.heap.objs.size f (.ref c))) := hr2.mono (by omega)
  obtain ⟨t0, p0, h0⟩ := l00 (q0 := q0) (f := f) (c := c) (A := A) (outer := outer) (s := s) (H0 := H0) (E := E) Z T hr
  obtain ⟨t1, p1, h1⟩ := l01 (q0 := q0) (f := f) (c := c) (A := A) (outer := outer) (s := s) (H0 := H0) (E := E) Z T hr
  obtain ⟨t2, p2, h2⟩ := l02 (P := P) (w := w) (K := K) (mg := mg) (base := base) (Ps := Ps) (pT := pT) (q0 := q0) (f := f) (c := c) (A := A) (outer := outer) (s := s) (H0 := H0) (E := E) T
  obtain ⟨t3, p3, h3⟩ := l03 (P := P) (w := w) (K := K) (mg := mg) (base := base) (Ps := Ps) (pT := pT) (q0 := q0) (f := f) (c := c) (A := A) (outer := outer) (s := s) (H0 := H0) (E := E) T hr
  obtain ⟨t4, p4, h4⟩ := l04 (q0 := q0) (f := f) (c := c) (A := A) (outer := outer) (s := s) (H0 := H0) (E := E) Z T hr
  obtain ⟨t5, p5, h5⟩ := l05 (q0 := q0) (f := f) (c := c) (A := A) (outer := outer) (s := s) (H0 := H0) (E := E) Z T hr
  obtain ⟨t6, p6, h6⟩ := l06 (P := P) (w := w) (K := K) (mg := mg) (base := base) (Ps := Ps) (pT := pT) (q0 := q0) (f := f) (c := c) (A := A) (outer := outer) (s := s) (H0 := H0) (E := E) T hr
  obtain ⟨t7, p7, h7⟩ := l07 (P := P) (w := w) (K := K) (mg := mg) (base := base) (Ps := Ps) (pT := pT) (q0 := q0) (f := f) (c := c) (A := A) (outer := outer) (s := s) (H0 := H0) (E := E) T hr
  obtain ⟨t8, p8, h8⟩ := l08 (q0 := q0) (f := f) (c := c) (A := A) (outer := outer) (s := s) (H0 := H0) (E := E) Z T hr
  obtain ⟨t9, p9, h9⟩ := l09 (q0 := q0) (f := f) (c := c) (A := A) (outer := outer) (s := s) (H0 := H0) (E := E) Z T hr
  obtain ⟨tA, pA, hA⟩ := l10 (P := P) (w := w) (K := K) (mg := mg) (base := base) (Ps := Ps) (pT := pT) (q0 := q0) (f := f) (c := c) (A := A) (outer := outer) (s := s) (H0 := H0) (E := E) T hr
  obtain ⟨tB, pB, hB⟩ := l11 (P := P) (w := w) (K := K) (mg := mg) (base := base) (Ps := Ps) (pT := pT) (q0 := q0) (f := f) (c := c) (A := A) (outer := outer) (s := s) (H0 := H0) (E := E) T hr
  obtain ⟨tC, pC, hC⟩ := l12 (q0 := q0) (f := f) (c := c) (A := A) (outer := outer) (s := s) (H0 := H0) (E := E) Z T hr
  obtain ⟨tD, pD, hD⟩ := l13 (P := P) (w := w) (K := K) (mg := mg) (base := base) (Ps := Ps) (pT := pT) (q0 := q0) (f := f) (c := c) (A := A) (outer := outer) (s := s) (H0 := H0) (E := E) T hr
  obtain ⟨tE, pE, hE⟩ := l14 (P := P) (w := w) (K := K) (mg := mg) (base := base) (Ps := Ps) (pT := pT) (q0 := q0) (f := f) (c := c) (A := A) (outer := outer) (s := s) (H0 := H0) (E := E) T hr
  obtain ⟨tF, pF, hF⟩ := l15 (q0 := q0) (f := f) (c := c) (A := A) (outer := outer) (s := s) (H0 := H0) (E := E) Z T hr
  obtain ⟨tG, pG, hG⟩ := l16 (q0 := q0) (f := f) (c := c) (A := A) (outer := outer) (s := s) (H0 := H0) (E := E) Z T hr
  obtain ⟨tH, pH, hH⟩ := l17 (P := P) (w := w) (K := K) (mg := mg) (base := base) (Ps := Ps) (pT := pT) (q0 := q0) (f := f) (c := c) (A := A) (outer := outer) (s := s) (H0 := H0) (E := E)
  obtain ⟨tI, pI, hI⟩ := l18 (P := P) (w := w) (K := K) (mg := mg) (base := base) (Ps := Ps) (pT := pT) (q0 := q0) (f := f) (c := c) (A := A) (outer := outer) (s := s) (H0 := H0) (E := E) T hr
  obtain ⟨tJ, pJ, hJ⟩ := l19 (q0 := q0) (f := f) (c := c) (A := A) (outer := outer) (s := s) (H0 := H0) (E := E) nP Z T Y hq hr2
  refine ⟨_, by rw [round_is]; exact pss_cons p0 (pss_cons p1 (pss_cons p2 (pss_cons p3 (pss_cons p4 (pss_cons p5 (pss_cons p6 (pss_cons p7 (pss_cons p8 (pss_cons p9 (pss_cons pA (pss_cons pB (pss_cons pC (pss_cons pD (pss_cons pE (pss_cons pF (pss_cons pG (pss_cons pH (pss_cons pI (pss_one pJ))))))))))))))))))), fun d B D nx => ?_⟩
  refine Nx.seq (h0 d _ _ fun a ha => ?_)
  refine Nx.seq (h1 d a _ _ ha fun b hn => ?_)
  have hb := ha.of_next hn
  refine Nx.seq (h2 d a b _ _ ha ?_)
  refine Nx.seq (h3 d a b _ _ ha ?_)
  refine Nx.seq (h4 d a b _ _ ha ?_)
  refine Nx.seq (h5 d a b _ _ ha (fun _ _ => True.intro) ?_)
  refine Nx.seq (h6 d a b _ _ ha hb ?_)
  refine Nx.seq (h7 d a b _ _ ha hb ?_)
  refine Nx.seq (h8 d a b _ _ ha hb ?_)
  refine Nx.seq (h9 d a b _ _ ha hb ?_)
  refine Nx.seq (hA d a b _ _ ha hb fun fo => ?_)
  refine Nx.seq (hB d a b fo _ _ ha hb ?_)
  refine Nx.seq (hC d a b fo _ _ ha hn ?_)
  refine Nx.seq (hD d a b _ _ ha ?_)
  refine Nx.seq (hE d a b _ _ ha ?_)
  refine Nx.seq (hF d a b _ _ ha ?_)
  refine Nx.seq (hG d a b _ _ fun wd hw => ?_)
  refine Nx.seq (hH d a b wd _ _ hw ?_)
  refine Nx.seq (hI d a b wd _ _ hw ?_)
  refine hJ d a b wd _ _ hw ?_
  exact Nx.less (M' := []) (List.nil_sublist _) (fun e he => .inr (ownD e he)) (nx.gle (by unfold gZ; show GLe (gO K d a b none none none none none none none none none none none none none none) [none, none, none, none, none, none, none, none, none, none, none, none, none, none, none, none, none, none, none, none, none, none, none, none, none, none, none, none, none, none]; (repeat' (first | exact RP.GLe.nil | apply RP.GLe.keep | apply RP.GLe.drop))))
end
end K01

-- L01M
set_option maxRecDepth 100000
set_option maxHeartbeats 4000000
namespace K01
open PySem PySem.Spec PyProof.Rows L2 BG LW
open RP hiding Tb
open SSt
open LamX (Tabs TabS CodeO ExtN codeO_ne)
section
variable {P : Program} {w : World} {K : PySem.W.Frag} {mg : Str → Option Value} {base : Heap} {c9 : Fin 9 → Addr} {Ps : List Addr} {pT : Addr} {q0 : Str}
variable {f c : Addr} {k : Nat} {A : Around} {outer : List Env} {s : Shared} {H0 : Hp} {E : XK}
theorem l0 (nP : pT ∉ Ps) (Z : Callees P w K mg base (c9 0) (PT Ps pT q0) k) (T : Zs mg) (Y : Tol P w K mg base c9 c pT) (hq : q0 = (LX0 P w K mg base f c A outer s H0 E).env.qual ++ "<lambda>") (hr2 : Room (k + 2) (A.deeper (envOfC "law" (defScope s_law) s.heap.objs.size f (.ref c)))) : ∃ t, PS (LX0 P w K mg base f c A outer s H0 E) (lawS 0) t ∧ ∀ (a : Addr) (ns : List Int) (B : Bs) (D : L2.Ends), SqL K B.H0 a (ns.map V.int) → RP.Tb (PT Ps pT q0) B.H0 → (∀ x, ¬ B.W x) → Nx (PT Ps pT q0) B gZ [] D.nx → Nx (PT Ps pT q0) B (gB a) [] (t D) := by
  have hr : Room k (A.deeper (envOfC "law" (defScope s_law) s.heap.objs.size f (.ref c))) := hr2.mono (by omega)
  obtain ⟨tb, pb, hb⟩ := lround (f := f) (c := c) (A := A) (outer := outer) (s := s) (H0 := H0) (E := E) nP Z T Y hq hr2
  obtain ⟨_, _, _, k_law_rounds, G_law_rounds⟩ := Z.rounds
  refine ⟨_, (ps_for (passes_of rfl) rfl (pi_listK (K0 := K) rfl (pe_call G_law_rounds.ok (hr.mono k_law_rounds) (by rfl) G_law_rounds.g G_law_rounds.kp G_law_rounds.b .nil passF (pa_cons (pv 0) (pa_cons pe_int pa_nil)))) (pg_name (i := 1) sc_law.nd rfl (.inr rfl)) pb), fun a ns B D ha tb0 nW nx => ?_⟩
  exact Nx.rounds (K := K) (Gz := gZ) (fun d B' D' h _ => (hb d B' D' h).gle (by show GLe [some (At a), some (At d), none, none, none, none, none, none, none, none, none, none, none, none, none, none, none, none, none, none, none, none, none, none, none, none, none, none, none, none] (gA d none none none none none none none none none none none none none none none none none); (repeat' (first | exact RP.GLe.nil | apply RP.GLe.keep | apply RP.GLe.drop)))) rfl (fun i R h => by
    unfold gZ at h
    have := List.mem_of_getElem? h
    simp at this) ha tb0 nW (Ea.cons (Ev.var rfl) (Ea.cons (Ev.int (K := K) (n := 1)) Ea.nil)) nx
theorem l1 (nP : pT ∉ Ps) (Z : Callees P w K mg base (c9 0) (PT Ps pT q0) k) (Y : Tol P w K mg base c9 c pT) (hq : q0 = (LX0 P w K mg base f c A outer s H0 E).env.qual ++ "<lambda>") : ∃ t, PS (LX0 P w K mg base f c A outer s H0 E) (lawS 1) t ∧ ∀ B D, PreW (LX0 P w K mg base f c A outer s H0 E) 28 k c9 (PT Ps pT q0) B gZ [] D.nx → Nx (PT Ps pT q0) B gZ [] (t D) := by
  obtain ⟨_, _, _, k_check_folder, G_check_folder⟩ := Z.check_folder
  obtain ⟨_, _, _, k_check_path, G_check_path⟩ := Z.check_path
  obtain ⟨_, _, _, k_changed, G_changed⟩ := Z.changed
  obtain ⟨_, _, _, k_between, G_between⟩ := Z.between
  subst hq
  refine ⟨_, (ps_set (i := 28) sc_law.nd rfl (.inl rfl) (pe_lst (pa_cons (pe_tup (pa_cons (LX.pe_lam Y.TB rfl (List.mem_singleton.mpr rfl) (fun p hp _ => by rw [List.mem_singleton.mp hp]) (LamX.lamS_by (by show LamX.lamSB (defScope s_law) _ = true; decide +kernel))) (pa_cons pe_str pa_nil))) (pa_cons (pe_tup (pa_cons (LX.pe_lam Y.TB rfl (List.mem_singleton.mpr rfl) (fun p hp _ => by rw [List.mem_singleton.mp hp]) (LamX.lamS_by (by show LamX.lamSB (defScope s_law) _ = true; decide +kernel))) (pa_cons pe_str pa_nil))) (pa_cons (pe_tup (pa_cons (LX.pe_lam Y.TB rfl (List.mem_singleton.mpr rfl) (fun p hp _ => by rw [List.mem_singleton.mp hp]) (LamX.lamS_by (by show LamX.lamSB (defScope s_law) _ = true; decide +kernel))) (pa_cons pe_str pa_nil))) (pa_cons (pe_tup (pa_cons (LX.pe_lam Y.TB rfl (List.mem_singleton.mpr rfl) (fun p hp _ => by rw [List.mem_singleton.mp hp]) (LamX.lamS_by (by show LamX.lamSB (defScope s_law) _ = true; decide +kernel))) (pa_cons pe_str pa_nil))) (pa_cons (pe_tup (pa_cons (LX.pe_lam Y.TB rfl (List.mem_singleton.mpr rfl) (fun p hp _ => by rw [List.mem_singleton.mp hp]) (LamX.lamS_by (by show LamX.lamSB (defScope s_law) _ = true; decide +kernel))) (pa_cons pe_str pa_nil))) (pa_cons (pe_tup (pa_cons (LX.pe_lam Y.TB rfl (List.mem_singleton.mpr rfl) (fun p hp _ => by rw [List.mem_singleton.mp hp]) (LamX.lamS_by (by show LamX.lamSB (defScope s_law) _ = true; decide +kernel))) (pa_cons pe_str pa_nil))) (pa_cons (pe_tup (pa_cons (LX.pe_lam Y.TB rfl (List.mem_singleton.mpr rfl) (fun p hp _ => by rw [List.mem_singleton.mp hp]) (LamX.lamS_by (by show LamX.lamSB (defScope s_law) _ = true; decide +kernel))) (pa_cons pe_str pa_nil))) pa_nil))))))))), fun B D nx => ?_⟩
  have hT : (pT, some ((LX0 P w K mg base f c A outer s H0 E).env.qual ++ "<lambda>")) ∈ PT Ps pT ((LX0 P w K mg base f c A outer s H0 E).env.qual ++ "<lambda>") := List.mem_cons_self ..
  have un := un_mk (Ps := Ps) (q0 := (LX0 P w K mg base f c A outer s H0 E).env.qual ++ "<lambda>") nP
  have ow : ∀ e ∈ ([] : Mu), e.2.own = true := fun _ h => nomatch h
  obtain ⟨f1, f2, f3, f4, f5, f6, f7, f8, f9, f10⟩ := w_facts
  refine Nx.wrong (X := LX0 P w K mg base f c A outer s H0 E) (k := k) (c := c9) (n := 7) rfl (by decide) (EaW.cons hT un (fun _ => rfl) (fun c' => ⟨LamX.lamS_by (by show LamX.lamSB (defScope s_law) _ = true; dsimp only; decide +kernel), rfl, rfl, fun _ _ => rfl, fun A outer s H E f hr2 => (pe_call G_check_folder.ok (hr2.mono k_check_folder) (by rfl) G_check_folder.g G_check_folder.kp G_check_folder.b .nil (passes_call (takes_of rfl rfl rfl rfl) (fun _ _ _ _ h => h)) (pa_cons (pe_disp (pps_cons pe_str pe_str (pps_cons pe_str pe_str pps_nil)) rfl rfl (List.cons_ne_nil _ _) (by show 2 ≤ 15; decide)) pa_nil))⟩) (EvX.ofR 0 fun E => ?_)
    (EaW.cons hT un (fun _ => rfl) (fun c' => ⟨LamX.lamS_by (by show LamX.lamSB (defScope s_law) _ = true; dsimp only; decide +kernel), rfl, rfl, fun _ _ => rfl, fun A outer s H E f hr2 => (pe_call G_check_folder.ok (hr2.mono k_check_folder) (by rfl) G_check_folder.g G_check_folder.kp G_check_folder.b .nil (passes_call (takes_of rfl rfl rfl rfl) (fun _ _ _ _ h => h)) (pa_cons (pe_disp (pps_cons pe_str pe_str pps_nil) rfl rfl (List.cons_ne_nil _ _) (by show 1 ≤ 15; decide)) pa_nil))⟩) (EvX.ofR 0 fun E => ?_)
    (EaW.cons hT un (fun _ => rfl) (fun c' => ⟨LamX.lamS_by (by show LamX.lamSB (defScope s_law) _ = true; dsimp only; decide +kernel), rfl, rfl, fun _ _ => rfl, fun A outer s H E f hr2 => (pe_call G_check_path.ok (hr2.mono k_check_path) (by rfl) G_check_path.g G_check_path.kp G_check_path.b .nil (passes_call (takes_of rfl rfl rfl rfl) (fun _ _ _ _ h => h)) (pa_cons pe_str pa_nil))⟩) (EvX.ofR 0 fun E => ?_)
    (EaW.cons hT un (fun _ => rfl) (fun c' => ⟨LamX.lamS_by (by show LamX.lamSB (defScope s_law) _ = true; dsimp only; decide +kernel), rfl, rfl, fun _ _ => rfl, fun A outer s H E f hr2 => (pe_call G_check_path.ok (hr2.mono k_check_path) (by rfl) G_check_path.g G_check_path.kp G_check_path.b .nil (passes_call (takes_of rfl rfl rfl rfl) (fun _ _ _ _ h => h)) (pa_cons pe_str pa_nil))⟩) (EvX.ofR 0 fun E => ?_)
    (EaW.cons hT un (fun _ => rfl) (fun c' => ⟨LamX.lamS_by (by show LamX.lamSB (defScope s_law) _ = true; dsimp only; decide +kernel), rfl, rfl, fun _ _ => rfl, fun A outer s H E f hr2 => (pe_call G_changed.ok (hr2.mono k_changed) (by rfl) G_changed.g G_changed.kp G_changed.b .nil (passes_call (takes_of rfl rfl rfl rfl) (fun _ _ _ _ h => h)) (pa_cons pe_dnewK (pa_cons (pe_lst (pa_cons (pe_tup (pa_cons pe_str (pa_cons pe_non pa_nil))) pa_nil)) pa_nil)))⟩) (EvX.ofR 0 fun E => ?_)
    (EaW.cons hT un (fun _ => rfl) (fun c' => ⟨LamX.lamS_by (by show LamX.lamSB (defScope s_law) _ = true; dsimp only; decide +kernel), rfl, rfl, fun _ _ => rfl, fun A outer s H E f hr2 => (pe_call G_changed.ok (hr2.mono k_changed) (by rfl) G_changed.g G_changed.kp G_changed.b .nil (passes_call (takes_of rfl rfl rfl rfl) (fun _ _ _ _ h => h)) (pa_cons (pe_disp (pps_cons pe_str pe_str pps_nil) rfl rfl (List.cons_ne_nil _ _) (by show 1 ≤ 15; decide)) (pa_cons (pe_lst (pa_cons (pe_tup (pa_cons pe_str (pa_cons pe_str pa_nil))) pa_nil)) pa_nil)))⟩) (EvX.ofR 0 fun E => ?_)
    (EaW.cons hT un (fun _ => rfl) (fun c' => ⟨LamX.lamS_by (by show LamX.lamSB (defScope s_law) _ = true; dsimp only; decide +kernel), rfl, rfl, fun _ _ => rfl, fun A outer s H E f hr2 => (pe_call G_between.ok (hr2.mono k_between) (by rfl) G_between.g G_between.kp G_between.b .nil (passes_call (takes_of rfl rfl rfl rfl) (fun _ _ _ _ h => h)) (pa_cons (pe_disp (pps_cons pe_str pe_str pps_nil) rfl rfl (List.cons_ne_nil _ _) (by show 1 ≤ 15; decide)) (pa_cons pe_dnewK pa_nil)))⟩) (EvX.ofR 0 fun E => ?_)
    EaW.nil))))))) nx
  · exact EvR.callo ow fAB (Ea.cons (Ev.to (Ev.disp (K := K) (κ := Str) (α := Str) (l := [((Str.ofString "a"), (Str.ofString "")), ((Str.ofString "a/b"), (Str.ofString ""))]) ⟨Ev.str, Ev.str, Ev.str, Ev.str, trivial⟩ (by show 2 ≤ 15; decide)) (congrArg Dc.mk (by decide +kernel))) Ea.nil) (wps_d (by decide) (by decide +kernel) (by decide +kernel)) (if_neg (by rw [f1]; exact Bool.false_ne_true))
  · exact EvR.callo ow [("", "")] (Ea.cons (Ev.disp (K := K) (κ := Str) (α := Str) (l := [((Str.ofString ""), (Str.ofString ""))]) ⟨Ev.str, Ev.str, trivial⟩ (by show 1 ≤ 15; decide)) Ea.nil) (wps_d (by decide) (by decide +kernel) (by decide +kernel)) (if_neg (by rw [f2]; exact Bool.false_ne_true))
  · exact EvR.callx ow "a//b" (Ea.cons Ev.str Ea.nil) (wps_sm (by decide +kernel)).1 (if_neg (by rw [f3]; exact Bool.false_ne_true))
  · exact EvR.callx ow "../a" (Ea.cons Ev.str Ea.nil) (wps_sm (by decide +kernel)).1 (if_neg (by rw [f4]; exact Bool.false_ne_true))
  · exact EvR.callo ow (([] : Fold), (false, [("a", none)])) (Ea.cons (Ev.dnewZ (κ := Str) (α := Str)) (Ea.cons (Ev.lstL (K := K) (xs := [((Str.ofString "a", none) : Str × Option Str)]) (Ea.cons (Ev.pair Ev.str Ev.non) Ea.nil) (by show 1 ≤ 100; decide)) Ea.nil)) ⟨wps_d (by decide) List.nodup_nil (fun _ h => nomatch h), by show 1 ≤ 100; decide, fun e he => by rw [List.mem_singleton.mp he]; exact w_rep _ (by decide +kernel), fun m hm => by
      have hm : dels [("a", none)] (sortF []) = some m := hm
      rw [f8] at hm
      cases hm⟩ (if_neg (by show ¬ okChgd [] [("a", none)] = true; rw [f5]; exact Bool.false_ne_true))
  · exact EvR.callo ow (fA, (false, [("a/b", some "")])) (Ea.cons (Ev.disp (K := K) (κ := Str) (α := Str) (l := fA) ⟨Ev.str, Ev.str, trivial⟩ (by show 1 ≤ 15; decide)) (Ea.cons (Ev.lstL (K := K) (xs := [((Str.ofString "a/b", some (Str.ofString "")) : Str × Option Str)]) (Ea.cons (Ev.pair Ev.str ((Ev.str (K := K) (t := (Str.ofString ""))).imp fun F v r => r)) Ea.nil) (by show 1 ≤ 100; decide)) Ea.nil)) ⟨wps_d (by decide) (by decide +kernel) (by decide +kernel), by show 1 ≤ 100; decide, fun e he => by rw [List.mem_singleton.mp he]; exact w_rep _ (by decide +kernel), fun m hm => by
      have hm : dels [("a/b", some "")] (sortF fA) = some m := hm
      rw [f9] at hm
      cases hm
      show SmD (puts [("a/b", some "")] fA)
      rw [f10]
      exact wps_d (by decide) (by decide +kernel) (by decide +kernel)⟩ (if_neg (by show ¬ okChgd fA [("a/b", some "")] = true; rw [f6]; exact Bool.false_ne_true))
  · exact EvR.callx ow (([("/", "")] : Fold), ([] : Fold)) (Ea.cons (Ev.disp (K := K) (κ := Str) (α := Str) (l := [((Str.ofString "/"), (Str.ofString ""))]) ⟨Ev.str, Ev.str, trivial⟩ (by show 1 ≤ 15; decide)) (Ea.cons (Ev.dnewZ (κ := Str) (α := Str)) Ea.nil)) ⟨wps_d (by decide) (by decide +kernel) (by decide +kernel), wps_d (by decide) List.nodup_nil (fun _ h => nomatch h), by show 1 + 0 ≤ 15; decide⟩ (if_neg (by show ¬ (okFold [("/", "")] && okFold []) = true; rw [f7]; exact Bool.false_ne_true))
theorem l2 (Z : Callees P w K mg base (c9 0) (PT Ps pT q0) k) (Y : Tol P w K mg base c9 c pT) (hr2 : Room (k + 2) (A.deeper (envOfC "law" (defScope s_law) s.heap.objs.size f (.ref c)))) : ∃ t, PS (LX0 P w K mg base f c A outer s H0 E) (lawS 2) t ∧ ∀ B D, (∀ H, D.rt (.bl true) H) → PreW (LX0 P w K mg base f c A outer s H0 E) 28 k c9 (PT Ps pT q0) B gZ [] (t D) := by
  have hr := hr2.mono (show k ≤ k + 2 by omega)
  obtain ⟨g, fd, Fg, mgg, bd⟩ := Y.told
  obtain ⟨_, _, _, k_changed, G_changed⟩ := Z.changed
  obtain ⟨_, _, _, k_overs_of, G_overs_of⟩ := Z.overs_of
  refine ⟨_, (ps_ret (pe_and (pe_cmpR (op_eqKK (K0 := K) rfl (by first | exact hr.units | (have := hr.units; omega))) (LC.pe_lcI (own := [("pair", 29)]) (tt := fun σ => tTest (tOp rNe (LC.tToldC (LX0 P w K mg base f c A outer s H0 E) k σ (TT9 c9) (tCons (tOp (rIxT K) (tVar 29) (tC (.int 0))) tNil)) (tOp (rIxT K) (tVar 29) (tC (.int 1))))) rfl sc_law.nd (pi_listK (K0 := K) rfl (pv 28)) (blkOk_by (by show blkC Nlaw (defScope s_law) _ _ = true; decide +kernel)) (fun _ _ _ _ _ => (pg_name (i := 29) sc_law.nd rfl (.inl rfl))) (fun _ _ _ _ _ _ _ I0 fpok => (pts_one (pt_cmpR op_ne (LC.pe_toldC (k := k) (Ng := ["what"]) I0 fpok (by rfl) mgg Fg bd sc__law_told rfl (.inl rfl) (fun cdv => told9_gives Y.N) hr2 (pa_cons (pe_ix (r := rIxT K) (ix_tupKK rfl) (pv 29) pe_int (fun _ _ => rfl)) pa_nil)) (pe_ix (r := rIxT K) (ix_tupKK rfl) (pv 29) pe_int (fun _ _ => rfl)) (nomark _)))) (fun _ _ _ _ _ => (pv 29))) (pe_lst pa_nil) (nomark _)) (pe_and (pe_cmpR (RU.op_eqF (Nat.lt_of_le_of_lt (Nat.le_add_right _ _) hr.units)) (pe_call G_changed.ok (hr.mono k_changed) (by rfl) G_changed.g G_changed.kp G_changed.b .nil passF (pa_cons (pe_disp (pps_cons pe_str pe_str pps_nil) rfl rfl (List.cons_ne_nil _ _) (by show 1 ≤ 15; decide)) (pa_cons (pe_lst (pa_cons (pe_tup (pa_cons pe_str (pa_cons pe_non pa_nil))) (pa_cons (pe_tup (pa_cons pe_str (pa_cons pe_str pa_nil))) pa_nil))) pa_nil))) (pe_disp (pps_cons pe_str pe_str pps_nil) rfl rfl (List.cons_ne_nil _ _) (by show 1 ≤ 15; decide)) (nomark _)) (pe_one (pe_cmpR (op_eqKK (K0 := K) rfl (by first | exact hr.units | (have := hr.units; omega))) (pe_call G_overs_of.ok (hr.mono k_overs_of) (by rfl) G_overs_of.g G_overs_of.kp G_overs_of.b .nil passF (pa_cons pe_str pa_nil)) (pe_tup pa_nil) (nomark _)))))), fun B D rt σ F H a ps sa h20 ha hw => ?_⟩
  have len : σ.length = 30 := sa.en.1
  have ow : ∀ e ∈ ([] : Mu), e.2.own = true := fun _ h => nomatch h
  refine andStep (runWrong rfl (by rw [len]; decide) sa h20 ha hw fun F' H' s' => ⟨true, rfl, ?_⟩)
  rw [if_pos rfl]
  obtain ⟨v1, v2, v3, v4, v5⟩ := r_facts
  refine Ev.run (G := gZ) (M := []) (Rr := Is K true) (Ev.of_blp (K := K) (P := fun b => b = true) (Ev.andV (P1 := fun b => b = true) (Ev.blp (Ev.to (Ev.op (Ra := Is K (Dc.mk (chgdF [("a", "x")] [("a", none), ("a/b", some "y")]))) (Rb := Is K (Dc.mk [((Str.ofString "a/b"), (Str.ofString "y"))])) (Ev.calloD ow (([("a", "x")] : Fold), (false, ([("a", none), ("a/b", some "y")] : Chg))) (Ea.cons (Ev.disp (K := K) (κ := Str) (α := Str) (l := [((Str.ofString "a"), (Str.ofString "x"))]) ⟨Ev.str, Ev.str, trivial⟩ (by show 1 ≤ 15; decide)) (Ea.cons (Ev.lstL (K := K) (xs := [((Str.ofString "a", none) : Str × Option Str), (Str.ofString "a/b", some (Str.ofString "y"))]) (Ea.cons (Ev.pair Ev.str Ev.non) (Ea.cons (Ev.pair Ev.str ((Ev.str (K := K) (t := (Str.ofString "y"))).imp fun F v r => r)) Ea.nil)) (by show 2 ≤ 100; decide)) Ea.nil)) ⟨wps_d (by decide) (by decide +kernel) (by decide +kernel), by show 2 ≤ 100; decide, fun e he => by
      rcases List.mem_cons.mp he with rfl | he
      · exact w_rep _ (by decide +kernel)
      · rw [List.mem_singleton.mp he]
        exact w_rep _ (by decide +kernel), fun m hm => by
      have hm : dels [("a", none), ("a/b", some "y")] (sortF [("a", "x")]) = some m := hm
      rw [v2] at hm
      cases hm
      show SmD (puts [("a", none), ("a/b", some "y")] [])
      rw [v3]
      exact wps_d (by decide) (by decide +kernel) (by decide +kernel)⟩ (if_pos v1)) (Ev.disp (K := K) (κ := Str) (α := Str) (l := [((Str.ofString "a/b"), (Str.ofString "y"))]) ⟨Ev.str, Ev.str, trivial⟩ (by show 1 ≤ 15; decide)) (o2_deq (neg := false) (Ds.fz (l := Dc.mk _)) (Ds.fz (l := Dc.mk _)))) v4)) (fun h => nomatch h) fun _ => Ev.blp (Ev.to (Ev.op (Ra := Is K (Tl.mk (oversL (Str.ofString "a")))) (Rb := Is K (Tl.mk ([] : List Str))) (Ev.callx ow (Str.ofString "a") (Ea.cons Ev.str Ea.nil) (wps_sm (p := Str.ofString "a") (by decide +kernel)).2 rfl) (Ev.tupL (xs := ([] : List Str)) Ea.nil (by decide)) (o2_eqD ?_ ?_)) ?_)) fun c e => e) s'.en s'.sh fun v F2 H2 _ r => ?_
  · rw [show oversL (Str.ofString "a") = [] from v5]
    exact fun _ h => nomatch h
  · exact fun _ h => nomatch h
  · exact decide_eq_true (congrArg Tl.mk v5)
  · cases r
    exact rt H2
theorem body_is : defBody s_law = [lawS 0, lawS 1, lawS 2] := rfl
/-- the name of the law's lambdas -/
def lamQ : Str := (envOfC "law" (defScope s_law) 0 0 (.ref 0)).qual ++ "<lambda>"
theorem ok_law {fdl : FuncData} (F : FunC K "law" "law" s_law f fdl c) (Z : Callees P w K mg base (c9 0) (PT Ps pT lamQ) k) (T : Zs mg) (Y : Tol P w K mg base c9 c pT) (nP : pT ∉ Ps) :
    FnOk P w K mg base (L2.CX P w) (k + 3) f fdl ["script"] (sp_law K [(pT, lamQ)] Ps) := by
  refine F.okX sc_law (fun vs H Q E h => ?_) (fun A outer s H vs Q E hr h => ?_)
  · obtain ⟨a, ns, rfl, _⟩ := h
    rfl
  · obtain ⟨a, ns, rfl, ha, tab, tb, hq⟩ := h
    have hr0 := hr.mono (show k ≤ k + 2 by omega)
    obtain ⟨t0, p0, h0⟩ := l0 (q0 := lamQ) (f := f) (c := c) (A := A) (outer := outer) (s := s) (H0 := H) (E := E) nP Z T Y rfl hr
    obtain ⟨t1, p1, h1⟩ := l1 (q0 := lamQ) (f := f) (A := A) (outer := outer) (s := s) (H0 := H) (E := E) nP Z Y rfl
    obtain ⟨t2, p2, h2⟩ := l2 (q0 := lamQ) (f := f) (A := A) (outer := outer) (s := s) (H0 := H) (E := E) Z Y hr
    refine ⟨_, by rw [body_is]; exact pss_cons p0 (pss_cons p1 (pss_one p2)), ?_⟩
    have tb0 := tb_start tab tb
    have big : Nx (PT Ps pT lamQ) ⟨fun _ => none, H, fun a => a ∈ ([] : Mu).map (·.1)⟩ (gB a) [] (tSeq t0 (tSeq t1 t2) { nx := fun _ H' => Q .non H', rt := Q }) := by
      refine Nx.seq (h0 a ns _ _ ha tb0 (fun _ h => nomatch h) ?_)
      refine Nx.seq (h1 _ _ ?_)
      exact h2 _ _ hq
    exact big _ _ _ (sa_start (Nm := Nlaw) (T := []) tb0)
end
end K01

-- F011
set_option maxRecDepth 100000
set_option maxHeartbeats 4000000
namespace K01
open PySem PySem.Spec PyProof.Rows L2 BG LW
open RP hiding Tb
open LamX (Tabs TabS)
def mkD (x : Str) (st : Stmt) : He.DefD := ⟨(x, none), x, x, defArgs st, defBody st, defScope st, [], []⟩
def fnL : List He.DefD := [mkD "check_path" s_check_path, mkD "check_folder" s_check_folder, mkD "overs_of" s_overs_of, mkD "names_in" s_names_in, mkD "part_of" s_part_of, mkD "between" s_between, mkD "changes_to" s_changes_to, mkD "changed" s_changed, mkD "moved" s_moved, mkD "size_of" s_size_of, mkD "twins" s_twins, mkD "_law_dice" s__law_dice, mkD "_law_roll" s__law_roll, mkD "_law_rounds" s__law_rounds, mkD "_law_told" s__law_told, mkD "_law_text" s__law_text, mkD "_law_folder" s__law_folder, mkD "_law_next" s__law_next, mkD "law" s_law]
def faL : List He.Fa := [.glo "check_path", .glo "check_folder", .glo "overs_of", .glo "names_in", .glo "part_of", .glo "between", .glo "changes_to", .glo "changed", .glo "moved", .glo "size_of", .glo "twins", .glo "_law_dice", .glo "_law_roll", .glo "_law_rounds", .glo "_law_told", .glo "_law_text", .glo "_law_folder", .glo "_law_next", .glo "law", .glo "BadPath", .glo "BadPiece", .glo "BadRule", .glo "BadPaper", .glo "BadSize", .glo "BadStore", .glo "BadText", .glo "Lost", .glo "NoSuch", .exc "BadPath", .str "SIGNS" "abcdefghijklmnopqrstuvwxyz0123456789._-", .free "len", .free "range", .free "tuple", .free "list", .free "dict", .free "set", .free "sum", .free "min", .free "max", .free "int", .free "abs", .free "str", .free "ord", .free "chr", .free "repr", .free "any", .free "all", .free "sorted", .free "enumerate", .free "zip", .free "bool", .free "pow", .free "reversed", .free "isinstance"]
def tfL : List He.Defn := [("overs_of", none), ("names_in", none), ("changes_to", none), ("size_of", none), ("twins", none), ("check_folder", none), ("law", none)]
theorem fun_of {K : PySem.W.Frag} {x q : Str} {st : Stmt} {f : Addr} {fd : FuncData} (F : FunD K x q (defArgs st) (defBody st) (defScope st) [] [] f fd) : Fun K x q st f fd := by
  obtain ⟨oc, od, dV, kV, doc, pm, an, cdv, ct, osl, e, lk, hcd, hD, hK⟩ := F.ex
  rcases hD with ⟨_, rfl⟩ | ⟨e, _⟩
  · exact ⟨⟨oc, od, kV, doc, pm, an, cdv, ct, osl, e, lk, hcd⟩, F.kp⟩
  · exact absurd rfl e
theorem funC_of {K : PySem.W.Frag} {p : Str × Option Str} {x q : Str} {st : Stmt} {fd : FuncData} (F : FunD K x q (defArgs st) (defBody st) (defScope st) [] [] (He.fAd K p) fd) : FunC K x q st (He.fAd K p) fd (He.codeOf K p) := by
  obtain ⟨oc, od, dV, kV, doc, pm, an, cdv, ct, osl, e, lk, hcd, hD, hK⟩ := F.ex
  obtain ⟨c0, rfl⟩ := He.codeIn_ref hcd
  rcases hD with ⟨_, rfl⟩ | ⟨e, _⟩
  · have ec : He.codeOf K p = c0 := He.codeOf_eq (p := p) lk (by rw [e])
    rw [ec]
    exact ⟨⟨oc, od, kV, doc, pm, an, ct, osl, e, lk, hcd⟩, F.kp⟩
  · exact absurd rfl e
def nm9 : List Str := ["BadPath", "BadPiece", "BadRule", "BadPaper", "BadSize", "BadStore", "BadText", "Lost", "NoSuch"]
def c9 (K : PySem.W.Frag) : Fin 9 → Addr := fun i => He.ga K (nm9.getD i.val "")
/-- no error is another's kind -/
def exM (K : PySem.W.Frag) : Bool := (List.finRange 9).all fun i => (List.finRange 9).all fun j => decide (PySem.W.exmOne K (.ref (c9 K i)) (.ref (c9 K j)) = some (decide (i = j)))
theorem exM_ok {K : PySem.W.Frag} (h : exM K = true) (i j : Fin 9) : PySem.W.exmOne K (.ref (c9 K i)) (.ref (c9 K j)) = some (decide (i = j)) :=
  of_decide_eq_true (List.all_eq_true.mp (List.all_eq_true.mp h i (List.mem_finRange i)) j (List.mem_finRange j))
/-- the law's own table is none of the others, and the errors are apart -/
def exL (K : PySem.W.Frag) : Bool := !([(He.cT K ("overs_of", none)).2, (He.cT K ("names_in", none)).2, (He.cT K ("changes_to", none)).2, (He.cT K ("size_of", none)).2, (He.cT K ("twins", none)).2, (He.cT K ("check_folder", none)).2].contains (He.cT K ("law", none)).2) && exM K
theorem triples0 : TriplesOk ([] : List Value) := by
  first | exact .nil | exact trivial | simp [TriplesOk]
theorem un_PT {Ps : List Addr} {pT : Addr} {q : Str} (nP : pT ∉ Ps) {p : Addr} (hp : p ∈ Ps) : ∀ e ∈ LW.PT Ps pT q, e.1 = p → e.2 = none := fun e he h => by
  rcases List.mem_cons.mp he with rfl | he
  · exact absurd (show pT ∈ Ps from (show pT = p from h) ▸ hp) nP
  · obtain ⟨q, _, rfl⟩ := List.mem_map.mp he
    rfl
theorem passAny {P : Program} {w : World} (X : Cx) : Passes (L2.CX P w) X (fun _ _ _ => False) := fun _ _ _ _ _ _ _ c => by
  obtain ⟨_, _, _, _, _, _, _, _, _, _, _, _, hE⟩ := c
  exact hE.elim
theorem in_PT {Ps : List Addr} {pT : Addr} {q : Str} {p : Addr} (hp : p ∈ Ps) : (p, none) ∈ LW.PT Ps pT q := List.mem_cons_of_mem _ (List.mem_map.mpr ⟨p, hp, rfl⟩)
theorem facts {l : PySem.W.OpenLaw} {w : World} {K : PySem.W.Frag} {h : Heap} {mg : Str → Option Value} {fa : Addr} {n : Nat} (X : K.In h) (G : h.Ns mainGlobals mg) (hfa : mg ("law" : Str) = some (.ref fa)) (c : He.SaysX faL fnL [] tfL exL w h K) :
    LamX.LawAtS l w K (L2.CX l.prog w) 22 n "script" mg fa h := by
  have c0 := c.t.d
  obtain ⟨d0, F0⟩ := c0.def_ 0 (d := mkD "check_path" s_check_path) rfl
  obtain ⟨d1, F1⟩ := c0.def_ 1 (d := mkD "check_folder" s_check_folder) rfl
  obtain ⟨d2, F2⟩ := c0.def_ 2 (d := mkD "overs_of" s_overs_of) rfl
  obtain ⟨d3, F3⟩ := c0.def_ 3 (d := mkD "names_in" s_names_in) rfl
  obtain ⟨d4, F4⟩ := c0.def_ 4 (d := mkD "part_of" s_part_of) rfl
  obtain ⟨d5, F5⟩ := c0.def_ 5 (d := mkD "between" s_between) rfl
  obtain ⟨d6, F6⟩ := c0.def_ 6 (d := mkD "changes_to" s_changes_to) rfl
  obtain ⟨d7, F7⟩ := c0.def_ 7 (d := mkD "changed" s_changed) rfl
  obtain ⟨d8, F8⟩ := c0.def_ 8 (d := mkD "moved" s_moved) rfl
  obtain ⟨d9, F9⟩ := c0.def_ 9 (d := mkD "size_of" s_size_of) rfl
  obtain ⟨d10, F10⟩ := c0.def_ 10 (d := mkD "twins" s_twins) rfl
  obtain ⟨d11, F11⟩ := c0.def_ 11 (d := mkD "_law_dice" s__law_dice) rfl
  obtain ⟨d12, F12⟩ := c0.def_ 12 (d := mkD "_law_roll" s__law_roll) rfl
  obtain ⟨d13, F13⟩ := c0.def_ 13 (d := mkD "_law_rounds" s__law_rounds) rfl
  obtain ⟨d14, F14⟩ := c0.def_ 14 (d := mkD "_law_told" s__law_told) rfl
  obtain ⟨d15, F15⟩ := c0.def_ 15 (d := mkD "_law_text" s__law_text) rfl
  obtain ⟨d16, F16⟩ := c0.def_ 16 (d := mkD "_law_folder" s__law_folder) rfl
  obtain ⟨d17, F17⟩ := c0.def_ 17 (d := mkD "_law_next" s__law_next) rfl
  obtain ⟨d18, F18⟩ := c0.def_ 18 (d := mkD "law" s_law) rfl
  have g_check_path := He.glo_ok X G (c0.fact 0 (f := .glo "check_path") rfl)
  have g_check_folder := He.glo_ok X G (c0.fact 1 (f := .glo "check_folder") rfl)
  have g_overs_of := He.glo_ok X G (c0.fact 2 (f := .glo "overs_of") rfl)
  have g_names_in := He.glo_ok X G (c0.fact 3 (f := .glo "names_in") rfl)
  have g_part_of := He.glo_ok X G (c0.fact 4 (f := .glo "part_of") rfl)
  have g_between := He.glo_ok X G (c0.fact 5 (f := .glo "between") rfl)
  have g_changes_to := He.glo_ok X G (c0.fact 6 (f := .glo "changes_to") rfl)
  have g_changed := He.glo_ok X G (c0.fact 7 (f := .glo "changed") rfl)
  have g_moved := He.glo_ok X G (c0.fact 8 (f := .glo "moved") rfl)
  have g_size_of := He.glo_ok X G (c0.fact 9 (f := .glo "size_of") rfl)
  have g_twins := He.glo_ok X G (c0.fact 10 (f := .glo "twins") rfl)
  have g__law_dice := He.glo_ok X G (c0.fact 11 (f := .glo "_law_dice") rfl)
  have g__law_roll := He.glo_ok X G (c0.fact 12 (f := .glo "_law_roll") rfl)
  have g__law_rounds := He.glo_ok X G (c0.fact 13 (f := .glo "_law_rounds") rfl)
  have g__law_told := He.glo_ok X G (c0.fact 14 (f := .glo "_law_told") rfl)
  have g__law_text := He.glo_ok X G (c0.fact 15 (f := .glo "_law_text") rfl)
  have g__law_folder := He.glo_ok X G (c0.fact 16 (f := .glo "_law_folder") rfl)
  have g__law_next := He.glo_ok X G (c0.fact 17 (f := .glo "_law_next") rfl)
  have g_law := He.glo_ok X G (c0.fact 18 (f := .glo "law") rfl)
  have g_BadPath := He.glo_ok X G (c0.fact 19 (f := .glo "BadPath") rfl)
  have g_BadPiece := He.glo_ok X G (c0.fact 20 (f := .glo "BadPiece") rfl)
  have g_BadRule := He.glo_ok X G (c0.fact 21 (f := .glo "BadRule") rfl)
  have g_BadPaper := He.glo_ok X G (c0.fact 22 (f := .glo "BadPaper") rfl)
  have g_BadSize := He.glo_ok X G (c0.fact 23 (f := .glo "BadSize") rfl)
  have g_BadStore := He.glo_ok X G (c0.fact 24 (f := .glo "BadStore") rfl)
  have g_BadText := He.glo_ok X G (c0.fact 25 (f := .glo "BadText") rfl)
  have g_Lost := He.glo_ok X G (c0.fact 26 (f := .glo "Lost") rfl)
  have g_NoSuch := He.glo_ok X G (c0.fact 27 (f := .glo "NoSuch") rfl)
  obtain ⟨BadPath1, BadPath2, BadPath3, BadPath4⟩ := He.exc_ok (c0.fact 28 (f := .exc "BadPath") rfl)
  have X_BadPath : Exn K mg "BadPath" (He.ga K "BadPath") := ⟨BadPath1, g_BadPath, BadPath2, BadPath3, BadPath4⟩
  have i_SIGNS := He.str_ok X G (c0.fact 29 (f := .str "SIGNS" "abcdefghijklmnopqrstuvwxyz0123456789._-") rfl)
  have z_len := He.free_ok X G (c0.fact 30 (f := .free "len") rfl)
  have z_range := He.free_ok X G (c0.fact 31 (f := .free "range") rfl)
  have z_tuple := He.free_ok X G (c0.fact 32 (f := .free "tuple") rfl)
  have z_list := He.free_ok X G (c0.fact 33 (f := .free "list") rfl)
  have z_dict := He.free_ok X G (c0.fact 34 (f := .free "dict") rfl)
  have z_set := He.free_ok X G (c0.fact 35 (f := .free "set") rfl)
  have z_sum := He.free_ok X G (c0.fact 36 (f := .free "sum") rfl)
  have z_min := He.free_ok X G (c0.fact 37 (f := .free "min") rfl)
  have z_max := He.free_ok X G (c0.fact 38 (f := .free "max") rfl)
  have z_int := He.free_ok X G (c0.fact 39 (f := .free "int") rfl)
  have z_abs := He.free_ok X G (c0.fact 40 (f := .free "abs") rfl)
  have z_str := He.free_ok X G (c0.fact 41 (f := .free "str") rfl)
  have z_ord := He.free_ok X G (c0.fact 42 (f := .free "ord") rfl)
  have z_chr := He.free_ok X G (c0.fact 43 (f := .free "chr") rfl)
  have z_repr := He.free_ok X G (c0.fact 44 (f := .free "repr") rfl)
  have z_any := He.free_ok X G (c0.fact 45 (f := .free "any") rfl)
  have z_all := He.free_ok X G (c0.fact 46 (f := .free "all") rfl)
  have z_sorted := He.free_ok X G (c0.fact 47 (f := .free "sorted") rfl)
  have z_enumerate := He.free_ok X G (c0.fact 48 (f := .free "enumerate") rfl)
  have z_zip := He.free_ok X G (c0.fact 49 (f := .free "zip") rfl)
  have z_bool := He.free_ok X G (c0.fact 50 (f := .free "bool") rfl)
  have z_pow := He.free_ok X G (c0.fact 51 (f := .free "pow") rfl)
  have z_reversed := He.free_ok X G (c0.fact 52 (f := .free "reversed") rfl)
  have z_isinstance := He.free_ok X G (c0.fact 53 (f := .free "isinstance") rfl)
  have e := hfa.symm.trans g_law
  cases e
  have T : Zs mg := ⟨z_len, z_range, z_tuple, z_list, z_dict, z_set, z_sum, z_min, z_max, z_int, z_abs, z_str, z_ord, z_chr, z_repr, z_any, z_all, z_sorted, z_enumerate, z_zip, z_bool, z_pow, z_reversed, z_isinstance⟩
  have more : ¬ (He.cT K ("law", none)).2 ∈ [(He.cT K ("overs_of", none)).2, (He.cT K ("names_in", none)).2, (He.cT K ("changes_to", none)).2, (He.cT K ("size_of", none)).2, (He.cT K ("twins", none)).2, (He.cT K ("check_folder", none)).2] ∧ exM K = true := by
    have q := c.more
    unfold exL at q
    rw [Bool.and_eq_true] at q
    refine ⟨fun z => ?_, q.2⟩
    have q1 := q.1
    rw [List.contains_iff_mem.mpr z] at q1
    cases q1
  have nP := more.1
  have N : Nine K mg (c9 K) := ⟨g_BadPath, g_BadPiece, g_BadRule, g_BadPaper, g_BadSize, g_BadStore, g_BadText, g_Lost, g_NoSuch, exM_ok more.2⟩
  have f0 := fun_of (x := "check_path") (q := "check_path") (st := s_check_path) F0
  have b0 := f0.binds (ps := ["path"]) fun _ _ _ _ _ _ us hl => match us, hl with | [_], _ => rfl
  have f1 := funC_of (p := ("check_folder", none)) (x := "check_folder") (q := "check_folder") (st := s_check_folder) F1
  have b1 := f1.binds (ps := ["table"]) fun _ _ _ _ _ _ us hl => match us, hl with | [_], _ => rfl
  have f2 := funC_of (p := ("overs_of", none)) (x := "overs_of") (q := "overs_of") (st := s_overs_of) F2
  have b2 := f2.binds (ps := ["path"]) fun _ _ _ _ _ _ us hl => match us, hl with | [_], _ => rfl
  have f3 := funC_of (p := ("names_in", none)) (x := "names_in") (q := "names_in") (st := s_names_in) F3
  have b3 := f3.binds (ps := ["table", "over"]) fun _ _ _ _ _ _ us hl => match us, hl with | [_, _], _ => rfl
  have f4 := fun_of (x := "part_of") (q := "part_of") (st := s_part_of) F4
  have b4 := f4.binds (ps := ["table", "over"]) fun _ _ _ _ _ _ us hl => match us, hl with | [_, _], _ => rfl
  have f5 := fun_of (x := "between") (q := "between") (st := s_between) F5
  have b5 := f5.binds (ps := ["one", "other"]) fun _ _ _ _ _ _ us hl => match us, hl with | [_, _], _ => rfl
  have f6 := funC_of (p := ("changes_to", none)) (x := "changes_to") (q := "changes_to") (st := s_changes_to) F6
  have b6 := f6.binds (ps := ["one", "other"]) fun _ _ _ _ _ _ us hl => match us, hl with | [_, _], _ => rfl
  have f7 := fun_of (x := "changed") (q := "changed") (st := s_changed) F7
  have b7 := f7.binds (ps := ["table", "changes"]) fun _ _ _ _ _ _ us hl => match us, hl with | [_, _], _ => rfl
  have f8 := fun_of (x := "moved") (q := "moved") (st := s_moved) F8
  have b8 := f8.binds (ps := ["one", "other"]) fun _ _ _ _ _ _ us hl => match us, hl with | [_, _], _ => rfl
  have f9 := funC_of (p := ("size_of", none)) (x := "size_of") (q := "size_of") (st := s_size_of) F9
  have b9 := f9.binds (ps := ["table"]) fun _ _ _ _ _ _ us hl => match us, hl with | [_], _ => rfl
  have f10 := funC_of (p := ("twins", none)) (x := "twins") (q := "twins") (st := s_twins) F10
  have b10 := f10.binds (ps := ["table"]) fun _ _ _ _ _ _ us hl => match us, hl with | [_], _ => rfl
  have f11 := fun_of (x := "_law_dice") (q := "_law_dice") (st := s__law_dice) F11
  have b11 := f11.binds (ps := ["cell"]) fun _ _ _ _ _ _ us hl => match us, hl with | [_], _ => rfl
  have f12 := fun_of (x := "_law_roll") (q := "_law_roll") (st := s__law_roll) F12
  have b12 := f12.binds (ps := ["dice", "many"]) fun _ _ _ _ _ _ us hl => match us, hl with | [_, _], _ => rfl
  have f13 := fun_of (x := "_law_rounds") (q := "_law_rounds") (st := s__law_rounds) F13
  have b13 := f13.binds (ps := ["script", "most"]) fun _ _ _ _ _ _ us hl => match us, hl with | [_, _], _ => rfl
  have f14 := fun_of (x := "_law_told") (q := "_law_told") (st := s__law_told) F14
  have b14 := f14.binds (ps := ["what"]) fun _ _ _ _ _ _ us hl => match us, hl with | [_], _ => rfl
  have f15 := fun_of (x := "_law_text") (q := "_law_text") (st := s__law_text) F15
  have b15 := f15.binds (ps := ["dice", "most"]) fun _ _ _ _ _ _ us hl => match us, hl with | [_, _], _ => rfl
  have f16 := fun_of (x := "_law_folder") (q := "_law_folder") (st := s__law_folder) F16
  have b16 := f16.binds (ps := ["dice", "most"]) fun _ _ _ _ _ _ us hl => match us, hl with | [_, _], _ => rfl
  have f17 := fun_of (x := "_law_next") (q := "_law_next") (st := s__law_next) F17
  have b17 := f17.binds (ps := ["dice", "table", "most"]) fun _ _ _ _ _ _ us hl => match us, hl with | [_, _, _], _ => rfl
  have f18 := funC_of (p := ("law", none)) (x := "law") (q := "law") (st := s_law) F18
  have b18 := f18.binds (ps := ["script"]) fun _ _ _ _ _ _ us hl => match us, hl with | [_], _ => rfl
  refine ⟨d18, tfL.map (He.cT K), sp_law K [((He.cT K ("law", none)).2, lamQ)] [(He.cT K ("overs_of", none)).2, (He.cT K ("names_in", none)).2, (He.cT K ("changes_to", none)).2, (He.cT K ("size_of", none)).2, (He.cT K ("twins", none)).2, (He.cT K ("check_folder", none)).2], fun p hp => ?_, fun p hp => ?_, fun p hp => ?_, fun s u => ?_, fun H a ns _ _ hT hS => ?_, fun base KB GB TB => ?_⟩
  · obtain ⟨q, hq, rfl⟩ := List.mem_map.mp hp
    exact c.empty q hq
  · obtain ⟨q, hq, rfl⟩ := List.mem_map.mp hp
    exact c.out q hq
  · obtain ⟨q, hq, rfl⟩ := List.mem_map.mp hp
    exact PySem.W.codeHd_of_K X (c.hd q hq)
  · exact FunD.bindsA (ps := ["script"]) F18 (fun _ _ _ _ _ _ us hl => match us, hl with | [_], _ => rfl) s [u] rfl
  · have t0 := hT (He.cT K ("overs_of", none)) (List.mem_map.mpr ⟨_, by simp [tfL], rfl⟩)
    have t1 := hT (He.cT K ("names_in", none)) (List.mem_map.mpr ⟨_, by simp [tfL], rfl⟩)
    have t2 := hT (He.cT K ("changes_to", none)) (List.mem_map.mpr ⟨_, by simp [tfL], rfl⟩)
    have t3 := hT (He.cT K ("size_of", none)) (List.mem_map.mpr ⟨_, by simp [tfL], rfl⟩)
    have t4 := hT (He.cT K ("twins", none)) (List.mem_map.mpr ⟨_, by simp [tfL], rfl⟩)
    have t5 := hT (He.cT K ("check_folder", none)) (List.mem_map.mpr ⟨_, by simp [tfL], rfl⟩)
    have t6 := hT (He.cT K ("law", none)) (List.mem_map.mpr ⟨_, by simp [tfL], rfl⟩)
    refine ⟨a, ns, rfl, hS, fun p hp => ?_, fun p hp => ?_, fun _ => rfl⟩
    · rw [List.mem_singleton.mp hp]
      exact ⟨#[], t6, triples0, fun pos cv hc => by cases hc⟩
    · simp only [List.mem_cons, List.not_mem_nil, or_false] at hp
      rcases hp with rfl | rfl | rfl | rfl | rfl | rfl
      · exact ⟨#[], t0, triples0⟩
      · exact ⟨#[], t1, triples0⟩
      · exact ⟨#[], t2, triples0⟩
      · exact ⟨#[], t3, triples0⟩
      · exact ⟨#[], t4, triples0⟩
      · exact ⟨#[], t5, triples0⟩
  · have B0 := TB (He.cT K ("overs_of", none)) (List.mem_map.mpr ⟨_, by simp [tfL], rfl⟩)
    have B1 := TB (He.cT K ("names_in", none)) (List.mem_map.mpr ⟨_, by simp [tfL], rfl⟩)
    have B2 := TB (He.cT K ("changes_to", none)) (List.mem_map.mpr ⟨_, by simp [tfL], rfl⟩)
    have B3 := TB (He.cT K ("size_of", none)) (List.mem_map.mpr ⟨_, by simp [tfL], rfl⟩)
    have B4 := TB (He.cT K ("twins", none)) (List.mem_map.mpr ⟨_, by simp [tfL], rfl⟩)
    have B5 := TB (He.cT K ("check_folder", none)) (List.mem_map.mpr ⟨_, by simp [tfL], rfl⟩)
    have B6 := TB (He.cT K ("law", none)) (List.mem_map.mpr ⟨_, by simp [tfL], rfl⟩)
    have g (b : Addr × Addr) (B : LamX.TabB base mg b.1 b.2) : GxR.TabB base mg b.1 b.2 := ⟨B.code, B.bm, B.gP⟩
    have M0 : (He.cT K ("overs_of", none)).2 ∈ [(He.cT K ("overs_of", none)).2, (He.cT K ("names_in", none)).2, (He.cT K ("changes_to", none)).2, (He.cT K ("size_of", none)).2, (He.cT K ("twins", none)).2, (He.cT K ("check_folder", none)).2] := by simp
    have M1 : (He.cT K ("names_in", none)).2 ∈ [(He.cT K ("overs_of", none)).2, (He.cT K ("names_in", none)).2, (He.cT K ("changes_to", none)).2, (He.cT K ("size_of", none)).2, (He.cT K ("twins", none)).2, (He.cT K ("check_folder", none)).2] := by simp
    have M2 : (He.cT K ("changes_to", none)).2 ∈ [(He.cT K ("overs_of", none)).2, (He.cT K ("names_in", none)).2, (He.cT K ("changes_to", none)).2, (He.cT K ("size_of", none)).2, (He.cT K ("twins", none)).2, (He.cT K ("check_folder", none)).2] := by simp
    have M3 : (He.cT K ("size_of", none)).2 ∈ [(He.cT K ("overs_of", none)).2, (He.cT K ("names_in", none)).2, (He.cT K ("changes_to", none)).2, (He.cT K ("size_of", none)).2, (He.cT K ("twins", none)).2, (He.cT K ("check_folder", none)).2] := by simp
    have M4 : (He.cT K ("twins", none)).2 ∈ [(He.cT K ("overs_of", none)).2, (He.cT K ("names_in", none)).2, (He.cT K ("changes_to", none)).2, (He.cT K ("size_of", none)).2, (He.cT K ("twins", none)).2, (He.cT K ("check_folder", none)).2] := by simp
    have M5 : (He.cT K ("check_folder", none)).2 ∈ [(He.cT K ("overs_of", none)).2, (He.cT K ("names_in", none)).2, (He.cT K ("changes_to", none)).2, (He.cT K ("size_of", none)).2, (He.cT K ("twins", none)).2, (He.cT K ("check_folder", none)).2] := by simp
    have q__law_dice : Cal l.prog w K mg base (L2.CX l.prog w) 1 "_law_dice" ["cell"] sp_dice _ _ := ⟨ok__law_dice (k := 0) f11 T, g__law_dice, f11.kp, b11⟩
    have q__law_roll : Cal l.prog w K mg base (L2.CX l.prog w) 1 "_law_roll" ["dice", "many"] sp_roll _ _ := ⟨ok__law_roll (k := 0) f12 T, g__law_roll, f12.kp, b12⟩
    have q__law_rounds : Cal l.prog w K mg base (L2.CX l.prog w) 2 "_law_rounds" ["script", "most"] (sp_rounds K) _ _ := ⟨ok__law_rounds (k := 1) f13 q__law_dice (by omega), g__law_rounds, f13.kp, b13⟩
    have q_check_path : Cal l.prog w K mg base (L2.CX l.prog w) 1 "check_path" ["path"] (sp_check_path (PT [(He.cT K ("overs_of", none)).2, (He.cT K ("names_in", none)).2, (He.cT K ("changes_to", none)).2, (He.cT K ("size_of", none)).2, (He.cT K ("twins", none)).2, (He.cT K ("check_folder", none)).2] (He.cT K ("law", none)).2 lamQ) K (c9 K 0)) _ _ := ⟨ok_check_path (k := 0) f0 X_BadPath i_SIGNS, g_check_path, f0.kp, b0⟩
    have q_overs_of : Cal l.prog w K mg base (L2.CX l.prog w) 8 "overs_of" ["path"] (sp_overs_of (PT [(He.cT K ("overs_of", none)).2, (He.cT K ("names_in", none)).2, (He.cT K ("changes_to", none)).2, (He.cT K ("size_of", none)).2, (He.cT K ("twins", none)).2, (He.cT K ("check_folder", none)).2] (He.cT K ("law", none)).2 lamQ) K) _ _ := ⟨ok_overs_of (k := 0) f2 (g _ B0) (in_PT M0) (un_PT nP M0) T.range T.len T.tuple, g_overs_of, f2.kp, b2⟩
    have q_check_folder : Cal l.prog w K mg base (L2.CX l.prog w) 10 "check_folder" ["table"] (sp_check_folder (PT [(He.cT K ("overs_of", none)).2, (He.cT K ("names_in", none)).2, (He.cT K ("changes_to", none)).2, (He.cT K ("size_of", none)).2, (He.cT K ("twins", none)).2, (He.cT K ("check_folder", none)).2] (He.cT K ("law", none)).2 lamQ) K (c9 K 0)) _ _ := ⟨ok_check_folder (k := 8) f1 (g _ B5) (in_PT M5) (un_PT nP M5) X_BadPath q_check_path q_overs_of (by omega) (by omega) T.any T.sorted, g_check_folder, f1.kp, b1⟩
    have q_part_of : Cal l.prog w K mg base (L2.CX l.prog w) 11 "part_of" ["table", "over"] (sp_part_of (PT [(He.cT K ("overs_of", none)).2, (He.cT K ("names_in", none)).2, (He.cT K ("changes_to", none)).2, (He.cT K ("size_of", none)).2, (He.cT K ("twins", none)).2, (He.cT K ("check_folder", none)).2] (He.cT K ("law", none)).2 lamQ) K (c9 K 0)) _ _ := ⟨ok_part_of (k := 10) f4 q_check_folder (by omega) T.len, g_part_of, f4.kp, b4⟩
    have q_names_in : Cal l.prog w K mg base (L2.CX l.prog w) 19 "names_in" ["table", "over"] (sp_names_in (PT [(He.cT K ("overs_of", none)).2, (He.cT K ("names_in", none)).2, (He.cT K ("changes_to", none)).2, (He.cT K ("size_of", none)).2, (He.cT K ("twins", none)).2, (He.cT K ("check_folder", none)).2] (He.cT K ("law", none)).2 lamQ) K (c9 K 0)) _ _ := ⟨ok_names_in (k := 11) f3 (g _ B1) (in_PT M1) (un_PT nP M1) q_part_of (by omega) T.tuple T.sorted, g_names_in, f3.kp, b3⟩
    have q_between : Cal l.prog w K mg base (L2.CX l.prog w) 11 "between" ["one", "other"] (sp_between (PT [(He.cT K ("overs_of", none)).2, (He.cT K ("names_in", none)).2, (He.cT K ("changes_to", none)).2, (He.cT K ("size_of", none)).2, (He.cT K ("twins", none)).2, (He.cT K ("check_folder", none)).2] (He.cT K ("law", none)).2 lamQ) K (c9 K 0)) _ _ := ⟨ok_between (k := 10) f5 q_check_folder (by omega) T.set T.sorted T.tuple, g_between, f5.kp, b5⟩
    have q_changes_to : Cal l.prog w K mg base (L2.CX l.prog w) 19 "changes_to" ["one", "other"] (sp_changes_to (PT [(He.cT K ("overs_of", none)).2, (He.cT K ("names_in", none)).2, (He.cT K ("changes_to", none)).2, (He.cT K ("size_of", none)).2, (He.cT K ("twins", none)).2, (He.cT K ("check_folder", none)).2] (He.cT K ("law", none)).2 lamQ) K (c9 K 0)) _ _ := ⟨ok_changes_to (k := 11) f6 (g _ B2) (in_PT M2) (un_PT nP M2) q_between (by omega) T.tuple, g_changes_to, f6.kp, b6⟩
    have q_changed : Cal l.prog w K mg base (L2.CX l.prog w) 11 "changed" ["table", "changes"] (sp_changed (PT [(He.cT K ("overs_of", none)).2, (He.cT K ("names_in", none)).2, (He.cT K ("changes_to", none)).2, (He.cT K ("size_of", none)).2, (He.cT K ("twins", none)).2, (He.cT K ("check_folder", none)).2] (He.cT K ("law", none)).2 lamQ) K (c9 K 0)) _ _ := ⟨ok_changed (k := 10) f7 X_BadPath q_check_folder (by omega), g_changed, f7.kp, b7⟩
    have q_moved : Cal l.prog w K mg base (L2.CX l.prog w) 12 "moved" ["one", "other"] (sp_moved (PT [(He.cT K ("overs_of", none)).2, (He.cT K ("names_in", none)).2, (He.cT K ("changes_to", none)).2, (He.cT K ("size_of", none)).2, (He.cT K ("twins", none)).2, (He.cT K ("check_folder", none)).2] (He.cT K ("law", none)).2 lamQ) K (c9 K 0)) _ _ := ⟨ok_moved (k := 11) f8 q_between (by omega) T.tuple T.sorted, g_moved, f8.kp, b8⟩
    have q_size_of : Cal l.prog w K mg base (L2.CX l.prog w) 8 "size_of" ["table"] (sp_size_of (PT [(He.cT K ("overs_of", none)).2, (He.cT K ("names_in", none)).2, (He.cT K ("changes_to", none)).2, (He.cT K ("size_of", none)).2, (He.cT K ("twins", none)).2, (He.cT K ("check_folder", none)).2] (He.cT K ("law", none)).2 lamQ) K) _ _ := ⟨ok_size_of (k := 0) f9 (g _ B3) (in_PT M3) (un_PT nP M3) T.sum T.len, g_size_of, f9.kp, b9⟩
    have q_twins : Cal l.prog w K mg base (L2.CX l.prog w) 18 "twins" ["table"] (sp_twins (PT [(He.cT K ("overs_of", none)).2, (He.cT K ("names_in", none)).2, (He.cT K ("changes_to", none)).2, (He.cT K ("size_of", none)).2, (He.cT K ("twins", none)).2, (He.cT K ("check_folder", none)).2] (He.cT K ("law", none)).2 lamQ) K (c9 K 0)) _ _ := ⟨ok_twins (k := 10) f10 (g _ B4) (in_PT M4) (un_PT nP M4) q_check_folder (by omega) T.tuple T.len, g_twins, f10.kp, b10⟩
    have q__law_text : Cal l.prog w K mg base (L2.CX l.prog w) 2 "_law_text" ["dice", "most"] (sp__law_text (PT [(He.cT K ("overs_of", none)).2, (He.cT K ("names_in", none)).2, (He.cT K ("changes_to", none)).2, (He.cT K ("size_of", none)).2, (He.cT K ("twins", none)).2, (He.cT K ("check_folder", none)).2] (He.cT K ("law", none)).2 lamQ) K) _ _ := ⟨ok__law_text (k := 1) f15 T q__law_roll (by omega), g__law_text, f15.kp, b15⟩
    have q__law_folder : Cal l.prog w K mg base (L2.CX l.prog w) 3 "_law_folder" ["dice", "most"] (sp__law_folder (PT [(He.cT K ("overs_of", none)).2, (He.cT K ("names_in", none)).2, (He.cT K ("changes_to", none)).2, (He.cT K ("size_of", none)).2, (He.cT K ("twins", none)).2, (He.cT K ("check_folder", none)).2] (He.cT K ("law", none)).2 lamQ) K) _ _ := ⟨ok__law_folder (k := 2) f16 T q__law_roll q__law_text (by omega) (by omega), g__law_folder, f16.kp, b16⟩
    have q__law_next : Cal l.prog w K mg base (L2.CX l.prog w) 4 "_law_next" ["dice", "table", "most"] (sp__law_next (PT [(He.cT K ("overs_of", none)).2, (He.cT K ("names_in", none)).2, (He.cT K ("changes_to", none)).2, (He.cT K ("size_of", none)).2, (He.cT K ("twins", none)).2, (He.cT K ("check_folder", none)).2] (He.cT K ("law", none)).2 lamQ) K) _ _ := ⟨ok__law_next (k := 3) f17 T q__law_roll q__law_text q__law_folder (by omega) (by omega) (by omega), g__law_next, f17.kp, b17⟩
    have Z : Callees l.prog w K mg base (c9 K 0) (PT [(He.cT K ("overs_of", none)).2, (He.cT K ("names_in", none)).2, (He.cT K ("changes_to", none)).2, (He.cT K ("size_of", none)).2, (He.cT K ("twins", none)).2, (He.cT K ("check_folder", none)).2] (He.cT K ("law", none)).2 lamQ) 19 := ⟨⟨_, _, 1, by omega, q__law_roll⟩, ⟨_, _, 2, by omega, q__law_rounds⟩, ⟨_, _, 2, by omega, q__law_text⟩, ⟨_, _, 3, by omega, q__law_folder⟩, ⟨_, _, 4, by omega, q__law_next⟩, ⟨_, _, 1, by omega, q_check_path⟩, ⟨_, _, 10, by omega, q_check_folder⟩, ⟨_, _, 8, by omega, q_overs_of⟩, ⟨_, _, 19, by omega, q_names_in⟩, ⟨_, _, 11, by omega, q_part_of⟩, ⟨_, _, 11, by omega, q_between⟩, ⟨_, _, 19, by omega, q_changes_to⟩, ⟨_, _, 11, by omega, q_changed⟩, ⟨_, _, 12, by omega, q_moved⟩, ⟨_, _, 8, by omega, q_size_of⟩, ⟨_, _, 18, by omega, q_twins⟩⟩
    exact ok_law (k := 19) f18 Z T ⟨N, B6, _, _, f14, g__law_told, b14⟩ nP
end K01

-- F012
set_option maxRecDepth 100000
set_option maxHeartbeats 0
namespace K01
open PySem PySem.Spec PyProof.Rows L2
abbrev R01 : PySem.W.OpenRow := PySem.W.OpenLaw.row PySem.Challenge.rw_keepwright_k01_folders_and_changes
abbrev hk01 : PySem.W.Hook := He.hookX 7 faL fnL [] tfL exL
def ob01 (s : PySem.W.SharedT) : He.AlX := He.obsX 7 faL fnL [] tfL exL (HandSHeadRun.getT s)
theorem ob01_eq (s : PySem.W.SharedT) : ob01 s = hk01.obs s.abs := He.obsX_eq (HandSHeadRun.getT_eq s)
theorem run01 (w : World) : HandSHeadRun.RunEq R01 (PySem.W.view R01.prog [32]) hk01 ob01 6000 ("KeepFault" :: "BadPath" :: "BadPiece" :: "BadRule" :: "BadPaper" :: "BadSize" :: "BadStore" :: "BadText" :: "Lost" :: "NoSuch" :: "SIGNS" :: "check_path" :: "check_folder" :: "overs_of" :: "names_in" :: "part_of" :: "between" :: "changes_to" :: "changed" :: "moved" :: "size_of" :: "twins" :: "_law_dice" :: "_law_roll" :: "_law_rounds" :: "_law_told" :: "_law_text" :: "_law_folder" :: "_law_next" :: [] : List PySem.Str) w := by
  intro os
  kernel_rfl
end K01

-- F013
open PySem PySem.W PySem.Calls PyProof.Rows
set_option maxRecDepth 100000
set_option maxHeartbeats 0
theorem PySem.Challenge.cw_keepwright_k01_folders_and_changes_holds : PySem.Challenge.rw_keepwright_k01_folders_and_changes.Holds := by
  w_on; o_law
  refine HandSHeadRun.head_any (r := OpenLaw.row PySem.Challenge.rw_keepwright_k01_folders_and_changes) (q := view (OpenLaw.row PySem.Challenge.rw_keepwright_k01_folders_and_changes).prog [32]) (H := K01.hk01) (ob := K01.ob01) (M := 6000)
    (loose := ("KeepFault" :: "BadPath" :: "BadPiece" :: "BadRule" :: "BadPaper" :: "BadSize" :: "BadStore" :: "BadText" :: "Lost" :: "NoSuch" :: "SIGNS" :: "check_path" :: "check_folder" :: "overs_of" :: "names_in" :: "part_of" :: "between" :: "changes_to" :: "changed" :: "moved" :: "size_of" :: "twins" :: "_law_dice" :: "_law_roll" :: "_law_rounds" :: "_law_told" :: "_law_text" :: "_law_folder" :: "_law_next" :: [] : List PySem.Str))
    (d := HandSHeadRun.topDef (OpenLaw.row PySem.Challenge.rw_keepwright_k01_folders_and_changes).prog 32) (kwd := []) K01.ob01_eq
    (by kernel_rfl) (fun s => by kernel_rfl) K01.run01 (by kernel_rfl) (by kernel_rfl) (by kernel_rfl) (by rfl) (by first | assumption | decide +kernel) (by decide +kernel) ⟨rfl, rfl, rfl, rfl, rfl, by decide +kernel⟩ ?hw ?hc
  case hw => w_witness2
  case hc =>
    refine LamX.walk_ofTsE (l := PySem.Challenge.rw_keepwright_k01_folders_and_changes) (n := 63) (k := 22) (x := "script") (CX := fun w => L2.CX (PySem.Challenge.rw_keepwright_k01_folders_and_changes).prog w) rfl (by decide) (by kernel_rfl) ⟨rfl, by decide, by decide⟩ ?F (fun _ _ _ _ _ z => ?_)
    · intro w mg fa h Y G hmg0
      obtain ⟨K, KX, c⟩ := Y
      have hmg : mg ("law" : PySem.Str) = some (.ref fa) := by
        have e : (HandSHeadRun.topDef (OpenLaw.row PySem.Challenge.rw_keepwright_k01_folders_and_changes).prog 32).name = ("law" : PySem.Str) := by kernel_rfl
        rw [← e]
        exact hmg0
      exact ⟨K, KX, K01.facts KX G hmg c⟩
    · obtain ⟨_, _, _, _, _, _, _, _, _, _, _, _, hE⟩ := z
      exact hE.elim
