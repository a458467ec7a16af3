import PyProof.Rows.All
import Wide.All
import OpenK.AllK
import Wide.FinOn
import HandS.ForMost
import HandS.AnyAll
import HandS.GenCall
import HandS.Deep
import HandS.TupAny
import HandS.TupMul
import HandS.Wide
import HandS.IsInst
import HandS.WordsExc
import HandS.ExcIs
import HandS.EndTab
import HandS.Conv
import HandS.Style
import PyProof.StrOps2
import PySem.Challenge.RW_onewatcher_k00_notary
set_option Elab.async false
set_option linter.all false
set_option maxRecDepth 100000
set_option maxHeartbeats 4000000
namespace Ow
open PySem PySem.Spec PyProof.Rows L2 GxR

/-- the context of a generator expression's code -/
abbrev gxCx (X : Cx) (s : Shared) (H : Hp) (scope : Scope) (cenv : Env) (A' : Around) (fp : List Addr) (pn : List (Addr × Obj)) : Cx :=
  { X with A := A', s_0 := s, H_0 := H, env := cenv, outer := X.stack, stack := cenv :: X.stack, ex := fp, fn := fun _ => false, calm := true, pn := pn, xe := fun _ _ => False }

section
variable {X : Cx} {pins : List (Addr × Obj)} {σ : L2.St} {H : Hp} {s : Shared}

theorem gx_start {scope : Scope} {own : List (Str × Nat)} {fp : List Addr} {A' : Around} {code : Value} {C : Addr} {h' : Heap} {g' : Array GenState} {t' : Nat} {mC : Str → Option Value} {pn : List (Addr × Obj)}
    (I : Inv X pins σ H s) (ok : BlkOk X.N X.env.scope scope own) (hcell : ∀ y ∈ scope.names, y.2 ≠ .cell) (hN : X.N.Nodup) (hfp : ∀ b ∈ fp, FpOk X pins H b ∧ b < s.heap.objs.size)
    (hC : s.heap.objs.size ≤ C) (hns : h'.Ns C mC) (kp : ∀ b o, s.heap.get? b = some o → h'.get? b = some o) (hg : AllBare g')
    (hA : A'.handled = none) (hfr : A'.frames = some (genEnv scope (cloFrom X.env.cells scope.names []) C code builtinsNs X.env :: X.stack))
    (hpn : ∀ p ∈ pn, h'.get? p.1 = some p.2 ∧ s.heap.objs.size ≤ p.1 ∧ p.1 ≠ C ∧ ∀ v, p.2.data ≠ .cell v) :
    Inv (gxCx X s H scope (genEnv scope (cloFrom X.env.cells scope.names []) C code builtinsNs X.env) A' fp pn) [] (wipe σ (own.map (·.2))) H { s with heap := h', gens := g', toks := t' } := by
  have hfree : ∀ y ∈ scope.names, y.2 = .free → ∃ c, X.env.cells.lookup y.1 = some c := fun y hy e => by
    rcases ok.free y hy e with k | k
    · exact I.ok.has _ (.inl k)
    · exact I.ok.has _ (.inr k)
  have cm : ∀ {y c}, (y, c) ∈ cloFrom X.env.cells scope.names [] → X.env.cells.lookup y = some c ∧ c < s.heap.objs.size := fun {y c} hm => by
    rcases cloFrom_mem hm with hm | ⟨h1, rfl⟩
    · cases hm
    · obtain ⟨c, hc⟩ := hfree _ h1 rfl
      rw [hc]
      obtain ⟨w, z⟩ := I.cell _ _ hc
      exact ⟨rfl, z.lt⟩
  have cml : ∀ {y c}, (cloFrom X.env.cells scope.names []).lookup y = some c → X.env.cells.lookup y = some c ∧ c < s.heap.objs.size := fun {y c} e => cm (PySem.mem_of_lookup e)
  have okB : (gxCx X s H scope (genEnv scope (cloFrom X.env.cells scope.names []) C code builtinsNs X.env) A' fp pn).Ok := by
    refine ⟨I.ok.mod, ok.kind, I.ok.glob, rfl, hC, fun y z c e1 e2 => ?_, fun y hy => ?_, fun y c z e => ?_, fun _ => hA, hfr, .inr ⟨rfl, rfl⟩, fun b hb => ⟨?_, fun y c e z => ?_⟩, I.bs, Nat.le_trans I.ok.bsz I.sz, fun b o e hb => ?_, fun b hb z => ?_, I.stack, I.stkFree⟩
    · exact I.ok.inj y z c (cml e1).1 (cml e2).1
    · rcases hy with hy | hy
      · have : scope.names.lookup y = some .cell := hy
        exact absurd rfl (hcell _ (PySem.mem_of_lookup this))
      · have hy' : scope.names.lookup y = some .free := hy
        obtain ⟨c', e'⟩ := mem_lookup (cloFrom_has (cells := X.env.cells) (acc := []) (PySem.mem_of_lookup hy'))
        exact ⟨c', e'⟩
    · cases z
    · show b ≠ C
      exact Nat.ne_of_lt (Nat.lt_of_lt_of_le (hfp b hb).2 hC)
    · have e : (cloFrom X.env.cells scope.names []).lookup y = some c := e
      exact (hfp b hb).1.2.2.2.2.1 y c (cml e).1 z
    · rcases (hfp b hb).1.2.2.2.1 with z | z
      · exact I.ok.noex b o e z
      · exact absurd (Nat.lt_of_lt_of_le (Heap.lt_size e) (Nat.le_trans I.ok.bsz z)) (Nat.lt_irrefl _)
    · rcases List.mem_cons.mp (I.stkSub b z) with z | z
      · exact (hfp b hb).1.2.1 z
      · exact (hfp b hb).1.2.2.1 z
  refine ⟨okB, rfl, hg, Un.kept kp, ⟨mC, hns, fun i y av e1 e2 e3 => ?_⟩, fun y c e => ?_, ?_, fun y c e => ?_, fun p hp => ?_, I.hok.kept kp, by rw [wipe_length]; exact I.len⟩
  · obtain ⟨e2, hne⟩ := wipe_some e2
    have e3 : Vis scope y := e3
    have no : ∀ k, scope.names.lookup y = some k → ¬ (k = .local ∨ k = .cell) := fun k e hh => by
      rcases ok.own _ (PySem.mem_of_lookup e) hh with e' | e'
      · obtain ⟨p, hp, hpy⟩ := List.mem_map.mp e'
        have e3 := ok.ix p hp
        have : p.1 = y := hpy
        rw [this] at e3
        exact hne (List.mem_map.mpr ⟨p, hp, nodup_ix hN e3 e1⟩)
      · exact e' (List.mem_of_getElem? e1)
    have hfr : scope.names.lookup y = some .free := by
      rcases e3 with e3 | e3 | e3
      · exact absurd (.inl rfl) (no _ e3)
      · exact absurd (.inr rfl) (no _ e3)
      · exact e3
    obtain ⟨m, hn, hl⟩ := I.loc
    have hvis : Vis X.env.scope y := (ok.free _ (PySem.mem_of_lookup hfr) rfl).elim (fun k => .inr (.inl k)) (fun k => .inr (.inr k))
    obtain ⟨w, r, q⟩ := hl i y av e1 e2 hvis
    refine ⟨w, r, .inr ⟨.inr hfr, ?_⟩⟩
    obtain ⟨c', e'⟩ := mem_lookup (cloFrom_has (cells := X.env.cells) (acc := []) (PySem.mem_of_lookup hfr))
    rcases q with ⟨k, _⟩ | ⟨_, c, e, z⟩
    · have k : X.env.scope.names.lookup y = some .local := k
      rcases ok.free _ (PySem.mem_of_lookup hfr) rfl with k' | k' <;> rw [show X.env.scope.names.lookup y = _ from k'] at k <;> cases k
    · have h1 := (cml e').1
      rw [h1] at e; cases e
      exact ⟨c', e', z.keeps kp⟩
  · have e : (cloFrom X.env.cells scope.names []).lookup y = some c := e
    obtain ⟨w, z⟩ := I.cell y c (cml e).1
    exact ⟨w, z.keeps kp⟩
  · show H C = none
    exact I.hok.fresh hC
  · have e : (cloFrom X.env.cells scope.names []).lookup y = some c := e
    exact I.freeC y c (cml e).1
  · have hp : p ∈ pn := by simpa using hp
    obtain ⟨h1, h2, h3, h4⟩ := hpn p hp
    exact ⟨h1, I.hok.fresh h2, h3, fun z => by
      rcases List.mem_cons.mp (I.stkSub p.1 z) with z | z
      · exact absurd (z ▸ I.lt) (Nat.not_lt_of_le h2)
      · exact I.nofs h2 z, h4⟩
end

/-- nothing but the table of generators has changed -/
structure Woke (s s' : Shared) : Prop where
  heap : s'.heap = s.heap
  os : s'.os = s.os
  bare : AllBare s'.gens
theorem inv_woke {X : Cx} {pins : List (Addr × Obj)} {σ : L2.St} {H : Hp} {s s' : Shared} (I : Inv X pins σ H s) (z : Woke s s') : Inv X pins σ H s' := by
  refine I.call' (ch := []) z.os (Un.kept fun b u e => by rw [z.heap]; exact e) (by rw [z.heap]; exact I.hok) z.bare fun b hb => absurd hb (by simp)

def gxEnd (X' : Cx) (σ0 : L2.St) (Qt : Hp → Prop) : GenEnd := fun n s₀ r s₁ => r = .ok .next ∧ ∃ H', Inv X' [] σ0 H' s₁ ∧ Qt H'
def gxOut (X' : Cx) (σ0 : L2.St) (Qf : Hp → Prop) : Protocol := fun n s₀ v s kap => ∃ (b : Bool) (H' : Hp), v = .bool b ∧ Inv X' [] σ0 H' s ∧ (b = false → Qf H') ∧ (b = true → ∀ s', Woke s s' → kap (.send .none) s')

/-- the turns of a generator expression of truth values: W by the turn and a measure -/
def gxTurns (J : It) (g : TG) (te : TE) (σ0 : L2.St) (vs : List Nat) (Qt Qf : Hp → Prop) (W : Nat → Nat → Hp → Prop) : Prop := ∀ i m H, W i m H →
  (J.stop i H ∧ Qt H) ∨ (J.go i H ∧ ∃ Nx : Hp → Prop, (∀ H', Nx H' → ∃ m', m' < m ∧ W (i + 1) m' H') ∧ ∀ x H', J.yld i H x H' → g x σ0 H' fun σ2 H2 => wipe σ2 vs = σ0 ∧ te σ2 H2 fun y H3 => ∃ b, y = .bl b ∧ (b = true → Nx H3) ∧ (b = false → Qf H3))

section
variable {X' : Cx} {A : Around} {elt tg iter : Expr} {scope : Scope} {pos : Pos} {it : Addr} {J : It} {fp : List Addr} {tn : Nat → Heap → Prop} {σ0 : L2.St} {vs : List Nat} {g : TG} {te : TE} {Qt Qf : Hp → Prop} {W : Nat → Nat → Hp → Prop}

theorem seg_gx (hA : X'.A = A.over (.compLoop (.GeneratorExp elt [⟨tg, iter, [], 0⟩] scope pos) 0 (.ref it) .none X'.env) []) (hc : X'.calm = true) (hco : X'.env.scope.isCoroutine = false) (hxe : X'.xe = fun _ _ => False) (hex : X'.ex = fp)
    (T : Turn X'.prog X'.w X'.K tg J fp it tn) (hg : PG X' tg g) (he : PE X' elt te) (hpn : ∀ b ∈ fp, ∀ p ∈ X'.pn, p.1 ≠ b) (hw : ∀ σ2 : L2.St, wipe σ2 vs = σ0 → ∀ (j : Nat) v, σ0[j]? = some (some v) → σ2[j]? = some (some v))
    (turn : gxTurns J g te σ0 vs Qt Qf W) :
    ∀ (m n i : Nat) (s₀ s : Shared) (H : Hp), m < n → Inv X' [] σ0 H s → tn i s.heap → (∀ b ∈ fp, H b = none) → W i m H →
      Seg (model X'.prog X'.w) A (gxEnd X' σ0 Qt) (gxOut X' σ0 Qf) n s₀ (.compLoop (.GeneratorExp elt [⟨tg, iter, [], 0⟩] scope pos) 0 (.ref it) .none X'.env)
        ((model X'.prog X'.w).den (.compLoop (.GeneratorExp elt [⟨tg, iter, [], 0⟩] scope pos) 0 (.ref it) .none X'.env)) [] s := by
  have stat : ∀ {σ' : L2.St} {H' : Hp} {s' : Shared}, Inv X' [] σ' H' s' → (∀ b ∈ fp, H' b = none) → ∀ b ∈ fp, FpOk X' [] H' b := fun {σ' H' s'} I' hn b hb =>
    ⟨hn b hb, (I'.ok.exf b (by rw [hex]; exact hb)).1, I'.ok.exfs b (by rw [hex]; exact hb), .inl (by rw [hex]; exact hb), fun x c e => (I'.ok.exf b (by rw [hex]; exact hb)).2 x c e, fun p hp => hpn b hb p (by simpa using hp)⟩
  intro m
  induction m using Nat.strongRecOn with
  | ind m ih =>
    intro n i s₀ s H hmn I st nf w
    show Seg _ A _ _ _ s₀ _ ((compTurn (.GeneratorExp elt [⟨tg, iter, [], 0⟩] scope pos) 0 (.ref it) .none X'.env).onRaise (leaving X'.env)) [] s
    rw [compTurn_gen, Sem.onRaise_eq_wrap]
    refine seg_bind_wrap (wpAny_standAt ?_)
    rcases turn i m H w with ⟨stop, qt⟩ | ⟨go, Nx, hNx, step⟩
    · refine seg_bind_wrap ?_
      rw [← hA]
      refine thnF (T.done X' rfl rfl rfl hc i [] s _ H (fun _ _ => False) I (stat I nf) st stop) fun r s1 ⟨hr, I1⟩ => ?_
      subst hr
      exact seg_end (.ok .next) ⟨rfl, H, I1, qt⟩
    · refine seg_bind_wrap ?_
      rw [← hA]
      refine thnF (T.item X' rfl rfl rfl hc i [] s _ H (fun _ _ => False) I (stat I nf) st go) fun r s1 ⟨u, hr, h1⟩ => ?_
      subst hr
      refine seg_bind_wrap ?_
      rw [← hA]
      refine thnF h1 fun _ s2 ⟨x, H2, I2, r2, y2, st2, nf2⟩ => ?_
      have I2' := I2.pinned (stat I2 nf2) (T.obj _ _ st2)
      refine seg_bind_wrap ?_
      rw [← hA]
      have pgr := hg.run _ s2 _ H2 x u _ I2' r2 (step x H2 y2)
      rw [hxe] at pgr
      refine thnF pgr fun _ s3 ⟨σ3, H3, I3, hw3, q3⟩ => ?_
      simp only [List.forIn_nil]
      refine seg_bind_wrap (wpAny_pure ?_)
      simp only [if_true]
      have hy : ∀ v, yieldOut X'.env v = yieldValue v := fun v => by simp only [yieldOut, hco, Bool.false_eq_true, if_false]
      simp only [hy]
      rw [Sem.bind_eq_wrap', Sem.bind_eq_wrap', Sem.wrap_wrap, Sem.wrap_wrap]
      refine seg_wrap ?_
      rw [← hA]
      have per := he.run _ s3 σ3 H3 _ I3 q3
      rw [hxe] at per
      refine thnF per fun v s4 ⟨y, H4, I4, r4, b, hb, hT, hF⟩ => ?_
      subst hb
      have hv : v = .bool b := r4
      subst hv
      have pin4 : ∀ c ∈ fp, ∀ o, s2.heap.get? c = some o → s4.heap.get? c = some o ∧ H4 c = none := fun c hb o e =>
        let z := I4.pin (c, o) (List.mem_append_right _ (List.mem_append_right _ (mem_pinsAt hb e)))
        ⟨z.1, z.2.1⟩
      have hl : σ0.length = σ3.length := by rw [← hw3, wipe_length]
      have I5 : Inv X' [] σ0 H4 s4 := (I4.unpinned (pins := [])).weak hl (hw σ3 hw3)
      have st5 : tn (i + 1) s4.heap := T.keep _ _ _ st2 fun c hb o e => (pin4 c hb o e).1
      have nf5 : ∀ c ∈ fp, H4 c = none := fun c hb => by
        obtain ⟨o, e, _⟩ := T.obj _ _ st2 c hb
        exact (pin4 c hb o e).2
      have hn : ∃ n', n = n' + 1 := ⟨n - 1, by omega⟩
      obtain ⟨n', rfl⟩ := hn
      refine seg_at (seg_yield rfl rfl rfl ⟨b, H4, rfl, I5, hF, fun hb s' z => ?_⟩)
      obtain ⟨m', hm', w'⟩ := hNx H4 (hT hb)
      refine seg_again rfl (ih m' hm' n' (i + 1) s' s' H4 (by omega) (inv_woke I5 z) ?_ nf5 w')
      rw [z.heap]; exact st5

theorem seg_gxStart (hA : X'.A = A.over (.compLoop (.GeneratorExp elt [⟨tg, iter, [], 0⟩] scope pos) 0 (.ref it) .none X'.env) []) (hc : X'.calm = true) (hco : X'.env.scope.isCoroutine = false) (hxe : X'.xe = fun _ _ => False) (hex : X'.ex = fp)
    (T : Turn X'.prog X'.w X'.K tg J fp it tn) (hg : PG X' tg g) (he : PE X' elt te) (hpn : ∀ b ∈ fp, ∀ p ∈ X'.pn, p.1 ≠ b) (hw : ∀ σ2 : L2.St, wipe σ2 vs = σ0 → ∀ (j : Nat) v, σ0[j]? = some (some v) → σ2[j]? = some (some v))
    (turn : gxTurns J g te σ0 vs Qt Qf W) (m n : Nat) (s₀ s : Shared) (H : Hp) (hmn : m < n) (I : Inv X' [] σ0 H s) (st : tn 0 s.heap) (nf : ∀ b ∈ fp, H b = none) (w : W 0 m H) :
    Seg (model X'.prog X'.w) A (gxEnd X' σ0 Qt) (gxOut X' σ0 Qf) n s₀ (.compStart (.GeneratorExp elt [⟨tg, iter, [], 0⟩] scope pos) 0 (.ref it) .none X'.env)
        ((model X'.prog X'.w).den (.compStart (.GeneratorExp elt [⟨tg, iter, [], 0⟩] scope pos) 0 (.ref it) .none X'.env)) [] s := by
  have loop := seg_gx (A := A) (iter := iter) (scope := scope) (pos := pos) hA hc hco hxe hex T hg he hpn hw turn m n 0 s₀ s H hmn I st nf w
  show Seg _ A _ _ _ s₀ _ ((compStart (.GeneratorExp elt [⟨tg, iter, [], 0⟩] scope pos) 0 (.ref it) .none X'.env).onRaise (leaving X'.env)) [] s
  unfold compStart
  rw [Sem.onRaise_eq_wrap]
  show Seg _ A _ _ _ s₀ _ ((ask >>= _).wrap _ _ _ _) [] s
  refine seg_bind_wrap (wpAny_askSetting ?_)
  split
  · exact seg_again rfl loop
  · first
      | exact seg_bind_wrap (wpAny_rule (seg_bind_wrap (wpAny_standAt (seg_bind_wrap (T.self _ 0 s _ _ st (seg_again rfl loop))))))
      | (refine seg_bind_wrap (wpAny_rule ?_); show Seg _ A _ _ _ s₀ _ ((standAt iter.pos >>= _).wrap _ _ _ _) [] s; exact seg_bind_wrap (wpAny_standAt (seg_bind_wrap (T.self _ 0 s _ _ st (seg_again rfl loop)))))
end

/-- a generator that waits: it goes on from here, n turns at most -/
def GxAt (P : Program) (w : World) (A : Around) (R : GenEnd) (Y : Protocol) (a : Addr) (g n : Nat) (s : Shared) : Prop :=
  s.heap.IsGen a g ∧ s.heap.NoLimit ∧ ∃ gs, s.gens[g]? = some gs ∧ gs.Goes (model P w) A R Y n (.send .none) (s.setGen g .running)

theorem bare_set {s : Shared} {g : Nat} {gs : GenState} (h : AllBare s.gens) (hb : gs.bare = true) : AllBare (s.setGen g gs).gens := by
  intro x hx
  have hx : x ∈ s.gens.setIfInBounds g gs := hx
  rcases Array.mem_or_eq_of_mem_setIfInBounds hx with h1 | h1
  · exact h x h1
  · rw [h1]; exact hb

theorem setGen_at {s : Shared} {g : Nat} {gs : GenState} (h : g < s.gens.size) : (s.setGen g gs).gens[g]? = some gs := by
  show (s.gens.setIfInBounds g gs)[g]? = some gs
  rw [Array.getElem?_setIfInBounds]
  simp [h]

theorem codeAny_all_gx {X' : Cx} {A : Around} {σ0 : L2.St} {Qt Qf : Hp → Prop} {a : Addr} {g : Nat} {Rz : Result → Shared → Prop} (hh : A.handled = none) (hroom : A.depth < recursionLimit)
    (hgen : ∀ σ H s, Inv X' [] σ H s → s.heap.IsGen a g)
    (fin : ∀ b H s, Inv X' [] σ0 H s → (b = true → Qt H) → (b = false → Qf H) → Rz (.ok (.ret (.bool b))) s) :
    ∀ (n : Nat) (s : Shared), AllBare s.gens → GxAt X'.prog X'.w A.in1.in1 (gxEnd X' σ0 Qt) (gxOut X' σ0 Qf) a g n s → codeAny (model X'.prog X'.w) A (.builtin "all.loop" ⟨[.ref a], []⟩) Rz s := by
  intro n
  induction n with
  | zero =>
    intro s hb0 ⟨hg, hl, gs, hgs, hgo⟩
    have hsz : g + 1 ≤ s.gens.size := by
      obtain ⟨h1, _⟩ := Array.getElem?_eq_some_iff.mp hgs
      exact h1
    refine codeAny_builtin F.entry_all_loop ?_
    rw [Around.under_plainId F.plain_all_loop _]
    show wpAny _ A.in1 (pyNext (.ref a) >>= _) _ _ s
    refine wpAny_bind (GenW.wpAny_gsz hsz (wpAny_pyNext_genexpQ (A := A.in1) (P := fun n s₀ s₁ => ∃ H', Inv X' [] σ0 H' s₁ ∧ Qt H') hh hl hroom hg hgs hgo (fun v s₁ gs' hb hv => ?_) (fun s₁ hp h' hk => ?_)))
    · obtain ⟨b, H', rfl, I', hF, hT⟩ := hv
      intro hsz1
      refine wpAny_bind (wpAny_holding (wpAny_truthy_bool ?_))
      refine wpAny_bind (wpAny_letGo ?_)
      cases b with
      | true => exact (hT rfl s₁ ⟨rfl, rfl, I'.bare⟩).elim
      | false =>
        simp only [Bool.false_eq_true, if_false]
        refine wpAny_bind (wpAny_rule (wpAny_pure ?_))
        exact fin false H' _ (inv_woke I' ⟨rfl, rfl, bare_set I'.bare hb⟩) (fun h => by cases h) hF
    · obtain ⟨H', I', q⟩ := hp
      intro hsz1
      refine wpAny_bind (wpAny_rule (wpAny_pure ?_))
      exact fin true H' _ ((inv_woke (s' := s₁.setGen g .finished) I' ⟨rfl, rfl, bare_set I'.bare rfl⟩).kept (t' := s₁.toks) hk) (fun _ => q) (fun h => by cases h)
  | succ n ih =>
    intro s hb0 ⟨hg, hl, gs, hgs, hgo⟩
    have hsz : g + 1 ≤ s.gens.size := by
      obtain ⟨h1, _⟩ := Array.getElem?_eq_some_iff.mp hgs
      exact h1
    refine codeAny_builtin F.entry_all_loop ?_
    rw [Around.under_plainId F.plain_all_loop _]
    show wpAny _ A.in1 (pyNext (.ref a) >>= _) _ _ s
    refine wpAny_bind (GenW.wpAny_gsz hsz (wpAny_pyNext_genexpQ (A := A.in1) (P := fun n s₀ s₁ => ∃ H', Inv X' [] σ0 H' s₁ ∧ Qt H') hh hl hroom hg hgs hgo (fun v s₁ gs' hb hv => ?_) (fun s₁ hp h' hk => ?_)))
    · obtain ⟨b, H', rfl, I', hF, hT⟩ := hv
      intro hsz1
      have hsz2 : g < s₁.gens.size := by
        have : (s₁.setGen g gs').gens.size = s₁.gens.size := GenW.setGen_size _ _ _
        omega
      refine wpAny_bind (wpAny_holding (wpAny_truthy_bool ?_))
      refine wpAny_bind (wpAny_letGo ?_)
      have I2 := inv_woke (s' := s₁.setGen g gs') I' ⟨rfl, rfl, bare_set I'.bare hb⟩
      cases b with
      | true =>
        simp only [if_true]
        refine wpAny_pure ⟨plainId_quiet F.plain_all_loop _, ih _ I2.bare ⟨hgen _ _ _ I2, I2.nolimit, gs', setGen_at hsz2, hT rfl _ ⟨rfl, rfl, bare_set I2.bare rfl⟩⟩⟩
      | false =>
        simp only [Bool.false_eq_true, if_false]
        refine wpAny_bind (wpAny_rule (wpAny_pure ?_))
        exact fin false H' _ I2 (fun h => by cases h) hF
    · obtain ⟨H', I', q⟩ := hp
      intro hsz1
      refine wpAny_bind (wpAny_rule (wpAny_pure ?_))
      exact fin true H' _ ((inv_woke (s' := s₁.setGen g .finished) I' ⟨rfl, rfl, bare_set I'.bare rfl⟩).kept (t' := s₁.toks) hk) (fun _ => q) (fun h => by cases h)

/-- all(elt for tg in iter): behind the making the def's table may have grown; then the turns -/
def tAllG (P : Addr) (wi : TI) (g : TG) (te : TE) (vs : List Nat) : TE := fun σ H Q => wi σ H fun J H1 => TabG H1 P ∧ ∀ H2, Tabbed P H1 H2 → ∃ W : Nat → Nat → Hp → Prop, (∃ m, W 0 m H2) ∧ gxTurns J g te (wipe σ vs) vs (Q (.bl true)) (Q (.bl false)) W

/-- what the generator's code asks of its scope -/
structure GxOk (scope : Scope) : Prop where
  co : scope.isCoroutine = false
  cell : ∀ y ∈ scope.names, y.2 ≠ .cell
  dot : scope.names.lookup (".0" : Str) = some NameKind.local

section
variable {X : Cx} {pins : List (Addr × Obj)} {σ : L2.St} {H : Hp} {s : Shared}
theorem gx_gen {c P : Addr} {elt tg iter : Expr} {gpos : Pos} {scope : Scope} {own : List (Str × Nat)} {wi : TI} {g : TG} {te : TE} {k : Nat} {Q' : Value → Shared → Prop} {Q : VK}
    (hr : Room (k + 1) X.A) (TB : TabB X.base X.mg c P) (hcode : X.env.code = .ref c) (hN : X.N.Nodup) (ok : BlkOk X.N X.env.scope scope own) (gk : GxOk scope) (hi : PI X tg iter wi)
    (hgt : ∀ (s : Shared) (H : Hp) (cl : List (Str × Addr)) (C : Addr) (code : Value) (A' : Around) (fp : List Addr) (pn : List (Addr × Obj)), Room k A' → PG (gxCx X s H scope (genEnv scope cl C code builtinsNs X.env) A' fp pn) tg g)
    (he : ∀ (s : Shared) (H : Hp) (cl : List (Str × Addr)) (C : Addr) (code : Value) (A' : Around) (fp : List Addr) (pn : List (Addr × Obj)), Room k A' → PE (gxCx X s H scope (genEnv scope cl C code builtinsNs X.env) A' fp pn) elt te)
    (hs : ∀ v, genFold iter X.env v = pure v) (I : Inv X pins σ H s) (h : tAllG P wi g te (own.map (·.2)) σ H Q)
    (hQ : ∀ (X' : Cx) (a : Addr) (gi n : Nat) (s5 : Shared), X'.prog = X.prog → X'.w = X.w → AllBare s5.gens → s5.heap.IsGen a gi → (∀ σ H s, Inv X' [] σ H s → s.heap.IsGen a gi) →
      GxAt X'.prog X'.w X.A.in1.in1 (gxEnd X' (wipe σ (own.map (·.2))) (Q (.bl true))) (gxOut X' (wipe σ (own.map (·.2))) (Q (.bl false))) a gi n s5 →
      (∀ σ' H' s', Inv X' [] σ' H' s' → Inv X pins σ H' s') → Q' (.ref a) s5) :
    wpAny (model X.prog X.w) X.A (eval (.GeneratorExp elt [⟨tg, iter, [], 0⟩] scope gpos) X.env) Q' X.xe s := by
  have hfree : ∀ y ∈ scope.names, y.2 = .free → ∃ c, X.env.cells.lookup y.1 = some c := fun y hy e => by
    rcases ok.free y hy e with k | k
    · exact I.ok.has _ (.inl k)
    · exact I.ok.has _ (.inr k)
  refine wpAny_GeneratorExp_make gk.co (closure_ok hfree) gk.cell gk.dot ok.kind (by have := hr.dp; omega) ?_ hs
  refine thn (hi.run pins s σ H _ I h) fun xv s1 hx => thn hx fun itv s2 ⟨it, fp, tn, J, H2, e, I2, T, st2, f2, ⟨ps, hP, ht⟩, q⟩ => ?_
  subst e
  have hPs : s2.heap.get? P = some { cls := .none, data := .fields ps } := I2.hok P _ hP
  have cd : PySem.W.CodeHd s2.heap c P := TB.code.keeps fun b u e => I2.bk b u e
  have szf : ∀ b ∈ fp, b < s2.heap.objs.size := fun b hb => by
    obtain ⟨o, e, _⟩ := T.obj _ _ st2 b hb
    exact Heap.lt_size e
  have cont : ∀ (code : Value) (h3 : Heap) (tk : Nat) (ps' : Array Value), Heap.ExtBut P s2.heap h3 → s2.heap.objs.size ≤ h3.objs.size → h3.get? P = some { cls := .none, data := .fields ps' } → (∃ more, ps' = ps ++ more) → TriplesOk ps'.toList →
      wpAny (model X.prog X.w) X.A (builtinsFor X.env.globals X.env.builtins) (fun bi s₄ =>
        ∀ h', h'.Ns s₄.heap.objs.size (fun y => if y = ".0" then some (.ref it) else none) → Heap.SameBut s₄.heap.objs.size (s₄.heap.push { cls := .type "frame", data := .dict #[] }) h' →
          Q' (.ref h'.objs.size) { s₄ with
            gens := s₄.gens.push (.fresh (.compStart (.GeneratorExp elt [⟨tg, iter, [], 0⟩] scope gpos) 0 (.ref it) .none (genEnv scope (cloFrom X.env.cells scope.names []) s₄.heap.objs.size code bi X.env))),
            toks := s₄.toks + 1 + 1 + 1,
            heap := h'.push { cls := .type "generator", data := .fields #[.int s₄.gens.size 0, .str "<genexpr>" (s₄.toks + 1), .str (X.env.qual ++ "<genexpr>") (s₄.toks + 1 + 1)] } }) X.xe { s2 with heap := h3, toks := tk } := by
    intro code h3 tk ps' hx hsz hP3 hmore ht3
    obtain ⟨more, em⟩ := hmore
    obtain ⟨bm, ob, e1, e2, e3, e4, e5, e6, e7, e8⟩ := TB.bm
    have I3 : Inv X pins σ (upd H2 P (.tbl (ps ++ more))) { s2 with heap := h3, toks := tk } :=
      inv_tab (more := more) (h' := h3) (g' := s2.gens) (d' := s2.drawn) (t' := tk) I2 hP (fun b u hb e => hx b u hb e) (by rw [← em]; exact hP3) I2.bare
    have hT : Tabbed P H2 (upd H2 P (.tbl (ps ++ more))) := ⟨⟨ps ++ more, upd_same, by rw [← em]; exact ht3⟩, fun b hb => upd_ne hb⟩
    generalize hH3 : upd H2 P (.tbl (ps ++ more)) = H3 at I3 hT
    obtain ⟨W, ⟨m0, w0⟩, turn⟩ := q H3 hT
    have fP : ∀ b ∈ fp, b ≠ P := fun b hb z => by
      have := (f2 b hb).1
      rw [z, hP] at this
      cases this
    have f3 : ∀ b ∈ fp, FpOk X pins H3 b ∧ b < h3.objs.size := fun b hb => ⟨⟨by rw [hT.2 b (fP b hb)]; exact (f2 b hb).1, (f2 b hb).2⟩, Nat.lt_of_lt_of_le (szf b hb) hsz⟩
    have st3 : tn 0 h3 := T.keep _ _ _ st2 fun b hb o e => hx b o (fP b hb) e
    refine wpAny_builtinsFor (m := X.mg) (by rw [I3.ok.glob]; exact I3.mod.glob.keeps I3.bk) e1 e2 (I3.bk _ _ e5) e6 e7 e8 ?_
    intro h' hns hsb
    generalize hs3 : ({ s2 with heap := h3, toks := tk } : Shared) = s3 at I3 hns hsb ⊢
    have hh3 : s3.heap = h3 := by rw [← hs3]
    have hsz' : h'.objs.size = s3.heap.objs.size + 1 := by rw [hsb.1, Heap.size_push]
    have keep' : ∀ b o, s3.heap.get? b = some o → h'.get? b = some o := fun b o e => hsb.extBut b o (Nat.ne_of_lt (Heap.lt_size e)) (Heap.get?_push_of_some _ e)
    generalize hgo : ({ cls := .type "generator", data := .fields #[.int s3.gens.size 0, .str "<genexpr>" (s3.toks + 1), .str (X.env.qual ++ "<genexpr>") (s3.toks + 1 + 1)] } : Obj) = go
    have hpushed : (h'.push go).get? h'.objs.size = some go := by
      rw [← hgo]
      exact Heap.get?_push_size _ rfl
    have hgen : ∀ h : Heap, h.get? h'.objs.size = some go → h.IsGen h'.objs.size s3.gens.size := fun h e => ⟨go, _, _, e, by rw [← hgo], by rw [← hgo], by rw [← hgo]⟩
    have kp : ∀ b o, s3.heap.get? b = some o → (h'.push go).get? b = some o := fun b o e => Heap.get?_push_of_some _ (keep' b o e)
    generalize hce : genEnv scope (cloFrom X.env.cells scope.names []) s3.heap.objs.size code builtinsNs X.env = ce
    have room' : Room k (X.A.in1.in1.over (.compLoop (.GeneratorExp elt [⟨tg, iter, [], 0⟩] scope gpos) 0 (.ref it) .none ce) []) :=
      ⟨hr.hd, by have := hr.dp; show X.A.depth + 0 + 1 + 3 * k + 5 < _; omega, by have := hr.un; show X.A.units + 1 + 1 + 0 + 3 + 16 * k + 200 < _; omega⟩
    have hbare : AllBare (s3.gens.push (.fresh (.compStart (.GeneratorExp elt [⟨tg, iter, [], 0⟩] scope gpos) 0 (.ref it) .none ce))) := I3.bare.push rfl
    have I5 : Inv (gxCx X s3 H3 scope ce (X.A.in1.in1.over (.compLoop (.GeneratorExp elt [⟨tg, iter, [], 0⟩] scope gpos) 0 (.ref it) .none ce) []) fp [(h'.objs.size, go)]) [] (wipe σ (own.map (·.2))) H3
        { s3 with heap := h'.push go, gens := s3.gens.push (.fresh (.compStart (.GeneratorExp elt [⟨tg, iter, [], 0⟩] scope gpos) 0 (.ref it) .none ce)), toks := s3.toks + 1 + 1 + 1 } := by
      rw [← hce]
      refine gx_start I3 ok gk.cell hN (fun b hb => by rw [hh3]; exact f3 b hb) (Nat.le_refl _) (hns.push _) kp (by rw [hce]; exact hbare) hr.hd ?_ fun p hp => ?_
      · rw [hce]
        show pushEnvs [ce] (pushEnvs [] X.A.frames) = _
        rw [I3.ok.frames]
        rfl
      · rw [List.mem_singleton.mp hp]
        refine ⟨hpushed, by show _ ≤ h'.objs.size; omega, by show h'.objs.size ≠ _; omega, fun v => by rw [← hgo]; intro z; cases z⟩
    have hA5 : ∀ b ∈ fp, ∀ p ∈ [(h'.objs.size, go)], p.1 ≠ b := fun b hb p hp => by
      rw [List.mem_singleton.mp hp]
      have h1 := (f3 b hb).2
      have h2 : s3.heap.objs.size = h3.objs.size := by rw [hh3]
      have h4 : s3.heap.objs.size ≤ h'.objs.size := by omega
      exact Nat.ne_of_gt (Nat.lt_of_lt_of_le h1 (by rw [← h2]; exact h4))
    have back : ∀ σ' H' s', Inv (gxCx X s3 H3 scope ce (X.A.in1.in1.over (.compLoop (.GeneratorExp elt [⟨tg, iter, [], 0⟩] scope gpos) 0 (.ref it) .none ce) []) fp [(h'.objs.size, go)]) [] σ' H' s' → Inv X pins σ H' s' := fun σ' H' s' I6 =>
      I3.call' (ch := fp) I6.os I6.base I6.hok I6.bare fun b hb => ⟨(f3 b hb).1.2.2.2.1, (f3 b hb).1.2.1, (f3 b hb).1.2.2.2.2.1, (f3 b hb).1.2.2.2.2.2⟩
    have genAt : ∀ σ H s, Inv (gxCx X s3 H3 scope ce (X.A.in1.in1.over (.compLoop (.GeneratorExp elt [⟨tg, iter, [], 0⟩] scope gpos) 0 (.ref it) .none ce) []) fp [(h'.objs.size, go)]) [] σ H s → s.heap.IsGen h'.objs.size s3.gens.size := fun σ H s I6 =>
      hgen _ (I6.pin (h'.objs.size, go) (by simp)).1
    refine hQ (gxCx X s3 H3 scope ce (X.A.in1.in1.over (.compLoop (.GeneratorExp elt [⟨tg, iter, [], 0⟩] scope gpos) 0 (.ref it) .none ce) []) fp [(h'.objs.size, go)]) h'.objs.size s3.gens.size (m0 + 1) _ rfl rfl hbare (hgen _ hpushed) genAt ⟨hgen _ hpushed, I5.nolimit, _, Array.getElem?_push_size .., rfl, ?_⟩ back
    refine seg_gxStart (X' := gxCx X s3 H3 scope ce (X.A.in1.in1.over (.compLoop (.GeneratorExp elt [⟨tg, iter, [], 0⟩] scope gpos) 0 (.ref it) .none ce) []) fp [(h'.objs.size, go)]) (vs := own.map (·.2)) (g := g) (te := te) (W := W) rfl rfl (by rw [← hce]; exact gk.co) rfl rfl T ?_ ?_ hA5
      (fun σ2 e j v z => by rw [← e] at z; exact (wipe_some z).1) turn m0 (m0 + 1) _ _ H3 (Nat.lt_succ_self _) (inv_woke I5 ⟨rfl, rfl, bare_set hbare rfl⟩) ?_ (fun b hb => (f3 b hb).1.1) w0
    · rw [← hce]
      exact hgt _ _ _ _ _ _ _ _ (by rw [hce]; exact room')
    · rw [← hce]
      exact he _ _ _ _ _ _ _ _ (by rw [hce]; exact room')
    · exact T.keep _ _ _ st3 fun b _ o e => kp b o (by rw [hh3]; exact e)
  refine ⟨I2.nolimit, ?_⟩
  cases hf : codeAmong gpos ps.toList with
  | none =>
    refine wpAny_genexprCodeX hcode (cd.code hPs ht) (cd.tab hPs) hf fun c' h' tk hx hge hlt hco' _ htab' _ => ?_
    obtain ⟨o1, vs, f1, tf, fl, tg, inF, tx, tt, op, _, _, _, _, _, _, _, _, _, htr, _⟩ := hco'
    exact cont _ h' tk _ hx (Nat.le_trans hge (Nat.le_of_lt hlt)) htab'.2 ⟨_, rfl⟩ htr
  | some cv =>
    refine wpAny_genexprCode_hit hcode (cd.code hPs ht) hf ?_
    exact cont cv s2.heap s2.toks ps (Heap.ExtBut.refl _ _) (Nat.le_refl _) hPs ⟨#[], by simp⟩ ht

theorem pe_allG {c P : Addr} {elt tg iter : Expr} {p pos gpos : Pos} {scope : Scope} {own : List (Str × Nat)} {wi : TI} {g : TG} {te : TE} {k : Nat}
    (hr : Room (k + 1) X.A) (hg : Gl X "all") (hm : X.mg "all" = none) (hb : bootBuiltins "all" = some (.builtin "all")) (TB : TabB X.base X.mg c P) (hcode : X.env.code = .ref c) (hN : X.N.Nodup) (ok : BlkOk X.N X.env.scope scope own) (gk : GxOk scope) (hi : PI X tg iter wi)
    (hgt : ∀ (s : Shared) (H : Hp) (cl : List (Str × Addr)) (C : Addr) (code : Value) (A' : Around) (fp : List Addr) (pn : List (Addr × Obj)), Room k A' → PG (gxCx X s H scope (genEnv scope cl C code builtinsNs X.env) A' fp pn) tg g)
    (he : ∀ (s : Shared) (H : Hp) (cl : List (Str × Addr)) (C : Addr) (code : Value) (A' : Around) (fp : List Addr) (pn : List (Addr × Obj)), Room k A' → PE (gxCx X s H scope (genEnv scope cl C code builtinsNs X.env) A' fp pn) elt te)
    (hs : ∀ v, genFold iter X.env v = pure v)
    (hse : starEach [.GeneratorExp elt [⟨tg, iter, [], 0⟩] scope gpos] X.env = (false, eval (.GeneratorExp elt [⟨tg, iter, [], 0⟩] scope gpos) X.env) :: starEach [] X.env := by rfl) :
    PE X (.Call (.Name "all" p) [.GeneratorExp elt [⟨tg, iter, [], 0⟩] scope gpos] [] pos) (tAllG P wi g te (own.map (·.2))) := by
  refine ⟨fun pins s σ H Q I h => ?_⟩
  refine wpAny_Call_Name_kw (ld_blt I hg hm hb ?_)
  refine PyProof.Rows.callWith_builtin1 ?_ hse (by rfl)
  rw [hse]
  show wpAny _ _ (spliced ((false, eval (.GeneratorExp elt [⟨tg, iter, [], 0⟩] scope gpos) X.env) :: backTo pos (starEach [] X.env))) _ _ s
  refine Calls.spliced_cons (gx_gen (Q := Q) hr TB hcode hN ok gk hi hgt he hs I h fun X' a gi n s5 hp hw hb5 hgi hgen hat back => ?_)
  refine Calls.spliced_nil ?_
  refine call_function_tree F.kind_all F.plain_all F.entry_all (F.args_all1 _) ?_
  unfold Builtin.«all»
  refine wpAny_bind (m := oneArg "all" _) (wpAny_pure ?_)
  refine wpAny_bind (wpAny_pyIter_gen hgi ?_)
  rw [← hp, ← hw]
  exact wpAny_pure ⟨plainId_quiet F.plain_all_loop _, codeAny_all_gx hr.hd (by have := hr.dp; omega) hgen (fun b H' s' I' hT hF => ⟨.bl b, H', back _ _ _ I', rfl, by cases b; exact hF rfl; exact hT rfl⟩) n s5 hb5 hat⟩
end
end Ow

set_option Elab.async false
set_option linter.all false
set_option maxRecDepth 100000
set_option maxHeartbeats 4000000
namespace Ow
open PySem PySem.Spec PyProof.Rows L2 GxR

/-! ### immutable data -/
inductive D where
  | non | bl (b : Bool) | int (i : Int) | str (x : Str) | tup (ds : List D)

mutual
inductive Im (H : Hp) : V → D → Prop
  | non : Im H .non .non
  | bl (b : Bool) : Im H (.bl b) (.bl b)
  | int (i : Int) : Im H (.int i) (.int i)
  | str (x : Str) (h : x.length ≤ 1000000) : Im H (.str x) (.str x)
  | tup {a : Addr} {xs : List V} {ds : List D} : H a = some (.tup xs) → ImAll H xs ds → Im H (.ref a) (.tup ds)
inductive ImAll (H : Hp) : List V → List D → Prop
  | nil : ImAll H [] []
  | cons {v : V} {vs : List V} {d : D} {ds : List D} : Im H v d → ImAll H vs ds → ImAll H (v :: vs) (d :: ds)
end

/-! ### how a heap goes on -/
def nt : HO → Bool
  | .tbl _ => false
  | _ => true
/-- all that was tracked stands but what ch names; the tables may have grown -/
structure Fr (ch : List Addr) (H H' : Hp) : Prop where
  keep : ∀ a o, H a = some o → nt o = true → a ∉ ch → H' a = some o
  tup : ∀ a xs, H a = some (.tup xs) → H' a = some (.tup xs)
  frz : ∀ a o u, H a = some (.frz o u) → H' a = some (.frz o u)
  tab : ∀ a, TabG H a → TabG H' a
  there : ∀ a o, H a = some o → ∃ o', H' a = some o'

theorem Fr.refl {ch : List Addr} {H : Hp} : Fr ch H H := ⟨fun _ _ h _ _ => h, fun _ _ h => h, fun _ _ _ h => h, fun _ h => h, fun _ o h => ⟨o, h⟩⟩
theorem Fr.free {ch : List Addr} {H H' : Hp} (f : Fr ch H H') {a : Addr} (h : H' a = none) : H a = none := by
  cases q : H a with
  | none => rfl
  | some o =>
    obtain ⟨o', e⟩ := f.there a o q
    rw [h] at e
    cases e
theorem Fr.snoc {ch c : List Addr} {H H1 H2 : Hp} (f : Fr ch H H1) (g : Fr c H1 H2) (hc : ∀ a ∈ c, a ∈ ch ∨ H a = none) : Fr ch H H2 :=
  ⟨fun a o h n hn => g.keep a o (f.keep a o h n hn) n fun hm => (hc a hm).elim hn fun z => (by rw [h] at z; cases z),
   fun a xs h => g.tup a xs (f.tup a xs h), fun a o u h => g.frz a o u (f.frz a o u h), fun a h => g.tab a (f.tab a h),
   fun a o h => by obtain ⟨o1, h1⟩ := f.there a o h; exact g.there a o1 h1⟩
theorem sub_nil {ch : List Addr} {H : Hp} : ∀ a ∈ ([] : List Addr), a ∈ ch ∨ H a = none := fun _ h => absurd h List.not_mem_nil
theorem sub_cons {ch c : List Addr} {H : Hp} {p : Addr} (h : p ∈ ch ∨ H p = none) (k : ∀ a ∈ c, a ∈ ch ∨ H a = none) : ∀ a ∈ p :: c, a ∈ ch ∨ H a = none := fun a ha => by
  rcases List.mem_cons.mp ha with e | e
  · rw [e]; exact h
  · exact k a e
theorem Fr.wide {ch ch' : List Addr} {H H' : Hp} (f : Fr ch H H') (h : ∀ a ∈ ch, a ∈ ch') : Fr ch' H H' :=
  ⟨fun a o e n hn => f.keep a o e n fun hm => hn (h a hm), f.tup, f.frz, f.tab, f.there⟩
theorem Fr.lay {ch : List Addr} {H : Hp} {p : Addr} {o : HO} (h : H p = none) : Fr ch H (upd H p o) :=
  ⟨fun a u e _ _ => by rw [upd_ne (ne_of_none e h)]; exact e, fun a xs e => by rw [upd_ne (ne_of_none e h)]; exact e, fun a o u e => by rw [upd_ne (ne_of_none e h)]; exact e,
   fun a ⟨ps, e, t⟩ => ⟨ps, by rw [upd_ne (ne_of_none e h)]; exact e, t⟩, fun a u e => ⟨u, by rw [upd_ne (ne_of_none e h)]; exact e⟩⟩
theorem Fr.put {ch : List Addr} {H : Hp} {p : Addr} {o o' : HO} (h : H p = some o) (m : Mut (some o)) (hp : p ∈ ch) : Fr ch H (upd H p o') :=
  ⟨fun a u e _ hn => by rw [upd_ne (show a ≠ p from fun z => hn (by rw [z]; exact hp))]; exact e,
   fun a xs e => by rw [upd_ne (show a ≠ p from fun z => by rw [z, h] at e; cases e; exact m)]; exact e,
   fun a o u e => by rw [upd_ne (show a ≠ p from fun z => by rw [z, h] at e; cases e; exact m)]; exact e,
   fun a ⟨ps, e, t⟩ => ⟨ps, by rw [upd_ne (show a ≠ p from fun z => by rw [z, h] at e; cases e; exact m)]; exact e, t⟩,
   fun a u e => by
    by_cases hb : a = p
    · exact ⟨o', by rw [hb]; exact upd_same⟩
    · exact ⟨u, by rw [upd_ne hb]; exact e⟩⟩
theorem Fr.tabbed {ch : List Addr} {H H' : Hp} {P : Addr} (h : TabG H P) (t : Tabbed P H H') : Fr ch H H' := by
  obtain ⟨ps, e, tr⟩ := h
  obtain ⟨⟨ps', e', tr'⟩, k⟩ := t
  have ne : ∀ a o, H a = some o → nt o = true → a ≠ P := fun a o h n z => by
    rw [z, e] at h
    cases h
    cases n
  refine ⟨fun a o h n _ => by rw [k a (ne a o h n)]; exact h, fun a xs h => by rw [k a (ne a _ h rfl)]; exact h, fun a o u h => by rw [k a (ne a _ h rfl)]; exact h, fun a ⟨qs, h, tq⟩ => ?_, fun a o h => ?_⟩
  · by_cases hb : a = P
    · subst hb
      exact ⟨ps', e', tr'⟩
    · exact ⟨qs, by rw [k a hb]; exact h, tq⟩
  · by_cases hb : a = P
    · subst hb
      exact ⟨_, e'⟩
    · exact ⟨o, by rw [k a hb]; exact h⟩
theorem Fr.lst {ch : List Addr} {H H' : Hp} (f : Fr ch H H') {a : Addr} {o : HO} (h : H a = some o) (n : nt o = true) (hc : a ∉ ch) : H' a = some o := f.keep a o h n hc
theorem Fr.seqT {ch : List Addr} {K : PySem.W.Frag} {H H' : Hp} (f : Fr ch H H') {a : Addr} {xs : List V} (h : SqT K H a xs) : SqT K H' a xs := by
  rcases h with (h | ⟨o, h⟩) | h
  · exact .inl (.inl (f.tup _ _ h))
  · exact .inl (.inr ⟨o, f.frz _ _ _ h⟩)
  · exact .inr h

mutual
theorem Im.fr {ch : List Addr} {H H' : Hp} (f : Fr ch H H') : ∀ (d : D) (v : V), Im H v d → Im H' v d
  | .non, _, h => by cases h; exact .non
  | .bl b, _, h => by cases h; exact .bl b
  | .int i, _, h => by cases h; exact .int i
  | .str x, _, h => by
    cases h with
    | str _ hl => exact .str x hl
  | .tup ds, _, h => by
    cases h with
    | tup e ha => exact .tup (f.tup _ _ e) (ImAll.fr f ds _ ha)
theorem ImAll.fr {ch : List Addr} {H H' : Hp} (f : Fr ch H H') : ∀ (ds : List D) (vs : List V), ImAll H vs ds → ImAll H' vs ds
  | [], _, h => by cases h; exact .nil
  | d :: ds, _, h => by
    cases h with
    | cons h1 h2 => exact .cons (Im.fr f d _ h1) (ImAll.fr f ds _ h2)
end
theorem Im.go {ch : List Addr} {H H' : Hp} {v : V} {d : D} (h : Im H v d) (f : Fr ch H H') : Im H' v d := Im.fr f d v h
theorem ImAll.go {ch : List Addr} {H H' : Hp} {vs : List V} {ds : List D} (h : ImAll H vs ds) (f : Fr ch H H') : ImAll H' vs ds := ImAll.fr f ds vs h
theorem ImAll.length {H : Hp} : ∀ {vs : List V} {ds : List D}, ImAll H vs ds → vs.length = ds.length
  | _, _, .nil => rfl
  | _, _, .cons _ h => by rw [List.length_cons, List.length_cons, ImAll.length h]
theorem ImAll.get {H : Hp} : ∀ {vs : List V} {ds : List D}, ImAll H vs ds → ∀ {i : Nat} {v : V}, vs[i]? = some v → ∃ d, ds[i]? = some d ∧ Im H v d
  | _, _, .nil, i, v, e => by simp at e
  | _, _, .cons h _, 0, v, e => by simp at e; subst e; exact ⟨_, rfl, h⟩
  | _, _, .cons _ h, i + 1, v, e => by
    obtain ⟨d, h1, h2⟩ := ImAll.get h (i := i) (v := v) (by simpa using e)
    exact ⟨d, by simpa using h1, h2⟩
theorem ImAll.getD {H : Hp} {vs : List V} {ds : List D} (h : ImAll H vs ds) {i : Nat} {d : D} (e : ds[i]? = some d) : ∃ v, vs[i]? = some v ∧ Im H v d := by
  have hl := h.length
  obtain ⟨hi, _⟩ := List.getElem?_eq_some_iff.mp e
  have hv : vs[i]? = some vs[i] := List.getElem?_eq_getElem (by omega)
  obtain ⟨d', h1, h2⟩ := h.get hv
  rw [e] at h1
  cases h1
  exact ⟨_, hv, h2⟩
theorem ImAll.append {H : Hp} : ∀ {vs ws : List V} {ds es : List D}, ImAll H vs ds → ImAll H ws es → ImAll H (vs ++ ws) (ds ++ es)
  | _, _, _, _, .nil, h => h
  | _, _, _, _, .cons h k, h2 => .cons h (ImAll.append k h2)
theorem ImAll.take {H : Hp} : ∀ {vs : List V} {ds : List D} (n : Nat), ImAll H vs ds → ImAll H (vs.take n) (ds.take n)
  | _, _, 0, _ => .nil
  | _, _, n + 1, .nil => .nil
  | _, _, n + 1, .cons h k => .cons h (ImAll.take n k)
theorem ImAll.drop {H : Hp} : ∀ {vs : List V} {ds : List D} (n : Nat), ImAll H vs ds → ImAll H (vs.drop n) (ds.drop n)
  | _, _, 0, h => h
  | _, _, n + 1, .nil => .nil
  | _, _, n + 1, .cons _ k => ImAll.drop n k
theorem ImAll.snoc {H : Hp} {vs : List V} {ds : List D} {v : V} {d : D} (h : ImAll H vs ds) (k : Im H v d) : ImAll H (vs ++ [v]) (ds ++ [d]) := h.append (.cons k .nil)
theorem ImAll.tyl {H : Hp} {vs : List V} {ns : List Int} (h : ImAll H vs (ns.map D.int)) : vs = ns.map V.int := by
  induction ns generalizing vs with
  | nil => cases h; rfl
  | cons n ns ih =>
    cases h with
    | cons h1 h2 =>
      cases h1
      rw [List.map_cons, ih h2]
theorem ImAll.ints {H : Hp} (ns : List Int) : ImAll H (ns.map V.int) (ns.map D.int) := by
  induction ns with
  | nil => exact .nil
  | cons n ns ih => exact .cons (.int n) ih

/-! ### the kind of a value -/
def tyD : D → String
  | .non => "NoneType"
  | .bl _ => "bool"
  | .int _ => "int"
  | .str _ => "str"
  | .tup _ => "tuple"
theorem Im.ty {K : PySem.W.Frag} {H : Hp} {v : V} {d : D} (h : Im H v d) : TyX K H v (.type (tyD d)) := by
  cases h with
  | non => exact .base .non
  | bl b => exact .base (.bl b)
  | int i => exact .base (.int i)
  | str x _ => exact .base (.str x)
  | tup e _ => exact .base (.tup e)
end Ow

set_option Elab.async false
set_option linter.all false
set_option maxRecDepth 100000
set_option maxHeartbeats 4000000
namespace Ow
open PySem PySem.Spec PyProof.Rows L2 GxR

/-! ### calls, with their callee's promise -/
structure Ca (P : Program) (w : World) (K : PySem.W.Frag) (mg : Str → Option Value) (base : Heap) (k : Nat) (x : Str) (sp : Sp) : Prop where
  ex : ∃ (f : Addr) (fd : FuncData) (ps : List Str), FnOk P w K mg base (L2.CX P w) k f fd ps sp ∧ mg x = some (.ref f) ∧ PySem.W.keepIn K (.ref f) = true ∧ Binds K fd ps []
structure Me (P : Program) (w : World) (K : PySem.W.Frag) (mg : Str → Option Value) (base : Heap) (k : Nat) (C : Addr) (m : Str) (sp : Sp) : Prop where
  ex : ∃ (f : Addr) (fd : FuncData) (ps : List Str), Cls K C ∧ Meth K C m f ∧ FnOk P w K mg base (L2.CX P w) k f fd ps sp ∧ Binds K fd ps []
structure Ma (P : Program) (w : World) (K : PySem.W.Frag) (mg : Str → Option Value) (base : Heap) (k : Nat) (x : Str) (C : Addr) (sp : Sp) : Prop where
  ex : ∃ (f : Addr) (fd : FuncData) (ps : List Str), Mk K C f ∧ FnOk P w K mg base (L2.CX P w) k f fd ps sp ∧ mg x = some (.ref C) ∧ Binds K fd ps []
def tCa (sp : Sp) (E : XK) (t : TA) : TE := fun σ H Q => t σ H fun vs H1 => sp vs H1 Q E
def tMe (C : Addr) (m : Str) (sp : Sp) (E : XK) (ta : TE) (t : TA) : TE := fun σ H Q => ta σ H fun x H1 => ∃ a dx fs, x = .ref a ∧ H1 a = some (.ins C dx fs) ∧ fs.lookup m = none ∧ t σ H1 fun vs H2 => sp (x :: vs) H2 Q E
def tMa (C : Addr) (sp : Sp) (E : XK) (t : TA) : TE := fun σ H Q => t σ H fun vs H1 => ∀ x dx, H1 x = none → H1 dx = none → dx ≠ x → sp (.ref x :: vs) (upd (upd H1 dx (.own x)) x (.ins C dx [])) (fun v H2 => v = .non ∧ Q (.ref x) H2) E
theorem sp_nil {sp : Sp} {Q : VK} {E : XK} : (fun (vs : List V) H1 => sp (vs ++ []) H1 Q E) = fun vs H1 => sp vs H1 Q E := by
  funext vs H1
  rw [List.append_nil]
section
variable {X : Cx} {k j : Nat} {x m : Str} {C : Addr} {sp : Sp} {p pos apos : Pos} {e o : Expr} {es : List Expr} {t : TA} {ta : TE} {E : XK}
theorem pe_caX (c : Ca X.prog X.w X.K X.mg X.base k x sp) (hr : Room j X.A) (hk : k ≤ j) (hg : Gl X x) (hx : Passes (L2.CX X.prog X.w) X E) (ha : PA X (e :: es) t)
    (hdb : (x == ("__debug__" : Str)) = false := by decide) (he : starEach (e :: es) X.env = (false, eval e X.env) :: starEach es X.env := by rfl) (hpl : (backTo pos (starEach es X.env)).any (·.1) = false := by rfl) :
    PE X (.Call (.Name x p) (e :: es) [] pos) (tCa sp E t) := by
  obtain ⟨f, fd, ps, F, hm, kp, b⟩ := c.ex
  refine ⟨fun pins s σ H Q I h => (pe_call F (hr.mono hk) hg hm kp b .nil hx ha hdb he hpl).run pins s σ H Q I ?_⟩
  show t σ H fun vs H1 => sp (vs ++ []) H1 Q E
  rw [sp_nil]
  exact h
theorem pe_ca (c : Ca X.prog X.w X.K X.mg X.base k x sp) (hr : Room j X.A) (hk : k ≤ j) (hg : Gl X x) (ha : PA X (e :: es) t)
    (hdb : (x == ("__debug__" : Str)) = false := by decide) (he : starEach (e :: es) X.env = (false, eval e X.env) :: starEach es X.env := by rfl) (hpl : (backTo pos (starEach es X.env)).any (·.1) = false := by rfl) :
    PE X (.Call (.Name x p) (e :: es) [] pos) (tCa sp E0 t) := pe_caX c hr hk hg passL ha hdb he hpl
theorem pe_ca0 (c : Ca X.prog X.w X.K X.mg X.base k x sp) (hr : Room j X.A) (hk : k ≤ j) (hg : Gl X x) (hdb : (x == ("__debug__" : Str)) = false := by decide) :
    PE X (.Call (.Name x p) [] [] pos) (tCa sp E0 tNil) := by
  obtain ⟨f, fd, ps, F, hm, kp, b⟩ := c.ex
  exact ⟨fun pins s σ H Q I h => (pe_call0 F (hr.mono hk) hg hm kp b .nil passL hdb).run pins s σ H Q I h⟩
theorem pe_meX {pl : Sem Bool} (c : Me X.prog X.w X.K X.mg X.base k C m sp) (hr : Room j X.A) (hk : k ≤ j) (he : PE X o ta) (hx : Passes (L2.CX X.prog X.w) X E) (ha : PA X (e :: es) t)
    (hst : starEach (e :: es) X.env = (false, eval e X.env) :: starEach es X.env := by rfl) (hpl : (backTo pos (starEach es X.env)).any (·.1) = false := by rfl)
    (ht : eval (.Call (.Attribute o m apos) (e :: es) [] pos) X.env = (do
      let ov ← eval o X.env
      standAt apos.atName
      let (f, first) ← holding [ov] (getMethod ov m pl)
      callWith pos f first (backTo pos (starEach (e :: es) X.env)) (backToKw pos (keywordEach [] X.env))) := by rfl) :
    PE X (.Call (.Attribute o m apos) (e :: es) [] pos) (tMe C m sp E ta t) := by
  obtain ⟨f, fd, ps, cl, me, F, b⟩ := c.ex
  refine ⟨fun pins s σ H Q I h => (pe_meth he cl me F (hr.mono hk) b .nil hx ha hst hpl ht).run pins s σ H Q I ?_⟩
  have e : tMeth C m sp [] E ta t σ H Q = tMe C m sp E ta t σ H Q := by
    unfold tMeth tMe
    congr 1
    funext x H1
    simp only [List.append_nil]
  rw [e]
  exact h
theorem pe_me {pl : Sem Bool} (c : Me X.prog X.w X.K X.mg X.base k C m sp) (hr : Room j X.A) (hk : k ≤ j) (he : PE X o ta) (ha : PA X (e :: es) t)
    (hst : starEach (e :: es) X.env = (false, eval e X.env) :: starEach es X.env := by rfl) (hpl : (backTo pos (starEach es X.env)).any (·.1) = false := by rfl)
    (ht : eval (.Call (.Attribute o m apos) (e :: es) [] pos) X.env = (do
      let ov ← eval o X.env
      standAt apos.atName
      let (f, first) ← holding [ov] (getMethod ov m pl)
      callWith pos f first (backTo pos (starEach (e :: es) X.env)) (backToKw pos (keywordEach [] X.env))) := by rfl) :
    PE X (.Call (.Attribute o m apos) (e :: es) [] pos) (tMe C m sp E0 ta t) := pe_meX c hr hk he passL ha hst hpl ht
theorem pe_me0 {pl : Sem Bool} (c : Me X.prog X.w X.K X.mg X.base k C m sp) (hr : Room j X.A) (hk : k ≤ j) (he : PE X o ta)
    (ht : eval (.Call (.Attribute o m apos) [] [] pos) X.env = (do
      let ov ← eval o X.env
      standAt apos.atName
      let (f, first) ← holding [ov] (getMethod ov m pl)
      callWith pos f first [] (backToKw pos (keywordEach [] X.env))) := by rfl) :
    PE X (.Call (.Attribute o m apos) [] [] pos) (tMe C m sp E0 ta tNil) := by
  obtain ⟨f, fd, ps, cl, me, F, b⟩ := c.ex
  exact ⟨fun pins s σ H Q I h => (pe_meth0 he cl me F (hr.mono hk) b .nil passL ht).run pins s σ H Q I h⟩
theorem pe_ma0 (c : Ma X.prog X.w X.K X.mg X.base k x C sp) (hr : Room j X.A) (hk : k + 1 ≤ j) (hg : Gl X x) (hdb : (x == ("__debug__" : Str)) = false := by decide) :
    PE X (.Call (.Name x p) [] [] pos) (tMa C sp E0 tNil) := by
  obtain ⟨f, fd, ps, M, F, hm, b⟩ := c.ex
  exact ⟨fun pins s σ H Q I h => (pe_make0 M F (hr.mono hk) hg hm b .nil passL hdb).run pins s σ H Q I h⟩
theorem pe_ma (c : Ma X.prog X.w X.K X.mg X.base k x C sp) (hr : Room j X.A) (hk : k + 1 ≤ j) (hg : Gl X x) (ha : PA X (e :: es) t)
    (hdb : (x == ("__debug__" : Str)) = false := by decide) (he : starEach (e :: es) X.env = (false, eval e X.env) :: starEach es X.env := by rfl) (hpl : (backTo pos (starEach es X.env)).any (·.1) = false := by rfl) :
    PE X (.Call (.Name x p) (e :: es) [] pos) (tMa C sp E0 t) := by
  obtain ⟨f, fd, ps, M, F, hm, b⟩ := c.ex
  refine ⟨fun pins s σ H Q I h => (pe_make M F (hr.mono hk) hg hm b .nil passL ha hdb he hpl).run pins s σ H Q I ?_⟩
  have e : tMake C sp [] E0 t σ H Q = tMa C sp E0 t σ H Q := by
    unfold tMake tMa
    simp only [List.append_nil]
  rw [e]
  exact h
end
/-- calls within a try: what is wished of an exception may speak of the slots -/
def tMeS (C : Addr) (m : Str) (sp : Sp) (E : L2.St → XK) (ta : TE) (t : TA) : TE := fun σ H Q => ta σ H fun x H1 => ∃ a dx fs, x = .ref a ∧ H1 a = some (.ins C dx fs) ∧ fs.lookup m = none ∧ t σ H1 fun vs H2 => sp (x :: vs) H2 Q (E σ)
def tCaS (sp : Sp) (E : L2.St → XK) (t : TA) : TE := fun σ H Q => t σ H fun vs H1 => sp vs H1 Q (E σ)
section
variable {X : Cx} {k j : Nat} {x m : Str} {C : Addr} {sp : Sp} {p pos apos : Pos} {e o : Expr} {es : List Expr} {t : TA} {ta : TE} {E : L2.St → XK}
theorem pe_meS {pl : Sem Bool} (c : Me X.prog X.w X.K X.mg X.base k C m sp) (hr : Room j X.A) (hk : k ≤ j) (he : PE X o ta) (hx : ∀ σ, PassesAt (L2.CX X.prog X.w) X σ (E σ)) (ha : PA X (e :: es) t)
    (hst : starEach (e :: es) X.env = (false, eval e X.env) :: starEach es X.env := by rfl) (hpl : (backTo pos (starEach es X.env)).any (·.1) = false := by rfl)
    (ht : eval (.Call (.Attribute o m apos) (e :: es) [] pos) X.env = (do
      let ov ← eval o X.env
      standAt apos.atName
      let (f, first) ← holding [ov] (getMethod ov m pl)
      callWith pos f first (backTo pos (starEach (e :: es) X.env)) (backToKw pos (keywordEach [] X.env))) := by rfl) :
    PE X (.Call (.Attribute o m apos) (e :: es) [] pos) (tMeS C m sp E ta t) := by
  obtain ⟨f, fd, ps, cl, hm, F, b⟩ := c.ex
  refine ⟨fun pins s σ H Q I h => ?_⟩
  refine PySem.W.methodCall_KW (pl := pl) (thn (he.run pins s σ H _ I h) fun u s1 ⟨x, H1, I1, rx, a, dx, fs, ex, ea, l, q⟩ => ?_) ht
  subst ex
  have rx : u = Value.ref a := rx
  subst rx
  refine getmeth_ok I1 ea cl hm l (PySem.W.callWith_K (first := [.ref a]) (h₀ := X.base) I.ok.mod.kin hm.kp (thn (ha.run pos pins s1 σ H1 _ I1 q) fun us s2 ⟨vs, H2, I2, r, q2⟩ => ⟨I2.kIn, ?_⟩) hst hpl)
  exact run_fnS (us := .ref a :: us) (vs := .ref a :: vs) F (hr.mono hk) b (hx σ) I2 (.cons rfl r) q2
theorem pe_caS (c : Ca X.prog X.w X.K X.mg X.base k x sp) (hr : Room j X.A) (hk : k ≤ j) (hg : Gl X x) (hx : ∀ σ, PassesAt (L2.CX X.prog X.w) X σ (E σ)) (ha : PA X (e :: es) t)
    (hdb : (x == ("__debug__" : Str)) = false := by decide) (he : starEach (e :: es) X.env = (false, eval e X.env) :: starEach es X.env := by rfl) (hpl : (backTo pos (starEach es X.env)).any (·.1) = false := by rfl) :
    PE X (.Call (.Name x p) (e :: es) [] pos) (tCaS sp E t) := by
  obtain ⟨f, fd, ps, F, hm, kp, b⟩ := c.ex
  exact pe_callS F (hr.mono hk) hg hm kp b hx ha hdb he hpl
end
theorem hu65 {A : Around} {k : Nat} (hr : Room k A) : A.units + 65 < cLine := by have := hr.un; omega
theorem pe_gi {X : Cx} {x : Str} {pos : Pos} {v : V} (hg : Gl X x) (h : ∃ u, X.mg x = some u ∧ RelV v u) (hd : (x == ("__debug__" : Str)) = false := by decide) : PE X (.Name x pos) (tC v) := by
  obtain ⟨u, hm, r⟩ := h
  exact pe_glob hg hm r hd

/-! ### one rule for an operator, whatever the values -/
section
variable {X : Cx}
def rAddU (K : PySem.W.Frag) : R2 := fun x y H Q => rI0 (fun i j => .int (i + j)) x y H Q ∨ rCatA K x y H Q ∨ rCat x y H Q ∨ (∃ i j, x = .str i ∧ y = .str j ∧ i.length + j.length ≤ sizeLine ∧ Q (.str (i ++ j)) H)
theorem opU_add : OpR X (binaryOp .Add) (rAddU X.K) := op_add.or (op_catA.or (op_cat.or op_add_str))
def rMulU (K : PySem.W.Frag) : R2 := fun x y H Q => rI CMul (fun i j => .int (i * j)) x y H Q ∨ rRepT K x y H Q ∨ rRep x y H Q
theorem opU_mul : OpR X (binaryOp .Mult) (rMulU X.K) := op_mul.or (op_repT.or op_rep)
def rLeU : R2 := fun x y H Q => rI0 (fun i j => .bl (decide (i ≤ j))) x y H Q ∨ (∃ i j, x = .str i ∧ y = .str j ∧ Q (.bl (!decide (j.cps.toList < i.cps.toList))) H)
theorem opU_le : OpR X (compareOp .LtE) rLeU := op_le.or op_le_str
def rLtU : R2 := rI0 (fun i j => .bl (decide (i < j)))
theorem opU_lt : OpR X (compareOp .Lt) rLtU := op_lt
def rGeU : R2 := rI0 (fun i j => .bl (decide (j ≤ i)))
theorem opU_ge : OpR X (compareOp .GtE) rGeU := op_ge
def rGtU : R2 := rI0 (fun i j => .bl (decide (j < i)))
theorem opU_gt : OpR X (compareOp .Gt) rGtU := op_gt
def rEqU (K : PySem.W.Frag) : R2 := fun x y H Q => rEq x y H Q ∨ rEqD K x y H Q
theorem opU_eq (hu : X.A.units + 64 < cLine) : OpR X (compareOp .Eq) (rEqU X.K) := op_eq.or (op_eqD hu)
def rNeU (K : PySem.W.Frag) : R2 := fun x y H Q => rNe x y H Q ∨ rNeD K x y H Q
theorem opU_ne (hu : X.A.units + 64 < cLine) : OpR X (compareOp .NotEq) (rNeU X.K) := op_ne.or (op_neD hu)
theorem opU_in_list (hu : X.A.units + 65 < cLine) : OpR X (compareOp .In) (rInD X.K) := op_inD hu
theorem opU_notin_list (hu : X.A.units + 65 < cLine) : OpR X (compareOp .NotIn) (rNotInD X.K) := op_notInD hu
theorem opU_is : OpR X (compareOp .Is) rIsB := op_isBl
theorem opU_isnot : OpR X (compareOp .IsNot) rNotB := op_notBl
theorem ixU : IxR X (rIx X.K) := ix_seq
def rSlU (K : PySem.W.Frag) : V → Option Int → Option Int → Hp → VK → Prop := fun x lo hi H Q => rSlL K x lo hi H Q ∨ rSlA K x lo hi H Q ∨ rSlS x lo hi H Q
theorem slU : SlR X (rSlU X.K) := sl_list.or (sl_tupA.or sl_str)
def rLenU (K : PySem.W.Frag) : List V → Hp → VK → Prop := fun xs H Q => ∃ x n, xs = [x] ∧ LenV K x H n ∧ Q (.int n) H
theorem lenU : CallR X (.builtin "len") (rLenU X.K) := call_len
def rListU (K : PySem.W.Frag) : List V → Hp → VK → Prop := fun xs H Q => ∃ p ys, xs = [.ref p] ∧ (SqL K H p ys ∨ SqT K H p ys) ∧ ∀ l, H l = none → Q (.ref l) (upd H l (.lst ys))
theorem listU : CallR X (.type "list") (rListU X.K) := call_list_of
def rTupleU (K : PySem.W.Frag) : List V → Hp → VK → Prop := fun xs H Q => ∃ p ys, xs = [.ref p] ∧ ((SqL K H p ys ∧ ∀ l, H l = none → Q (.ref l) (upd H l (.tup ys))) ∨ (SqT K H p ys ∧ Q (.ref p) H))
theorem tupleU : CallR X (.type "tuple") (rTupleU X.K) := call_tuple_of
def rIntU : List V → Hp → VK → Prop := fun xs H Q => (∃ i, xs = [.int i] ∧ Q (.int i) H) ∨ ∃ k, xs = [.bl k] ∧ Q (.int (if k then 1 else 0)) H
theorem intU : CallR X (.type "int") rIntU := call_int1
theorem gxOk_by {scope : Scope} (h1 : scope.isCoroutine = false := by rfl) (h2 : ∀ y ∈ scope.names, y.2 ≠ .cell := by decide +kernel) (h3 : scope.names.lookup (".0" : Str) = some NameKind.local := by decide +kernel) : GxOk scope := ⟨h1, h2, h3⟩
end

/-! ### readings, rule by rule; heaps that come are new letters -/
section
variable {K : PySem.W.Frag} {σ : L2.St} {H H1 : Hp} {Q : VK} {D : Ends} {ta tb tc te : TE} {t : TA} {ts tu : TS} {g : TG} {E : XK}
theorem rd_var {i : Nat} {v : V} (h : σ[i]? = some (some v)) (q : Q v H) : tVar i σ H Q := ⟨v, h, q⟩
theorem rd_c {v : V} (q : Q v H) : tC v σ H Q := q
theorem rd_op {r : R2} (h : ta σ H fun x H1 => tb σ H1 fun y H2 => r x y H2 Q) : tOp r ta tb σ H Q := h
theorem rd_un {r : V → Hp → VK → Prop} (h : ta σ H fun x H1 => r x H1 Q) : tUn r ta σ H Q := h
theorem rd_chain {r r' : R2} (h : ta σ H fun x H1 => tb σ H1 fun y H2 => r x y H2 fun z H3 => ∃ k, z = .bl k ∧ (if k = true then tc σ H3 fun w' H4 => r' y w' H4 Q else Q (.bl false) H3)) : tChain r r' ta tb tc σ H Q := h
theorem rd_k {P : Bool → Prop} {b : Bool} (h : P b) : ∃ k, V.bl b = V.bl k ∧ P k := ⟨b, rfl, h⟩
theorem rd_I0 {gg : Int → Int → V} {i j : Int} (q : Q (gg i j) H) : rI0 gg (.int i) (.int j) H Q := ⟨i, j, rfl, rfl, q⟩
theorem rd_I {C : Int → Int → Prop} {gg : Int → Int → V} {i j : Int} (c : C i j) (q : Q (gg i j) H) : rI C gg (.int i) (.int j) H Q := ⟨i, j, rfl, rfl, c, q⟩
theorem rd_addI {i j : Int} (q : Q (.int (i + j)) H) : rAddU K (.int i) (.int j) H Q := .inl ⟨i, j, rfl, rfl, q⟩
theorem rd_addS {i j : Str} (l : i.length + j.length ≤ sizeLine) (q : Q (.str (i ++ j)) H) : rAddU K (.str i) (.str j) H Q := .inr (.inr (.inr ⟨i, j, rfl, rfl, l, q⟩))
theorem rd_mulI {i j : Int} (c : CMul i j) (q : Q (.int (i * j)) H) : rMulU K (.int i) (.int j) H Q := .inl ⟨i, j, rfl, rfl, c, q⟩
theorem rd_leI {i j : Int} (q : Q (.bl (decide (i ≤ j))) H) : rLeU (.int i) (.int j) H Q := .inl ⟨i, j, rfl, rfl, q⟩
theorem rd_leS {i j : Str} (q : Q (.bl (!decide (j.cps.toList < i.cps.toList))) H) : rLeU (.str i) (.str j) H Q := .inr ⟨i, j, rfl, rfl, q⟩
theorem rd_ltI {i j : Int} (q : Q (.bl (decide (i < j))) H) : rLtU (.int i) (.int j) H Q := ⟨i, j, rfl, rfl, q⟩
theorem rd_geI {i j : Int} (q : Q (.bl (decide (j ≤ i))) H) : rGeU (.int i) (.int j) H Q := ⟨i, j, rfl, rfl, q⟩
theorem rd_gtI {i j : Int} (q : Q (.bl (decide (j < i))) H) : rGtU (.int i) (.int j) H Q := ⟨i, j, rfl, rfl, q⟩
theorem rd_eqI {i j : Int} (q : Q (.bl (decide (i = j))) H) : rEqU K (.int i) (.int j) H Q := .inl ⟨rfl, by
  have e : decide (V.int i = V.int j) = decide (i = j) := by simp
  rw [e]; exact q⟩
theorem rd_eqS {i j : Str} (q : Q (.bl (decide (i = j))) H) : rEqU K (.str i) (.str j) H Q := .inl ⟨rfl, by
  have e : decide (V.str i = V.str j) = decide (i = j) := by simp
  rw [e]; exact q⟩
theorem rd_eqB {i j : Bool} (q : Q (.bl (decide (i = j))) H) : rEqU K (.bl i) (.bl j) H Q := .inl ⟨rfl, by
  have e : decide (V.bl i = V.bl j) = decide (i = j) := by simp
  rw [e]; exact q⟩
theorem rd_neI {i j : Int} (q : Q (.bl (!decide (i = j))) H) : rNeU K (.int i) (.int j) H Q := .inl ⟨rfl, by
  have e : decide (V.int i = V.int j) = decide (i = j) := by simp
  rw [e]; exact q⟩
theorem rd_neS {i j : Str} (q : Q (.bl (!decide (i = j))) H) : rNeU K (.str i) (.str j) H Q := .inl ⟨rfl, by
  have e : decide (V.str i = V.str j) = decide (i = j) := by simp
  rw [e]; exact q⟩
theorem rd_isN {x : V} (q : Q (.bl (decide (x = .non))) H) : (fun x y H Q => y = V.non ∧ Q (.bl (decide (x = .non))) H : R2) x .non H Q := ⟨rfl, q⟩
theorem rd_neg {i : Int} (q : Q (.int (-i)) H) : rU (fun i => .int (-i)) (.int i) H Q := ⟨i, rfl, q⟩
theorem rd_andV (h : ta σ H fun x H1 => ∃ c, x = .bl c ∧ if c = true then tb σ H1 Q else Q (.bl false) H1) : tAndV ta tb σ H Q := h
theorem rd_orV (h : ta σ H fun x H1 => ∃ c, x = .bl c ∧ if c = true then Q (.bl true) H1 else tb σ H1 Q) : tOrV ta tb σ H Q := h
theorem rd_notV (h : ta σ H fun x H1 => ∃ c, x = .bl c ∧ Q (.bl (!c)) H1) : tNotV ta σ H Q := h
theorem rd_if {tt : TT} (h : tt σ H fun c H1 => if c = true then ta σ H1 Q else tb σ H1 Q) : tIf tt ta tb σ H Q := h
theorem rd_test {R : Bool → Hp → Prop} (h : te σ H fun x H' => ∃ k, x = .bl k ∧ R k H') : tTest te σ H R := h
theorem rd_tB {R : Bool → Hp → Prop} (h : te σ H fun x H1 => ∃ c, x = .bl c ∧ R c H1) : tB te σ H R := h
theorem rd_tand {t u : TT} {R : Bool → Hp → Prop} (h : t σ H fun c H1 => if c = true then u σ H1 R else R false H1) : tAnd t u σ H R := h
theorem rd_tor {t u : TT} {R : Bool → Hp → Prop} (h : t σ H fun c H1 => if c = true then R true H1 else u σ H1 R) : tOr t u σ H R := h
theorem rd_tnot {t : TT} {R : Bool → Hp → Prop} (h : t σ H fun c H1 => R (!c) H1) : tNot t σ H R := h
theorem rd_seq (h : ts { D with nx := tu D } σ H) : tSeq ts tu D σ H := h
theorem rd_next (h : D.nx σ H) : tNext D σ H := h
theorem rd_asg (h : te σ H fun x H1 => g x σ H1 D.nx) : tAsg te g D σ H := h
theorem rd_name {i : Nat} {v : V} {R : L2.St → Hp → Prop} (h : R (σ.set i (some v)) H) : gName i v σ H R := h
theorem rd_gsub {to ti : TE} {tset : TSet} {v : V} {R : L2.St → Hp → Prop} (h : to σ H fun o H1 => ti σ H1 fun i H2 => tset o i v H2 fun H3 => R σ H3) : gSub to ti tset v σ H R := h
theorem rd_ret (h : te σ H D.rt) : tRet te D σ H := h
theorem rd_retN (h : D.rt .non H) : tRetN D σ H := h
theorem rd_drop (h : te σ H fun _ H1 => D.nx σ H1) : tDrop te D σ H := h
theorem rd_ifS {c : TT} (h : c σ H fun b H1 => if b = true then ts D σ H1 else tu D σ H1) : tIfS c ts tu D σ H := h
theorem rd_cons {tr : TA} {R : List V → Hp → Prop} (h : ta σ H fun x H1 => tr σ H1 fun xs H2 => R (x :: xs) H2) : tCons ta tr σ H R := h
theorem rd_nil {R : List V → Hp → Prop} (h : R [] H) : tNil σ H R := h
theorem rd_ca {sp : Sp} (h : t σ H fun vs H1 => sp vs H1 Q E) : tCa sp E t σ H Q := h
theorem rd_cb {r : List V → Hp → VK → Prop} (h : t σ H fun vs H1 => r vs H1 Q) : tCB r t σ H Q := h
theorem rd_me {C : Addr} {m : Str} {sp : Sp} (h : ta σ H fun x H1 => ∃ a dx fs, x = .ref a ∧ H1 a = some (.ins C dx fs) ∧ fs.lookup m = none ∧ t σ H1 fun vs H2 => sp (x :: vs) H2 Q E) : tMe C m sp E ta t σ H Q := h
theorem rd_me2 {C : Addr} {m : Str} {a dx : Addr} {fs : List (Str × V)} {R : Prop} (h : H a = some (.ins C dx fs)) (l : fs.lookup m = none) (q : R) : ∃ a' dx fs, V.ref a = .ref a' ∧ H a' = some (.ins C dx fs) ∧ fs.lookup m = none ∧ R := ⟨a, dx, fs, rfl, h, l, q⟩
theorem rd_meS {C : Addr} {m : Str} {sp : Sp} {E : L2.St → XK} (h : ta σ H fun x H1 => ∃ a dx fs, x = .ref a ∧ H1 a = some (.ins C dx fs) ∧ fs.lookup m = none ∧ t σ H1 fun vs H2 => sp (x :: vs) H2 Q (E σ)) : tMeS C m sp E ta t σ H Q := h
theorem rd_caS {sp : Sp} {E : L2.St → XK} (h : t σ H fun vs H1 => sp vs H1 Q (E σ)) : tCaS sp E t σ H Q := h
/-- what follows when a new thing is laid, folded -/
def kMa (C : Addr) (sp : Sp) (E : XK) (Q : VK) : List V → Hp → Prop := fun vs H1 => ∀ x dx, H1 x = none → H1 dx = none → dx ≠ x → sp (.ref x :: vs) (upd (upd H1 dx (.own x)) x (.ins C dx [])) (fun v H2 => v = .non ∧ Q (.ref x) H2) E
def kTup (Q : VK) : List V → Hp → Prop := fun xs H1 => xs.length ≤ sizeLine ∧ ∀ p, H1 p = none → Q (.ref p) (upd H1 p (.tup xs))
def kLst (Q : VK) : List V → Hp → Prop := fun xs H1 => xs.length ≤ sizeLine ∧ ∀ p, H1 p = none → Q (.ref p) (upd H1 p (.lst xs))
theorem rd_ma {C : Addr} {sp : Sp} (h : t σ H (kMa C sp E Q)) : tMa C sp E t σ H Q := h
theorem rd_kMa {C : Addr} {sp : Sp} {vs : List V} (h : ∀ x dx H2, H1 x = none → H1 dx = none → H2 x = some (.ins C dx []) → Fr [] H1 H2 → sp (.ref x :: vs) H2 (fun v H3 => v = .non ∧ Q (.ref x) H3) E) : kMa C sp E Q vs H1 := fun x dx h1 h2 h3 =>
  h x dx _ h1 h2 upd_same ((Fr.lay (ch := []) h2).snoc (Fr.lay (ch := []) (by rw [upd_ne (Ne.symm h3)]; exact h1)) fun _ z => absurd z (by simp))
theorem rd_tup (h : t σ H (kTup Q)) : tTup t σ H Q := h
theorem rd_lst (h : t σ H (kLst Q)) : tLst t σ H Q := h
theorem rd_kTup {xs : List V} (hl : xs.length ≤ sizeLine) (h : ∀ p H2, H1 p = none → H2 p = some (.tup xs) → Fr [] H1 H2 → Q (.ref p) H2) : kTup Q xs H1 := ⟨hl, fun p hp => h p _ hp upd_same (Fr.lay hp)⟩
theorem rd_kLst {xs : List V} (hl : xs.length ≤ sizeLine) (h : ∀ p H2, H1 p = none → H2 p = some (.lst xs) → Fr [] H1 H2 → Q (.ref p) H2) : kLst Q xs H1 := ⟨hl, fun p hp => h p _ hp upd_same (Fr.lay hp)⟩
theorem rd_new {o : HO} {P : V → Hp → Prop} (h : ∀ p H2, H1 p = none → H2 p = some o → Fr [] H1 H2 → P (.ref p) H2) : ∀ p, H1 p = none → P (.ref p) (upd H1 p o) :=
  fun p hp => h p _ hp upd_same (Fr.lay hp)
theorem rd_dT (h : ∀ p H2, H p = none → H2 p = some (.dT []) → Fr [] H H2 → Q (.ref p) H2) : tDNewT σ H Q := rd_new (P := Q) h
theorem rd_dK (h : ∀ p H2, H p = none → H2 p = some (.dK []) → Fr [] H H2 → Q (.ref p) H2) : tDNewK σ H Q := rd_new (P := Q) h
theorem rd_fld {f : Str} (h : ta σ H fun x H1 => ∃ a C dx fs v, x = .ref a ∧ H1 a = some (.ins C dx fs) ∧ Cls K C ∧ NoAttr K C f ∧ fs.lookup f = some v ∧ Q v H1) : tFld K ta f σ H Q := h
theorem rd_fld2 {f : Str} {a C dx : Addr} {fs : List (Str × V)} {v : V} (h : H a = some (.ins C dx fs)) (c : Cls K C) (n : NoAttr K C f) (l : fs.lookup f = some v) (q : Q v H) :
    ∃ a' C dx fs v, V.ref a = .ref a' ∧ H a' = some (.ins C dx fs) ∧ Cls K C ∧ NoAttr K C f ∧ fs.lookup f = some v ∧ Q v H := ⟨a, C, dx, fs, v, rfl, h, c, n, l, q⟩
theorem rd_sfld {f : Str} {tv : TE} (h : tv σ H fun y H1 => ta σ H1 fun x H2 => ∃ a C dx fs, x = .ref a ∧ H2 a = some (.ins C dx fs) ∧ Cls K C ∧ NoAttr K C f ∧ fs.length < 1000 ∧ D.nx σ (upd H2 a (.ins C dx (putF f y fs)))) : sFld K ta tv f D σ H := h
theorem rd_sfld2 {f : Str} {a C dx : Addr} {fs : List (Str × V)} {y : V} {P : Hp → Prop} (h : H a = some (.ins C dx fs)) (c : Cls K C) (n : NoAttr K C f) (l : fs.length < 1000)
    (q : ∀ H2, H2 a = some (.ins C dx (putF f y fs)) → Fr [a] H H2 → P H2) : ∃ a' C dx fs, V.ref a = .ref a' ∧ H a' = some (.ins C dx fs) ∧ Cls K C ∧ NoAttr K C f ∧ fs.length < 1000 ∧ P (upd H a' (.ins C dx (putF f y fs))) :=
  ⟨a, C, dx, fs, rfl, h, c, n, l, q _ upd_same (Fr.put h trivial List.mem_cons_self)⟩
theorem rd_sfaug {f : Str} {tv : TE} {rd : V → V → Hp → VK → Prop} (h : ta σ H fun x H1 => ∃ a C dx fs v, x = .ref a ∧ H1 a = some (.ins C dx fs) ∧ Cls K C ∧ NoAttr K C f ∧ fs.lookup f = some v ∧
    tv σ H1 fun y H2 => rd v y H2 fun z H3 => ∃ dx' fs', H3 a = some (.ins C dx' fs') ∧ fs'.length < 1000 ∧ D.nx σ (upd H3 a (.ins C dx' (putF f z fs')))) : sFldAug K ta tv rd f D σ H := h
theorem rd_sfaug2 {f : Str} {a C dx : Addr} {fs : List (Str × V)} {v : V} {R : Addr → Addr → Addr → V → Prop} (h : H a = some (.ins C dx fs)) (c : Cls K C) (n : NoAttr K C f) (l : fs.lookup f = some v) (q : R a C dx v) :
    ∃ a' C dx fs v, V.ref a = .ref a' ∧ H a' = some (.ins C dx fs) ∧ Cls K C ∧ NoAttr K C f ∧ fs.lookup f = some v ∧ R a' C dx v := ⟨a, C, dx, fs, v, rfl, h, c, n, l, q⟩
theorem rd_sfaug3 {f : Str} {a C dx : Addr} {fs : List (Str × V)} {z : V} {P : Hp → Prop} (h : H a = some (.ins C dx fs)) (l : fs.length < 1000) (q : ∀ H2, H2 a = some (.ins C dx (putF f z fs)) → Fr [a] H H2 → P H2) :
    ∃ dx' fs', H a = some (.ins C dx' fs') ∧ fs'.length < 1000 ∧ P (upd H a (.ins C dx' (putF f z fs'))) := ⟨dx, fs, h, l, q _ upd_same (Fr.put h trivial List.mem_cons_self)⟩
theorem rd_inadd {i j : Int} (q : Q (.int (i + j)) H) : rAdd (.int i) (.int j) H Q := ⟨i, j, rfl, rfl, q⟩
theorem rd_bm {T : String} {r : V → List V → Hp → VK → Prop} {to : TE} (h : to σ H fun x H1 => tyV K T x H1 ∧ t σ H1 fun xs H2 => r x xs H2 Q) : tBM K T r to t σ H Q := h
theorem rd_bm0 {T : String} {r : V → List V → Hp → VK → Prop} {to : TE} (h : to σ H fun x H1 => tyV K T x H1 ∧ r x [] H1 Q) : tBM0 K T r to σ H Q := h
theorem rd_tyL {p : Addr} {xs : List V} {R : Prop} (h : SqL K H p xs) (q : R) : tyV K "list" (.ref p) H ∧ R := ⟨.inl ⟨rfl, xs, h⟩, q⟩
theorem rd_app {l : Addr} {xs : List V} {y : V} (h : H l = some (.lst xs)) (n : xs.length < sizeLine) (q : ∀ H2, H2 l = some (.lst (xs ++ [y])) → Fr [l] H H2 → Q .non H2) : rAppend (.ref l) [y] H Q :=
  ⟨l, xs, y, rfl, rfl, h, n, q _ upd_same (Fr.put h trivial List.mem_cons_self)⟩
theorem rd_pop0 {l : Addr} {x : V} {xs : List V} (h : H l = some (.lst (x :: xs))) (q : ∀ H2, H2 l = some (.lst xs) → Fr [l] H H2 → Q x H2) : rPopAt (.ref l) [.int 0] H Q :=
  ⟨l, x :: xs, 0, 0, x, rfl, rfl, h, by decide, by decide, by simp [seqIndex?], rfl, q _ upd_same (Fr.put h trivial List.mem_cons_self)⟩
theorem rd_setL {p : Addr} {xs : List V} {k : Int} {j : Nat} {v : V} {P : Hp → Prop} (h : H p = some (.lst xs)) (hj : ixN xs.length k = some j) (q : ∀ H2, H2 p = some (.lst (xs.set j v)) → Fr [p] H H2 → P H2) : rSetL (.ref p) (.int k) v H P :=
  ⟨p, xs, k, j, rfl, rfl, h, hj, q _ upd_same (Fr.put h trivial List.mem_cons_self)⟩
theorem rd_ixL {p : Addr} {xs : List V} {i : Int} {v : V} (h : SqL K H p xs) (e : atI xs i = some v) (q : Q v H) : rIx K (.ref p) (.int i) H Q := .inl ⟨p, xs, i, v, rfl, rfl, h, e, q⟩
theorem rd_ixT {p : Addr} {xs : List V} {i : Int} {v : V} (h : SqT K H p xs) (e : atI xs i = some v) (q : Q v H) : rIx K (.ref p) (.int i) H Q := .inr (.inl ⟨p, xs, i, v, rfl, rfl, h, e, q⟩)
theorem rd_lenS {x : Str} (h : x.length ≤ sizeLine) (q : Q (.int x.length) H) : rLenU K [.str x] H Q := ⟨_, _, rfl, ⟨h, rfl⟩, q⟩
theorem rd_lenL {p : Addr} {xs : List V} (h : SqL K H p xs) (q : Q (.int xs.length) H) : rLenU K [.ref p] H Q := ⟨_, _, rfl, .inl ⟨xs, h, rfl⟩, q⟩
theorem rd_lenT {p : Addr} {xs : List V} (h : SqT K H p xs) (q : Q (.int xs.length) H) : rLenU K [.ref p] H Q := ⟨_, _, rfl, .inr ⟨xs, h, rfl⟩, q⟩
theorem rd_listL {p : Addr} {ys : List V} (h : SqL K H p ys) (q : ∀ l H2, H l = none → H2 l = some (.lst ys) → Fr [] H H2 → Q (.ref l) H2) : rListU K [.ref p] H Q := ⟨p, ys, rfl, .inl h, rd_new q⟩
theorem rd_listT {p : Addr} {ys : List V} (h : SqT K H p ys) (q : ∀ l H2, H l = none → H2 l = some (.lst ys) → Fr [] H H2 → Q (.ref l) H2) : rListU K [.ref p] H Q := ⟨p, ys, rfl, .inr h, rd_new q⟩
theorem rd_tupL {p : Addr} {ys : List V} (h : SqL K H p ys) (q : ∀ l H2, H l = none → H2 l = some (.tup ys) → Fr [] H H2 → Q (.ref l) H2) : rTupleU K [.ref p] H Q := ⟨p, ys, rfl, .inl ⟨h, rd_new q⟩⟩
theorem rd_int {i : Int} (q : Q (.int i) H) : rIntU [.int i] H Q := .inl ⟨i, rfl, q⟩
theorem rd_isi {v : V} {d : Ow.D} {T : String} {b : Bool} (h : Im H v d) (e : kitB (tyD d) T = some b) (q : Q (.bl b) H) : rIsi K [v, .ty T] H Q := ⟨v, .ty T, _, _, b, rfl, .ty T, h.ty, kit_ty e, q⟩
theorem rd_iteT {A B : Prop} (h : A) : if true = true then A else B := by simpa using h
theorem rd_iteF {A B : Prop} (h : B) : if false = true then A else B := by simpa using h
theorem rd_not {A B : Prop} (h : B) : if (!true) = true then A else B := by simpa using h
theorem rd_nof {A B : Prop} (h : A) : if (!false) = true then A else B := by simpa using h
theorem rd_ite {p : Prop} [Decidable p] {A B : Prop} (h1 : p → A) (h2 : ¬ p → B) : if decide p = true then A else B := by
  by_cases h : p
  · simpa [h] using h1 h
  · simpa [h] using h2 h
theorem rd_iteN {p : Prop} [Decidable p] {A B : Prop} (h1 : ¬ p → A) (h2 : p → B) : if (!decide p) = true then A else B := by
  by_cases h : p
  · simpa [h] using h2 h
  · simpa [h] using h1 h
theorem rd_iteB {b : Bool} {A B : Prop} (h1 : b = true → A) (h2 : b = false → B) : if b = true then A else B := by
  cases b with
  | true => simpa using h1 rfl
  | false => simpa using h2 rfl
theorem rd_iteNB {b : Bool} {A B : Prop} (h1 : b = false → A) (h2 : b = true → B) : if (!b) = true then A else B := by
  cases b with
  | true => simpa using h2 rfl
  | false => simpa using h1 rfl
end

/-! ### all(.. for ..) over n items that stay -/
section
variable {K : PySem.W.Frag} {σ : L2.St} {H : Hp} {Q : VK} {te : TE} {g : TG} {vs : List Nat}
theorem gx_run {J : It} {P : Addr} {n : Nat} (item : Nat → V → Prop) (pb : Nat → Bool) (hT : TabG H P) (stop : ∀ H', Fr [] H H' → J.stop n H') (go : ∀ i H', i < n → Fr [] H H' → J.go i H')
    (yld : ∀ i H' x H'', i < n → Fr [] H H' → J.yld i H' x H'' → H'' = H' ∧ item i x)
    (step : ∀ i x H' (R : VK), i < n → item i x → Fr [] H H' → (∀ H3, Fr [] H H3 → R (.bl (pb i)) H3) → g x (wipe σ vs) H' fun σ2 H2 => wipe σ2 vs = wipe σ vs ∧ te σ2 H2 R)
    (yes : (∀ i, i < n → pb i = true) → ∀ H', Fr [] H H' → Q (.bl true) H') (no : ∀ i, i < n → pb i = false → ∀ H', Fr [] H H' → Q (.bl false) H') :
    TabG H P ∧ ∀ H2, Tabbed P H H2 → ∃ W : Nat → Nat → Hp → Prop, (∃ m, W 0 m H2) ∧ gxTurns J g te (wipe σ vs) vs (Q (.bl true)) (Q (.bl false)) W := by
  refine ⟨hT, fun H2 ht => ⟨fun i m H' => m = n - i ∧ i ≤ n ∧ Fr [] H H' ∧ ∀ j, j < i → pb j = true, ⟨n, by simp, Nat.zero_le _, Fr.tabbed hT ht, fun j hj => absurd hj (Nat.not_lt_zero _)⟩, ?_⟩⟩
  rintro i m H' ⟨rfl, hi, f, hp⟩
  by_cases hlt : i < n
  · refine .inr ⟨go i H' hlt f, fun H'' => Fr [] H H'' ∧ pb i = true, fun H'' ⟨f', hb⟩ => ⟨n - (i + 1), by omega, rfl, hlt, f', fun j hj => ?_⟩, fun x H'' y => ?_⟩
    · by_cases e : j = i
      · rw [e]; exact hb
      · exact hp j (by omega)
    · obtain ⟨e, hx⟩ := yld i H' x H'' hlt f y
      subst e
      exact step i x H'' _ hlt hx f fun H4 f4 => ⟨pb i, rfl, fun hb => ⟨f4, hb⟩, fun hb => no i hlt hb H4 f4⟩
  · have e : i = n := by omega
    subst e
    exact .inl ⟨stop H' f, yes (fun j hj => hp j hj) H' f⟩

def gxBody (P : Addr) (g : TG) (te : TE) (vs : List Nat) (σ : L2.St) (Q : VK) : It → Hp → Prop := fun J H1 => TabG H1 P ∧ ∀ H2, Tabbed P H1 H2 → ∃ W : Nat → Nat → Hp → Prop, (∃ m, W 0 m H2) ∧ gxTurns J g te (wipe σ vs) vs (Q (.bl true)) (Q (.bl false)) W
theorem rd_allG {P : Addr} {wi : TI} (h : wi σ H (gxBody P g te vs σ Q)) : tAllG P wi g te vs σ H Q := h
theorem rd_iStr {R : It → Hp → Prop} {ta : TE} (h : ta σ H fun v H1 => ∃ x, v = .str x ∧ R (Its x) H1) : iStr ta σ H R := h
theorem rd_iStr2 {R : It → Hp → Prop} {x : Str} (h : R (Its x) H) : ∃ y, V.str x = .str y ∧ R (Its y) H := ⟨x, rfl, h⟩
theorem rd_iTup {R : It → Hp → Prop} {ta : TE} (h : ta σ H fun x H1 => ∃ a, x = .ref a ∧ (∃ xs, SqT K H1 a xs) ∧ R (Itt K a) H1) : iTup K ta σ H R := h
theorem rd_iTup2 {R : It → Hp → Prop} {a : Addr} {xs : List V} (k : SqT K H a xs) (h : R (Itt K a) H) : ∃ b, V.ref a = .ref b ∧ (∃ xs, SqT K H b xs) ∧ R (Itt K b) H := ⟨a, rfl, ⟨xs, k⟩, h⟩
theorem gx_str {P : Addr} {x : Str} (pb : Nat → Bool) (hT : TabG H P)
    (step : ∀ c H' (R : VK), Fr [] H H' → (∀ H3, Fr [] H H3 → R (.bl (pb c)) H3) → g (.str ⟨#[c]⟩) (wipe σ vs) H' fun σ2 H2 => wipe σ2 vs = wipe σ vs ∧ te σ2 H2 R)
    (fin : ∀ H', Fr [] H H' → Q (.bl (x.cps.toList.all pb)) H') : gxBody P g te vs σ Q (Its x) H := by
  have hn : x.cps.size = x.cps.toList.length := by simp

  refine gx_run (n := x.cps.size) (fun i v => ∃ c, x.cps[i]? = some c ∧ v = .str ⟨#[c]⟩) (fun i => match x.cps[i]? with | some c => pb c | none => false) hT (fun _ _ => Nat.le_refl _) (fun _ _ h _ => h) (fun i H' y H'' _ _ h => h) ?_ ?_ ?_
  · rintro i v H' R hi ⟨c, hc, rfl⟩ f k
    refine step c H' R f fun H3 f3 => ?_
    have := k H3 f3
    simp only [hc] at this
    exact this
  · intro hall H' f
    have e : x.cps.toList.all pb = true := List.all_eq_true.mpr fun c hc => by
      obtain ⟨j, hj, e⟩ := List.getElem_of_mem hc
      have hj' : j < x.cps.size := by omega
      have h1 : x.cps[j]? = some c := by rw [Array.getElem?_eq_getElem hj']; simpa using e
      have := hall j hj'
      simpa only [h1] using this
    have := fin H' f
    rw [e] at this
    exact this
  · intro i hi hb H' f
    have h1 : x.cps[i]? = some x.cps[i] := Array.getElem?_eq_getElem hi
    simp only [h1] at hb
    have e : x.cps.toList.all pb = false := by
      rw [List.all_eq_false]
      exact ⟨x.cps[i], by simp, by simp [hb]⟩
    have := fin H' f
    rw [e] at this
    exact this
theorem gx_tup {P a : Addr} {xs : List V} {ds : List D} (pb : D → Bool) (hT : TabG H P) (hx : H a = some (.tup xs)) (hd : ImAll H xs ds)
    (step : ∀ v d H' (R : VK), Im H' v d → Fr [] H H' → (∀ H3, Fr [] H H3 → R (.bl (pb d)) H3) → g v (wipe σ vs) H' fun σ2 H2 => wipe σ2 vs = wipe σ vs ∧ te σ2 H2 R)
    (fin : ∀ H', Fr [] H H' → Q (.bl (ds.all pb)) H') : gxBody P g te vs σ Q (Itt K a) H := by
  have hl := hd.length
  refine gx_run (n := xs.length) (fun i v => xs[i]? = some v) (fun i => match ds[i]? with | some d => pb d | none => false) hT (fun H' f => ⟨xs, f.seqT (SqT.of hx), Nat.le_refl _⟩) (fun i H' h f => ⟨xs, xs[i], f.seqT (SqT.of hx), List.getElem?_eq_getElem h⟩) (fun i H' y H'' _ f h => ⟨h.1, h.2 xs (f.seqT (SqT.of hx))⟩) ?_ ?_ ?_
  · intro i v H' R hi hv f k
    obtain ⟨d, hd1, hd2⟩ := hd.get hv
    refine step v d H' R (hd2.go f) f fun H3 f3 => ?_
    have := k H3 f3
    simp only [hd1] at this
    exact this
  · intro hall H' f
    have e : ds.all pb = true := List.all_eq_true.mpr fun c hc => by
      obtain ⟨j, hj, e⟩ := List.getElem_of_mem hc
      have h1 : ds[j]? = some c := by rw [List.getElem?_eq_getElem hj, e]
      have := hall j (by omega)
      simpa only [h1] using this
    have := fin H' f
    rw [e] at this
    exact this
  · intro i hi hb H' f
    have hi' : i < ds.length := by omega
    have h1 : ds[i]? = some ds[i] := List.getElem?_eq_getElem hi'
    simp only [h1] at hb
    have e : ds.all pb = false := by
      rw [List.all_eq_false]
      exact ⟨ds[i], by simp, by simp [hb]⟩
    have := fin H' f
    rw [e] at this
    exact this
end
end Ow

set_option Elab.async false
set_option linter.all false
set_option maxRecDepth 100000
set_option maxHeartbeats 4000000
namespace Ow
open PySem PySem.Spec PyProof.Rows L2 GxR
/-! ### text * int -/
def repS (z : Str) (k : Int) : Str := ⟨(List.replicate k.toNat z.cps).foldl (· ++ ·) #[]⟩
def rRepS : R2 := fun x y H Q => ∃ z k, x = .str z ∧ y = .int k ∧ 2 ≤ k ∧ k ≤ 1000 ∧ 1 ≤ z.length ∧ z.length ≤ 1000 ∧ Q (.str (repS z k)) H
theorem op_repS {X : Cx} : OpR X (binaryOp .Mult) rRepS := by
  intro pins s σ H x y v u Q I rx ry h
  obtain ⟨z, k, rfl, rfl, h1, h2, h3, h4, q⟩ := h
  obtain ⟨t, rfl⟩ := rx
  obtain ⟨t', rfl⟩ := ry
  have c : (k == 1 || z.length == 0) = false := by
    have e1 : (k == 1) = false := beq_eq_false_iff_ne.mpr (by omega)
    have e2 : (z.length == 0) = false := beq_eq_false_iff_ne.mpr (by omega)
    rw [e1, e2]; rfl
  have hm : z.length * k.toNat ≤ 1000 * 1000 := Nat.mul_le_mul h4 (by omega)
  refine PySem.P.mul_str ?_ (fun _ _ => ?_) (fun _ _ => ?_) ?_
  · rw [decide_eq_false (by omega), decide_eq_false (by omega)]; rfl
  · have : (1000 : Int) ≤ (2 ^ 63 - 1) / k := by
      rw [Int.le_ediv_iff_mul_le (by omega)]
      omega
    omega
  · unfold Builtin.Str.tooLong
    rw [sizeLine_eq]
    exact decide_eq_false (by omega)
  · rw [if_neg (by omega), if_neg (by rw [c]; exact Bool.false_ne_true)]
    have hlen : (repS z k).length ≤ sizeLine := by
      have e : ∀ (n : Nat) (acc : Array Nat), ((List.replicate n z.cps).foldl (· ++ ·) acc).size = acc.size + n * z.length := by
        intro n
        induction n with
        | zero => intro acc; simp
        | succ n ih =>
          intro acc
          rw [List.replicate_succ, List.foldl_cons, ih, Array.size_append, Nat.succ_mul]
          show acc.size + z.length + n * z.length = _
          omega
      show ((List.replicate k.toNat z.cps).foldl (· ++ ·) #[]).size ≤ _
      rw [e, sizeLine_eq]
      have : k.toNat * z.length = z.length * k.toNat := Nat.mul_comm _ _
      simp
      omega
    exact ⟨hlen, .str (repS z k), H, I.tok _, ⟨_, rfl⟩, q⟩
/-- * of any -/
def rMulV (K : PySem.W.Frag) : R2 := fun x y H Q => rMulU K x y H Q ∨ rRepS x y H Q
theorem opV_mul {X : Cx} : OpR X (binaryOp .Mult) (rMulV X.K) := opU_mul.or op_repS
section
variable {K : PySem.W.Frag} {σ : L2.St} {H H1 : Hp} {Q : VK} {D : Ends} {ta tb tc te : TE} {t : TA} {ts tu tb' : TS} {g : TG} {E : XK} {wi : TI} {tt : TT}
theorem rv_mulI {i j : Int} (c : CMul i j) (q : Q (.int (i * j)) H) : rMulV K (.int i) (.int j) H Q := .inl (rd_mulI c q)
theorem rv_mulS {z : Str} {k : Int} (h : 2 ≤ k ∧ k ≤ 1000 ∧ 1 ≤ z.length ∧ z.length ≤ 1000) (q : Q (.str (repS z k)) H) : rMulV K (.str z) (.int k) H Q := .inr ⟨z, k, rfl, rfl, h.1, h.2.1, h.2.2.1, h.2.2.2, q⟩
theorem rv_mulT {p : Addr} {xs : List V} {k : Int} (h : SqT K H p xs) (h2 : xs ≠ [] ∧ 2 ≤ k ∧ k ≤ 1000 ∧ xs.length ≤ 1000) (q : ∀ p2 H2, H p2 = none → H2 p2 = some (.tup (List.replicate k.toNat xs).flatten) → Fr [] H H2 → Q (.ref p2) H2) : rMulV K (.ref p) (.int k) H Q :=
  .inl (.inr (.inl ⟨p, k, xs, rfl, rfl, h, h2.1, h2.2.1, h2.2.2.1, h2.2.2.2, rd_new (P := Q) q⟩))

theorem rd_subI {i j : Int} (q : Q (.int (i - j)) H) : rI0 (fun i j => .int (i - j)) (.int i) (.int j) H Q := ⟨i, j, rfl, rfl, q⟩
theorem cdivW_of {i m : Int} (h0 : 0 < m) (h : m < 1000000000000000000) : CDivW i m := ⟨h0, by
  have : m.natAbs < 2 ^ 60 := by omega
  have := (Nat.log2_lt (by omega)).mpr this
  omega⟩
theorem Fr.seqL {ch : List Addr} {K : PySem.W.Frag} {H H' : Hp} (f : Fr ch H H') {a : Addr} {xs : List V} (hc : a ∉ ch) (h : SqL K H a xs) : SqL K H' a xs := by
  rcases h with (h | ⟨o, h⟩) | h
  · exact .inl (.inl (f.lst h rfl hc))
  · exact .inl (.inr ⟨o, f.frz _ _ _ h⟩)
  · exact .inr h
theorem rd_nn {R : Prop} (q : R) : V.non = V.non ∧ R := ⟨rfl, q⟩
/-! ### loops -/
def kF (g : TG) (tb : TS) (D : Ends) (σ : L2.St) : It → Hp → Prop := fun J H1 => ∃ W : Nat → Nat → L2.St → Hp → Prop, (∃ m, W 0 m σ H1) ∧ ∀ i m σ H, W i m σ H →
  (J.stop i H ∧ D.nx σ H) ∨ (J.go i H ∧ ∃ N : L2.St → Hp → Prop, (∀ σ' H', N σ' H' → ∃ m', m' < m ∧ W (i + 1) m' σ' H') ∧ ∀ x H', J.yld i H x H' → g x σ H' fun σ2 H2 => tb { D with nx := N, ct := N, bk := D.nx } σ2 H2)
theorem rd_for (h : wi σ H (kF g tb' D σ)) : tFor wi g tb' D σ H := h
theorem kF_range {lo : Int} {n : Nat} (Pv : Nat → L2.St → Hp → Prop) (h0 : Pv 0 σ H)
    (hs : ∀ i σ H, i < n → Pv i σ H → g (.int (lo + i)) σ H fun σ2 H2 => tb' { D with nx := Pv (i + 1), ct := Pv (i + 1), bk := D.nx } σ2 H2) (hd : ∀ σ H, Pv n σ H → D.nx σ H) : kF g tb' D σ (Itr lo n) H := for_range Pv h0 hs hd
theorem rd_rng1 {R : It → Hp → Prop} (h : t σ H fun vs H1 => ∃ j : Int, vs = [.int j] ∧ -(2 ^ 62) ≤ j ∧ j < 2 ^ 62 ∧ R (Itr 0 j.toNat) H1) : iRng1 t σ H R := h
theorem rd_rng1b {R : It → Hp → Prop} {j : Int} (h : -(2 ^ 62) ≤ j ∧ j < 2 ^ 62) (q : R (Itr 0 j.toNat) H) : ∃ i : Int, [V.int j] = [.int i] ∧ -(2 ^ 62) ≤ i ∧ i < 2 ^ 62 ∧ R (Itr 0 i.toNat) H := ⟨j, rfl, h.1, h.2, q⟩
/-! ### list comprehensions over ranges, without a condition -/
def kLc (g : TG) (tt : TT) (te : TE) (vs : List Nat) (σ : L2.St) (Q : VK) : It → Hp → Prop := fun J H1 => ∀ D, H1 D = none → ∃ W : Nat → Nat → Hp → Prop, (∃ m, W 0 m (upd H1 D (.lst []))) ∧ ∀ i m H, W i m H →
  (J.stop i H ∧ Q (.ref D) H) ∨ (J.go i H ∧ ∃ Nx : Hp → Prop, (∀ H', Nx H' → ∃ m', m' < m ∧ W (i + 1) m' H') ∧ ∀ x H', J.yld i H x H' → g x (wipe σ vs) H' fun σ2 H2 => wipe σ2 vs = wipe σ vs ∧ tt σ2 H2 fun b H3 =>
    if b = true then te σ2 H3 fun y H4 => ∃ acc, H4 D = some (.lst acc) ∧ acc.length < sizeLine ∧ Nx (upd H4 D (.lst (acc ++ [y]))) else Nx H3)
theorem rd_lc {vs : List Nat} (h : wi σ H (kLc g tt te vs σ Q)) : tLc wi g tt te vs σ H Q := h
/-- I: what holds of the list so far and the heap -/
theorem kLc_range {lo : Int} {n : Nat} {vs : List Nat} (I : Addr → Nat → List V → Hp → Prop) (h0 : ∀ D H2, H1 D = none → H2 D = some (.lst []) → Fr [] H1 H2 → I D 0 [] H2)
    (hs : ∀ D i acc H (R : V → Hp → Prop), H1 D = none → i < n → H D = some (.lst acc) → I D i acc H → (∀ y H4, H4 D = some (.lst acc) → acc.length < sizeLine → (∀ H5, H5 D = some (.lst (acc ++ [y])) → Fr [D] H4 H5 → I D (i + 1) (acc ++ [y]) H5) → R y H4) →
      g (.int (lo + i)) (wipe σ vs) H fun σ2 H2 => wipe σ2 vs = wipe σ vs ∧ tt σ2 H2 fun b H3 => if b = true then te σ2 H3 R else False)
    (hd : ∀ D acc H, H1 D = none → H D = some (.lst acc) → I D n acc H → Q (.ref D) H)
    (mono : ∀ x σ2 H2 (R R' : L2.St → Hp → Prop), (∀ σ H, R σ H → R' σ H) → g x σ2 H2 R → g x σ2 H2 R')
    (mtt : ∀ σ2 H2 (R R' : Bool → Hp → Prop), (∀ b H, R b H → R' b H) → tt σ2 H2 R → tt σ2 H2 R') : kLc g tt te vs σ Q (Itr lo n) H1 := fun D hD => by
  refine lc_range (fun i H => ∃ acc, H D = some (.lst acc) ∧ I D i acc H) ⟨[], upd_same, h0 D _ hD upd_same (Fr.lay hD)⟩ (fun i H hi ⟨acc, ha, hI⟩ => ?_) (fun H ⟨acc, ha, hI⟩ => hd D acc H hD ha hI)
  have h := hs D i acc H (fun y H4 => ∃ acc, H4 D = some (.lst acc) ∧ acc.length < sizeLine ∧ ∃ acc', (upd H4 D (.lst (acc ++ [y]))) D = some (.lst acc') ∧ I D (i + 1) acc' (upd H4 D (.lst (acc ++ [y])))) hD hi ha hI
    (fun y H4 h4 hl k => ⟨acc, h4, hl, acc ++ [y], upd_same, k _ upd_same (Fr.put h4 trivial List.mem_cons_self)⟩)
  refine mono _ _ _ _ _ (fun σ2 H2 z => ⟨z.1, mtt _ _ _ _ (fun b H3 q => ?_) z.2⟩) h
  cases b with
  | true => simpa using q
  | false => exact absurd q (by simp)
end
end Ow

set_option Elab.async false
set_option linter.all false
set_option maxRecDepth 100000
set_option maxHeartbeats 4000000
namespace Ow
open PySem PySem.Spec PyProof.Rows L2 GxR
/-! ### the walk, in words of this file -/
local macro_rules | `(tactic| walk_at "nin") => `(tactic| first | exact List.not_mem_nil | assumption | (simp only [List.mem_cons, List.mem_singleton, List.not_mem_nil, or_false, not_or]; (repeat' constructor) <;> walk_at "ne"))
local macro_rules | `(tactic| walk_at "ne") => `(tactic| first | assumption | (apply Ne.symm; assumption) | (apply ne_of_none; (walk_at "hp"); assumption) | (apply Ne.symm; apply ne_of_none; (walk_at "hp"); assumption) | (apply ne_of; (walk_at "hp"); (walk_at "hp"); (intro hz; cases hz; done)))
local macro_rules | `(tactic| walk_at "hp") => `(tactic| first | assumption | (apply Fr.lst; assumption; (walk_at "hp"); (exact rfl); (walk_at "nin")))
local macro_rules | `(tactic| walk_at "sqL") => `(tactic| first | assumption | (apply SqL.of; walk_at "hp") | (apply Fr.seqL; assumption; (walk_at "nin"); (walk_at "sqL")))
local macro_rules | `(tactic| walk_at "sqT") => `(tactic| first | assumption | (apply SqT.of; walk_at "hp") | (apply Fr.seqT; assumption; walk_at "sqT"))
local macro_rules | `(tactic| walk_at "ht") => `(tactic| first | assumption | (apply Fr.tup; assumption; walk_at "ht"))
local macro_rules | `(tactic| walk_at "im") => `(tactic| first | assumption | exact Im.int _ | exact Im.str _ (by first | assumption | decide | omega) | exact Im.bl _ | exact Im.non | (apply Im.tup; (walk_at "ht"); (walk_at "ima")) | (apply Im.go; rotate_left; assumption; walk_at "im"))
local macro_rules | `(tactic| walk_at "ima") => `(tactic| first | assumption | exact ImAll.nil | (apply ImAll.cons; (walk_at "im"); (walk_at "ima")) | (apply ImAll.go; rotate_left; assumption; walk_at "ima"))
local macro_rules | `(tactic| walk_at "fr") => `(tactic| first | assumption | exact Fr.refl | (apply Fr.snoc; rotate_left; assumption; (walk_at "sub"); (walk_at "fr")))
local macro_rules | `(tactic| walk_at "sub") => `(tactic| first | exact sub_nil | exact fun _ hz => Or.inl hz | assumption | (apply sub_cons; (first | (left; assumption) | (left; simp; done) | (right; walk_at "fre")); (walk_at "sub")))
local macro_rules | `(tactic| walk_at "fre") => `(tactic| first | assumption | (apply Fr.free; assumption; walk_at "fre"))
local macro_rules | `(tactic| walk_at "len") => `(tactic| first | decide | (simp only [List.length_cons, List.length_nil]; decide) | exact Nat.le_trans (by assumption) (by decide) | exact Nat.lt_of_le_of_lt (by assumption) (by decide) | (show _ ≤ sizeLine; decide) | omega)
local macro_rules | `(tactic| walk_at "ar") => `(tactic| first | assumption | (apply cdivW_of <;> omega) | omega | decide | (constructor <;> first | omega | decide) | (left; constructor <;> first | omega | decide) | (right; constructor <;> first | omega | decide))
local macro_rules | `(tactic| walk_at "lk") => `(tactic| first | rfl | assumption)
set_option hygiene false in
local macro_rules | `(tactic| walk_at "rd1") => `(tactic| first
  | with_reducible refine rd_var rfl ?_
  | with_reducible refine rd_c ?_
  | with_reducible refine rd_op ?_
  | with_reducible refine rd_seq ?_
  | with_reducible refine rd_asg ?_
  | with_reducible refine rd_name ?_
  | with_reducible refine rd_cons ?_
  | with_reducible refine rd_nil ?_
  | with_reducible refine rd_k ?_
  | with_reducible refine rd_test ?_
  | with_reducible refine rd_tB ?_
  | with_reducible refine rd_ifS ?_
  | with_reducible refine rd_iteT ?_
  | with_reducible refine rd_iteF ?_
  | with_reducible refine rd_addI ?_
  | with_reducible refine rd_I0 ?_
  | with_reducible refine rd_leI ?_
  | with_reducible refine rd_leS ?_
  | with_reducible refine rd_ltI ?_
  | with_reducible refine rd_geI ?_
  | with_reducible refine rd_gtI ?_
  | with_reducible refine rd_eqI ?_
  | with_reducible refine rd_eqS ?_
  | with_reducible refine rd_eqB ?_
  | with_reducible refine rd_neI ?_
  | with_reducible refine rd_neS ?_
  | with_reducible refine rd_ret ?_
  | with_reducible refine rd_retN ?_
  | with_reducible refine rd_drop ?_
  | with_reducible refine rd_next ?_
  | with_reducible refine rd_ca ?_
  | with_reducible refine rd_cb ?_
  | with_reducible refine rd_me ?_
  | ((with_reducible refine' rd_me2 ?h1 ?h2 ?_); (case h1 => walk_at "hp"); (case h2 => walk_at "lk"))
  | with_reducible refine rd_ma ?_
  | with_reducible refine rd_meS ?_
  | with_reducible refine rd_caS ?_
  | with_reducible refine rd_chain ?_
  | with_reducible refine rd_andV ?_
  | with_reducible refine rd_orV ?_
  | with_reducible refine rd_notV ?_
  | with_reducible refine rd_not ?_
  | with_reducible refine rd_nof ?_
  | with_reducible refine rd_if ?_
  | with_reducible refine rd_tand ?_
  | with_reducible refine rd_tor ?_
  | with_reducible refine rd_tnot ?_
  | ((with_reducible refine' rd_isi (b := true) ?h1 ?h2 ?_); (case h1 => walk_at "im"); (case h2 => rfl))
  | ((with_reducible refine' rd_isi (b := false) ?h1 ?h2 ?_); (case h1 => walk_at "im"); (case h2 => rfl))
  | with_reducible refine rd_int ?_
  | with_reducible refine rd_fld ?_
  | ((with_reducible refine' rd_fld2 ?h1 ?h2 ?h3 ?h4 ?_); (case h1 => walk_at "hp"); (case h2 => walk_at "cls"); (case h3 => walk_at "nat"); (case h4 => walk_at "lk"))
  | with_reducible refine rd_bm ?_
  | with_reducible refine rd_bm0 ?_
  | ((with_reducible refine' rd_tyL ?h1 ?_); (case h1 => walk_at "sqL"))
  | ((with_reducible refine' rd_ixL ?h1 ?h2 ?_); (case h1 => walk_at "sqL"); (case h2 => walk_at "atI"))
  | ((with_reducible refine' rd_ixT ?h1 ?h2 ?_); (case h1 => walk_at "sqT"); (case h2 => walk_at "atI"))
  | ((with_reducible refine' rd_lenS ?h1 ?_); (case h1 => walk_at "len"))
  | ((with_reducible refine' rd_lenL ?h1 ?_); (case h1 => walk_at "sqL"))
  | ((with_reducible refine' rd_lenT ?h1 ?_); (case h1 => walk_at "sqT"))
  | ((with_reducible refine' rv_mulI ?h1 ?_); (case h1 => walk_at "ar"))
  | ((with_reducible refine' rv_mulS ?h1 ?_); (case h1 => decide))
  | ((with_reducible refine' rv_mulT ?h1 ?h2 ?_); (case h1 => walk_at "sqT"); (case h2 => (refine ⟨by simp, by decide, by decide, by simp⟩)); intro p Hn hn0 hn1 hnf)
  | with_reducible refine rd_nn ?_
  | with_reducible refine rd_for ?_
  | with_reducible refine rd_lc ?_
  | with_reducible refine rd_rng1 ?_
  | ((with_reducible refine' rd_rng1b ?h1 ?_); (case h1 => walk_at "ar"))
  | with_reducible refine rd_subI ?_
  | ((with_reducible refine' rd_I ?h1 ?_); (case h1 => walk_at "ar"))
  | with_reducible refine rd_un ?_
  | with_reducible refine rd_neg ?_
  | with_reducible refine rd_gsub ?_
  | with_reducible refine rd_tup ?_
  | with_reducible refine rd_lst ?_
  | ((with_reducible refine' rd_dT ?_); intro p Hn hn0 hn1 hnf)
  | ((with_reducible refine' rd_kMa ?_); intro p dx Hn hn0 hn2 hn1 hnf)
  | with_reducible refine rd_allG ?_
  | with_reducible refine rd_iStr ?_
  | with_reducible refine rd_iStr2 ?_
  | with_reducible refine rd_iTup ?_
  | ((with_reducible refine' rd_iTup2 ?h1 ?_); (case h1 => walk_at "sqT"))
  | ((with_reducible refine' rd_kTup ?h1 ?_); (case h1 => walk_at "len"); intro p Hn hn0 hn1 hnf)
  | ((with_reducible refine' rd_kLst ?h1 ?_); (case h1 => walk_at "len"); intro p Hn hn0 hn1 hnf)
  | ((with_reducible refine' rd_listL ?h1 ?_); (case h1 => walk_at "sqL"); intro p Hn hn0 hn1 hnf)
  | ((with_reducible refine' rd_listT ?h1 ?_); (case h1 => walk_at "sqT"); intro p Hn hn0 hn1 hnf)
  | ((with_reducible refine' rd_tupL ?h1 ?_); (case h1 => walk_at "sqL"); intro p Hn hn0 hn1 hnf)
  | ((with_reducible refine' rd_app ?h1 ?h2 ?_); (case h1 => walk_at "hp"); (case h2 => walk_at "len"); intro Hn hn1 hnf)
  | ((with_reducible refine' rd_pop0 ?h1 ?_); (case h1 => walk_at "hp"); intro Hn hn1 hnf)
  | ((with_reducible refine' rd_setL ?h1 ?h2 ?_); (case h1 => walk_at "hp"); (case h2 => walk_at "ixN"); intro Hn hn1 hnf)
  | with_reducible refine rd_sfld ?_
  | ((with_reducible refine' rd_sfld2 ?h1 ?h2 ?h3 ?h4 ?_); (case h1 => walk_at "hp"); (case h2 => walk_at "cls"); (case h3 => walk_at "nat"); (case h4 => walk_at "lf"); intro Hn hn1 hnf)
  | with_reducible refine rd_sfaug ?_
  | ((with_reducible refine' rd_sfaug2 ?h1 ?h2 ?h3 ?h4 ?_); (case h1 => walk_at "hp"); (case h2 => walk_at "cls"); (case h3 => walk_at "nat"); (case h4 => walk_at "lk"))
  | with_reducible refine rd_inadd ?_
  | ((with_reducible refine' rd_sfaug3 ?h1 ?h2 ?_); (case h1 => walk_at "hp"); (case h2 => walk_at "lf"); intro Hn hn1 hnf)
  | walk_at "sp")
local macro_rules | `(tactic| walk_at "tab") => `(tactic| first | assumption | (apply Fr.tab; assumption; walk_at "tab"))
local macro_rules | `(tactic| walk_at "lf") => `(tactic| first | decide | exact Nat.le_of_ble_eq_true (by rfl) | (simp; done))
local macro_rules | `(tactic| walk_at "atI") => `(tactic| first | rfl | assumption)
local macro_rules | `(tactic| walk_at "ixN") => `(tactic| first | rfl | assumption)
local macro_rules | `(tactic| walk_at "rd") => `(tactic| repeat (walk_at "rd1"))
set_option hygiene false in
local macro_rules | `(tactic| walk_at "ite") => `(tactic| first
  | with_reducible refine rd_ite (fun hc => ?_) (fun hc => ?_)
  | with_reducible refine rd_iteN (fun hc => ?_) (fun hc => ?_)
  | with_reducible refine rd_iteNB (fun hc => ?_) (fun hc => ?_)
  | with_reducible refine rd_iteB (fun hc => ?_) (fun hc => ?_))

local macro_rules | `(tactic| walk_at "cls") => `(tactic| assumption)
local macro_rules | `(tactic| walk_at "nat") => `(tactic| assumption)

def top (i : Nat) : Stmt := PySem.Challenge.pw_onewatcher_k00_notary.main.body.getD i (.Pass ⟨0, 0, 0, 0⟩)
abbrev s_is_number : Stmt := (top 7)
abbrev N_is_number : List Str := ["value", "most"]
theorem sc_is_number : FnScope N_is_number ["value", "most"] (defScope s_is_number) := ⟨rfl, rfl, rfl, by decide +kernel, rfl, by decide +kernel, by decide +kernel⟩
abbrev s__is_text : Stmt := (top 8)
abbrev N__is_text : List Str := ["value", "sign"]
theorem sc__is_text : FnScope N__is_text ["value"] (defScope s__is_text) := ⟨rfl, rfl, rfl, by decide +kernel, rfl, by decide +kernel, by decide +kernel⟩
abbrev s_is_parts : Stmt := (top 9)
abbrev N_is_parts : List Str := ["value", "element"]
theorem sc_is_parts : FnScope N_is_parts ["value"] (defScope s_is_parts) := ⟨rfl, rfl, rfl, by decide +kernel, rfl, by decide +kernel, by decide +kernel⟩
abbrev s_Notary___init__ : Stmt := (inClass (top 10) 0)
abbrev N_Notary___init__ : List Str := ["self"]
theorem sc_Notary___init__ : FnScope N_Notary___init__ ["self"] (defScope s_Notary___init__) := ⟨rfl, rfl, rfl, by decide +kernel, rfl, by decide +kernel, by decide +kernel⟩
abbrev s_Notary_seal : Stmt := (inClass (top 10) 1)
abbrev N_Notary_seal : List Str := ["self", "parts"]
theorem sc_Notary_seal : FnScope N_Notary_seal ["self", "parts"] (defScope s_Notary_seal) := ⟨rfl, rfl, rfl, by decide +kernel, rfl, by decide +kernel, by decide +kernel⟩
abbrev s_Notary_find : Stmt := (inClass (top 10) 2)
abbrev N_Notary_find : List Str := ["self", "parts"]
theorem sc_Notary_find : FnScope N_Notary_find ["self", "parts"] (defScope s_Notary_find) := ⟨rfl, rfl, rfl, by decide +kernel, rfl, by decide +kernel, by decide +kernel⟩
abbrev s_Notary_parts_of : Stmt := (inClass (top 10) 3)
abbrev N_Notary_parts_of : List Str := ["self", "seal"]
theorem sc_Notary_parts_of : FnScope N_Notary_parts_of ["self", "seal"] (defScope s_Notary_parts_of) := ⟨rfl, rfl, rfl, by decide +kernel, rfl, by decide +kernel, by decide +kernel⟩
abbrev s_Notary_size : Stmt := (inClass (top 10) 4)
abbrev N_Notary_size : List Str := ["self"]
theorem sc_Notary_size : FnScope N_Notary_size ["self"] (defScope s_Notary_size) := ⟨rfl, rfl, rfl, by decide +kernel, rfl, by decide +kernel, by decide +kernel⟩
abbrev s_Notary_finds : Stmt := (inClass (top 10) 5)
abbrev N_Notary_finds : List Str := ["self"]
theorem sc_Notary_finds : FnScope N_Notary_finds ["self"] (defScope s_Notary_finds) := ⟨rfl, rfl, rfl, by decide +kernel, rfl, by decide +kernel, by decide +kernel⟩
abbrev s__law_same : Stmt := (top 12)
abbrev N__law_same : List Str := ["a", "b", "k"]
theorem sc__law_same : FnScope N__law_same ["a", "b"] (defScope s__law_same) := ⟨rfl, rfl, rfl, by decide +kernel, rfl, by decide +kernel, by decide +kernel⟩
abbrev s__law_box : Stmt := (top 13)
abbrev N__law_box : List Str := ["script", "nodes"]
theorem sc__law_box : FnScope N__law_box ["script", "nodes"] (defScope s__law_box) := ⟨rfl, rfl, rfl, by decide +kernel, rfl, by decide +kernel, by decide +kernel⟩
abbrev s__law_load : Stmt := (top 14)
abbrev N__law_load : List Str := ["box", "cells", "cell", "size", "first", "second"]
theorem sc__law_load : FnScope N__law_load ["box"] (defScope s__law_load) := ⟨rfl, rfl, rfl, by decide +kernel, rfl, by decide +kernel, by decide +kernel⟩
abbrev s__law_draw : Stmt := (top 15)
abbrev N__law_draw : List Str := ["box", "many", "digit"]
theorem sc__law_draw : FnScope N__law_draw ["box", "many"] (defScope s__law_draw) := ⟨rfl, rfl, rfl, by decide +kernel, rfl, by decide +kernel, by decide +kernel⟩
abbrev s__law_part : Stmt := (top 16)
abbrev N__law_part : List Str := ["box", "kind"]
theorem sc__law_part : FnScope N__law_part ["box"] (defScope s__law_part) := ⟨rfl, rfl, rfl, by decide +kernel, rfl, by decide +kernel, by decide +kernel⟩
abbrev s__law_parts : Stmt := (top 17)
abbrev N__law_parts : List Str := ["box", "known", "many", "k"]
theorem sc__law_parts : FnScope N__law_parts ["box", "known"] (defScope s__law_parts) := ⟨rfl, rfl, rfl, by decide +kernel, rfl, by decide +kernel, by decide +kernel⟩
abbrev s__law_wrong : Stmt := (top 18)
abbrev N__law_wrong : List Str := ["box"]
theorem sc__law_wrong : FnScope N__law_wrong ["box"] (defScope s__law_wrong) := ⟨rfl, rfl, rfl, by decide +kernel, rfl, by decide +kernel, by decide +kernel⟩
abbrev s__law_refused : Stmt := (top 19)
abbrev N__law_refused : List Str := ["notary", "parts", "e"]
theorem sc__law_refused : FnScope N__law_refused ["notary", "parts"] (defScope s__law_refused) := ⟨rfl, rfl, rfl, by decide +kernel, rfl, by decide +kernel, by decide +kernel⟩
abbrev s_law : Stmt := (top 20)
abbrev N_law : List Str := ["script", "box", "notary", "other", "known", "asked", "turn", "kind", "parts", "due", "number", "told", "wrong"]
theorem sc_law : FnScope N_law ["script"] (defScope s_law) := ⟨rfl, rfl, rfl, by decide +kernel, rfl, by decide +kernel, by decide +kernel⟩
structure Txt (K : PySem.W.Frag) (mg : Str → Option Value) : Prop where
  b_isinstance : mg "isinstance" = none
  b_int : mg "int" = none
  b_bool : mg "bool" = none
  b_str : mg "str" = none
  b_tuple : mg "tuple" = none
  b_len : mg "len" = none
  b_all : mg "all" = none
  g_MAX_PART : ∃ u, mg "MAX_PART" = some u ∧ RelV (.int 281474976710656) u
  g__MAX_ELEMENTS : ∃ u, mg "_MAX_ELEMENTS" = some u ∧ RelV (.int 16) u
  g__MAX_TEXT : ∃ u, mg "_MAX_TEXT" = some u ∧ RelV (.int 24) u

section
variable {P : Program} {w : World} {K : PySem.W.Frag} {mg : Str → Option Value} {base : Heap}
/-- an integer from 0 to m -/
def numD (m : Int) : D → Bool
  | .int i => decide (0 ≤ i) && decide (i ≤ m)
  | _ => false
def spNum : Sp := fun vs H Q _ => ∃ v d m, vs = [v, .int m] ∧ Im H v d ∧ Q (.bl (numD m d)) H
theorem ok_is_number {f : Addr} {fd : FuncData} (F : Fun K "is_number" "is_number" s_is_number f fd) (T : Txt K mg) : FnOk P w K mg base (L2.CX P w) 1 f fd ["value", "most"] spNum := by
  refine F.okX sc_is_number (fun vs H Q E h => ?_) (fun cdv A outer s H vs Q E hr h => ?_)
  · obtain ⟨v, d, m, rfl, _⟩ := h
    rfl
  · obtain ⟨v, d, m, rfl, hi, k⟩ := h
    refine ⟨_, (pss_one (ps_ret (pe_and (pe_callB call_isi (by rfl) T.b_isinstance (by decide +kernel) (pa_cons (pv 0) (pa_cons (pe_bltn (by rfl) T.b_int (by decide +kernel) (show RelV (.ty "int") _ from rfl)) pa_nil))) (pe_and (pe_not (pe_callB call_isi (by rfl) T.b_isinstance (by decide +kernel) (pa_cons (pv 0) (pa_cons (pe_bltn (by rfl) T.b_bool (by decide +kernel) (show RelV (.ty "bool") _ from rfl)) pa_nil)))) (pe_one (pe_chain opU_le opU_le pe_int (pv 0) (pv 1))))))), ?_⟩
    cases hi
    all_goals walk_at "rd"
    all_goals first | exact k | skip
    rename_i i
    walk_at "ite"
    · walk_at "rd"
      have e : numD m (.int i) = decide (i ≤ m) := by simp [numD, hc]
      rw [e] at k
      exact k
    · have e : numD m (.int i) = false := by simp [numD, hc]
      rw [e] at k
      exact k

/-- a text of at most 24 signs from the blank to the tilde -/
def textD : D → Bool
  | .str x => decide (x.length ≤ 24) && x.cps.toList.all fun c => decide (32 ≤ c) && decide (c ≤ 126)
  | _ => false
theorem lt1 (a b : Nat) : decide (([a] : List Nat) < [b]) = decide (a < b) := by
  by_cases h : a < b
  · rw [decide_eq_true h, decide_eq_true]
    exact List.cons_lt_cons_iff.mpr (.inl h)
  · rw [decide_eq_false h, decide_eq_false]
    intro z
    rcases List.cons_lt_cons_iff.mp z with z | ⟨_, z⟩
    · exact h z
    · simp at z
/-- a def whose code object is known, with its table -/
structure FunT (K : PySem.W.Frag) (base : Heap) (mg : Str → Option Value) (x qual : Str) (st : Stmt) (f : Addr) (fd : FuncData) (P : Addr) : Prop where
  ex : ∃ (oc : Value) (od : Option Addr) (kV doc pm : Value) (an : Option Addr) (c : Addr) (ct : Value) (osl : Array (Option Value)),
    fd = PySem.W.fnOf x qual (defArgs st) (defBody st) (defScope st) .none kV doc pm an (.ref c) ct ∧ K.lookup f = some ⟨oc, od, .func fd, osl⟩ ∧ PySem.W.codeIn K (.ref c) qual = true ∧ TabB base mg c P
  kp : PySem.W.keepIn K (.ref f) = true
theorem FunT.okX {x qual : Str} {st : Stmt} {f : Addr} {fd : FuncData} {N ps : List Str} {k : Nat} {sp : Sp} {Pt : Addr} (F : FunT K base mg x qual st f fd Pt) (S : FnScope N ps (defScope st)) (len : ∀ vs H Q E, sp vs H Q E → vs.length = ps.length)
    (hbody : ∀ (c : Addr) (A : Around) (outer : List Env) (s : Shared) (H : Hp) (vs : List V) (Q : VK) (E : XK), TabB base mg c Pt → Room k (A.deeper (envOfC qual (defScope st) s.heap.objs.size f (.ref c))) → sp vs H Q E →
      ∃ t, PSs (cxOf (L2.CX P w) P w K mg base N qual (defScope st) f (.ref c) A outer s H E) (defBody st) t ∧ t { nx := fun _ H' => Q .non H', rt := Q } (start N vs) H) : FnOk P w K mg base (L2.CX P w) (k + 1) f fd ps sp := by
  obtain ⟨oc, od, kV, doc, pm, an, c, ct, osl, rfl, lk, hcd, tb⟩ := F.ex
  exact fn_of lk hcd S len fun A outer s H vs Q E hr hsp => hbody c A outer s H vs Q E tb hr hsp

def spText (Pt : Addr) : Sp := fun vs H Q _ => ∃ v d, vs = [v] ∧ Im H v d ∧ TabG H Pt ∧ ∀ H', Fr [] H H' → Q (.bl (textD d)) H'
theorem ok__is_text {f Pt : Addr} {fd : FuncData} (F : FunT K base mg "_is_text" "_is_text" s__is_text f fd Pt) (T : Txt K mg) : FnOk P w K mg base (L2.CX P w) 2 f fd ["value"] (spText Pt) := by
  refine F.okX sc__is_text (fun vs H Q E h => ?_) (fun c A outer s H vs Q E TB__is_text hr h => ?_)
  · obtain ⟨v, d, rfl, _⟩ := h
    rfl
  · obtain ⟨v, d, rfl, hi, ht, k⟩ := h
    refine ⟨_, (pss_one (ps_ret (pe_and (pe_callB call_isi (by rfl) T.b_isinstance (by decide +kernel) (pa_cons (pv 0) (pa_cons (pe_bltn (by rfl) T.b_str (by decide +kernel) (show RelV (.ty "str") _ from rfl)) pa_nil))) (pe_and (pe_cmpR opU_le (pe_callB lenU (by rfl) T.b_len PySem.boot_len (pa_cons (pv 0) pa_nil)) (pe_gi (by rfl) (T.g__MAX_TEXT)) (nomark _)) (pe_one (pe_allG (k := _) (own := [("sign", 1)]) hr (by rfl) T.b_all (by decide +kernel) (TB__is_text) rfl sc__is_text.nd (blkOk_by (own := [("sign", 1)]) (N := N__is_text) (sc := defScope s__is_text) (by decide +kernel)) gxOk_by (pi_str (pv 0)) (fun _ _ _ _ _ _ _ _ hr1 => (pg_name (i := 1) sc__is_text.nd rfl (Or.inl rfl))) (fun _ _ _ _ _ _ _ _ hr1 => (pe_chain opU_le opU_le pe_str (pv 1) pe_str)) (fun _ => rfl))))))), ?_⟩
    cases hi
    all_goals walk_at "rd"
    all_goals first | exact k _ Fr.refl | skip
    rename_i x hx
    walk_at "ite"
    · walk_at "rd"
      refine gx_str (fun c => decide (32 ≤ c) && decide (c ≤ 126)) ht (fun c H1 R f q => ?_) fun H1 f => ?_
      · walk_at "rd"
        refine ⟨rfl, ?_⟩
        walk_at "rd"
        have e1 : decide (({ cps := #[c] } : Str).cps.toList < (Str.ofString " ").cps.toList) = decide (c < 32) := lt1 c 32
        rw [e1]
        walk_at "ite"
        · walk_at "rd"
          have e2 : decide ((Str.ofString "~").cps.toList < ({ cps := #[c] } : Str).cps.toList) = decide (126 < c) := lt1 126 c
          rw [e2]
          have := q _ f
          have e3 : (decide (32 ≤ c) && decide (c ≤ 126)) = !decide (126 < c) := by
            have : 32 ≤ c := by omega
            simp [this]
            by_cases h : c ≤ 126
            · have : ¬ 126 < c := by omega
              simp [h, this]
            · have : 126 < c := by omega
              simp [h, this]
          rw [← e3]
          exact this
        · have := q _ f
          have e3 : (decide (32 ≤ c) && decide (c ≤ 126)) = false := by
            have : ¬ 32 ≤ c := by omega
            simp [this]
          rw [e3] at this
          exact this
      · have e : textD (.str x) = x.cps.toList.all fun c => decide (32 ≤ c) && decide (c ≤ 126) := by
          have : x.length ≤ 24 := by omega
          simp [textD, this]
        rw [e] at k
        exact k H1 f
    · have e : textD (.str x) = false := by
        have : ¬ x.length ≤ 24 := by omega
        simp [textD, this]
      rw [e] at k
      exact k _ Fr.refl

def partD (d : D) : Bool := numD 281474976710656 d || textD d
def partsD : D → Bool
  | .tup ds => decide (1 ≤ ds.length) && decide (ds.length ≤ 16) && ds.all partD
  | _ => false
def spParts (Pp Pt : Addr) : Sp := fun vs H Q _ => ∃ v d, vs = [v] ∧ Im H v d ∧ TabG H Pp ∧ TabG H Pt ∧ ∀ H', Fr [] H H' → Q (.bl (partsD d)) H'
theorem use_num {H : Hp} {Q : VK} {E : XK} {v : V} {d : D} {m : Int} (hi : Im H v d) (q : Q (.bl (numD m d)) H) : spNum [v, .int m] H Q E := ⟨v, d, m, rfl, hi, q⟩
theorem use_text {H : Hp} {Q : VK} {E : XK} {v : V} {d : D} {Pt : Addr} (hi : Im H v d) (ht : TabG H Pt) (q : ∀ H', Fr [] H H' → Q (.bl (textD d)) H') : spText Pt [v] H Q E := ⟨v, d, rfl, hi, ht, q⟩
theorem use_parts {H : Hp} {Q : VK} {E : XK} {v : V} {d : D} {Pp Pt : Addr} (hi : Im H v d) (hp : TabG H Pp) (ht : TabG H Pt) (q : ∀ H', Fr [] H H' → Q (.bl (partsD d)) H') : spParts Pp Pt [v] H Q E := ⟨v, d, rfl, hi, hp, ht, q⟩
set_option hygiene false in
local macro_rules | `(tactic| walk_at "sp") => `(tactic| first
  | ((with_reducible refine' use_num ?h1 ?_); (case h1 => walk_at "im"))
  | ((with_reducible refine' use_text ?h1 ?h2 ?_); (case h1 => walk_at "im"); (case h2 => walk_at "tab"); intro Hn hnf)
  | ((with_reducible refine' use_parts ?h1 ?h2 ?h3 ?_); (case h1 => walk_at "im"); (case h2 => walk_at "tab"); (case h3 => walk_at "tab"); intro Hn hnf))
theorem ok_is_parts {f Pp Pt : Addr} {fd : FuncData} (F : FunT K base mg "is_parts" "is_parts" s_is_parts f fd Pp) (T : Txt K mg) (G_is_number : Ca P w K mg base 1 "is_number" spNum) (G__is_text : Ca P w K mg base 2 "_is_text" (spText Pt)) :
    FnOk P w K mg base (L2.CX P w) 5 f fd ["value"] (spParts Pp Pt) := by
  refine F.okX sc_is_parts (fun vs H Q E h => ?_) (fun c A outer s H vs Q E TB_is_parts hr h => ?_)
  · obtain ⟨v, d, rfl, _⟩ := h
    rfl
  · obtain ⟨v, d, rfl, hi, hp, ht, k⟩ := h
    refine ⟨_, (pss_cons (ps_if (PW.pt (pw_or (pt_not (pt_val (pe_callB call_isi (by rfl) T.b_isinstance (by decide +kernel) (pa_cons (pv 0) (pa_cons (pe_bltn (by rfl) T.b_tuple (by decide +kernel) (show RelV (.ty "tuple") _ from rfl)) pa_nil))))) (pw_or1 (pt_not (pt_chain opU_le opU_le pe_int (pe_callB lenU (by rfl) T.b_len PySem.boot_len (pa_cons (pv 0) pa_nil)) (pe_gi (by rfl) (T.g__MAX_ELEMENTS))))))) (pss_one (ps_ret pe_bl)) pss_nil) (pss_one (ps_ret (pe_allG (k := _) (own := [("element", 1)]) hr (by rfl) T.b_all (by decide +kernel) (TB_is_parts) rfl sc_is_parts.nd (blkOk_by (own := [("element", 1)]) (N := N_is_parts) (sc := defScope s_is_parts) (by decide +kernel)) gxOk_by (pi_tup (pv 0)) (fun _ _ _ _ _ _ _ _ hr1 => (pg_name (i := 1) sc_is_parts.nd rfl (Or.inl rfl))) (fun _ _ _ _ _ _ _ _ hr1 => (pe_or (pe_ca G_is_number hr1 (by first | decide | omega) (by rfl) (pa_cons (pv 1) (pa_cons (pe_gi (by rfl) (T.g_MAX_PART)) pa_nil))) (pe_one (pe_ca G__is_text hr1 (by first | decide | omega) (by rfl) (pa_cons (pv 1) pa_nil))))) (fun _ => rfl))))), ?_⟩
    cases hi
    all_goals walk_at "rd"
    all_goals first | exact k _ Fr.refl | skip
    rename_i a xs ds ha hd
    have hl := hd.length
    walk_at "ite"
    · walk_at "rd"
      walk_at "ite"
      · walk_at "rd"
        have e : partsD (.tup ds) = false := by
          have : ¬ ds.length ≤ 16 := by omega
          simp [partsD, this]
        rw [e] at k
        exact k _ Fr.refl
      · walk_at "rd"
        refine gx_tup partD hp ha hd (fun v d H1 R hv f q => ?_) fun H1 f => ?_
        · walk_at "rd"
          refine ⟨rfl, ?_⟩
          walk_at "rd"
          walk_at "ite"
          · have := q _ f
            rw [show partD d = true by simp [partD, hc]] at this
            exact this
          · walk_at "rd"
            have := q _ (f.snoc hnf sub_nil)
            rw [show partD d = textD d by simp [partD, hc]] at this
            exact this
        · have e : partsD (.tup ds) = ds.all partD := by
            have h1 : 1 ≤ ds.length := by omega
            have h2 : ds.length ≤ 16 := by omega
            simp [partsD, h1, h2]
          rw [e] at k
          exact k H1 f
    · walk_at "rd"
      have e : partsD (.tup ds) = false := by
        have : ¬ 1 ≤ ds.length := by omega
        simp [partsD, this]
      rw [e] at k
      exact k _ Fr.refl
end
end Ow

set_option Elab.async false
set_option linter.all false
set_option maxRecDepth 100000
set_option maxHeartbeats 4000000
namespace Ow
open PySem PySem.Spec PyProof.Rows L2 GxR
/-! ### the walk, in words of this file -/
local macro_rules | `(tactic| walk_at "nin") => `(tactic| first | exact List.not_mem_nil | assumption | (simp only [List.mem_cons, List.mem_singleton, List.not_mem_nil, or_false, not_or]; (repeat' constructor) <;> walk_at "ne"))
local macro_rules | `(tactic| walk_at "ne") => `(tactic| first | assumption | (apply Ne.symm; assumption) | (apply ne_of_none; (walk_at "hp"); assumption) | (apply Ne.symm; apply ne_of_none; (walk_at "hp"); assumption) | (apply ne_of; (walk_at "hp"); (walk_at "hp"); (intro hz; cases hz; done)))
local macro_rules | `(tactic| walk_at "hp") => `(tactic| first | assumption | (apply Fr.lst; assumption; (walk_at "hp"); (exact rfl); (walk_at "nin")))
local macro_rules | `(tactic| walk_at "sqL") => `(tactic| first | assumption | (apply SqL.of; walk_at "hp") | (apply Fr.seqL; assumption; (walk_at "nin"); (walk_at "sqL")))
local macro_rules | `(tactic| walk_at "sqT") => `(tactic| first | assumption | (apply SqT.of; walk_at "hp") | (apply Fr.seqT; assumption; walk_at "sqT"))
local macro_rules | `(tactic| walk_at "ht") => `(tactic| first | assumption | (apply Fr.tup; assumption; walk_at "ht"))
local macro_rules | `(tactic| walk_at "im") => `(tactic| first | assumption | exact Im.int _ | exact Im.str _ (by first | assumption | decide | omega) | exact Im.bl _ | exact Im.non | (apply Im.tup; (walk_at "ht"); (walk_at "ima")) | (apply Im.go; rotate_left; assumption; walk_at "im"))
local macro_rules | `(tactic| walk_at "ima") => `(tactic| first | assumption | exact ImAll.nil | (apply ImAll.cons; (walk_at "im"); (walk_at "ima")) | (apply ImAll.go; rotate_left; assumption; walk_at "ima"))
local macro_rules | `(tactic| walk_at "fr") => `(tactic| first | assumption | exact Fr.refl | (apply Fr.snoc; rotate_left; assumption; (walk_at "sub"); (walk_at "fr")))
local macro_rules | `(tactic| walk_at "sub") => `(tactic| first | exact sub_nil | exact fun _ hz => Or.inl hz | assumption | (apply sub_cons; (first | (left; assumption) | (left; simp; done) | (right; walk_at "fre")); (walk_at "sub")))
local macro_rules | `(tactic| walk_at "fre") => `(tactic| first | assumption | (apply Fr.free; assumption; walk_at "fre"))
local macro_rules | `(tactic| walk_at "len") => `(tactic| first | decide | (simp only [List.length_cons, List.length_nil]; decide) | exact Nat.le_trans (by assumption) (by decide) | exact Nat.lt_of_le_of_lt (by assumption) (by decide) | (show _ ≤ sizeLine; decide) | omega)
local macro_rules | `(tactic| walk_at "ar") => `(tactic| first | assumption | (apply cdivW_of <;> omega) | omega | decide | (constructor <;> first | omega | decide) | (left; constructor <;> first | omega | decide) | (right; constructor <;> first | omega | decide))
local macro_rules | `(tactic| walk_at "lk") => `(tactic| first | rfl | assumption)
set_option hygiene false in
local macro_rules | `(tactic| walk_at "rd1") => `(tactic| first
  | with_reducible refine rd_var rfl ?_
  | with_reducible refine rd_c ?_
  | with_reducible refine rd_op ?_
  | with_reducible refine rd_seq ?_
  | with_reducible refine rd_asg ?_
  | with_reducible refine rd_name ?_
  | with_reducible refine rd_cons ?_
  | with_reducible refine rd_nil ?_
  | with_reducible refine rd_k ?_
  | with_reducible refine rd_test ?_
  | with_reducible refine rd_tB ?_
  | with_reducible refine rd_ifS ?_
  | with_reducible refine rd_iteT ?_
  | with_reducible refine rd_iteF ?_
  | with_reducible refine rd_addI ?_
  | with_reducible refine rd_I0 ?_
  | with_reducible refine rd_leI ?_
  | with_reducible refine rd_leS ?_
  | with_reducible refine rd_ltI ?_
  | with_reducible refine rd_geI ?_
  | with_reducible refine rd_gtI ?_
  | with_reducible refine rd_eqI ?_
  | with_reducible refine rd_eqS ?_
  | with_reducible refine rd_eqB ?_
  | with_reducible refine rd_neI ?_
  | with_reducible refine rd_neS ?_
  | with_reducible refine rd_ret ?_
  | with_reducible refine rd_retN ?_
  | with_reducible refine rd_drop ?_
  | with_reducible refine rd_next ?_
  | with_reducible refine rd_ca ?_
  | with_reducible refine rd_cb ?_
  | with_reducible refine rd_me ?_
  | ((with_reducible refine' rd_me2 ?h1 ?h2 ?_); (case h1 => walk_at "hp"); (case h2 => walk_at "lk"))
  | with_reducible refine rd_ma ?_
  | with_reducible refine rd_meS ?_
  | with_reducible refine rd_caS ?_
  | with_reducible refine rd_chain ?_
  | with_reducible refine rd_andV ?_
  | with_reducible refine rd_orV ?_
  | with_reducible refine rd_notV ?_
  | with_reducible refine rd_not ?_
  | with_reducible refine rd_nof ?_
  | with_reducible refine rd_if ?_
  | with_reducible refine rd_tand ?_
  | with_reducible refine rd_tor ?_
  | with_reducible refine rd_tnot ?_
  | ((with_reducible refine' rd_isi (b := true) ?h1 ?h2 ?_); (case h1 => walk_at "im"); (case h2 => rfl))
  | ((with_reducible refine' rd_isi (b := false) ?h1 ?h2 ?_); (case h1 => walk_at "im"); (case h2 => rfl))
  | with_reducible refine rd_int ?_
  | with_reducible refine rd_fld ?_
  | ((with_reducible refine' rd_fld2 ?h1 ?h2 ?h3 ?h4 ?_); (case h1 => walk_at "hp"); (case h2 => walk_at "cls"); (case h3 => walk_at "nat"); (case h4 => walk_at "lk"))
  | with_reducible refine rd_bm ?_
  | with_reducible refine rd_bm0 ?_
  | ((with_reducible refine' rd_tyL ?h1 ?_); (case h1 => walk_at "sqL"))
  | ((with_reducible refine' rd_ixL ?h1 ?h2 ?_); (case h1 => walk_at "sqL"); (case h2 => walk_at "atI"))
  | ((with_reducible refine' rd_ixT ?h1 ?h2 ?_); (case h1 => walk_at "sqT"); (case h2 => walk_at "atI"))
  | ((with_reducible refine' rd_lenS ?h1 ?_); (case h1 => walk_at "len"))
  | ((with_reducible refine' rd_lenL ?h1 ?_); (case h1 => walk_at "sqL"))
  | ((with_reducible refine' rd_lenT ?h1 ?_); (case h1 => walk_at "sqT"))
  | ((with_reducible refine' rv_mulI ?h1 ?_); (case h1 => walk_at "ar"))
  | ((with_reducible refine' rv_mulS ?h1 ?_); (case h1 => decide))
  | ((with_reducible refine' rv_mulT ?h1 ?h2 ?_); (case h1 => walk_at "sqT"); (case h2 => (refine ⟨by simp, by decide, by decide, by simp⟩)); intro p Hn hn0 hn1 hnf)
  | with_reducible refine rd_nn ?_
  | with_reducible refine rd_for ?_
  | with_reducible refine rd_lc ?_
  | with_reducible refine rd_rng1 ?_
  | ((with_reducible refine' rd_rng1b ?h1 ?_); (case h1 => walk_at "ar"))
  | with_reducible refine rd_subI ?_
  | ((with_reducible refine' rd_I ?h1 ?_); (case h1 => walk_at "ar"))
  | with_reducible refine rd_un ?_
  | with_reducible refine rd_neg ?_
  | with_reducible refine rd_gsub ?_
  | with_reducible refine rd_tup ?_
  | with_reducible refine rd_lst ?_
  | ((with_reducible refine' rd_dT ?_); intro p Hn hn0 hn1 hnf)
  | ((with_reducible refine' rd_kMa ?_); intro p dx Hn hn0 hn2 hn1 hnf)
  | with_reducible refine rd_allG ?_
  | with_reducible refine rd_iStr ?_
  | with_reducible refine rd_iStr2 ?_
  | with_reducible refine rd_iTup ?_
  | ((with_reducible refine' rd_iTup2 ?h1 ?_); (case h1 => walk_at "sqT"))
  | ((with_reducible refine' rd_kTup ?h1 ?_); (case h1 => walk_at "len"); intro p Hn hn0 hn1 hnf)
  | ((with_reducible refine' rd_kLst ?h1 ?_); (case h1 => walk_at "len"); intro p Hn hn0 hn1 hnf)
  | ((with_reducible refine' rd_listL ?h1 ?_); (case h1 => walk_at "sqL"); intro p Hn hn0 hn1 hnf)
  | ((with_reducible refine' rd_listT ?h1 ?_); (case h1 => walk_at "sqT"); intro p Hn hn0 hn1 hnf)
  | ((with_reducible refine' rd_tupL ?h1 ?_); (case h1 => walk_at "sqL"); intro p Hn hn0 hn1 hnf)
  | ((with_reducible refine' rd_app ?h1 ?h2 ?_); (case h1 => walk_at "hp"); (case h2 => walk_at "len"); intro Hn hn1 hnf)
  | ((with_reducible refine' rd_pop0 ?h1 ?_); (case h1 => walk_at "hp"); intro Hn hn1 hnf)
  | ((with_reducible refine' rd_setL ?h1 ?h2 ?_); (case h1 => walk_at "hp"); (case h2 => walk_at "ixN"); intro Hn hn1 hnf)
  | with_reducible refine rd_sfld ?_
  | ((with_reducible refine' rd_sfld2 ?h1 ?h2 ?h3 ?h4 ?_); (case h1 => walk_at "hp"); (case h2 => walk_at "cls"); (case h3 => walk_at "nat"); (case h4 => walk_at "lf"); intro Hn hn1 hnf)
  | with_reducible refine rd_sfaug ?_
  | ((with_reducible refine' rd_sfaug2 ?h1 ?h2 ?h3 ?h4 ?_); (case h1 => walk_at "hp"); (case h2 => walk_at "cls"); (case h3 => walk_at "nat"); (case h4 => walk_at "lk"))
  | with_reducible refine rd_inadd ?_
  | ((with_reducible refine' rd_sfaug3 ?h1 ?h2 ?_); (case h1 => walk_at "hp"); (case h2 => walk_at "lf"); intro Hn hn1 hnf)
  | walk_at "sp")
local macro_rules | `(tactic| walk_at "tab") => `(tactic| first | assumption | (apply Fr.tab; assumption; walk_at "tab"))
local macro_rules | `(tactic| walk_at "lf") => `(tactic| first | decide | exact Nat.le_of_ble_eq_true (by rfl) | (simp; done))
local macro_rules | `(tactic| walk_at "atI") => `(tactic| first | rfl | assumption)
local macro_rules | `(tactic| walk_at "ixN") => `(tactic| first | rfl | assumption)
local macro_rules | `(tactic| walk_at "rd") => `(tactic| repeat (walk_at "rd1"))
set_option hygiene false in
local macro_rules | `(tactic| walk_at "ite") => `(tactic| first
  | with_reducible refine rd_ite (fun hc => ?_) (fun hc => ?_)
  | with_reducible refine rd_iteN (fun hc => ?_) (fun hc => ?_)
  | with_reducible refine rd_iteNB (fun hc => ?_) (fun hc => ?_)
  | with_reducible refine rd_iteB (fun hc => ?_) (fun hc => ?_))

local macro_rules | `(tactic| walk_at "cls") => `(tactic| assumption)
local macro_rules | `(tactic| walk_at "nat") => `(tactic| assumption)

/-! ### parts as keys -/
def kD : Key → D
  | .inl i => .int i
  | .inr x => .str x
def keyD : D → Key
  | .int i => .inl i
  | .str x => .inr x
  | _ => .inl 0
def keysD : D → List Key
  | .tup ds => ds.map keyD
  | _ => []
def tupK (ks : List Key) : D := .tup (ks.map kD)
theorem kD_part {d : D} (h : partD d = true) : kD (keyD d) = d := by
  cases d with
  | int i => rfl
  | str x => rfl
  | non => simp [partD, numD, textD] at h
  | bl b => simp [partD, numD, textD] at h
  | tup ds => simp [partD, numD, textD] at h
theorem parts_keys {d : D} (h : partsD d = true) : d = tupK (keysD d) := by
  cases d with
  | tup ds =>
    have ha : ∀ x ∈ ds, partD x = true := by
      simp [partsD] at h
      exact fun x hx => h.2 x hx
    show D.tup ds = D.tup ((ds.map keyD).map kD)
    congr 1
    rw [List.map_map]
    symm
    calc ds.map (kD ∘ keyD) = ds.map id := List.map_congr_left fun x hx => kD_part (ha x hx)
    _ = ds := List.map_id ds
  | non => simp [partsD] at h
  | bl b => simp [partsD] at h
  | int i => simp [partsD] at h
  | str x => simp [partsD] at h
theorem Im.key {H : Hp} {v : V} {k : Key} (h : Im H v (kD k)) : v = kV k := by
  cases k with
  | inl i => cases h; rfl
  | inr x => cases h; rfl
theorem ImAll.keys {H : Hp} : ∀ {ks : List Key} {xs : List V}, ImAll H xs (ks.map kD) → xs = ks.map kV
  | [], _, h => by cases h; rfl
  | k :: ks, _, h => by
    cases h with
    | cons h1 h2 => rw [h1.key, ImAll.keys h2]; rfl
theorem Im.tupK {H : Hp} {v : V} {ks : List Key} (h : Im H v (tupK ks)) : ∃ b, v = .ref b ∧ H b = some (.tup (ks.map kV)) := by
  cases h with
  | tup e ha => exact ⟨_, rfl, by rw [e, ha.keys]⟩

/-! ### a notary -/
def posK (ps : List (List Key)) (k : List Key) : Option Nat := ps.findIdx? fun x => decide (x = k)
def posV (ps : List (List Key)) (k : List Key) : Option V := (posK ps k).map fun i => .int ((i : Nat) + 1 : Int)
theorem posK_snoc {ps : List (List Key)} {k j : List Key} (h : posK ps k = none) : posK (ps ++ [k]) j = if j = k then some ps.length else posK ps j := by
  unfold posK at *
  rw [List.findIdx?_append]
  by_cases e : j = k
  · subst e
    rw [if_pos rfl, h]
    simp [List.findIdx?_cons]
  · rw [if_neg e]
    have : List.findIdx? (fun x => decide (x = j)) [k] = none := by
      have : ¬ k = j := fun z => e z.symm
      simp [List.findIdx?_cons, this]
    rw [this]
    simp
theorem posK_at {ps : List (List Key)} {k : List Key} {i : Nat} (h : posK ps k = some i) : ps[i]? = some k := by
  unfold posK at h
  obtain ⟨hi, e, _⟩ := List.findIdx?_eq_some_iff_getElem.mp h
  rw [List.getElem?_eq_getElem hi]
  simpa using e
theorem posK_none {ps : List (List Key)} {k : List Key} (h : posK ps k = none) : k ∉ ps := by
  unfold posK at h
  intro hm
  have := List.findIdx?_eq_none_iff.mp h k hm
  simp at this
def nf (d l : Addr) (n : Int) : List (Str × V) := putF "_finds" (.int n) (putF "_parts" (.ref l) (putF "_seals" (.ref d) []))
theorem nf_seals {d l : Addr} {n : Int} : (nf d l n).lookup ("_seals" : Str) = some (.ref d) := by rfl
theorem nf_parts {d l : Addr} {n : Int} : (nf d l n).lookup ("_parts" : Str) = some (.ref l) := by rfl
theorem nf_finds {d l : Addr} {n : Int} : (nf d l n).lookup ("_finds" : Str) = some (.int n) := by rfl
theorem nf_put {d l : Addr} {n m : Int} : putF "_finds" (.int m) (nf d l n) = nf d l m := by rfl
structure No (C : Addr) (H : Hp) (a d l : Addr) (ps : List (List Key)) (n : Int) : Prop where
  da : d ≠ a
  la : l ≠ a
  ld : l ≠ d
  len : ps.length < 100000
  ex : ∃ dx kvs xs, H a = some (.ins C dx (nf d l n)) ∧ H d = some (.dT kvs) ∧ H l = some (.lst xs) ∧ kvs.length = ps.length ∧ (∀ k, valV kvs k = posV ps k) ∧ ImAll H xs (ps.map tupK)
theorem No.go {C : Addr} {H H' : Hp} {a d l : Addr} {ps : List (List Key)} {n : Int} {ch : List Addr} (h : No C H a d l ps n) (f : Fr ch H H') (ha : a ∉ ch) (hd : d ∉ ch) (hl : l ∉ ch) : No C H' a d l ps n := by
  obtain ⟨dx, kvs, xs, h1, h2, h3, h4, h5, h6⟩ := h.ex
  exact ⟨h.da, h.la, h.ld, h.len, dx, kvs, xs, f.lst h1 rfl ha, f.lst h2 rfl hd, f.lst h3 rfl hl, h4, h5, h6.go f⟩
theorem No.there {C : Addr} {H : Hp} {a d l : Addr} {ps : List (List Key)} {n : Int} (h : No C H a d l ps n) : ∃ dx, H a = some (.ins C dx (nf d l n)) := by
  obtain ⟨dx, kvs, xs, h1, _⟩ := h.ex
  exact ⟨dx, h1⟩
def newPs (ps : List (List Key)) (k : List Key) : List (List Key) := if (posK ps k).isSome then ps else ps ++ [k]

structure TxtN (K : PySem.W.Frag) (mg : Str → Option Value) (C Cb : Addr) : Prop extends Txt K mg where
  cls : Cls K C
  n1 : NoAttr K C "_seals"
  n2 : NoAttr K C "_parts"
  n3 : NoAttr K C "_finds"
  x_BadParts : PySem.W.excIn K Cb [.type "ValueError", .type "Exception", .type "BaseException", .type "object"] "ValueError.__new__" = true
  m_BadParts : mg "BadParts" = some (.ref Cb)
  k_BadParts : PySem.W.keepIn K (.ref Cb) = true
  bx_BadParts : PySem.W.subIn K (.ref Cb) (.type "BaseException") = some true
  tx_BadParts : PySem.W.typeIn K (.ref Cb) = some (.type "type")
/-! ### readings of dicts -/
section
variable {K : PySem.W.Frag} {σ : L2.St} {H H1 : Hp} {Q : VK} {D : Ends} {td ty tv tx : TE}
theorem rd_dget2 (h : td σ H fun x H1 => ∃ a, x = .ref a ∧ IsD H1 a ∧ ty σ H1 fun y H2 => tx σ H2 fun z H3 => ∃ o, DGet H3 a y o ∧ Q (o.getD z) H3) : tDGet2 td ty tx σ H Q := h
theorem rd_isT {p : Addr} {kvs : List (List Key × V)} {R : Addr → Prop} (h : H p = some (.dT kvs)) (q : R p) : ∃ a, V.ref p = .ref a ∧ IsD H a ∧ R a := ⟨p, rfl, .inr ⟨kvs, .inl h⟩, q⟩
theorem rd_oT {d b : Addr} {kvs : List (List Key × V)} {k : List Key} {R : Option V → Prop} (h : H d = some (.dT kvs)) (hb : H b = some (.tup (k.map kV))) (q : R (valV kvs k)) : ∃ o, DGet H d (.ref b) o ∧ R o := ⟨_, .t h hb, q⟩
theorem rd_dnotin {R : V → Hp → Prop} (h : ty σ H fun y H1 => td σ H1 fun x H2 => ∃ a o, x = .ref a ∧ DGet H2 a y o ∧ R (.bl (!o.isSome)) H2) : tDNotIn ty td σ H R := h
theorem rd_ninN {d b : Addr} {kvs : List (List Key × V)} {k : List Key} {R : Bool → Prop} (h : H d = some (.dT kvs)) (hb : H b = some (.tup (k.map kV))) (e : valV kvs k = none) (q : R true) : ∃ a o, V.ref d = .ref a ∧ DGet H a (.ref b) o ∧ ∃ c, V.bl (!o.isSome) = .bl c ∧ R c := ⟨d, none, rfl, by rw [← e]; exact .t h hb, true, rfl, q⟩
theorem rd_ninS {d b : Addr} {kvs : List (List Key × V)} {k : List Key} {v : V} {R : Bool → Prop} (h : H d = some (.dT kvs)) (hb : H b = some (.tup (k.map kV))) (e : valV kvs k = some v) (q : R false) : ∃ a o, V.ref d = .ref a ∧ DGet H a (.ref b) o ∧ ∃ c, V.bl (!o.isSome) = .bl c ∧ R c := ⟨d, some v, rfl, by rw [← e]; exact .t h hb, false, rfl, q⟩
theorem rd_dget (h : td σ H fun x H1 => ty σ H1 fun y H2 => ∃ a v, x = .ref a ∧ DGet H2 a y (some v) ∧ Q v H2) : tDGet td ty σ H Q := h
theorem rd_dgetT {d b : Addr} {kvs : List (List Key × V)} {k : List Key} {v : V} {R : V → Prop} (h : H d = some (.dT kvs)) (hb : H b = some (.tup (k.map kV))) (e : valV kvs k = some v) (q : R v) : ∃ a v, V.ref d = .ref a ∧ DGet H a (.ref b) (some v) ∧ R v := ⟨d, v, rfl, by rw [← e]; exact .t h hb, q⟩
theorem rd_dput (h : tv σ H fun v H1 => td σ H1 fun x H2 => ty σ H2 fun y H3 => ∃ a H4, x = .ref a ∧ DPut H3 a y v H4 ∧ D.nx σ H4) : sDPut td ty tv D σ H := h
theorem rd_dputT {d b : Addr} {kvs : List (List Key × V)} {k : List Key} {v : V} {R : Hp → Prop} (h : H d = some (.dT kvs)) (hb : H b = some (.tup (k.map kV))) (l : kvs.length < sizeLine) (q : ∀ H2, H2 d = some (.dT (putK kvs k v)) → Fr [d] H H2 → R H2) : ∃ a H4, V.ref d = .ref a ∧ DPut H a (.ref b) v H4 ∧ R H4 :=
  ⟨d, _, rfl, .t h hb l, q _ upd_same (Fr.put h trivial List.mem_cons_self)⟩
end
theorem m2_get {X : Cx} {o e f : Expr} {apos cpos : Pos} (base : attributeBase o "get" X.env (eval o X.env) = eval o X.env := by rfl)
    (few : ((backTo cpos (starEach [e, f] X.env)).all (fun x => !x.1) && (backToKw cpos (keywordEach [] X.env)).all (fun x => x.1.isSome)
    && decide (([e, f] : List Expr).length + ([] : List Keyword).length + (if ([] : List Keyword).isEmpty then 0 else 1) < 30)) = true := by rfl)
    (line : (apos.endLine == cpos.line) = true := by rfl) (trees : backTo cpos (starEach [e, f] X.env) = [(false, eval e X.env), (false, eval f X.env)] := by rfl) : M2 X o "get" apos e f cpos := ⟨base, few, line, trees⟩
set_option hygiene false in
local macro_rules | `(tactic| walk_at "sp") => `(tactic| first
  | ((with_reducible refine' use_num ?h1 ?_); (case h1 => walk_at "im"))
  | ((with_reducible refine' use_text ?h1 ?h2 ?_); (case h1 => walk_at "im"); (case h2 => walk_at "tab"); intro Hn hnf)
  | ((with_reducible refine' use_parts ?h1 ?h2 ?h3 ?_); (case h1 => walk_at "im"); (case h2 => walk_at "tab"); (case h3 => walk_at "tab"); intro Hn hnf)
  | with_reducible refine rd_dget2 ?_
  | with_reducible refine rd_dnotin ?_
  | with_reducible refine rd_dget ?_
  | with_reducible refine rd_dput ?_
  | ((with_reducible refine' rd_isT ?h1 ?_); (case h1 => walk_at "hp"))
  | ((with_reducible refine' rd_oT ?h1 ?h2 ?_); (case h1 => walk_at "hp"); (case h2 => walk_at "hp"))
  | ((with_reducible refine' rd_ninN ?h1 ?h2 ?h3 ?_); (case h1 => walk_at "hp"); (case h2 => walk_at "hp"); (case h3 => assumption))
  | ((with_reducible refine' rd_ninS ?h1 ?h2 ?h3 ?_); (case h1 => walk_at "hp"); (case h2 => walk_at "hp"); (case h3 => assumption))
  | ((with_reducible refine' rd_dgetT ?h1 ?h2 ?h3 ?_); (case h1 => walk_at "hp"); (case h2 => walk_at "hp"); (case h3 => assumption))
  | ((with_reducible refine' rd_dputT ?h1 ?h2 ?h3 ?_); (case h1 => walk_at "hp"); (case h2 => walk_at "hp"); (case h3 => walk_at "len"); intro Hn hn1 hnf))
set_option hygiene false in
local macro_rules | `(tactic| walk_at "nat") => `(tactic| first | assumption | exact T.n1 | exact T.n2 | exact T.n3)
set_option hygiene false in
local macro_rules | `(tactic| walk_at "cls") => `(tactic| first | assumption | exact T.cls)
section
variable {P : Program} {w : World} {K : PySem.W.Frag} {mg : Str → Option Value} {base : Heap} {C Cb Pp Pt : Addr} {Pr : Program}
def spSize (C : Addr) : Sp := fun vs H Q _ => ∃ a d l ps n, vs = [.ref a] ∧ No C H a d l ps n ∧ Q (.int (ps.length : Nat)) H
theorem ok_size {f : Addr} {fd : FuncData} (F : Fun K "size" "Notary.size" s_Notary_size f fd) (T : TxtN K mg C Cb) : FnOk P w K mg base (L2.CX P w) 1 f fd ["self"] (spSize C) := by
  refine F.okX sc_Notary_size (fun vs H Q E h => ?_) (fun cdv A outer s H vs Q E hr h => ?_)
  · obtain ⟨a, d, l, ps, n, rfl, _⟩ := h
    rfl
  · obtain ⟨a, d, l, ps, n, rfl, hN, k⟩ := h
    obtain ⟨dx, kvs, xs, h1, h2, h3, h4, h5, h6⟩ := hN.ex
    refine ⟨_, (pss_one (ps_ret (pe_callB lenU (by rfl) T.b_len PySem.boot_len (pa_cons (pe_fld (pv 0) rfl) pa_nil)))), ?_⟩
    have e : xs.length = ps.length := by rw [h6.length, List.length_map]
    rw [← e] at k
    walk_at "rd"
    exact k
def spFinds (C : Addr) : Sp := fun vs H Q _ => ∃ a d l ps n, vs = [.ref a] ∧ No C H a d l ps n ∧ Q (.int n) H
theorem ok_finds {f : Addr} {fd : FuncData} (F : Fun K "finds" "Notary.finds" s_Notary_finds f fd) (T : TxtN K mg C Cb) : FnOk P w K mg base (L2.CX P w) 1 f fd ["self"] (spFinds C) := by
  refine F.okX sc_Notary_finds (fun vs H Q E h => ?_) (fun cdv A outer s H vs Q E hr h => ?_)
  · obtain ⟨a, d, l, ps, n, rfl, _⟩ := h
    rfl
  · obtain ⟨a, d, l, ps, n, rfl, hN, k⟩ := h
    obtain ⟨dx, kvs, xs, h1, h2, h3, h4, h5, h6⟩ := hN.ex
    refine ⟨_, (pss_one (ps_ret (pe_fld (pv 0) rfl))), ?_⟩
    walk_at "rd"
    exact k
def spInit (C : Addr) : Sp := fun vs H Q _ => ∃ a dx, vs = [.ref a] ∧ H a = some (.ins C dx []) ∧ ∀ d l H', H d = none → H l = none → Fr [a] H H' → No C H' a d l [] 0 → Q .non H'
theorem ok_init {f : Addr} {fd : FuncData} (F : Fun K "__init__" "Notary.__init__" s_Notary___init__ f fd) (T : TxtN K mg C Cb) : FnOk P w K mg base (L2.CX P w) 1 f fd ["self"] (spInit C) := by
  refine F.okX sc_Notary___init__ (fun vs H Q E h => ?_) (fun cdv A outer s H vs Q E hr h => ?_)
  · obtain ⟨a, dx, rfl, _⟩ := h
    rfl
  · obtain ⟨a, dx, rfl, hA, k⟩ := h
    refine ⟨_, (pss_cons (ps_fld (pv 0) pe_dnewT rfl) (pss_cons (ps_fld (pv 0) (pe_lst pa_nil) rfl) (pss_one (ps_fld (pv 0) pe_int rfl)))), ?_⟩
    walk_at "rd"
    rename_i d H1 hd0 hd1 hf1 H2 ha2 hf2 H3 hl3 hf3 H4 ha4 hf4
    have da : d ≠ a := ne_of_none hA hd0 |>.symm
    have f2 : Fr [a] H H2 := (Fr.refl.snoc hf1 sub_nil).snoc hf2 fun _ z => .inl z
    have f3 : Fr [a] H H3 := f2.snoc hf3 sub_nil
    have ld : p ≠ d := (ne_of_none (hf2.lst hd1 rfl (by simp [da])) hn0).symm
    have la : p ≠ a := (ne_of_none ha2 hn0).symm
    have f5 : Fr [a] H Hn := (f3.snoc hf4 fun _ z => .inl z).snoc hnf fun _ z => .inl z
    refine k d p Hn hd0 (f2.free hn0) f5 ⟨da, la, ld, by decide, dx, [], [], hn1, ?_, ?_, rfl, fun _ => rfl, .nil⟩
    · exact hnf.lst (hf4.lst (hf3.lst (hf2.lst hd1 rfl (by simp [da])) rfl (by simp)) rfl (by simp [da])) rfl (by simp [da])
    · exact hnf.lst (hf4.lst hl3 rfl (by simp [la])) rfl (by simp [la])

def spParts_of (C : Addr) : Sp := fun vs H Q _ => ∃ a d l ps n i, vs = [.ref a, .int i] ∧ No C H a d l ps n ∧ (∀ j ks v, i = (j : Nat) + 1 → ps[j]? = some ks → Im H v (tupK ks) → Q v H) ∧ ((∀ j, j < ps.length → i ≠ (j : Nat) + 1) → Q .non H)
theorem ok_parts_of {f : Addr} {fd : FuncData} (F : Fun K "parts_of" "Notary.parts_of" s_Notary_parts_of f fd) (T : TxtN K mg C Cb) : FnOk P w K mg base (L2.CX P w) 1 f fd ["self", "seal"] (spParts_of C) := by
  refine F.okX sc_Notary_parts_of (fun vs H Q E h => ?_) (fun cdv A outer s H vs Q E hr h => ?_)
  · obtain ⟨a, d, l, ps, n, i, rfl, _⟩ := h
    rfl
  · obtain ⟨a, d, l, ps, n, i, rfl, hN, k1, k2⟩ := h
    obtain ⟨dx, kvs, xs, h1, h2, h3, h4, h5, h6⟩ := hN.ex
    refine ⟨_, (pss_cons (ps_if (pt_not (pt_chain opU_le opU_le pe_int (pv 1) (pe_callB lenU (by rfl) T.b_len PySem.boot_len (pa_cons (pe_fld (pv 0) rfl) pa_nil)))) (pss_one (ps_ret pe_non)) pss_nil) (pss_one (ps_ret (pe_ix ixU (pe_fld (pv 0) rfl) (pe_op op_sub (pv 1) pe_int) (fun _ _ => rfl))))), ?_⟩
    have e : xs.length = ps.length := by rw [h6.length, List.length_map]
    walk_at "rd"
    walk_at "ite"
    · walk_at "rd"
      walk_at "ite"
      · walk_at "rd"
        exact k2 fun j hj z => by omega
      · have hj : (i - 1).toNat < ps.length := by omega
        have hi : i - 1 = ((i - 1).toNat : Nat) := by omega
        generalize (i - 1).toNat = j at hj hi
        obtain ⟨v, ev, hv⟩ := h6.getD (i := j) (d := tupK ps[j]) (by simp [hj])
        have ea : atI xs (i - 1) = some v := at_of hi ev
        walk_at "rd"
        exact k1 j ps[j] v (by omega) (by simp [hj]) hv
    · walk_at "rd"
      exact k2 fun j hj z => by omega

def dueD (ps : List (List Key)) (d : D) : Int := if partsD d then (match posK ps (keysD d) with | some i => (i : Nat) + 1 | none => 0) else 0
def spFind (C Pp Pt : Addr) : Sp := fun vs H Q _ => ∃ a d l ps n v x, vs = [.ref a, v] ∧ No C H a d l ps n ∧ Im H v x ∧ TabG H Pp ∧ TabG H Pt ∧ ∀ H', Fr [a] H H' → No C H' a d l ps (n + 1) → Q (.int (dueD ps x)) H'
theorem ok_find {f : Addr} {fd : FuncData} (F : Fun K "find" "Notary.find" s_Notary_find f fd) (T : TxtN K mg C Cb) (G_is_parts : Ca P w K mg base 5 "is_parts" (spParts Pp Pt)) : FnOk P w K mg base (L2.CX P w) 6 f fd ["self", "parts"] (spFind C Pp Pt) := by
  refine F.okX sc_Notary_find (fun vs H Q E h => ?_) (fun cdv A outer s H vs Q E hr h => ?_)
  · obtain ⟨a, d, l, ps, n, v, x, rfl, _⟩ := h
    rfl
  · obtain ⟨a, d, l, ps, n, v, x, rfl, hN, hi, hp, ht, k⟩ := h
    obtain ⟨dx, kvs, xs, h1, h2, h3, h4, h5, h6⟩ := hN.ex
    refine ⟨_, (pss_cons (ps_fldaug (pv 0) pe_int in_add) (pss_cons (ps_if (pt_not (pt_val (pe_ca G_is_parts hr (by first | decide | omega) (by rfl) (pa_cons (pv 1) pa_nil)))) (pss_one (ps_ret pe_int)) pss_nil) (pss_one (ps_ret (pe_dget2 (hu_of hr) (pe_fld (pv 0) rfl) (pv 1) pe_int (m2_get)))))), ?_⟩
    walk_at "rd"
    rename_i H1 f1
    rw [nf_put] at hn1
    have hd : H1 d = some (.dT kvs) := f1.lst h2 rfl (by simp [hN.da])
    have h7 : No C H1 a d l ps (n + 1) := ⟨hN.da, hN.la, hN.ld, hN.len, dx, kvs, xs, hn1, hd, f1.lst h3 rfl (by simp [hN.la]), h4, h5, h6.go f1⟩
    have hN2 : No C Hn a d l ps (n + 1) := h7.go hnf (by simp) (by simp) (by simp)
    have kk := k Hn (f1.snoc hnf sub_nil) hN2
    have ha2 := hnf.lst hn1 rfl (by simp)
    have hd2 := hnf.lst hd rfl (by simp)
    walk_at "ite"
    · walk_at "rd"
      have e : dueD ps x = 0 := by simp [dueD, hc]
      rw [e] at kk
      exact kk
    · obtain ⟨b, rfl, hb⟩ := (show Im Hn v (tupK (keysD x)) by rw [← parts_keys hc]; exact (hi.go f1).go hnf).tupK
      walk_at "rd"
      rw [h5]
      have e : (posV ps (keysD x)).getD (.int 0) = .int (dueD ps x) := by
        unfold posV dueD
        rw [hc]
        cases posK ps (keysD x) <;> rfl
      rw [e]
      exact kk

def spSeal (C Cb Pp Pt : Addr) : Sp := fun vs H Q E => ∃ a d l ps n v x, vs = [.ref a, v] ∧ No C H a d l ps n ∧ Im H v x ∧ TabG H Pp ∧ TabG H Pt ∧ ps.length < 99999 ∧
  (partsD x = true → ∀ H', Fr [a, d, l] H H' → No C H' a d l (newPs ps (keysD x)) n → Q (.int (dueD (newPs ps (keysD x)) x)) H') ∧ (partsD x = false → ∀ H', Fr [] H H' → E (.ref Cb) none H')
theorem ok_seal {f : Addr} {fd : FuncData} (F : Fun K "seal" "Notary.seal" s_Notary_seal f fd) (T : TxtN K mg C Cb) (G_is_parts : Ca P w K mg base 5 "is_parts" (spParts Pp Pt)) : FnOk P w K mg base (L2.CX P w) 6 f fd ["self", "parts"] (spSeal C Cb Pp Pt) := by
  refine F.okX sc_Notary_seal (fun vs H Q E h => ?_) (fun cdv A outer s H vs Q E hr h => ?_)
  · obtain ⟨a, d, l, ps, n, v, x, rfl, _⟩ := h
    rfl
  · obtain ⟨a, d, l, ps, n, v, x, rfl, hN, hi, hp, ht, hlen, k1, k2⟩ := h
    obtain ⟨dx, kvs, xs, h1, h2, h3, h4, h5, h6⟩ := hN.ex
    refine ⟨_, (pss_cons (ps_if (pt_not (pt_val (pe_ca G_is_parts hr (by first | decide | omega) (by rfl) (pa_cons (pv 1) pa_nil)))) (pss_one (ps_raise rfl (takes_of rfl rfl rfl rfl) (pmk_own PySem.F.excBase_ValueError T.x_BadParts T.m_BadParts T.k_BadParts (raises_own T.bx_BadParts T.tx_BadParts) (by rfl)))) pss_nil) (pss_cons (ps_if (pt_cmp (pc_dnotin (hu_of hr) (pv 1) (pe_fld (pv 0) rfl)) (by rfl)) (pss_cons (ps_expr (pe_bm PySem.F.plainAttrs_list PySem.F.slot_list_append PySem.F.type_list_append mt_append (pe_fld (pv 0) rfl) (pa_cons (pv 1) pa_nil))) (pss_one (ps_dput (hu_of hr) (pe_fld (pv 0) rfl) (pv 1) (pe_callB lenU (by rfl) T.b_len PySem.boot_len (pa_cons (pe_fld (pv 0) rfl) pa_nil)) rfl))) pss_nil) (pss_one (ps_ret (pe_dget (hu_of hr) (pe_fld (pv 0) rfl) (pv 1) (fun _ _ => rfl)))))), ?_⟩
    walk_at "rd"
    walk_at "ite"
    · walk_at "rd"
      exact k2 hc Hn hnf
    · obtain ⟨b, rfl, hb⟩ := (show Im H v (tupK (keysD x)) by rw [← parts_keys hc]; exact hi).tupK
      have hb2 := hnf.tup _ _ hb
      have kk := k1 hc
      cases hq : posK ps (keysD x) with
      | none =>
        have hv : valV kvs (keysD x) = none := by rw [h5, posV, hq]; rfl
        have e1 : newPs ps (keysD x) = ps ++ [keysD x] := by simp [newPs, hq]
        have e2 : dueD (ps ++ [keysD x]) x = (ps.length : Nat) + 1 := by
          simp [dueD, hc, posK_snoc hq]
        rw [e1, e2] at kk
        have hxl : xs.length < sizeLine := by rw [h6.length, List.length_map, sizeLine_eq]; omega
        have hkl : kvs.length < sizeLine := by rw [h4, sizeLine_eq]; omega
        have n1 := hN.da
        have n2 := hN.la
        have n3 := hN.ld
        walk_at "rd"
        rename_i H1 f1 H2 hl2 f2
        have hb3 : Hn b = some (.tup ((keysD x).map kV)) := hnf.tup _ _ (f2.tup _ _ hb2)
        have e3 : ((xs ++ [V.ref b]).length : Int) = (ps.length : Nat) + 1 := by
          have := h6.length
          simp at this
          simp [this]
        rw [e3] at hn1
        have hv2 : valV (putK kvs (keysD x) (V.int ((ps.length : Nat) + 1))) (keysD x) = some (.int ((ps.length : Nat) + 1)) := by rw [valV_put, if_pos rfl]
        walk_at "rd"
        have g1 : Fr [a, d, l] H H2 := (f1.wide (by simp)).snoc f2 fun _ z => .inl (by simp at z; simp [z])
        have g2 : Fr [a, d, l] H Hn := g1.snoc hnf fun _ z => .inl (by simp at z; simp [z])
        refine kk Hn g2 ⟨n1, n2, n3, by simp; omega, dx, _, xs ++ [V.ref b], ?_, hn1, ?_, ?_, fun j => ?_, ?_⟩
        · exact hnf.lst (f2.lst (f1.lst h1 rfl (by simp)) rfl (by simp [Ne.symm n2])) rfl (by simp [Ne.symm n1])
        · exact hnf.lst hl2 rfl (by simp [n3])
        · rw [putK_new _ hv]
          simp [h4]
        · rw [valV_put, h5, posV, posV, posK_snoc hq]
          by_cases hj : j = keysD x
          · rw [if_pos hj, if_pos hj]; rfl
          · rw [if_neg hj, if_neg hj]
        · rw [List.map_append]
          have hx : Im Hn (.ref b) (tupK (keysD x)) := by
            rw [← parts_keys hc]
            exact hi.go g2
          exact (h6.go g2).snoc hx
      | some i =>
        have hv : valV kvs (keysD x) = some (.int ((i : Nat) + 1 : Int)) := by rw [h5, posV, hq]; rfl
        have e1 : newPs ps (keysD x) = ps := by simp [newPs, hq]
        have e2 : dueD ps x = (i : Nat) + 1 := by simp [dueD, hc, hq]
        rw [e1, e2] at kk
        walk_at "rd"
        exact kk _ (hnf.wide (by simp)) (hN.go hnf (by simp) (by simp) (by simp))
end
end Ow

set_option Elab.async false
set_option linter.all false
set_option maxRecDepth 100000
set_option maxHeartbeats 4000000
namespace Ow
open PySem PySem.Spec PyProof.Rows L2 GxR
/-! ### the walk, in words of this file -/
local macro_rules | `(tactic| walk_at "nin") => `(tactic| first | exact List.not_mem_nil | assumption | (simp only [List.mem_cons, List.mem_singleton, List.not_mem_nil, or_false, not_or]; (repeat' constructor) <;> walk_at "ne"))
local macro_rules | `(tactic| walk_at "ne") => `(tactic| first | assumption | (apply Ne.symm; assumption) | (apply ne_of_none; (walk_at "hp"); assumption) | (apply Ne.symm; apply ne_of_none; (walk_at "hp"); assumption) | (apply ne_of; (walk_at "hp"); (walk_at "hp"); (intro hz; cases hz; done)))
local macro_rules | `(tactic| walk_at "hp") => `(tactic| first | assumption | (apply Fr.lst; assumption; (walk_at "hp"); (exact rfl); (walk_at "nin")))
local macro_rules | `(tactic| walk_at "sqL") => `(tactic| first | assumption | (apply SqL.of; walk_at "hp") | (apply Fr.seqL; assumption; (walk_at "nin"); (walk_at "sqL")))
local macro_rules | `(tactic| walk_at "sqT") => `(tactic| first | assumption | (apply SqT.of; walk_at "hp") | (apply Fr.seqT; assumption; walk_at "sqT"))
local macro_rules | `(tactic| walk_at "ht") => `(tactic| first | assumption | (apply Fr.tup; assumption; walk_at "ht"))
local macro_rules | `(tactic| walk_at "im") => `(tactic| first | assumption | exact Im.int _ | exact Im.str _ (by first | assumption | decide | omega) | exact Im.bl _ | exact Im.non | (apply Im.tup; (walk_at "ht"); (walk_at "ima")) | (apply Im.go; rotate_left; assumption; walk_at "im"))
local macro_rules | `(tactic| walk_at "ima") => `(tactic| first | assumption | exact ImAll.nil | (apply ImAll.cons; (walk_at "im"); (walk_at "ima")) | (apply ImAll.go; rotate_left; assumption; walk_at "ima"))
local macro_rules | `(tactic| walk_at "fr") => `(tactic| first | assumption | exact Fr.refl | (apply Fr.snoc; rotate_left; assumption; (walk_at "sub"); (walk_at "fr")))
local macro_rules | `(tactic| walk_at "sub") => `(tactic| first | exact sub_nil | exact fun _ hz => Or.inl hz | assumption | (apply sub_cons; (first | (left; assumption) | (left; simp; done) | (right; walk_at "fre")); (walk_at "sub")))
local macro_rules | `(tactic| walk_at "fre") => `(tactic| first | assumption | (apply Fr.free; assumption; walk_at "fre"))
local macro_rules | `(tactic| walk_at "len") => `(tactic| first | decide | (simp only [List.length_cons, List.length_nil]; decide) | exact Nat.le_trans (by assumption) (by decide) | exact Nat.lt_of_le_of_lt (by assumption) (by decide) | (show _ ≤ sizeLine; decide) | omega)
local macro_rules | `(tactic| walk_at "ar") => `(tactic| first | assumption | (apply cdivW_of <;> omega) | omega | decide | (constructor <;> first | omega | decide) | (left; constructor <;> first | omega | decide) | (right; constructor <;> first | omega | decide))
local macro_rules | `(tactic| walk_at "lk") => `(tactic| first | rfl | assumption)
set_option hygiene false in
local macro_rules | `(tactic| walk_at "rd1") => `(tactic| first
  | with_reducible refine rd_var rfl ?_
  | with_reducible refine rd_c ?_
  | with_reducible refine rd_op ?_
  | with_reducible refine rd_seq ?_
  | with_reducible refine rd_asg ?_
  | with_reducible refine rd_name ?_
  | with_reducible refine rd_cons ?_
  | with_reducible refine rd_nil ?_
  | with_reducible refine rd_k ?_
  | with_reducible refine rd_test ?_
  | with_reducible refine rd_tB ?_
  | with_reducible refine rd_ifS ?_
  | with_reducible refine rd_iteT ?_
  | with_reducible refine rd_iteF ?_
  | with_reducible refine rd_addI ?_
  | with_reducible refine rd_I0 ?_
  | with_reducible refine rd_leI ?_
  | with_reducible refine rd_leS ?_
  | with_reducible refine rd_ltI ?_
  | with_reducible refine rd_geI ?_
  | with_reducible refine rd_gtI ?_
  | with_reducible refine rd_eqI ?_
  | with_reducible refine rd_eqS ?_
  | with_reducible refine rd_eqB ?_
  | with_reducible refine rd_neI ?_
  | with_reducible refine rd_neS ?_
  | with_reducible refine rd_ret ?_
  | with_reducible refine rd_retN ?_
  | with_reducible refine rd_drop ?_
  | with_reducible refine rd_next ?_
  | with_reducible refine rd_ca ?_
  | with_reducible refine rd_cb ?_
  | with_reducible refine rd_me ?_
  | ((with_reducible refine' rd_me2 ?h1 ?h2 ?_); (case h1 => walk_at "hp"); (case h2 => walk_at "lk"))
  | with_reducible refine rd_ma ?_
  | with_reducible refine rd_meS ?_
  | with_reducible refine rd_caS ?_
  | with_reducible refine rd_chain ?_
  | with_reducible refine rd_andV ?_
  | with_reducible refine rd_orV ?_
  | with_reducible refine rd_notV ?_
  | with_reducible refine rd_not ?_
  | with_reducible refine rd_nof ?_
  | with_reducible refine rd_if ?_
  | with_reducible refine rd_tand ?_
  | with_reducible refine rd_tor ?_
  | with_reducible refine rd_tnot ?_
  | ((with_reducible refine' rd_isi (b := true) ?h1 ?h2 ?_); (case h1 => walk_at "im"); (case h2 => rfl))
  | ((with_reducible refine' rd_isi (b := false) ?h1 ?h2 ?_); (case h1 => walk_at "im"); (case h2 => rfl))
  | with_reducible refine rd_int ?_
  | with_reducible refine rd_fld ?_
  | ((with_reducible refine' rd_fld2 ?h1 ?h2 ?h3 ?h4 ?_); (case h1 => walk_at "hp"); (case h2 => walk_at "cls"); (case h3 => walk_at "nat"); (case h4 => walk_at "lk"))
  | with_reducible refine rd_bm ?_
  | with_reducible refine rd_bm0 ?_
  | ((with_reducible refine' rd_tyL ?h1 ?_); (case h1 => walk_at "sqL"))
  | ((with_reducible refine' rd_ixL ?h1 ?h2 ?_); (case h1 => walk_at "sqL"); (case h2 => walk_at "atI"))
  | ((with_reducible refine' rd_ixT ?h1 ?h2 ?_); (case h1 => walk_at "sqT"); (case h2 => walk_at "atI"))
  | ((with_reducible refine' rd_lenS ?h1 ?_); (case h1 => walk_at "len"))
  | ((with_reducible refine' rd_lenL ?h1 ?_); (case h1 => walk_at "sqL"))
  | ((with_reducible refine' rd_lenT ?h1 ?_); (case h1 => walk_at "sqT"))
  | ((with_reducible refine' rv_mulI ?h1 ?_); (case h1 => walk_at "ar"))
  | ((with_reducible refine' rv_mulS ?h1 ?_); (case h1 => decide))
  | ((with_reducible refine' rv_mulT ?h1 ?h2 ?_); (case h1 => walk_at "sqT"); (case h2 => (refine ⟨by simp, by decide, by decide, by simp⟩)); intro p Hn hn0 hn1 hnf)
  | with_reducible refine rd_nn ?_
  | with_reducible refine rd_for ?_
  | with_reducible refine rd_lc ?_
  | with_reducible refine rd_rng1 ?_
  | ((with_reducible refine' rd_rng1b ?h1 ?_); (case h1 => walk_at "ar"))
  | with_reducible refine rd_subI ?_
  | ((with_reducible refine' rd_I ?h1 ?_); (case h1 => walk_at "ar"))
  | with_reducible refine rd_un ?_
  | with_reducible refine rd_neg ?_
  | with_reducible refine rd_gsub ?_
  | with_reducible refine rd_tup ?_
  | with_reducible refine rd_lst ?_
  | ((with_reducible refine' rd_dT ?_); intro p Hn hn0 hn1 hnf)
  | ((with_reducible refine' rd_kMa ?_); intro p dx Hn hn0 hn2 hn1 hnf)
  | with_reducible refine rd_allG ?_
  | with_reducible refine rd_iStr ?_
  | with_reducible refine rd_iStr2 ?_
  | with_reducible refine rd_iTup ?_
  | ((with_reducible refine' rd_iTup2 ?h1 ?_); (case h1 => walk_at "sqT"))
  | ((with_reducible refine' rd_kTup ?h1 ?_); (case h1 => walk_at "len"); intro p Hn hn0 hn1 hnf)
  | ((with_reducible refine' rd_kLst ?h1 ?_); (case h1 => walk_at "len"); intro p Hn hn0 hn1 hnf)
  | ((with_reducible refine' rd_listL ?h1 ?_); (case h1 => walk_at "sqL"); intro p Hn hn0 hn1 hnf)
  | ((with_reducible refine' rd_listT ?h1 ?_); (case h1 => walk_at "sqT"); intro p Hn hn0 hn1 hnf)
  | ((with_reducible refine' rd_tupL ?h1 ?_); (case h1 => walk_at "sqL"); intro p Hn hn0 hn1 hnf)
  | ((with_reducible refine' rd_app ?h1 ?h2 ?_); (case h1 => walk_at "hp"); (case h2 => walk_at "len"); intro Hn hn1 hnf)
  | ((with_reducible refine' rd_pop0 ?h1 ?_); (case h1 => walk_at "hp"); intro Hn hn1 hnf)
  | ((with_reducible refine' rd_setL ?h1 ?h2 ?_); (case h1 => walk_at "hp"); (case h2 => walk_at "ixN"); intro Hn hn1 hnf)
  | with_reducible refine rd_sfld ?_
  | ((with_reducible refine' rd_sfld2 ?h1 ?h2 ?h3 ?h4 ?_); (case h1 => walk_at "hp"); (case h2 => walk_at "cls"); (case h3 => walk_at "nat"); (case h4 => walk_at "lf"); intro Hn hn1 hnf)
  | with_reducible refine rd_sfaug ?_
  | ((with_reducible refine' rd_sfaug2 ?h1 ?h2 ?h3 ?h4 ?_); (case h1 => walk_at "hp"); (case h2 => walk_at "cls"); (case h3 => walk_at "nat"); (case h4 => walk_at "lk"))
  | with_reducible refine rd_inadd ?_
  | ((with_reducible refine' rd_sfaug3 ?h1 ?h2 ?_); (case h1 => walk_at "hp"); (case h2 => walk_at "lf"); intro Hn hn1 hnf)
  | walk_at "sp")
local macro_rules | `(tactic| walk_at "tab") => `(tactic| first | assumption | (apply Fr.tab; assumption; walk_at "tab"))
local macro_rules | `(tactic| walk_at "lf") => `(tactic| first | decide | exact Nat.le_of_ble_eq_true (by rfl) | (simp; done))
local macro_rules | `(tactic| walk_at "atI") => `(tactic| first | rfl | assumption)
local macro_rules | `(tactic| walk_at "ixN") => `(tactic| first | rfl | assumption)
local macro_rules | `(tactic| walk_at "rd") => `(tactic| repeat (walk_at "rd1"))
set_option hygiene false in
local macro_rules | `(tactic| walk_at "ite") => `(tactic| first
  | with_reducible refine rd_ite (fun hc => ?_) (fun hc => ?_)
  | with_reducible refine rd_iteN (fun hc => ?_) (fun hc => ?_)
  | with_reducible refine rd_iteNB (fun hc => ?_) (fun hc => ?_)
  | with_reducible refine rd_iteB (fun hc => ?_) (fun hc => ?_))

local macro_rules | `(tactic| walk_at "cls") => `(tactic| assumption)
local macro_rules | `(tactic| walk_at "nat") => `(tactic| assumption)

/-! ### what every law script has: the same, the box of its numbers -/
structure TxtL (K : PySem.W.Frag) (mg : Str → Option Value) : Prop where
  b_isinstance : mg "isinstance" = none
  b_int : mg "int" = none
  b_bool : mg "bool" = none
  b_str : mg "str" = none
  b_tuple : mg "tuple" = none
  b_list : mg "list" = none
  b_len : mg "len" = none
  b_range : mg "range" = none
/-- tuples within tuples, at most n deep -/
def Dn : Nat → D → Prop
  | 0, .tup _ => False
  | n + 1, .tup ds => ds.length ≤ 1000000 ∧ ∀ d ∈ ds, Dn n d
  | _, _ => True
section
variable {P : Program} {w : World} {K : PySem.W.Frag} {mg : Str → Option Value} {base : Heap}
def spSame : Nat → Sp
  | 0 => fun _ _ _ _ => False
  | n + 1 => fun vs H Q _ => ∃ v1 v2 d, vs = [v1, v2] ∧ Im H v1 d ∧ Im H v2 d ∧ Dn n d ∧ Q (.bl true) H
theorem ok_same {f : Addr} {fd : FuncData} (F : Fun K "_law_same" "_law_same" s__law_same f fd) (T : TxtL K mg) (hm : mg "_law_same" = some (.ref f)) (kp : PySem.W.keepIn K (.ref f) = true) (hb : Binds K fd ["a", "b"] []) : ∀ n, FnOk P w K mg base (L2.CX P w) n f fd ["a", "b"] (spSame n) := by
  intro n
  induction n with
  | zero => exact ⟨fun _ _ _ _ h => h.elim, fun _ _ _ _ _ _ _ _ _ _ _ _ _ h => h.elim⟩
  | succ n ih =>
    have G__law_same : Ca P w K mg base n "_law_same" (spSame n) := ⟨f, fd, _, ih, hm, kp, hb⟩
    refine F.okX sc__law_same (fun vs H Q E h => ?_) (fun cdv A outer s H vs Q E hr h => ?_)
    · obtain ⟨v1, v2, d, rfl, _⟩ := h
      rfl
    · obtain ⟨v1, v2, d, rfl, i1, i2, hn, k⟩ := h
      refine ⟨_, (pss_cons (ps_if (PW.pt (pw_and (pt_val (pe_callB call_isi (by rfl) T.b_isinstance (by decide +kernel) (pa_cons (pv 0) (pa_cons (pe_bltn (by rfl) T.b_tuple (by decide +kernel) (show RelV (.ty "tuple") _ from rfl)) pa_nil)))) (pw_and1 (pt_val (pe_callB call_isi (by rfl) T.b_isinstance (by decide +kernel) (pa_cons (pv 1) (pa_cons (pe_bltn (by rfl) T.b_tuple (by decide +kernel) (show RelV (.ty "tuple") _ from rfl)) pa_nil))))))) (pss_cons (ps_if (pt_cmpR (opU_ne hr.units) (pe_callB lenU (by rfl) T.b_len PySem.boot_len (pa_cons (pv 0) pa_nil)) (pe_callB lenU (by rfl) T.b_len PySem.boot_len (pa_cons (pv 1) pa_nil)) (nomark _)) (pss_one (ps_ret pe_bl)) pss_nil) (pss_cons (ps_for (passes_of rfl) rfl (pi_range1 (by rfl) T.b_range (pa_cons (pe_callB lenU (by rfl) T.b_len PySem.boot_len (pa_cons (pv 0) pa_nil)) pa_nil)) (pg_name (i := 2) sc__law_same.nd rfl (Or.inl rfl)) (pss_one (ps_if (pt_not (pt_val (pe_ca G__law_same hr (by first | decide | omega) (by rfl) (pa_cons (pe_ix ixU (pv 0) (pv 2) (fun _ _ => rfl)) (pa_cons (pe_ix ixU (pv 1) (pv 2) (fun _ _ => rfl)) pa_nil))))) (pss_one (ps_ret pe_bl)) pss_nil))) (pss_one (ps_ret pe_bl)))) pss_nil) (pss_cons (ps_if (PW.pt (pw_or (pt_val (pe_callB call_isi (by rfl) T.b_isinstance (by decide +kernel) (pa_cons (pv 0) (pa_cons (pe_bltn (by rfl) T.b_bool (by decide +kernel) (show RelV (.ty "bool") _ from rfl)) pa_nil)))) (pw_or1 (pt_val (pe_callB call_isi (by rfl) T.b_isinstance (by decide +kernel) (pa_cons (pv 1) (pa_cons (pe_bltn (by rfl) T.b_bool (by decide +kernel) (show RelV (.ty "bool") _ from rfl)) pa_nil))))))) (pss_one (ps_ret (pe_and (pe_callB call_isi (by rfl) T.b_isinstance (by decide +kernel) (pa_cons (pv 0) (pa_cons (pe_bltn (by rfl) T.b_bool (by decide +kernel) (show RelV (.ty "bool") _ from rfl)) pa_nil))) (pe_and (pe_callB call_isi (by rfl) T.b_isinstance (by decide +kernel) (pa_cons (pv 1) (pa_cons (pe_bltn (by rfl) T.b_bool (by decide +kernel) (show RelV (.ty "bool") _ from rfl)) pa_nil))) (pe_one (pe_cmpR (opU_eq hr.units) (pv 0) (pv 1) (nomark _))))))) pss_nil) (pss_cons (ps_if (PW.pt (pw_and (pt_val (pe_callB call_isi (by rfl) T.b_isinstance (by decide +kernel) (pa_cons (pv 0) (pa_cons (pe_bltn (by rfl) T.b_int (by decide +kernel) (show RelV (.ty "int") _ from rfl)) pa_nil)))) (pw_and1 (pt_val (pe_callB call_isi (by rfl) T.b_isinstance (by decide +kernel) (pa_cons (pv 1) (pa_cons (pe_bltn (by rfl) T.b_int (by decide +kernel) (show RelV (.ty "int") _ from rfl)) pa_nil))))))) (pss_one (ps_ret (pe_cmpR (opU_eq hr.units) (pv 0) (pv 1) (nomark _)))) pss_nil) (pss_cons (ps_if (PW.pt (pw_and (pt_val (pe_callB call_isi (by rfl) T.b_isinstance (by decide +kernel) (pa_cons (pv 0) (pa_cons (pe_bltn (by rfl) T.b_str (by decide +kernel) (show RelV (.ty "str") _ from rfl)) pa_nil)))) (pw_and1 (pt_val (pe_callB call_isi (by rfl) T.b_isinstance (by decide +kernel) (pa_cons (pv 1) (pa_cons (pe_bltn (by rfl) T.b_str (by decide +kernel) (show RelV (.ty "str") _ from rfl)) pa_nil))))))) (pss_one (ps_ret (pe_cmpR (opU_eq hr.units) (pv 0) (pv 1) (nomark _)))) pss_nil) (pss_one (ps_ret (pe_and (pe_cmpR op_isN (pv 0) pe_non (nomark _)) (pe_one (pe_cmpR op_isN (pv 1) pe_non (nomark _)))))))))), ?_⟩
      cases i1 <;> cases i2
      · walk_at "rd"
        walk_at "ite"
        · walk_at "rd"
          rw [decide_eq_true rfl]
          exact k
        · exact absurd rfl hc
      · walk_at "rd"
        rw [decide_eq_true rfl]
        exact k
      · walk_at "rd"
        rw [decide_eq_true rfl]
        exact k
      · walk_at "rd"
        rw [decide_eq_true rfl]
        exact k
      · rename_i a1 xs1 ds h1 d1 a2 xs2 h2 d2
        have e1 := d1.length
        have e2 := d2.length
        have hn' : ds.length ≤ 1000000 ∧ ∀ d ∈ ds, match n with | 0 => True | m + 1 => Dn m d := by
          cases n with
          | zero => exact ⟨hn.elim, fun _ _ => trivial⟩
          | succ m => exact hn
        walk_at "rd"
        walk_at "ite"
        · omega
        · walk_at "rd"
          refine kF_range (fun i σ H' => H' = H ∧ ∃ x, σ = [some (.ref a1), some (.ref a2), x]) ⟨rfl, _, rfl⟩ ?_ ?_
          · rintro i σ H' hi ⟨rfl, x, rfl⟩
            have hi' : i < ds.length := by omega
            obtain ⟨u1, g1, j1⟩ := d1.getD (i := i) (d := ds[i]) (by simp [hi'])
            obtain ⟨u2, g2, j2⟩ := d2.getD (i := i) (d := ds[i]) (by simp [hi'])
            have ei : (0 : Int) + (i : Nat) = (i : Nat) := by omega
            rw [ei]
            have q1 := atI_nat g1
            have q2 := atI_nat g2
            walk_at "rd"
            cases n with
            | zero => exact hn.elim
            | succ m =>
              refine ⟨u1, u2, ds[i], rfl, j1, j2, hn'.2 _ (by simp), ?_⟩
              walk_at "rd"
              exact ⟨rfl, _, rfl⟩
          · rintro σ H' ⟨rfl, x, rfl⟩
            walk_at "rd"
            exact k
theorem use_same {H : Hp} {Q : VK} {E : XK} {v1 v2 : V} {d : D} {n : Nat} (h1 : Im H v1 d) (h2 : Im H v2 d) (h3 : Dn n d) (q : Q (.bl true) H) : spSame (n + 1) [v1, v2] H Q E := ⟨v1, v2, d, rfl, h1, h2, h3, q⟩

/-! ### the box -/
structure Bx (H : Hp) (b c : Addr) (nd : V) : Prop where
  bc : c ≠ b
  ex : ∃ (ns : List Int) (v1 v2 : Int), H b = some (.lst [.ref c, .int v1, .int v2, nd]) ∧ H c = some (.lst (ns.map V.int))
theorem Bx.go {H H' : Hp} {b c : Addr} {nd : V} {ch : List Addr} (h : Bx H b c nd) (f : Fr ch H H') (hb : b ∉ ch) (hc : c ∉ ch) : Bx H' b c nd := by
  obtain ⟨ns, v1, v2, h1, h2⟩ := h.ex
  exact ⟨h.bc, ns, v1, v2, f.lst h1 rfl hb, f.lst h2 rfl hc⟩
def spBox (K : PySem.W.Frag) : Sp := fun vs H Q _ => ∃ (s : Addr) (ns : List Int) (nd : V), vs = [.ref s, nd] ∧ SqL K H s (ns.map V.int) ∧ ∀ b c H', H b = none → H c = none → Fr [] H H' → Bx H' b c nd → Q (.ref b) H'
theorem ok_box {f : Addr} {fd : FuncData} (F : Fun K "_law_box" "_law_box" s__law_box f fd) (T : TxtL K mg) : FnOk P w K mg base (L2.CX P w) 1 f fd ["script", "nodes"] (spBox K) := by
  refine F.okX sc__law_box (fun vs H Q E h => ?_) (fun cdv A outer s H vs Q E hr h => ?_)
  · obtain ⟨s, ns, nd, rfl, _⟩ := h
    rfl
  · obtain ⟨s', ns, nd, rfl, hs, k⟩ := h
    refine ⟨_, (pss_one (ps_ret (pe_lst (pa_cons (pe_callTy listU (by rfl) T.b_list (by decide +kernel) (pa_cons (pv 0) pa_nil)) (pa_cons pe_int (pa_cons (pe_op opU_add pe_int (pe_callB lenU (by rfl) T.b_len PySem.boot_len (pa_cons (pv 0) pa_nil))) (pa_cons (pv 1) pa_nil))))))), ?_⟩
    walk_at "rd"
    rename_i c H1 c0 hc hf
    have n1 : c ≠ p := ne_of_none hc hn0
    exact k p c Hn (hf.free hn0) c0 (hf.snoc hnf sub_nil) ⟨n1, ns, _, _, hn1, hnf.lst hc rfl (by simp)⟩
def spLoad : Sp := fun vs H Q _ => ∃ b c nd, vs = [.ref b] ∧ Bx H b c nd ∧ ∀ i H', Fr [b, c] H H' → Bx H' b c nd → Q (.int i) H'
theorem ok_load {f : Addr} {fd : FuncData} (F : Fun K "_law_load" "_law_load" s__law_load f fd) (T : TxtL K mg) : FnOk P w K mg base (L2.CX P w) 1 f fd ["box"] spLoad := by
  refine F.okX sc__law_load (fun vs H Q E h => ?_) (fun cdv A outer s H vs Q E hr h => ?_)
  · obtain ⟨b, c, nd, rfl, _⟩ := h
    rfl
  · obtain ⟨b, c, nd, rfl, hB, k⟩ := h
    obtain ⟨ns, v1, v2, hb, hcc⟩ := hB.ex
    have bc := hB.bc
    refine ⟨_, (pss_cons (ps_asg (pe_ix ixU (pv 0) pe_int (fun _ _ => rfl)) (pg_name (i := 1) sc__law_load.nd rfl (Or.inl rfl))) (pss_cons (ps_if (pt_cmpR opU_gt (pe_callB lenU (by rfl) T.b_len PySem.boot_len (pa_cons (pv 1) pa_nil)) pe_int (nomark _)) (pss_cons (ps_asg (pe_callTy intU (by rfl) T.b_int (by decide +kernel) (pa_cons (pe_bm PySem.F.plainAttrs_list PySem.F.slot_list_pop PySem.F.type_list_pop mt_popAt (pv 1) (pa_cons pe_int pa_nil)) pa_nil)) (pg_name (i := 2) sc__law_load.nd rfl (Or.inl rfl))) (pss_cons (ps_asg (pe_ifExp (pt_cmpR opU_ge (pv 2) pe_int (nomark _)) (pe_op opV_mul pe_int (pv 2)) (pe_op op_sub (pe_op opV_mul (pe_un un_neg pe_int) (pv 2)) pe_int)) (pg_name (i := 3) sc__law_load.nd rfl (Or.inl rfl))) (pss_cons (ps_if (pt_cmpR opU_ge (pv 3) pe_int (nomark _)) (pss_one (ps_ret (pv 3))) pss_nil) (pss_one (ps_asg (pe_op op_mod (pe_callTy intU (by rfl) T.b_int (by decide +kernel) (pa_cons (pe_op opU_add (pe_op opU_add (pe_op opV_mul (pe_ix ixU (pv 0) pe_int (fun _ _ => rfl)) pe_int) (pe_op opV_mul (pv 3) pe_int)) pe_int) pa_nil)) pe_int) (pg_sub (pv 0) pe_int set_list)))))) pss_nil) (pss_cons (ps_asg (pe_op op_mod (pe_callTy intU (by rfl) T.b_int (by decide +kernel) (pa_cons (pe_op opU_add (pe_op opV_mul (pe_ix ixU (pv 0) pe_int (fun _ _ => rfl)) pe_int) pe_int) pa_nil)) pe_int) (pg_name (i := 4) sc__law_load.nd rfl (Or.inl rfl))) (pss_cons (ps_asg (pe_op op_mod (pe_callTy intU (by rfl) T.b_int (by decide +kernel) (pa_cons (pe_op opU_add (pe_op opV_mul (pv 4) pe_int) pe_int) pa_nil)) pe_int) (pg_name (i := 5) sc__law_load.nd rfl (Or.inl rfl))) (pss_cons (ps_asg (pe_op op_mod (pe_callTy intU (by rfl) T.b_int (by decide +kernel) (pa_cons (pe_op opU_add (pe_op opV_mul (pv 5) pe_int) pe_int) pa_nil)) pe_int) (pg_sub (pv 0) pe_int set_list)) (pss_one (ps_ret (pe_op opU_add (pe_op opU_add (pe_op opV_mul (pv 4) pe_int) (pe_op opV_mul (pv 5) pe_int)) (pe_ix ixU (pv 0) pe_int (fun _ _ => rfl)))))))))), ?_⟩
    cases ns with
    | nil =>
      walk_at "rd"
      walk_at "ite"
      · exact absurd hc (by decide)
      · walk_at "rd"
        exact k _ Hn (hnf.wide (by simp)) ⟨bc, [], _, _, hn1, hnf.lst hcc rfl (by simp [bc])⟩
    | cons n ns =>
      rw [List.map_cons] at hcc
      walk_at "rd"
      walk_at "ite"
      · walk_at "rd"
        have hb1 := hnf.lst hb rfl (by simp [Ne.symm bc])
        have f1 : Fr [b, c] H Hn := hnf.wide (by simp)
        have hc1 := hn1
        clear hn1 hnf
        walk_at "ite"
        all_goals walk_at "rd"
        all_goals walk_at "ite"
        all_goals walk_at "rd"
        all_goals first
          | exact k _ _ f1 ⟨bc, ns, _, _, hb1, hc1⟩
          | exact k _ Hn ((f1.snoc (by assumption) fun _ z => .inl (by simp at z; simp [z])).snoc hnf fun _ z => .inl (by simp at z; simp [z])) ⟨bc, ns, _, _, hn1, hnf.lst (Fr.lst (by assumption) hc1 rfl (by simp [bc])) rfl (by simp [bc])⟩
      · exact absurd (by simp) hc
theorem use_load {H : Hp} {Q : VK} {E : XK} {b c : Addr} {nd : V} (h : Bx H b c nd) (q : ∀ i H', Fr [b, c] H H' → Bx H' b c nd → Q (.int i) H') : spLoad [.ref b] H Q E := ⟨b, c, nd, rfl, h, q⟩
def spDraw : Sp := fun vs H Q _ => ∃ b c nd m, vs = [.ref b, .int m] ∧ Bx H b c nd ∧ 0 < m ∧ m < 1000000000000000000 ∧ ∀ i H', Fr [b, c] H H' → Bx H' b c nd → 0 ≤ i → i < m → Q (.int i) H'
theorem use_draw {H : Hp} {Q : VK} {E : XK} {b c : Addr} {nd : V} {m : Int} (h : Bx H b c nd) (hm : 0 < m ∧ m < 1000000000000000000) (q : ∀ i H', Fr [b, c] H H' → Bx H' b c nd → 0 ≤ i → i < m → Q (.int i) H') : spDraw [.ref b, .int m] H Q E := ⟨b, c, nd, m, rfl, h, hm.1, hm.2, q⟩
set_option hygiene false in
local macro_rules | `(tactic| walk_at "sp") => `(tactic| ((with_reducible refine' use_load ?h1 ?_); (case h1 => walk_at "bx"); intro i Hn hnf hbx))
local macro_rules | `(tactic| walk_at "bx") => `(tactic| first | assumption | (apply Bx.go; assumption; assumption; (walk_at "nin"); (walk_at "nin")))
theorem ok_draw {f : Addr} {fd : FuncData} (F : Fun K "_law_draw" "_law_draw" s__law_draw f fd) (T : TxtL K mg) (G__law_load : Ca P w K mg base 1 "_law_load" spLoad) : FnOk P w K mg base (L2.CX P w) 2 f fd ["box", "many"] spDraw := by
  refine F.okX sc__law_draw (fun vs H Q E h => ?_) (fun cdv A outer s H vs Q E hr h => ?_)
  · obtain ⟨b, c, nd, m, rfl, _⟩ := h
    rfl
  · obtain ⟨b, c, nd, m, rfl, hB, h0, h1, k⟩ := h
    obtain ⟨ns, v1, v2, hb, hcc⟩ := hB.ex
    have bc := hB.bc
    refine ⟨_, (pss_cons (ps_if (pt_cmpR opU_lt (pe_ix ixU (pv 0) pe_int (fun _ _ => rfl)) (pv 1) (nomark _)) (pss_one (ps_asg (pe_ca G__law_load hr (by first | decide | omega) (by rfl) (pa_cons (pv 0) pa_nil)) (pg_sub (pv 0) pe_int set_list))) pss_nil) (pss_cons (ps_asg (pe_op op_mod (pe_callTy intU (by rfl) T.b_int (by decide +kernel) (pa_cons (pe_ix ixU (pv 0) pe_int (fun _ _ => rfl)) pa_nil)) (pv 1)) (pg_name (i := 2) sc__law_draw.nd rfl (Or.inl rfl))) (pss_cons (ps_asg (pe_op op_fdivW (pe_ix ixU (pv 0) pe_int (fun _ _ => rfl)) (pv 1)) (pg_sub (pv 0) pe_int set_list)) (pss_one (ps_ret (pv 2)))))), ?_⟩
    walk_at "rd"
    walk_at "ite"
    · walk_at "rd"
      obtain ⟨ns2, w1, w2, hb2, hc2⟩ := hbx.ex
      clear hb hcc
      have f0 := hnf
      have g0 := Int.emod_nonneg i (show m ≠ 0 by omega)
      have g1 := Int.emod_lt_of_pos i h0
      walk_at "rd"
      rename_i H1 hf1 H2 hb3 f2
      have hc3 := hnf.lst (f2.lst hc2 rfl (by simp [bc])) rfl (by simp [bc])
      exact k _ Hn ((f0.snoc f2 fun _ z => .inl (by simp at z; simp [z])).snoc hnf fun _ z => .inl (by simp at z; simp [z])) ⟨bc, _, _, _, hn1, hc3⟩ g0 g1
    · have g0 := Int.emod_nonneg v1 (show m ≠ 0 by omega)
      have g1 := Int.emod_lt_of_pos v1 h0
      walk_at "rd"
      exact k _ Hn (hnf.wide (by simp)) ⟨bc, _, _, _, hn1, hnf.lst hcc rfl (by simp [bc])⟩ g0 g1
end
end Ow

set_option Elab.async false
set_option linter.all false
set_option maxRecDepth 100000
set_option maxHeartbeats 4000000
namespace Ow
open PySem PySem.Spec PyProof.Rows L2 GxR
/-! ### the walk, in words of this file -/
local macro_rules | `(tactic| walk_at "nin") => `(tactic| first | exact List.not_mem_nil | assumption | (simp only [List.mem_cons, List.mem_singleton, List.not_mem_nil, or_false, not_or]; (repeat' constructor) <;> walk_at "ne"))
local macro_rules | `(tactic| walk_at "ne") => `(tactic| first | assumption | (apply Ne.symm; assumption) | (apply ne_of_none; (walk_at "hp"); assumption) | (apply Ne.symm; apply ne_of_none; (walk_at "hp"); assumption) | (apply ne_of; (walk_at "hp"); (walk_at "hp"); (intro hz; cases hz; done)))
local macro_rules | `(tactic| walk_at "hp") => `(tactic| first | assumption | (apply Fr.lst; assumption; (walk_at "hp"); (exact rfl); (walk_at "nin")))
local macro_rules | `(tactic| walk_at "sqL") => `(tactic| first | assumption | (apply SqL.of; walk_at "hp") | (apply Fr.seqL; assumption; (walk_at "nin"); (walk_at "sqL")))
local macro_rules | `(tactic| walk_at "sqT") => `(tactic| first | assumption | (apply SqT.of; walk_at "hp") | (apply Fr.seqT; assumption; walk_at "sqT"))
local macro_rules | `(tactic| walk_at "ht") => `(tactic| first | assumption | (apply Fr.tup; assumption; walk_at "ht"))
local macro_rules | `(tactic| walk_at "im") => `(tactic| first | assumption | exact Im.int _ | exact Im.str _ (by first | assumption | decide | omega) | exact Im.bl _ | exact Im.non | (apply Im.tup; (walk_at "ht"); (walk_at "ima")) | (apply Im.go; rotate_left; assumption; walk_at "im"))
local macro_rules | `(tactic| walk_at "ima") => `(tactic| first | assumption | exact ImAll.nil | (apply ImAll.cons; (walk_at "im"); (walk_at "ima")) | (apply ImAll.go; rotate_left; assumption; walk_at "ima"))
local macro_rules | `(tactic| walk_at "fr") => `(tactic| first | assumption | exact Fr.refl | (apply Fr.snoc; rotate_left; assumption; (walk_at "sub"); (walk_at "fr")))
local macro_rules | `(tactic| walk_at "sub") => `(tactic| first | exact sub_nil | exact fun _ hz => Or.inl hz | assumption | (apply sub_cons; (first | (left; assumption) | (left; simp; done) | (right; walk_at "fre")); (walk_at "sub")))
local macro_rules | `(tactic| walk_at "fre") => `(tactic| first | assumption | (apply Fr.free; assumption; walk_at "fre"))
local macro_rules | `(tactic| walk_at "len") => `(tactic| first | decide | (simp only [List.length_cons, List.length_nil]; decide) | exact Nat.le_trans (by assumption) (by decide) | exact Nat.lt_of_le_of_lt (by assumption) (by decide) | (show _ ≤ sizeLine; decide) | omega)
local macro_rules | `(tactic| walk_at "ar") => `(tactic| first | assumption | (apply cdivW_of <;> omega) | omega | decide | (constructor <;> first | omega | decide) | (left; constructor <;> first | omega | decide) | (right; constructor <;> first | omega | decide))
local macro_rules | `(tactic| walk_at "lk") => `(tactic| first | rfl | assumption)
set_option hygiene false in
local macro_rules | `(tactic| walk_at "rd1") => `(tactic| first
  | with_reducible refine rd_var rfl ?_
  | with_reducible refine rd_c ?_
  | with_reducible refine rd_op ?_
  | with_reducible refine rd_seq ?_
  | with_reducible refine rd_asg ?_
  | with_reducible refine rd_name ?_
  | with_reducible refine rd_cons ?_
  | with_reducible refine rd_nil ?_
  | with_reducible refine rd_k ?_
  | with_reducible refine rd_test ?_
  | with_reducible refine rd_tB ?_
  | with_reducible refine rd_ifS ?_
  | with_reducible refine rd_iteT ?_
  | with_reducible refine rd_iteF ?_
  | with_reducible refine rd_addI ?_
  | with_reducible refine rd_I0 ?_
  | with_reducible refine rd_leI ?_
  | with_reducible refine rd_leS ?_
  | with_reducible refine rd_ltI ?_
  | with_reducible refine rd_geI ?_
  | with_reducible refine rd_gtI ?_
  | with_reducible refine rd_eqI ?_
  | with_reducible refine rd_eqS ?_
  | with_reducible refine rd_eqB ?_
  | with_reducible refine rd_neI ?_
  | with_reducible refine rd_neS ?_
  | with_reducible refine rd_ret ?_
  | with_reducible refine rd_retN ?_
  | with_reducible refine rd_drop ?_
  | with_reducible refine rd_next ?_
  | with_reducible refine rd_ca ?_
  | with_reducible refine rd_cb ?_
  | with_reducible refine rd_me ?_
  | ((with_reducible refine' rd_me2 ?h1 ?h2 ?_); (case h1 => walk_at "hp"); (case h2 => walk_at "lk"))
  | with_reducible refine rd_ma ?_
  | with_reducible refine rd_meS ?_
  | with_reducible refine rd_caS ?_
  | with_reducible refine rd_chain ?_
  | with_reducible refine rd_andV ?_
  | with_reducible refine rd_orV ?_
  | with_reducible refine rd_notV ?_
  | with_reducible refine rd_not ?_
  | with_reducible refine rd_nof ?_
  | with_reducible refine rd_if ?_
  | with_reducible refine rd_tand ?_
  | with_reducible refine rd_tor ?_
  | with_reducible refine rd_tnot ?_
  | ((with_reducible refine' rd_isi (b := true) ?h1 ?h2 ?_); (case h1 => walk_at "im"); (case h2 => rfl))
  | ((with_reducible refine' rd_isi (b := false) ?h1 ?h2 ?_); (case h1 => walk_at "im"); (case h2 => rfl))
  | with_reducible refine rd_int ?_
  | with_reducible refine rd_fld ?_
  | ((with_reducible refine' rd_fld2 ?h1 ?h2 ?h3 ?h4 ?_); (case h1 => walk_at "hp"); (case h2 => walk_at "cls"); (case h3 => walk_at "nat"); (case h4 => walk_at "lk"))
  | with_reducible refine rd_bm ?_
  | with_reducible refine rd_bm0 ?_
  | ((with_reducible refine' rd_tyL ?h1 ?_); (case h1 => walk_at "sqL"))
  | ((with_reducible refine' rd_ixL ?h1 ?h2 ?_); (case h1 => walk_at "sqL"); (case h2 => walk_at "atI"))
  | ((with_reducible refine' rd_ixT ?h1 ?h2 ?_); (case h1 => walk_at "sqT"); (case h2 => walk_at "atI"))
  | ((with_reducible refine' rd_lenS ?h1 ?_); (case h1 => walk_at "len"))
  | ((with_reducible refine' rd_lenL ?h1 ?_); (case h1 => walk_at "sqL"))
  | ((with_reducible refine' rd_lenT ?h1 ?_); (case h1 => walk_at "sqT"))
  | ((with_reducible refine' rv_mulI ?h1 ?_); (case h1 => walk_at "ar"))
  | ((with_reducible refine' rv_mulS ?h1 ?_); (case h1 => decide))
  | ((with_reducible refine' rv_mulT ?h1 ?h2 ?_); (case h1 => walk_at "sqT"); (case h2 => (refine ⟨by simp, by decide, by decide, by simp⟩)); intro p Hn hn0 hn1 hnf)
  | with_reducible refine rd_nn ?_
  | with_reducible refine rd_for ?_
  | with_reducible refine rd_lc ?_
  | with_reducible refine rd_rng1 ?_
  | ((with_reducible refine' rd_rng1b ?h1 ?_); (case h1 => walk_at "ar"))
  | with_reducible refine rd_subI ?_
  | ((with_reducible refine' rd_I ?h1 ?_); (case h1 => walk_at "ar"))
  | with_reducible refine rd_un ?_
  | with_reducible refine rd_neg ?_
  | with_reducible refine rd_gsub ?_
  | with_reducible refine rd_tup ?_
  | with_reducible refine rd_lst ?_
  | ((with_reducible refine' rd_dT ?_); intro p Hn hn0 hn1 hnf)
  | ((with_reducible refine' rd_kMa ?_); intro p dx Hn hn0 hn2 hn1 hnf)
  | with_reducible refine rd_allG ?_
  | with_reducible refine rd_iStr ?_
  | with_reducible refine rd_iStr2 ?_
  | with_reducible refine rd_iTup ?_
  | ((with_reducible refine' rd_iTup2 ?h1 ?_); (case h1 => walk_at "sqT"))
  | ((with_reducible refine' rd_kTup ?h1 ?_); (case h1 => walk_at "len"); intro p Hn hn0 hn1 hnf)
  | ((with_reducible refine' rd_kLst ?h1 ?_); (case h1 => walk_at "len"); intro p Hn hn0 hn1 hnf)
  | ((with_reducible refine' rd_listL ?h1 ?_); (case h1 => walk_at "sqL"); intro p Hn hn0 hn1 hnf)
  | ((with_reducible refine' rd_listT ?h1 ?_); (case h1 => walk_at "sqT"); intro p Hn hn0 hn1 hnf)
  | ((with_reducible refine' rd_tupL ?h1 ?_); (case h1 => walk_at "sqL"); intro p Hn hn0 hn1 hnf)
  | ((with_reducible refine' rd_app ?h1 ?h2 ?_); (case h1 => walk_at "hp"); (case h2 => walk_at "len"); intro Hn hn1 hnf)
  | ((with_reducible refine' rd_pop0 ?h1 ?_); (case h1 => walk_at "hp"); intro Hn hn1 hnf)
  | ((with_reducible refine' rd_setL ?h1 ?h2 ?_); (case h1 => walk_at "hp"); (case h2 => walk_at "ixN"); intro Hn hn1 hnf)
  | with_reducible refine rd_sfld ?_
  | ((with_reducible refine' rd_sfld2 ?h1 ?h2 ?h3 ?h4 ?_); (case h1 => walk_at "hp"); (case h2 => walk_at "cls"); (case h3 => walk_at "nat"); (case h4 => walk_at "lf"); intro Hn hn1 hnf)
  | with_reducible refine rd_sfaug ?_
  | ((with_reducible refine' rd_sfaug2 ?h1 ?h2 ?h3 ?h4 ?_); (case h1 => walk_at "hp"); (case h2 => walk_at "cls"); (case h3 => walk_at "nat"); (case h4 => walk_at "lk"))
  | with_reducible refine rd_inadd ?_
  | ((with_reducible refine' rd_sfaug3 ?h1 ?h2 ?_); (case h1 => walk_at "hp"); (case h2 => walk_at "lf"); intro Hn hn1 hnf)
  | walk_at "sp")
local macro_rules | `(tactic| walk_at "tab") => `(tactic| first | assumption | (apply Fr.tab; assumption; walk_at "tab"))
local macro_rules | `(tactic| walk_at "lf") => `(tactic| first | decide | exact Nat.le_of_ble_eq_true (by rfl) | (simp; done))
local macro_rules | `(tactic| walk_at "atI") => `(tactic| first | rfl | assumption)
local macro_rules | `(tactic| walk_at "ixN") => `(tactic| first | rfl | assumption)
local macro_rules | `(tactic| walk_at "rd") => `(tactic| repeat (walk_at "rd1"))
set_option hygiene false in
local macro_rules | `(tactic| walk_at "ite") => `(tactic| first
  | with_reducible refine rd_ite (fun hc => ?_) (fun hc => ?_)
  | with_reducible refine rd_iteN (fun hc => ?_) (fun hc => ?_)
  | with_reducible refine rd_iteNB (fun hc => ?_) (fun hc => ?_)
  | with_reducible refine rd_iteB (fun hc => ?_) (fun hc => ?_))

local macro_rules | `(tactic| walk_at "cls") => `(tactic| assumption)
local macro_rules | `(tactic| walk_at "nat") => `(tactic| assumption)

theorem Bx.nb {H : Hp} {b c p : Addr} {nd : V} (hp : H p = none) (h : Bx H b c nd) : p ≠ b := by
  obtain ⟨ns, v1, v2, h1, h2⟩ := h.ex
  exact (ne_of_none h1 hp).symm
theorem Bx.nc {H : Hp} {b c p : Addr} {nd : V} (hp : H p = none) (h : Bx H b c nd) : p ≠ c := by
  obtain ⟨ns, v1, v2, h1, h2⟩ := h.ex
  exact (ne_of_none h2 hp).symm
theorem ne_non {H : Hp} {a p : Addr} {o : HO} (hp : H p = none) (h : H a = some o) : a ≠ p := ne_of_none h hp
theorem Bx.fr {H H' : Hp} {b c : Addr} {nd : V} {ch : List Addr} (f : Fr ch H H') (h : Bx H b c nd) (hb : b ∉ ch) (hc : c ∉ ch) : Bx H' b c nd := h.go f hb hc
local macro_rules | `(tactic| walk_at "bx") => `(tactic| first | assumption | (apply Bx.fr; assumption; (walk_at "bx"); (walk_at "nin"); (walk_at "nin")))
local macro_rules | `(tactic| walk_at "ne") => `(tactic| first | assumption | (apply Ne.symm; assumption) | (apply Bx.nb; assumption; (walk_at "bx"); done) | (apply Bx.nc; assumption; (walk_at "bx"); done) | (apply Ne.symm; apply Bx.nb; assumption; (walk_at "bx"); done) | (apply Ne.symm; apply Bx.nc; assumption; (walk_at "bx"); done) | (apply ne_non; assumption; (walk_at "hp"); done) | (apply Ne.symm; apply ne_non; assumption; (walk_at "hp"); done))
set_option hygiene false in
local macro_rules | `(tactic| walk_at "sp") => `(tactic| first
  | ((with_reducible refine' use_draw ?h1 ?h2 ?_); (case h1 => walk_at "bx"); (case h2 => walk_at "ar"); intro i Hn hnf hbx hi0 hi1)
  | ((with_reducible refine' use_load ?h1 ?_); (case h1 => walk_at "bx"); intro i Hn hnf hbx))
section
variable {P : Program} {w : World} {K : PySem.W.Frag} {mg : Str → Option Value} {base : Heap}
def spPart : Sp := fun vs H Q _ => ∃ b c nd, vs = [.ref b] ∧ Bx H b c nd ∧ ∀ v k H', Fr [b, c] H H' → Bx H' b c nd → Im H' v (kD k) → partD (kD k) = true → Q v H'
theorem ok_part {f : Addr} {fd : FuncData} (F : Fun K "_law_part" "_law_part" s__law_part f fd) (T : TxtL K mg) (G__law_draw : Ca P w K mg base 2 "_law_draw" spDraw) : FnOk P w K mg base (L2.CX P w) 3 f fd ["box"] spPart := by
  refine F.okX sc__law_part (fun vs H Q E h => ?_) (fun cdv A outer s H vs Q E hr h => ?_)
  · obtain ⟨b, c, nd, rfl, _⟩ := h
    rfl
  · obtain ⟨b, c, nd, rfl, hB, k⟩ := h
    refine ⟨_, (pss_cons (ps_asg (pe_ca G__law_draw hr (by first | decide | omega) (by rfl) (pa_cons (pv 0) (pa_cons pe_int pa_nil))) (pg_name (i := 1) sc__law_part.nd rfl (Or.inl rfl))) (pss_cons (ps_if (pt_cmpR (opU_eq hr.units) (pv 1) pe_int (nomark _)) (pss_one (ps_ret (pe_ix ixU (pe_lst (pa_cons pe_str (pa_cons pe_str (pa_cons pe_str (pa_cons pe_str (pa_cons pe_str (pa_cons (pe_op opV_mul pe_str pe_int) pa_nil))))))) (pe_ca G__law_draw hr (by first | decide | omega) (by rfl) (pa_cons (pv 0) (pa_cons pe_int pa_nil))) (fun _ _ => rfl)))) pss_nil) (pss_cons (ps_if (pt_cmpR (opU_eq hr.units) (pv 1) pe_int (nomark _)) (pss_one (ps_ret (pe_ca G__law_draw hr (by first | decide | omega) (by rfl) (pa_cons (pv 0) (pa_cons pe_int pa_nil))))) pss_nil) (pss_one (ps_ret (pe_ix ixU (pe_lst (pa_cons pe_int (pa_cons pe_int (pa_cons pe_int (pa_cons (pe_ca G__law_draw hr (by first | decide | omega) (by rfl) (pa_cons (pv 0) (pa_cons pe_int pa_nil))) pa_nil))))) (pe_ca G__law_draw hr (by first | decide | omega) (by rfl) (pa_cons (pv 0) (pa_cons pe_int pa_nil))) (fun _ _ => rfl))))))), ?_⟩
    walk_at "rd"
    walk_at "ite"
    · walk_at "rd"
      have hi : i = 0 ∨ i = 1 ∨ i = 2 ∨ i = 3 ∨ i = 4 ∨ i = 5 := by omega
      rcases hi with rfl | rfl | rfl | rfl | rfl | rfl
      all_goals walk_at "rd"
      all_goals refine' k _ (.inr _) Hn ?_ ?_ (.str _ ?_) ?_
      all_goals first | decide +kernel | (walk_at "fr") | (walk_at "bx")
    · walk_at "rd"
      walk_at "ite"
      · walk_at "rd"
        exact k _ (.inl i) Hn (by walk_at "fr") (by walk_at "bx") (.int _) (by simp [partD, kD, numD, textD]; omega)
      · walk_at "rd"
        have hi : i = 0 ∨ i = 1 ∨ i = 2 ∨ i = 3 := by omega
        rcases hi with rfl | rfl | rfl | rfl
        all_goals walk_at "rd"
        all_goals refine' k _ (.inl _) Hn ?_ ?_ (.int _) ?_
        all_goals first | decide +kernel | (walk_at "fr") | (walk_at "bx") | (simp [partD, kD, numD, textD]; omega)
theorem use_part {H : Hp} {Q : VK} {E : XK} {b c : Addr} {nd : V} (h : Bx H b c nd) (q : ∀ v k H', Fr [b, c] H H' → Bx H' b c nd → Im H' v (kD k) → partD (kD k) = true → Q v H') : spPart [.ref b] H Q E := ⟨b, c, nd, rfl, h, q⟩
set_option hygiene false in
local macro_rules | `(tactic| walk_at "sp") => `(tactic| first
  | ((with_reducible refine' use_draw ?h1 ?h2 ?_); (case h1 => walk_at "bx"); (case h2 => walk_at "ar"); intro i Hn hnf hbx hi0 hi1)
  | ((with_reducible refine' use_load ?h1 ?_); (case h1 => walk_at "bx"); intro i Hn hnf hbx)
  | ((with_reducible refine' use_part ?h1 ?_); (case h1 => walk_at "bx"); intro v ky Hn hnf hbx him hpd))
def goodK (ks : List Key) : Prop := partsD (tupK ks) = true
theorem keys_tup (ks : List Key) : keysD (tupK ks) = ks := by
  show (ks.map kD).map keyD = ks
  rw [List.map_map]
  calc ks.map (keyD ∘ kD) = ks.map id := List.map_congr_left fun x _ => by cases x <;> rfl
  _ = ks := List.map_id ks
theorem good_of {ks : List Key} (h1 : 1 ≤ ks.length) (h2 : ks.length ≤ 16) (h : ∀ k ∈ ks, partD (kD k) = true) : goodK ks := by
  have : (ks.map kD).all partD = true := by
    rw [List.all_eq_true]
    intro x hx
    obtain ⟨k, hk, rfl⟩ := List.mem_map.mp hx
    exact h k hk
  simp only [goodK, partsD, tupK, List.length_map, this, Bool.and_true, Bool.and_eq_true, decide_eq_true_eq]
  exact ⟨h1, h2⟩
def spGive : Sp := fun vs H Q _ => ∃ (b c : Addr) (nd : V) (kn : Addr) (ys : List V) (ps : List (List Key)), vs = [.ref b, .ref kn] ∧ Bx H b c nd ∧ kn ≠ b ∧ kn ≠ c ∧ H kn = some (.lst ys) ∧ ImAll H ys (ps.map tupK) ∧ ps.length < 100000 ∧ (∀ ks ∈ ps, goodK ks) ∧
  ∀ a ks H', Fr [b, c] H H' → Bx H' b c nd → H' a = some (.tup (ks.map kV)) → Im H' (.ref a) (tupK ks) → goodK ks → Q (.ref a) H'
theorem yes_of {te : TE} {σ : L2.St} {H : Hp} {R : VK} (h : te σ H R) : tYes σ H fun b H3 => if b = true then te σ H3 R else False := by
  show (if true = true then te σ H R else False)
  simpa using h
theorem lc_parts {H1 : Hp} {b c : Addr} {x y z : Option V} {nd' : V} {n : Nat} {Q' : VK} (hn : n ≤ 16) (hB : Bx H1 b c nd')
    (hq : ∀ D acc (ks : List Key) H2, H1 D = none → H2 D = some (.lst acc) → ImAll H2 acc (ks.map kD) → ks.length = n → (∀ k ∈ ks, partD (kD k) = true) → Fr [b, c] H1 H2 → Bx H2 b c nd' → Q' (.ref D) H2) :
    kLc (gName 3) tYes (tCa spPart E0 (tCons (tVar 0) tNil)) [3] [some (.ref b), x, y, z] Q' (Itr 0 n) H1 := by
  refine kLc_range (fun D i acc H => ∃ ks : List Key, ImAll H acc (ks.map kD) ∧ ks.length = i ∧ (∀ k ∈ ks, partD (kD k) = true) ∧ Fr [b, c] H1 H ∧ Bx H b c nd' ∧ D ≠ b ∧ D ≠ c) (fun D H2 hD h2 hf => ?_) (fun D i acc H R hD hi ha hI kk => ?_) (fun D acc H hD ha hI => ?_) (fun x σ2 H2 R R' h q => h _ _ q) (fun σ2 H2 R R' h q => h _ _ q)
  · exact ⟨[], .nil, rfl, fun _ z => absurd z (by simp), hf.wide (by simp), hB.go hf (by simp) (by simp), Bx.nb hD hB, Bx.nc hD hB⟩
  · obtain ⟨ks, hks, hl, hp, hf, hbx0, nb, nc⟩ := hI
    refine ⟨by rfl, ?_⟩
    refine yes_of (te := tCa spPart E0 (tCons (tVar 0) tNil)) ?_
    walk_at "rd"
    have hal : acc.length < sizeLine := by rw [hks.length, List.length_map, sizeLine_eq]; omega
    have hd : Hn D = some (.lst acc) := hnf.lst ha rfl (by simp [nb, nc])
    refine kk v Hn hd hal fun H5 h5 f5 => ⟨ks ++ [ky], ?_, by simp [hl], ?_, ?_, ?_, nb, nc⟩
    · rw [List.map_append]
      exact ((hks.go hnf).go f5).snoc (him.go f5)
    · intro k hk
      rcases List.mem_append.mp hk with z | z
      · exact hp k z
      · simp at z
        rw [z]
        exact hpd
    · exact (hf.snoc hnf fun _ z => .inl z).snoc f5 fun a z => .inr (by simp at z; rw [z]; exact hD)
    · exact hbx.go f5 (by simp [Ne.symm nb]) (by simp [Ne.symm nc])
  · obtain ⟨ks, hks, hl, hp, hf, hbx, nb, nc⟩ := hI
    exact hq D acc ks H hD ha hks hl hp hf hbx
theorem ok_parts {f : Addr} {fd : FuncData} (F : Fun K "_law_parts" "_law_parts" s__law_parts f fd) (T : TxtL K mg) (G__law_draw : Ca P w K mg base 2 "_law_draw" spDraw) (G__law_part : Ca P w K mg base 3 "_law_part" spPart) : FnOk P w K mg base (L2.CX P w) 4 f fd ["box", "known"] spGive := by
  refine F.okX sc__law_parts (fun vs H Q E h => ?_) (fun cdv A outer s H vs Q E hr h => ?_)
  · obtain ⟨b, c, nd, kn, ys, ps, rfl, _⟩ := h
    rfl
  · obtain ⟨b, c, nd, kn, ys, ps, rfl, hB, n1, n2, hk, hys, hlen, hgood, k⟩ := h
    have hyl : ys.length = ps.length := by rw [hys.length, List.length_map]
    refine ⟨_, (pss_cons (ps_if (PW.pt (pw_and (pt_cmpR opU_gt (pe_callB lenU (by rfl) T.b_len PySem.boot_len (pa_cons (pv 1) pa_nil)) pe_int (nomark _)) (pw_and1 (pt_cmpR (opU_eq hr.units) (pe_ca G__law_draw hr (by first | decide | omega) (by rfl) (pa_cons (pv 0) (pa_cons pe_int pa_nil))) pe_int (nomark _))))) (pss_one (ps_ret (pe_ix ixU (pv 1) (pe_ca G__law_draw hr (by first | decide | omega) (by rfl) (pa_cons (pv 0) (pa_cons (pe_callB lenU (by rfl) T.b_len PySem.boot_len (pa_cons (pv 1) pa_nil)) pa_nil))) (fun _ _ => rfl)))) pss_nil) (pss_cons (ps_asg (pe_ix ixU (pe_lst (pa_cons pe_int (pa_cons pe_int (pa_cons pe_int (pa_cons pe_int (pa_cons pe_int (pa_cons pe_int pa_nil))))))) (pe_ca G__law_draw hr (by first | decide | omega) (by rfl) (pa_cons (pv 0) (pa_cons pe_int pa_nil))) (fun _ _ => rfl)) (pg_name (i := 2) sc__law_parts.nd rfl (Or.inl rfl))) (pss_one (ps_ret (pe_callTy tupleU (by rfl) T.b_tuple (by decide +kernel) (pa_cons (pe_lc (own := [("k", 3)]) (by rfl) sc__law_parts.nd (pi_range1 (by rfl) T.b_range (pa_cons (pv 2) pa_nil)) (blkOk_by (own := [("k", 3)]) (N := N__law_parts) (sc := defScope s__law_parts) (by decide +kernel)) (fun _ _ _ _ _ => (pg_name (i := 3) sc__law_parts.nd rfl (Or.inl rfl))) (fun _ _ _ _ _ => pts_nil) (fun _ _ _ _ _ => (pe_ca G__law_part hr (by first | decide | omega) (by rfl) (pa_cons (pv 0) pa_nil)))) pa_nil)))))), ?_⟩
    walk_at "rd"
    have tail : ∀ (H1 H2 : Hp) (D : Addr) (acc : List V) (ks : List Key), Fr [b, c] H H1 → H1 D = none → H2 D = some (.lst acc) → ImAll H2 acc (ks.map kD) → 1 ≤ ks.length → ks.length ≤ 16 → (∀ k ∈ ks, partD (kD k) = true) → Fr [b, c] H1 H2 → Bx H2 b c nd → rTupleU K [.ref D] H2 Q := by
      intro H1 H2 D acc ks f1 hD ha hks l1 l2 hp f2 hbx
      refine' rd_tupL (.of ha) ?_
      intro p H3 hp0 hp1 hf
      have f3 : Fr [b, c] H H3 := (f1.snoc f2 fun _ z => .inl z).snoc hf sub_nil
      rw [hks.keys] at hp1
      refine k p ks H3 f3 (hbx.go hf (by simp) (by simp)) hp1 (.tup hp1 ?_) (good_of l1 l2 hp)
      rw [← hks.keys]
      exact hks.go hf
    walk_at "ite"
    · walk_at "rd"
      walk_at "ite"
      · walk_at "rd"
        have hi : i = (i.toNat : Nat) := by omega
        have hj : i.toNat < ps.length := by omega
        generalize i.toNat = j at hi hj
        have hi' := hi
        subst hi
        obtain ⟨v, ev, hv⟩ := (hys.go (show Fr [b, c] H Hn by walk_at "fr")).getD (i := j) (d := tupK ps[j]) (by simp [hj])
        obtain ⟨a, rfl, ha⟩ := hv.tupK
        have hat : atI ys ((j : Nat) : Int) = some (.ref a) := atI_nat ev
        walk_at "rd"
        exact k a ps[j] Hn (by walk_at "fr") hbx ha hv (hgood _ (by simp))
      · walk_at "rd"
        have hi : i = 0 ∨ i = 1 ∨ i = 2 ∨ i = 3 ∨ i = 4 ∨ i = 5 := by omega
        rcases hi with rfl | rfl | rfl | rfl | rfl | rfl
        all_goals walk_at "rd"
        all_goals refine lc_parts (by decide) hbx fun D acc ks H2 hD h2 hks hl hp hf hb2 => tail _ H2 D acc ks (by walk_at "fr") hD h2 hks (by rw [hl]; decide) (by rw [hl]; decide) hp hf hb2
    · walk_at "rd"
      have hi : i = 0 ∨ i = 1 ∨ i = 2 ∨ i = 3 ∨ i = 4 ∨ i = 5 := by omega
      rcases hi with rfl | rfl | rfl | rfl | rfl | rfl
      all_goals walk_at "rd"
      all_goals refine lc_parts (by decide) hbx fun D acc ks H2 hD h2 hks hl hp hf hb2 => tail _ H2 D acc ks (by walk_at "fr") hD h2 hks (by rw [hl]; decide) (by rw [hl]; decide) hp hf hb2
end
end Ow

set_option Elab.async false
set_option linter.all false
set_option maxRecDepth 100000
set_option maxHeartbeats 4000000
namespace Ow
open PySem PySem.Spec PyProof.Rows L2 GxR
/-! ### the walk, in words of this file -/
local macro_rules | `(tactic| walk_at "nin") => `(tactic| first | exact List.not_mem_nil | assumption | (simp only [List.mem_cons, List.mem_singleton, List.not_mem_nil, or_false, not_or]; (repeat' constructor) <;> walk_at "ne"))
local macro_rules | `(tactic| walk_at "ne") => `(tactic| first | assumption | (apply Ne.symm; assumption) | (apply ne_of_none; (walk_at "hp"); assumption) | (apply Ne.symm; apply ne_of_none; (walk_at "hp"); assumption) | (apply ne_of; (walk_at "hp"); (walk_at "hp"); (intro hz; cases hz; done)))
local macro_rules | `(tactic| walk_at "hp") => `(tactic| first | assumption | (apply Fr.lst; assumption; (walk_at "hp"); (exact rfl); (walk_at "nin")))
local macro_rules | `(tactic| walk_at "sqL") => `(tactic| first | assumption | (apply SqL.of; walk_at "hp") | (apply Fr.seqL; assumption; (walk_at "nin"); (walk_at "sqL")))
local macro_rules | `(tactic| walk_at "sqT") => `(tactic| first | assumption | (apply SqT.of; walk_at "hp") | (apply Fr.seqT; assumption; walk_at "sqT"))
local macro_rules | `(tactic| walk_at "ht") => `(tactic| first | assumption | (apply Fr.tup; assumption; walk_at "ht"))
local macro_rules | `(tactic| walk_at "im") => `(tactic| first | assumption | exact Im.int _ | exact Im.str _ (by first | assumption | decide | omega) | exact Im.bl _ | exact Im.non | (apply Im.tup; (walk_at "ht"); (walk_at "ima")) | (apply Im.go; rotate_left; assumption; walk_at "im"))
local macro_rules | `(tactic| walk_at "ima") => `(tactic| first | assumption | exact ImAll.nil | (apply ImAll.cons; (walk_at "im"); (walk_at "ima")) | (apply ImAll.go; rotate_left; assumption; walk_at "ima"))
local macro_rules | `(tactic| walk_at "fr") => `(tactic| first | assumption | exact Fr.refl | (apply Fr.snoc; rotate_left; assumption; (walk_at "sub"); (walk_at "fr")))
local macro_rules | `(tactic| walk_at "sub") => `(tactic| first | exact sub_nil | exact fun _ hz => Or.inl hz | assumption | (apply sub_cons; (first | (left; assumption) | (left; simp; done) | (right; walk_at "fre")); (walk_at "sub")))
local macro_rules | `(tactic| walk_at "fre") => `(tactic| first | assumption | (apply Fr.free; assumption; walk_at "fre"))
local macro_rules | `(tactic| walk_at "len") => `(tactic| first | decide | (simp only [List.length_cons, List.length_nil]; decide) | exact Nat.le_trans (by assumption) (by decide) | exact Nat.lt_of_le_of_lt (by assumption) (by decide) | (show _ ≤ sizeLine; decide) | omega)
local macro_rules | `(tactic| walk_at "ar") => `(tactic| first | assumption | (apply cdivW_of <;> omega) | omega | decide | (constructor <;> first | omega | decide) | (left; constructor <;> first | omega | decide) | (right; constructor <;> first | omega | decide))
local macro_rules | `(tactic| walk_at "lk") => `(tactic| first | rfl | assumption)
set_option hygiene false in
local macro_rules | `(tactic| walk_at "rd1") => `(tactic| first
  | with_reducible refine rd_var rfl ?_
  | with_reducible refine rd_c ?_
  | with_reducible refine rd_op ?_
  | with_reducible refine rd_seq ?_
  | with_reducible refine rd_asg ?_
  | with_reducible refine rd_name ?_
  | with_reducible refine rd_cons ?_
  | with_reducible refine rd_nil ?_
  | with_reducible refine rd_k ?_
  | with_reducible refine rd_test ?_
  | with_reducible refine rd_tB ?_
  | with_reducible refine rd_ifS ?_
  | with_reducible refine rd_iteT ?_
  | with_reducible refine rd_iteF ?_
  | with_reducible refine rd_addI ?_
  | with_reducible refine rd_I0 ?_
  | with_reducible refine rd_leI ?_
  | with_reducible refine rd_leS ?_
  | with_reducible refine rd_ltI ?_
  | with_reducible refine rd_geI ?_
  | with_reducible refine rd_gtI ?_
  | with_reducible refine rd_eqI ?_
  | with_reducible refine rd_eqS ?_
  | with_reducible refine rd_eqB ?_
  | with_reducible refine rd_neI ?_
  | with_reducible refine rd_neS ?_
  | with_reducible refine rd_ret ?_
  | with_reducible refine rd_retN ?_
  | with_reducible refine rd_drop ?_
  | with_reducible refine rd_next ?_
  | with_reducible refine rd_ca ?_
  | with_reducible refine rd_cb ?_
  | with_reducible refine rd_me ?_
  | ((with_reducible refine' rd_me2 ?h1 ?h2 ?_); (case h1 => walk_at "hp"); (case h2 => walk_at "lk"))
  | with_reducible refine rd_ma ?_
  | with_reducible refine rd_meS ?_
  | with_reducible refine rd_caS ?_
  | with_reducible refine rd_chain ?_
  | with_reducible refine rd_andV ?_
  | with_reducible refine rd_orV ?_
  | with_reducible refine rd_notV ?_
  | with_reducible refine rd_not ?_
  | with_reducible refine rd_nof ?_
  | with_reducible refine rd_if ?_
  | with_reducible refine rd_tand ?_
  | with_reducible refine rd_tor ?_
  | with_reducible refine rd_tnot ?_
  | ((with_reducible refine' rd_isi (b := true) ?h1 ?h2 ?_); (case h1 => walk_at "im"); (case h2 => rfl))
  | ((with_reducible refine' rd_isi (b := false) ?h1 ?h2 ?_); (case h1 => walk_at "im"); (case h2 => rfl))
  | with_reducible refine rd_int ?_
  | with_reducible refine rd_fld ?_
  | ((with_reducible refine' rd_fld2 ?h1 ?h2 ?h3 ?h4 ?_); (case h1 => walk_at "hp"); (case h2 => walk_at "cls"); (case h3 => walk_at "nat"); (case h4 => walk_at "lk"))
  | with_reducible refine rd_bm ?_
  | with_reducible refine rd_bm0 ?_
  | ((with_reducible refine' rd_tyL ?h1 ?_); (case h1 => walk_at "sqL"))
  | ((with_reducible refine' rd_ixL ?h1 ?h2 ?_); (case h1 => walk_at "sqL"); (case h2 => walk_at "atI"))
  | ((with_reducible refine' rd_ixT ?h1 ?h2 ?_); (case h1 => walk_at "sqT"); (case h2 => walk_at "atI"))
  | ((with_reducible refine' rd_lenS ?h1 ?_); (case h1 => walk_at "len"))
  | ((with_reducible refine' rd_lenL ?h1 ?_); (case h1 => walk_at "sqL"))
  | ((with_reducible refine' rd_lenT ?h1 ?_); (case h1 => walk_at "sqT"))
  | ((with_reducible refine' rv_mulI ?h1 ?_); (case h1 => walk_at "ar"))
  | ((with_reducible refine' rv_mulS ?h1 ?_); (case h1 => decide))
  | ((with_reducible refine' rv_mulT ?h1 ?h2 ?_); (case h1 => walk_at "sqT"); (case h2 => (refine ⟨by simp, by decide, by decide, by simp⟩)); intro p Hn hn0 hn1 hnf)
  | with_reducible refine rd_nn ?_
  | with_reducible refine rd_for ?_
  | with_reducible refine rd_lc ?_
  | with_reducible refine rd_rng1 ?_
  | ((with_reducible refine' rd_rng1b ?h1 ?_); (case h1 => walk_at "ar"))
  | with_reducible refine rd_subI ?_
  | ((with_reducible refine' rd_I ?h1 ?_); (case h1 => walk_at "ar"))
  | with_reducible refine rd_un ?_
  | with_reducible refine rd_neg ?_
  | with_reducible refine rd_gsub ?_
  | with_reducible refine rd_tup ?_
  | with_reducible refine rd_lst ?_
  | ((with_reducible refine' rd_dT ?_); intro p Hn hn0 hn1 hnf)
  | ((with_reducible refine' rd_kMa ?_); intro p dx Hn hn0 hn2 hn1 hnf)
  | with_reducible refine rd_allG ?_
  | with_reducible refine rd_iStr ?_
  | with_reducible refine rd_iStr2 ?_
  | with_reducible refine rd_iTup ?_
  | ((with_reducible refine' rd_iTup2 ?h1 ?_); (case h1 => walk_at "sqT"))
  | ((with_reducible refine' rd_kTup ?h1 ?_); (case h1 => walk_at "len"); intro p Hn hn0 hn1 hnf)
  | ((with_reducible refine' rd_kLst ?h1 ?_); (case h1 => walk_at "len"); intro p Hn hn0 hn1 hnf)
  | ((with_reducible refine' rd_listL ?h1 ?_); (case h1 => walk_at "sqL"); intro p Hn hn0 hn1 hnf)
  | ((with_reducible refine' rd_listT ?h1 ?_); (case h1 => walk_at "sqT"); intro p Hn hn0 hn1 hnf)
  | ((with_reducible refine' rd_tupL ?h1 ?_); (case h1 => walk_at "sqL"); intro p Hn hn0 hn1 hnf)
  | ((with_reducible refine' rd_app ?h1 ?h2 ?_); (case h1 => walk_at "hp"); (case h2 => walk_at "len"); intro Hn hn1 hnf)
  | ((with_reducible refine' rd_pop0 ?h1 ?_); (case h1 => walk_at "hp"); intro Hn hn1 hnf)
  | ((with_reducible refine' rd_setL ?h1 ?h2 ?_); (case h1 => walk_at "hp"); (case h2 => walk_at "ixN"); intro Hn hn1 hnf)
  | with_reducible refine rd_sfld ?_
  | ((with_reducible refine' rd_sfld2 ?h1 ?h2 ?h3 ?h4 ?_); (case h1 => walk_at "hp"); (case h2 => walk_at "cls"); (case h3 => walk_at "nat"); (case h4 => walk_at "lf"); intro Hn hn1 hnf)
  | with_reducible refine rd_sfaug ?_
  | ((with_reducible refine' rd_sfaug2 ?h1 ?h2 ?h3 ?h4 ?_); (case h1 => walk_at "hp"); (case h2 => walk_at "cls"); (case h3 => walk_at "nat"); (case h4 => walk_at "lk"))
  | with_reducible refine rd_inadd ?_
  | ((with_reducible refine' rd_sfaug3 ?h1 ?h2 ?_); (case h1 => walk_at "hp"); (case h2 => walk_at "lf"); intro Hn hn1 hnf)
  | walk_at "sp")
local macro_rules | `(tactic| walk_at "tab") => `(tactic| first | assumption | (apply Fr.tab; assumption; walk_at "tab"))
local macro_rules | `(tactic| walk_at "lf") => `(tactic| first | decide | exact Nat.le_of_ble_eq_true (by rfl) | (simp; done))
local macro_rules | `(tactic| walk_at "atI") => `(tactic| first | rfl | assumption)
local macro_rules | `(tactic| walk_at "ixN") => `(tactic| first | rfl | assumption)
local macro_rules | `(tactic| walk_at "rd") => `(tactic| repeat (walk_at "rd1"))
set_option hygiene false in
local macro_rules | `(tactic| walk_at "ite") => `(tactic| first
  | with_reducible refine rd_ite (fun hc => ?_) (fun hc => ?_)
  | with_reducible refine rd_iteN (fun hc => ?_) (fun hc => ?_)
  | with_reducible refine rd_iteNB (fun hc => ?_) (fun hc => ?_)
  | with_reducible refine rd_iteB (fun hc => ?_) (fun hc => ?_))

local macro_rules | `(tactic| walk_at "cls") => `(tactic| assumption)
local macro_rules | `(tactic| walk_at "nat") => `(tactic| assumption)

local macro_rules | `(tactic| walk_at "bx") => `(tactic| first | assumption | (apply Bx.fr; assumption; (walk_at "bx"); (walk_at "nin"); (walk_at "nin")))
local macro_rules | `(tactic| walk_at "ne") => `(tactic| first | assumption | (apply Ne.symm; assumption) | (apply Bx.nb; assumption; (walk_at "bx"); done) | (apply Bx.nc; assumption; (walk_at "bx"); done) | (apply Ne.symm; apply Bx.nb; assumption; (walk_at "bx"); done) | (apply Ne.symm; apply Bx.nc; assumption; (walk_at "bx"); done) | (apply ne_non; assumption; (walk_at "hp"); done) | (apply Ne.symm; apply ne_non; assumption; (walk_at "hp"); done))
set_option hygiene false in
local macro_rules | `(tactic| walk_at "sp") => `(tactic| first
  | ((with_reducible refine' use_draw ?h1 ?h2 ?_); (case h1 => walk_at "bx"); (case h2 => walk_at "ar"); intro i Hn hnf hbx hi0 hi1)
  | ((with_reducible refine' use_load ?h1 ?_); (case h1 => walk_at "bx"); intro i Hn hnf hbx)
  | ((with_reducible refine' use_part ?h1 ?_); (case h1 => walk_at "bx"); intro v ky Hn hnf hbx him hpd))

section
variable {P : Program} {w : World} {K : PySem.W.Frag} {mg : Str → Option Value} {base : Heap} {C Cb Cw Pp Pt : Addr}
def spWrong : Sp := fun vs H Q _ => ∃ b c nd, vs = [.ref b] ∧ Bx H b c nd ∧ ∀ v d H', Fr [b, c] H H' → Bx H' b c nd → Im H' v d → partsD d = false → Q v H'
theorem ok_wrong {f : Addr} {fd : FuncData} (F : Fun K "_law_wrong" "_law_wrong" s__law_wrong f fd) (T : TxtL K mg) (G__law_draw : Ca P w K mg base 2 "_law_draw" spDraw) : FnOk P w K mg base (L2.CX P w) 3 f fd ["box"] spWrong := by
  refine F.okX sc__law_wrong (fun vs H Q E h => ?_) (fun cdv A outer s H vs Q E hr h => ?_)
  · obtain ⟨b, c, nd, rfl, _⟩ := h
    rfl
  · obtain ⟨b, c, nd, rfl, hB, k⟩ := h
    refine ⟨_, (pss_one (ps_ret (pe_ix ixU (pe_lst (pa_cons (pe_tup pa_nil) (pa_cons (pe_op opV_mul (pe_tup (pa_cons pe_int pa_nil)) pe_int) (pa_cons (pe_tup (pa_cons (pe_un un_neg pe_int) pa_nil)) (pa_cons (pe_tup (pa_cons pe_int pa_nil)) (pa_cons (pe_tup (pa_cons (pe_op opV_mul pe_str pe_int) pa_nil)) (pa_cons (pe_tup (pa_cons pe_str pa_nil)) (pa_cons (pe_tup (pa_cons pe_int (pa_cons (pe_tup (pa_cons pe_str pa_nil)) pa_nil))) (pa_cons (pe_tup (pa_cons pe_non pa_nil)) pa_nil))))))))) (pe_ca G__law_draw hr (by first | decide | omega) (by rfl) (pa_cons (pv 0) (pa_cons pe_int pa_nil))) (fun _ _ => rfl)))), ?_⟩
    walk_at "rd"
    have hi : i = 0 ∨ i = 1 ∨ i = 2 ∨ i = 3 ∨ i = 4 ∨ i = 5 ∨ i = 6 ∨ i = 7 := by omega
    rcases hi with rfl | rfl | rfl | rfl | rfl | rfl | rfl | rfl
    all_goals walk_at "rd"
    · refine' k _ (.tup []) Hn ?_ ?_ ?_ (by decide +kernel)
      all_goals first | (walk_at "fr"; done) | (walk_at "bx"; done) | (walk_at "im"; done)
    · refine' k _ (.tup ((List.replicate 17 (1 : Int)).map D.int)) Hn ?_ ?_ (Im.tup (xs := (List.replicate 17 (1 : Int)).map V.int) ?_ (ImAll.ints _)) (by decide +kernel)
      all_goals first | (walk_at "fr"; done) | (walk_at "bx"; done) | (walk_at "ht"; done)
    · refine' k _ (.tup [.int (-1)]) Hn ?_ ?_ ?_ (by decide +kernel)
      all_goals first | (walk_at "fr"; done) | (walk_at "bx"; done) | (walk_at "im"; done)
    · refine' k _ (.tup [.int 281474976710657]) Hn ?_ ?_ ?_ (by decide +kernel)
      all_goals first | (walk_at "fr"; done) | (walk_at "bx"; done) | (walk_at "im"; done)
    · refine' k _ (.tup [.str (repS "y" 25)]) Hn ?_ ?_ ?_ (by decide +kernel)
      all_goals first | (walk_at "fr"; done) | (walk_at "bx"; done) | (walk_at "im"; done)
    · refine' k _ (.tup [.str "a\n"]) Hn ?_ ?_ ?_ (by decide +kernel)
      all_goals first | (walk_at "fr"; done) | (walk_at "bx"; done) | (walk_at "im"; done)
    · refine' k _ (.tup [.int 1, .tup [.str "a"]]) Hn ?_ ?_ ?_ (by decide +kernel)
      all_goals first | (walk_at "fr"; done) | (walk_at "bx"; done) | (walk_at "im"; done)
    · refine' k _ (.tup [.non]) Hn ?_ ?_ ?_ (by decide +kernel)
      all_goals first | (walk_at "fr"; done) | (walk_at "bx"; done) | (walk_at "im"; done)
structure TxtR (K : PySem.W.Frag) (mg : Str → Option Value) (Cb Cw : Addr) : Prop where
  b_isinstance : mg "isinstance" = none
  b_ValueError : mg "ValueError" = none
  m_BadParts : mg "BadParts" = some (.ref Cb)
  g_WatchError : ∃ u, mg "WatchError" = some u ∧ RelV (.ref Cw) u
  exm : PySem.W.exmOne K (.ref Cb) (.ref Cb) = some true
  exc : ExcC K Cb
  k1 : PySem.W.kitOne K (.ref Cb) (.ref Cw) = some true
  k2 : PySem.W.kitOne K (.ref Cb) (.type "ValueError") = some true
def rIsA (K : PySem.W.Frag) (cls : Value) (d : Option Addr) (a : Addr) : List V → Hp → VK → Prop := fun xs H Q => ∃ D, cls = .ref D ∧ d = none ∧ ExcC K D ∧ rIsE K D a xs H Q
theorem call_isA {X : Cx} {a : Addr} {oe : Obj} {cls : Value} {d : Option Addr} {pn : List (Addr × Obj)} (hz : Zc cls d oe) (hf : ∃ vs, oe.data = .fields vs) : CallR (X.suite a ((a, oe) :: pn)) (.builtin "isinstance") (rIsA X.K cls d a) := by
  intro pins s σ H xs us Q I r h
  obtain ⟨D, rfl, rfl, C, h⟩ := h
  exact call_isE C hz hf pins s σ H xs us Q I r h
def spRefused (C Cb Pp Pt : Addr) : Sp := fun vs H Q _ => ∃ a d l ps n v x, vs = [.ref a, v] ∧ No C H a d l ps n ∧ Im H v x ∧ TabG H Pp ∧ TabG H Pt ∧ ps.length < 99999 ∧ partsD x = false ∧ ∀ H', Fr [] H H' → Q (.bl true) H'
theorem use_seal {H : Hp} {Q : VK} {E : XK} {a d l : Addr} {ps : List (List Key)} {n : Int} {v : V} {x : D} (h : No C H a d l ps n) (hi : Im H v x) (hp : TabG H Pp) (ht : TabG H Pt) (hl : ps.length < 99999)
    (k1 : partsD x = true → ∀ H', Fr [a, d, l] H H' → No C H' a d l (newPs ps (keysD x)) n → Q (.int (dueD (newPs ps (keysD x)) x)) H') (k2 : partsD x = false → ∀ H', Fr [] H H' → E (.ref Cb) none H') : spSeal C Cb Pp Pt [.ref a, v] H Q E :=
  ⟨a, d, l, ps, n, v, x, rfl, h, hi, hp, ht, hl, k1, k2⟩
theorem ok_refused {f : Addr} {fd : FuncData} (F : Fun K "_law_refused" "_law_refused" s__law_refused f fd) (T : TxtR K mg Cb Cw) (G_Notary_seal : Me P w K mg base 6 C "seal" (spSeal C Cb Pp Pt)) : FnOk P w K mg base (L2.CX P w) 7 f fd ["notary", "parts"] (spRefused C Cb Pp Pt) := by
  refine F.okX sc__law_refused (fun vs H Q E h => ?_) (fun cdv A outer s H vs Q E hr h => ?_)
  · obtain ⟨a, d, l, ps, n, v, x, rfl, _⟩ := h
    rfl
  · obtain ⟨a, d, l, ps, n, v, x, rfl, hN, hi, hp, ht, hl, hx, k⟩ := h
    obtain ⟨dx, hA⟩ := hN.there
    refine ⟨_, (pss_cons (ps_try_as (i := 2) rfl rfl sc__law_refused.nd rfl rfl ⟨rfl, by decide, .inl T.m_BadParts⟩ takes0 (fun W pn xe tk _ => (pss_one (ps_expr (pe_meS G_Notary_seal hr (by first | decide | omega) (pv 0) (fun σ => passAt tk σ) (pa_cons (pv 1) pa_nil))))) (fun a oe cls d pn hz hf => (pss_one (ps_ret (pe_and (pe_callB (call_isA hz hf) (by rfl) T.b_isinstance (by decide +kernel) (pa_cons (pv 2) (pa_cons (pe_gi (by rfl) T.g_WatchError) pa_nil))) (pe_one (pe_callB (call_isA hz hf) (by rfl) T.b_isinstance (by decide +kernel) (pa_cons (pv 2) (pa_cons (pe_bltn (by rfl) T.b_ValueError (by decide +kernel) (show RelV (.ty "ValueError") _ from rfl)) pa_nil))))))))) (pss_one (ps_ret pe_bl))), ?_⟩
    walk_at "rd"
    refine' use_seal hN hi hp ht hl (fun z => absurd z (by rw [hx]; decide)) fun _ H1 f1 => ?_
    refine ⟨true, T.exm, fun _ e he => ?_, fun z => absurd z (by decide)⟩
    walk_at "rd"
    refine ⟨Cb, rfl, rfl, T.exc, .ref Cw, .ref Cw, true, rfl, fun u z => z, T.k1, ?_⟩
    walk_at "rd"
    refine ⟨Cb, rfl, rfl, T.exc, .ty "ValueError", .type "ValueError", true, rfl, fun u z => z, T.k2, ?_⟩
    exact k H1 f1
end
end Ow

set_option Elab.async false
set_option linter.all false
set_option maxRecDepth 100000
set_option maxHeartbeats 4000000
namespace Ow
open PySem PySem.Spec PyProof.Rows L2 GxR
/-! ### the walk, in words of this file -/
local macro_rules | `(tactic| walk_at "nin") => `(tactic| first | exact List.not_mem_nil | assumption | (simp only [List.mem_cons, List.mem_singleton, List.not_mem_nil, or_false, not_or]; (repeat' constructor) <;> walk_at "ne"))
local macro_rules | `(tactic| walk_at "ne") => `(tactic| first | assumption | (apply Ne.symm; assumption) | (apply ne_of_none; (walk_at "hp"); assumption) | (apply Ne.symm; apply ne_of_none; (walk_at "hp"); assumption) | (apply ne_of; (walk_at "hp"); (walk_at "hp"); (intro hz; cases hz; done)))
local macro_rules | `(tactic| walk_at "hp") => `(tactic| first | assumption | (apply Fr.lst; assumption; (walk_at "hp"); (exact rfl); (walk_at "nin")))
local macro_rules | `(tactic| walk_at "sqL") => `(tactic| first | assumption | (apply SqL.of; walk_at "hp") | (apply Fr.seqL; assumption; (walk_at "nin"); (walk_at "sqL")))
local macro_rules | `(tactic| walk_at "sqT") => `(tactic| first | assumption | (apply SqT.of; walk_at "hp") | (apply Fr.seqT; assumption; walk_at "sqT"))
local macro_rules | `(tactic| walk_at "ht") => `(tactic| first | assumption | (apply Fr.tup; assumption; walk_at "ht"))
local macro_rules | `(tactic| walk_at "im") => `(tactic| first | assumption | exact Im.int _ | exact Im.str _ (by first | assumption | decide | omega) | exact Im.bl _ | exact Im.non | (apply Im.tup; (walk_at "ht"); (walk_at "ima")) | (apply Im.go; rotate_left; assumption; walk_at "im"))
local macro_rules | `(tactic| walk_at "ima") => `(tactic| first | assumption | exact ImAll.nil | (apply ImAll.cons; (walk_at "im"); (walk_at "ima")) | (apply ImAll.go; rotate_left; assumption; walk_at "ima"))
local macro_rules | `(tactic| walk_at "fr") => `(tactic| first | assumption | exact Fr.refl | (apply Fr.snoc; rotate_left; assumption; (walk_at "sub"); (walk_at "fr")))
local macro_rules | `(tactic| walk_at "sub") => `(tactic| first | exact sub_nil | exact fun _ hz => Or.inl hz | assumption | (apply sub_cons; (first | (left; assumption) | (left; simp; done) | (right; walk_at "fre")); (walk_at "sub")))
local macro_rules | `(tactic| walk_at "fre") => `(tactic| first | assumption | (apply Fr.free; assumption; walk_at "fre"))
local macro_rules | `(tactic| walk_at "len") => `(tactic| first | decide | (simp only [List.length_cons, List.length_nil]; decide) | exact Nat.le_trans (by assumption) (by decide) | exact Nat.lt_of_le_of_lt (by assumption) (by decide) | (show _ ≤ sizeLine; decide) | omega)
local macro_rules | `(tactic| walk_at "ar") => `(tactic| first | assumption | (apply cdivW_of <;> omega) | omega | decide | (constructor <;> first | omega | decide) | (left; constructor <;> first | omega | decide) | (right; constructor <;> first | omega | decide))
local macro_rules | `(tactic| walk_at "lk") => `(tactic| first | rfl | assumption)
set_option hygiene false in
local macro_rules | `(tactic| walk_at "rd1") => `(tactic| first
  | with_reducible refine rd_var rfl ?_
  | with_reducible refine rd_c ?_
  | with_reducible refine rd_op ?_
  | with_reducible refine rd_seq ?_
  | with_reducible refine rd_asg ?_
  | with_reducible refine rd_name ?_
  | with_reducible refine rd_cons ?_
  | with_reducible refine rd_nil ?_
  | with_reducible refine rd_k ?_
  | with_reducible refine rd_test ?_
  | with_reducible refine rd_tB ?_
  | with_reducible refine rd_ifS ?_
  | with_reducible refine rd_iteT ?_
  | with_reducible refine rd_iteF ?_
  | with_reducible refine rd_addI ?_
  | with_reducible refine rd_I0 ?_
  | with_reducible refine rd_leI ?_
  | with_reducible refine rd_leS ?_
  | with_reducible refine rd_ltI ?_
  | with_reducible refine rd_geI ?_
  | with_reducible refine rd_gtI ?_
  | with_reducible refine rd_eqI ?_
  | with_reducible refine rd_eqS ?_
  | with_reducible refine rd_eqB ?_
  | with_reducible refine rd_neI ?_
  | with_reducible refine rd_neS ?_
  | with_reducible refine rd_ret ?_
  | with_reducible refine rd_retN ?_
  | with_reducible refine rd_drop ?_
  | with_reducible refine rd_next ?_
  | with_reducible refine rd_ca ?_
  | with_reducible refine rd_cb ?_
  | with_reducible refine rd_me ?_
  | ((with_reducible refine' rd_me2 ?h1 ?h2 ?_); (case h1 => walk_at "hp"); (case h2 => walk_at "lk"))
  | with_reducible refine rd_ma ?_
  | with_reducible refine rd_meS ?_
  | with_reducible refine rd_caS ?_
  | with_reducible refine rd_chain ?_
  | with_reducible refine rd_andV ?_
  | with_reducible refine rd_orV ?_
  | with_reducible refine rd_notV ?_
  | with_reducible refine rd_not ?_
  | with_reducible refine rd_nof ?_
  | with_reducible refine rd_if ?_
  | with_reducible refine rd_tand ?_
  | with_reducible refine rd_tor ?_
  | with_reducible refine rd_tnot ?_
  | ((with_reducible refine' rd_isi (b := true) ?h1 ?h2 ?_); (case h1 => walk_at "im"); (case h2 => rfl))
  | ((with_reducible refine' rd_isi (b := false) ?h1 ?h2 ?_); (case h1 => walk_at "im"); (case h2 => rfl))
  | with_reducible refine rd_int ?_
  | with_reducible refine rd_fld ?_
  | ((with_reducible refine' rd_fld2 ?h1 ?h2 ?h3 ?h4 ?_); (case h1 => walk_at "hp"); (case h2 => walk_at "cls"); (case h3 => walk_at "nat"); (case h4 => walk_at "lk"))
  | with_reducible refine rd_bm ?_
  | with_reducible refine rd_bm0 ?_
  | ((with_reducible refine' rd_tyL ?h1 ?_); (case h1 => walk_at "sqL"))
  | ((with_reducible refine' rd_ixL ?h1 ?h2 ?_); (case h1 => walk_at "sqL"); (case h2 => walk_at "atI"))
  | ((with_reducible refine' rd_ixT ?h1 ?h2 ?_); (case h1 => walk_at "sqT"); (case h2 => walk_at "atI"))
  | ((with_reducible refine' rd_lenS ?h1 ?_); (case h1 => walk_at "len"))
  | ((with_reducible refine' rd_lenL ?h1 ?_); (case h1 => walk_at "sqL"))
  | ((with_reducible refine' rd_lenT ?h1 ?_); (case h1 => walk_at "sqT"))
  | ((with_reducible refine' rv_mulI ?h1 ?_); (case h1 => walk_at "ar"))
  | ((with_reducible refine' rv_mulS ?h1 ?_); (case h1 => decide))
  | ((with_reducible refine' rv_mulT ?h1 ?h2 ?_); (case h1 => walk_at "sqT"); (case h2 => (refine ⟨by simp, by decide, by decide, by simp⟩)); intro p Hn hn0 hn1 hnf)
  | with_reducible refine rd_nn ?_
  | with_reducible refine rd_for ?_
  | with_reducible refine rd_lc ?_
  | with_reducible refine rd_rng1 ?_
  | ((with_reducible refine' rd_rng1b ?h1 ?_); (case h1 => walk_at "ar"))
  | with_reducible refine rd_subI ?_
  | ((with_reducible refine' rd_I ?h1 ?_); (case h1 => walk_at "ar"))
  | with_reducible refine rd_un ?_
  | with_reducible refine rd_neg ?_
  | with_reducible refine rd_gsub ?_
  | with_reducible refine rd_tup ?_
  | with_reducible refine rd_lst ?_
  | ((with_reducible refine' rd_dT ?_); intro p Hn hn0 hn1 hnf)
  | ((with_reducible refine' rd_kMa ?_); intro p dx Hn hn0 hn2 hn1 hnf)
  | with_reducible refine rd_allG ?_
  | with_reducible refine rd_iStr ?_
  | with_reducible refine rd_iStr2 ?_
  | with_reducible refine rd_iTup ?_
  | ((with_reducible refine' rd_iTup2 ?h1 ?_); (case h1 => walk_at "sqT"))
  | ((with_reducible refine' rd_kTup ?h1 ?_); (case h1 => walk_at "len"); intro p Hn hn0 hn1 hnf)
  | ((with_reducible refine' rd_kLst ?h1 ?_); (case h1 => walk_at "len"); intro p Hn hn0 hn1 hnf)
  | ((with_reducible refine' rd_listL ?h1 ?_); (case h1 => walk_at "sqL"); intro p Hn hn0 hn1 hnf)
  | ((with_reducible refine' rd_listT ?h1 ?_); (case h1 => walk_at "sqT"); intro p Hn hn0 hn1 hnf)
  | ((with_reducible refine' rd_tupL ?h1 ?_); (case h1 => walk_at "sqL"); intro p Hn hn0 hn1 hnf)
  | ((with_reducible refine' rd_app ?h1 ?h2 ?_); (case h1 => walk_at "hp"); (case h2 => walk_at "len"); intro Hn hn1 hnf)
  | ((with_reducible refine' rd_pop0 ?h1 ?_); (case h1 => walk_at "hp"); intro Hn hn1 hnf)
  | ((with_reducible refine' rd_setL ?h1 ?h2 ?_); (case h1 => walk_at "hp"); (case h2 => walk_at "ixN"); intro Hn hn1 hnf)
  | with_reducible refine rd_sfld ?_
  | ((with_reducible refine' rd_sfld2 ?h1 ?h2 ?h3 ?h4 ?_); (case h1 => walk_at "hp"); (case h2 => walk_at "cls"); (case h3 => walk_at "nat"); (case h4 => walk_at "lf"); intro Hn hn1 hnf)
  | with_reducible refine rd_sfaug ?_
  | ((with_reducible refine' rd_sfaug2 ?h1 ?h2 ?h3 ?h4 ?_); (case h1 => walk_at "hp"); (case h2 => walk_at "cls"); (case h3 => walk_at "nat"); (case h4 => walk_at "lk"))
  | with_reducible refine rd_inadd ?_
  | ((with_reducible refine' rd_sfaug3 ?h1 ?h2 ?_); (case h1 => walk_at "hp"); (case h2 => walk_at "lf"); intro Hn hn1 hnf)
  | walk_at "sp")
local macro_rules | `(tactic| walk_at "tab") => `(tactic| first | assumption | (apply Fr.tab; assumption; walk_at "tab"))
local macro_rules | `(tactic| walk_at "lf") => `(tactic| first | decide | exact Nat.le_of_ble_eq_true (by rfl) | (simp; done))
local macro_rules | `(tactic| walk_at "atI") => `(tactic| first | rfl | assumption)
local macro_rules | `(tactic| walk_at "ixN") => `(tactic| first | rfl | assumption)
local macro_rules | `(tactic| walk_at "rd") => `(tactic| repeat (walk_at "rd1"))
set_option hygiene false in
local macro_rules | `(tactic| walk_at "ite") => `(tactic| first
  | with_reducible refine rd_ite (fun hc => ?_) (fun hc => ?_)
  | with_reducible refine rd_iteN (fun hc => ?_) (fun hc => ?_)
  | with_reducible refine rd_iteNB (fun hc => ?_) (fun hc => ?_)
  | with_reducible refine rd_iteB (fun hc => ?_) (fun hc => ?_))

local macro_rules | `(tactic| walk_at "cls") => `(tactic| assumption)
local macro_rules | `(tactic| walk_at "nat") => `(tactic| assumption)

local macro_rules | `(tactic| walk_at "bx") => `(tactic| first | assumption | (apply Bx.fr; assumption; (walk_at "bx"); (walk_at "nin"); (walk_at "nin")))
local macro_rules | `(tactic| walk_at "ne") => `(tactic| first | assumption | (apply Ne.symm; assumption) | (apply Bx.nb; assumption; (walk_at "bx"); done) | (apply Bx.nc; assumption; (walk_at "bx"); done) | (apply Ne.symm; apply Bx.nb; assumption; (walk_at "bx"); done) | (apply Ne.symm; apply Bx.nc; assumption; (walk_at "bx"); done) | (apply ne_non; assumption; (walk_at "hp"); done) | (apply Ne.symm; apply ne_non; assumption; (walk_at "hp"); done))
set_option hygiene false in
local macro_rules | `(tactic| walk_at "sp") => `(tactic| first
  | ((with_reducible refine' use_draw ?h1 ?h2 ?_); (case h1 => walk_at "bx"); (case h2 => walk_at "ar"); intro i Hn hnf hbx hi0 hi1)
  | ((with_reducible refine' use_load ?h1 ?_); (case h1 => walk_at "bx"); intro i Hn hnf hbx)
  | ((with_reducible refine' use_part ?h1 ?_); (case h1 => walk_at "bx"); intro v ky Hn hnf hbx him hpd))

/-! ### keys as data -/
def kP : Key → PyData
  | .inl i => .int i
  | .inr x => .str x
def tP (ks : List Key) : PyData := .tuple (ks.map kP)
theorem eqv_k (a b : Key) : PyData.eqv (kP a) (kP b) = decide (a = b) := by
  cases a with
  | inl i =>
    cases b with
    | inl j => show PyData.eqv (.int i) (.int j) = _; rw [PyData.eqv]; by_cases h : i = j <;> simp [h]
    | inr y => simp [kP, PyData.eqv]
  | inr x =>
    cases b with
    | inl j => simp [kP, PyData.eqv]
    | inr y =>
      show PyData.eqv (.str x) (.str y) = _
      rw [PyData.eqv]
      by_cases h : x = y
      · subst h; simp
      · simp [h]
theorem eqvAll_k : ∀ a b : List Key, PyData.eqvAll (a.map kP) (b.map kP) = decide (a = b)
  | [], [] => by simp [PyData.eqvAll]
  | [], _ :: _ => by simp [PyData.eqvAll]
  | _ :: _, [] => by simp [PyData.eqvAll]
  | x :: xs, y :: ys => by
    rw [List.map_cons, List.map_cons, PyData.eqvAll, eqv_k, eqvAll_k xs ys]
    by_cases h1 : x = y <;> by_cases h2 : xs = ys <;> simp [h1, h2]
theorem eqv_t (a b : List Key) : PyData.eqv (tP a) (tP b) = decide (a = b) := by
  show PyData.eqv (.tuple _) (.tuple _) = _
  rw [PyData.eqv, eqvAll_k]
theorem str_ok {x : Str} (h : partD (kD (.inr x)) = true) : PyData.strOk x = true := by
  have h : textD (.str x) = true := by simpa [partD, kD, numD] using h
  simp only [textD, Bool.and_eq_true] at h
  have h2 := h.2
  rw [List.all_eq_true] at h2
  unfold PyData.strOk
  rw [← Array.all_toList, List.all_eq_true]
  intro c hc
  have := h2 c hc
  simp at this
  simp
  omega
theorem lay_k : ∀ ks : List Key, (∀ k ∈ ks, partD (kD k) = true) → PyData.canLayAll0 (ks.map kP) = true
  | [], _ => by simp [PyData.canLayAll0]
  | .inl i :: ks, h => by
    rw [List.map_cons, PyData.canLayAll0, lay_k ks fun k hk => h k (List.mem_cons_of_mem _ hk)]
    simp [kP, PyData.canLay0]
  | .inr x :: ks, h => by
    rw [List.map_cons, PyData.canLayAll0, lay_k ks fun k hk => h k (List.mem_cons_of_mem _ hk)]
    have := str_ok (h (.inr x) List.mem_cons_self)
    simp [kP, PyData.canLay0, this]
theorem good_all {ks : List Key} (h : goodK ks) : ∀ k ∈ ks, partD (kD k) = true := by
  simp only [goodK, partsD, tupK, Bool.and_eq_true] at h
  have := h.2
  rw [List.all_eq_true] at this
  exact fun k hk => this _ (List.mem_map.mpr ⟨k, hk, rfl⟩)
theorem lay_t : ∀ ps : List (List Key), (∀ ks ∈ ps, goodK ks) → PyData.canLayAll0 (ps.map tP) = true
  | [], _ => by simp [PyData.canLayAll0]
  | k :: ks, h => by
    rw [List.map_cons, PyData.canLayAll0, lay_t ks fun k hk => h k (List.mem_cons_of_mem _ hk)]
    simp [tP, PyData.canLay0, lay_k k (good_all (h k List.mem_cons_self))]
theorem dep_k : ∀ ks : List Key, PyData.depthAll (ks.map kP) ≤ 2
  | [] => by simp [PyData.depthAll]
  | k :: ks => by
    have := dep_k ks
    rw [List.map_cons, PyData.depthAll]
    cases k <;> simp [kP, PyData.depth] <;> omega
theorem dep_t : ∀ ps : List (List Key), PyData.depthAll (ps.map tP) ≤ 5
  | [] => by simp [PyData.depthAll]
  | k :: ks => by
    have := dep_t ks
    have := dep_k k
    rw [List.map_cons, PyData.depthAll]
    simp [tP, PyData.depth]
    omega
theorem shp_t {ks : List Key} (h : goodK ks) : SeqAt.shaped (tP ks) = true := by
  have := dep_k ks
  simp [SeqAt.shaped, tP, PyData.canLay0, lay_k ks (good_all h), PyData.depth]
  omega
theorem shp_l {ps : List (List Key)} (h : ∀ ks ∈ ps, goodK ks) : SeqAt.shaped (.list (ps.map tP)) = true := by
  have := dep_t ps
  simp [SeqAt.shaped, PyData.canLay0, lay_t ps h, PyData.depth]
  omega
section
variable {K : PySem.W.Frag} {H : Hp} {Q : VK}
theorem dp_k : ∀ (ks : List Key), DpAll K H (ks.map kV) (ks.map kP)
  | [] => .nil
  | .inl i :: ks => .cons (.int i) (dp_k ks)
  | .inr x :: ks => .cons (.str x) (dp_k ks)
theorem dp_t {p : Addr} {ks : List Key} (h : H p = some (.tup (ks.map kV))) : Dp K H (.ref p) (tP ks) := .tup (.of h) (dp_k ks)
theorem dp_ts : ∀ {ps : List (List Key)} {ys : List V}, ImAll H ys (ps.map tupK) → DpAll K H ys (ps.map tP)
  | [], _, h => by cases h; exact .nil
  | p :: ps, _, h => by
    cases h with
    | cons h1 h2 =>
      obtain ⟨b, rfl, hb⟩ := h1.tupK
      exact .cons (dp_t hb) (dp_ts h2)
theorem any_pos : ∀ (ps : List (List Key)) (ks : List Key), ((ps.map tP).any fun z => PyData.eqv z (tP ks)) = (posK ps ks).isSome
  | [], _ => rfl
  | p :: ps, ks => by
    rw [List.map_cons, List.any_cons, eqv_t, any_pos ps ks]
    unfold posK
    rw [List.findIdx?_cons]
    by_cases h : p = ks
    · simp [h]
    · simp [h]
theorem rd_inK {p kn : Addr} {ys : List V} {ps : List (List Key)} {ks : List Key} (g1 : goodK ks) (g2 : ∀ ks ∈ ps, goodK ks) (hp : H p = some (.tup (ks.map kV))) (hk : H kn = some (.lst ys)) (hy : ImAll H ys (ps.map tupK)) (q : Q (.bl (posK ps ks).isSome) H) : rInD K (.ref p) (.ref kn) H Q :=
  ⟨tP ks, ps.map tP, dp_t hp, .lst (.of hk) (dp_ts hy), shp_t g1, shp_l g2, by rw [any_pos]; exact q⟩
theorem rd_indexK {p kn : Addr} {ys : List V} {ps : List (List Key)} {ks : List Key} {j : Nat} (g1 : goodK ks) (g2 : ∀ ks ∈ ps, goodK ks) (hp : H p = some (.tup (ks.map kV))) (hk : H kn = some (.lst ys)) (hy : ImAll H ys (ps.map tupK)) (hj : posK ps ks = some j) (q : Q (.int (j : Nat)) H) : rIndexD K (.ref kn) [.ref p] H Q := by
  refine ⟨kn, .ref p, tP ks, ps.map tP, j, tP ks, rfl, rfl, .lst (.of hk) (dp_ts hy), dp_t hp, shp_l g2, shp_t g1, ?_, ?_, fun m z' hm e => ?_, q⟩
  · rw [List.getElem?_map, posK_at hj]; rfl
  · rw [eqv_t]; simp
  · unfold posK at hj
    obtain ⟨h1, h2, h3⟩ := List.findIdx?_eq_some_iff_getElem.mp hj
    rw [List.getElem?_map, List.getElem?_eq_getElem (by omega)] at e
    cases e
    rw [eqv_t]
    have := h3 m hm
    simpa using this
end
/-! ### the law's state -/
structure LS (C Pp Pt : Addr) (H : Hp) (b c a d l a' d' l' kn : Addr) (ps qs : List (List Key)) (n : Int) : Prop where
  nd : [b, c, a, d, l, a', d', l', kn].Nodup
  bx : Bx H b c (.int 0)
  n1 : No C H a d l ps n
  n2 : No C H a' d' l' [] 0
  kl : ∃ ys, H kn = some (.lst ys) ∧ ImAll H ys (qs.map tupK)
  good : ∀ ks ∈ qs, goodK ks
  tp : TabG H Pp
  tt : TabG H Pt
section
variable {C Pp Pt : Addr} {H H' : Hp} {b c a d l a' d' l' kn : Addr} {ps qs : List (List Key)} {n m : Int}
theorem LS.free (h : LS C Pp Pt H b c a d l a' d' l' kn ps qs n) (f : Fr [] H H') : LS C Pp Pt H' b c a d l a' d' l' kn ps qs n := by
  obtain ⟨ys, h1, h2⟩ := h.kl
  exact ⟨h.nd, h.bx.go f (by simp) (by simp), h.n1.go f (by simp) (by simp) (by simp), h.n2.go f (by simp) (by simp) (by simp), ⟨ys, f.lst h1 rfl (by simp), h2.go f⟩, h.good, f.tab _ h.tp, f.tab _ h.tt⟩
theorem LS.box (h : LS C Pp Pt H b c a d l a' d' l' kn ps qs n) (f : Fr [b, c] H H') (hb : Bx H' b c (.int 0)) : LS C Pp Pt H' b c a d l a' d' l' kn ps qs n := by
  obtain ⟨ys, h1, h2⟩ := h.kl
  have nd := h.nd
  simp only [List.nodup_cons, List.mem_cons, List.not_mem_nil, or_false, not_or, List.nodup_nil, and_true] at nd
  obtain ⟨x1, x2, _⟩ := nd
  exact ⟨h.nd, hb, h.n1.go f (by simp [Ne.symm, x1, x2, eq_comm]) (by simp [x1, x2, eq_comm]) (by simp [x1, x2, eq_comm]), h.n2.go f (by simp [x1, x2, eq_comm]) (by simp [x1, x2, eq_comm]) (by simp [x1, x2, eq_comm]), ⟨ys, f.lst h1 rfl (by simp [x1, x2, eq_comm]), h2.go f⟩, h.good, f.tab _ h.tp, f.tab _ h.tt⟩
theorem LS.note (h : LS C Pp Pt H b c a d l a' d' l' kn ps qs n) {ps' : List (List Key)} (f : Fr [a, d, l] H H') (hn : No C H' a d l ps' m) : LS C Pp Pt H' b c a d l a' d' l' kn ps' qs m := by
  obtain ⟨ys, h1, h2⟩ := h.kl
  have nd := h.nd
  simp only [List.nodup_cons, List.mem_cons, List.not_mem_nil, or_false, not_or, List.nodup_nil, and_true] at nd
  obtain ⟨x1, x2, x3, x4, x5, _⟩ := nd
  exact ⟨h.nd, h.bx.go f (by simp [x1]) (by simp [x2]), hn, h.n2.go f (by simp [x3, x4, x5, eq_comm]) (by simp [x3, x4, x5, eq_comm]) (by simp [x3, x4, x5, eq_comm]), ⟨ys, f.lst h1 rfl (by simp [x3, x4, x5, eq_comm]), h2.go f⟩, h.good, f.tab _ h.tp, f.tab _ h.tt⟩
theorem LS.app (h : LS C Pp Pt H b c a d l a' d' l' kn ps qs n) {ys : List V} {p : Addr} {ks : List Key} (f : Fr [kn] H H') (h1 : H' kn = some (.lst (ys ++ [.ref p]))) (h0 : H kn = some (.lst ys)) (him : Im H (.ref p) (tupK ks)) (hg : goodK ks) : LS C Pp Pt H' b c a d l a' d' l' kn ps (qs ++ [ks]) n := by
  obtain ⟨ys', h1', h2⟩ := h.kl
  rw [h0] at h1'
  cases h1'
  have nd := h.nd
  simp only [List.nodup_cons, List.mem_cons, List.not_mem_nil, or_false, not_or, List.nodup_nil, and_true] at nd
  obtain ⟨x1, x2, x3, x4, x5, x6, x7, x8, _⟩ := nd
  refine ⟨h.nd, h.bx.go f (by simp [x1]) (by simp [x2]), h.n1.go f (by simp [x3]) (by simp [x4]) (by simp [x5]), h.n2.go f (by simp [x6]) (by simp [x7]) (by simp [x8]), ⟨_, h1, ?_⟩, fun k hk => ?_, f.tab _ h.tp, f.tab _ h.tt⟩
  · rw [List.map_append]
    exact (h2.go f).snoc (him.go f)
  · rcases List.mem_append.mp hk with z | z
    · exact h.good k z
    · simp at z; rw [z]; exact hg
end
end Ow

set_option Elab.async false
set_option linter.all false
set_option maxRecDepth 100000
set_option maxHeartbeats 4000000
namespace Ow
open PySem PySem.Spec PyProof.Rows L2 GxR
/-! ### the walk, in words of this file -/
local macro_rules | `(tactic| walk_at "nin") => `(tactic| first | exact List.not_mem_nil | assumption | (simp only [List.mem_cons, List.mem_singleton, List.not_mem_nil, or_false, not_or]; (repeat' constructor) <;> walk_at "ne"))
local macro_rules | `(tactic| walk_at "ne") => `(tactic| first | assumption | (apply Ne.symm; assumption) | (apply ne_of_none; (walk_at "hp"); assumption) | (apply Ne.symm; apply ne_of_none; (walk_at "hp"); assumption) | (apply ne_of; (walk_at "hp"); (walk_at "hp"); (intro hz; cases hz; done)))
local macro_rules | `(tactic| walk_at "hp") => `(tactic| first | assumption | (apply Fr.lst; assumption; (walk_at "hp"); (exact rfl); (walk_at "nin")))
local macro_rules | `(tactic| walk_at "sqL") => `(tactic| first | assumption | (apply SqL.of; walk_at "hp") | (apply Fr.seqL; assumption; (walk_at "nin"); (walk_at "sqL")))
local macro_rules | `(tactic| walk_at "sqT") => `(tactic| first | assumption | (apply SqT.of; walk_at "hp") | (apply Fr.seqT; assumption; walk_at "sqT"))
local macro_rules | `(tactic| walk_at "ht") => `(tactic| first | assumption | (apply Fr.tup; assumption; walk_at "ht"))
local macro_rules | `(tactic| walk_at "im") => `(tactic| first | assumption | exact Im.int _ | exact Im.str _ (by first | assumption | decide | omega) | exact Im.bl _ | exact Im.non | (apply Im.tup; (walk_at "ht"); (walk_at "ima")) | (apply Im.go; rotate_left; assumption; walk_at "im"))
local macro_rules | `(tactic| walk_at "ima") => `(tactic| first | assumption | exact ImAll.nil | (apply ImAll.cons; (walk_at "im"); (walk_at "ima")) | (apply ImAll.go; rotate_left; assumption; walk_at "ima"))
local macro_rules | `(tactic| walk_at "fr") => `(tactic| first | assumption | exact Fr.refl | (apply Fr.snoc; rotate_left; assumption; (walk_at "sub"); (walk_at "fr")))
local macro_rules | `(tactic| walk_at "sub") => `(tactic| first | exact sub_nil | exact fun _ hz => Or.inl hz | assumption | (apply sub_cons; (first | (left; assumption) | (left; simp; done) | (right; walk_at "fre")); (walk_at "sub")))
local macro_rules | `(tactic| walk_at "fre") => `(tactic| first | assumption | (apply Fr.free; assumption; walk_at "fre"))
local macro_rules | `(tactic| walk_at "len") => `(tactic| first | decide | (simp only [List.length_cons, List.length_nil]; decide) | exact Nat.le_trans (by assumption) (by decide) | exact Nat.lt_of_le_of_lt (by assumption) (by decide) | (show _ ≤ sizeLine; decide) | omega)
local macro_rules | `(tactic| walk_at "ar") => `(tactic| first | assumption | (apply cdivW_of <;> omega) | omega | decide | (constructor <;> first | omega | decide) | (left; constructor <;> first | omega | decide) | (right; constructor <;> first | omega | decide))
local macro_rules | `(tactic| walk_at "lk") => `(tactic| first | rfl | assumption)
set_option hygiene false in
local macro_rules | `(tactic| walk_at "rd1") => `(tactic| first
  | with_reducible refine rd_var rfl ?_
  | with_reducible refine rd_c ?_
  | with_reducible refine rd_op ?_
  | with_reducible refine rd_seq ?_
  | with_reducible refine rd_asg ?_
  | with_reducible refine rd_name ?_
  | with_reducible refine rd_cons ?_
  | with_reducible refine rd_nil ?_
  | with_reducible refine rd_k ?_
  | with_reducible refine rd_test ?_
  | with_reducible refine rd_tB ?_
  | with_reducible refine rd_ifS ?_
  | with_reducible refine rd_iteT ?_
  | with_reducible refine rd_iteF ?_
  | with_reducible refine rd_addI ?_
  | with_reducible refine rd_I0 ?_
  | with_reducible refine rd_leI ?_
  | with_reducible refine rd_leS ?_
  | with_reducible refine rd_ltI ?_
  | with_reducible refine rd_geI ?_
  | with_reducible refine rd_gtI ?_
  | with_reducible refine rd_eqI ?_
  | with_reducible refine rd_eqS ?_
  | with_reducible refine rd_eqB ?_
  | with_reducible refine rd_neI ?_
  | with_reducible refine rd_neS ?_
  | with_reducible refine rd_ret ?_
  | with_reducible refine rd_retN ?_
  | with_reducible refine rd_drop ?_
  | with_reducible refine rd_next ?_
  | with_reducible refine rd_ca ?_
  | with_reducible refine rd_cb ?_
  | with_reducible refine rd_me ?_
  | ((with_reducible refine' rd_me2 ?h1 ?h2 ?_); (case h1 => walk_at "hp"); (case h2 => walk_at "lk"))
  | with_reducible refine rd_ma ?_
  | with_reducible refine rd_meS ?_
  | with_reducible refine rd_caS ?_
  | with_reducible refine rd_chain ?_
  | with_reducible refine rd_andV ?_
  | with_reducible refine rd_orV ?_
  | with_reducible refine rd_notV ?_
  | with_reducible refine rd_not ?_
  | with_reducible refine rd_nof ?_
  | with_reducible refine rd_if ?_
  | with_reducible refine rd_tand ?_
  | with_reducible refine rd_tor ?_
  | with_reducible refine rd_tnot ?_
  | ((with_reducible refine' rd_isi (b := true) ?h1 ?h2 ?_); (case h1 => walk_at "im"); (case h2 => rfl))
  | ((with_reducible refine' rd_isi (b := false) ?h1 ?h2 ?_); (case h1 => walk_at "im"); (case h2 => rfl))
  | with_reducible refine rd_int ?_
  | with_reducible refine rd_fld ?_
  | ((with_reducible refine' rd_fld2 ?h1 ?h2 ?h3 ?h4 ?_); (case h1 => walk_at "hp"); (case h2 => walk_at "cls"); (case h3 => walk_at "nat"); (case h4 => walk_at "lk"))
  | with_reducible refine rd_bm ?_
  | with_reducible refine rd_bm0 ?_
  | ((with_reducible refine' rd_tyL ?h1 ?_); (case h1 => walk_at "sqL"))
  | ((with_reducible refine' rd_ixL ?h1 ?h2 ?_); (case h1 => walk_at "sqL"); (case h2 => walk_at "atI"))
  | ((with_reducible refine' rd_ixT ?h1 ?h2 ?_); (case h1 => walk_at "sqT"); (case h2 => walk_at "atI"))
  | ((with_reducible refine' rd_lenS ?h1 ?_); (case h1 => walk_at "len"))
  | ((with_reducible refine' rd_lenL ?h1 ?_); (case h1 => walk_at "sqL"))
  | ((with_reducible refine' rd_lenT ?h1 ?_); (case h1 => walk_at "sqT"))
  | ((with_reducible refine' rv_mulI ?h1 ?_); (case h1 => walk_at "ar"))
  | ((with_reducible refine' rv_mulS ?h1 ?_); (case h1 => decide))
  | ((with_reducible refine' rv_mulT ?h1 ?h2 ?_); (case h1 => walk_at "sqT"); (case h2 => (refine ⟨by simp, by decide, by decide, by simp⟩)); intro p Hn hn0 hn1 hnf)
  | with_reducible refine rd_nn ?_
  | with_reducible refine rd_for ?_
  | with_reducible refine rd_lc ?_
  | with_reducible refine rd_rng1 ?_
  | ((with_reducible refine' rd_rng1b ?h1 ?_); (case h1 => walk_at "ar"))
  | with_reducible refine rd_subI ?_
  | ((with_reducible refine' rd_I ?h1 ?_); (case h1 => walk_at "ar"))
  | with_reducible refine rd_un ?_
  | with_reducible refine rd_neg ?_
  | with_reducible refine rd_gsub ?_
  | with_reducible refine rd_tup ?_
  | with_reducible refine rd_lst ?_
  | ((with_reducible refine' rd_dT ?_); intro p Hn hn0 hn1 hnf)
  | ((with_reducible refine' rd_kMa ?_); intro p dx Hn hn0 hn2 hn1 hnf)
  | with_reducible refine rd_allG ?_
  | with_reducible refine rd_iStr ?_
  | with_reducible refine rd_iStr2 ?_
  | with_reducible refine rd_iTup ?_
  | ((with_reducible refine' rd_iTup2 ?h1 ?_); (case h1 => walk_at "sqT"))
  | ((with_reducible refine' rd_kTup ?h1 ?_); (case h1 => walk_at "len"); intro p Hn hn0 hn1 hnf)
  | ((with_reducible refine' rd_kLst ?h1 ?_); (case h1 => walk_at "len"); intro p Hn hn0 hn1 hnf)
  | ((with_reducible refine' rd_listL ?h1 ?_); (case h1 => walk_at "sqL"); intro p Hn hn0 hn1 hnf)
  | ((with_reducible refine' rd_listT ?h1 ?_); (case h1 => walk_at "sqT"); intro p Hn hn0 hn1 hnf)
  | ((with_reducible refine' rd_tupL ?h1 ?_); (case h1 => walk_at "sqL"); intro p Hn hn0 hn1 hnf)
  | ((with_reducible refine' rd_app ?h1 ?h2 ?_); (case h1 => walk_at "hp"); (case h2 => walk_at "len"); intro Hn hn1 hnf)
  | ((with_reducible refine' rd_pop0 ?h1 ?_); (case h1 => walk_at "hp"); intro Hn hn1 hnf)
  | ((with_reducible refine' rd_setL ?h1 ?h2 ?_); (case h1 => walk_at "hp"); (case h2 => walk_at "ixN"); intro Hn hn1 hnf)
  | with_reducible refine rd_sfld ?_
  | ((with_reducible refine' rd_sfld2 ?h1 ?h2 ?h3 ?h4 ?_); (case h1 => walk_at "hp"); (case h2 => walk_at "cls"); (case h3 => walk_at "nat"); (case h4 => walk_at "lf"); intro Hn hn1 hnf)
  | with_reducible refine rd_sfaug ?_
  | ((with_reducible refine' rd_sfaug2 ?h1 ?h2 ?h3 ?h4 ?_); (case h1 => walk_at "hp"); (case h2 => walk_at "cls"); (case h3 => walk_at "nat"); (case h4 => walk_at "lk"))
  | with_reducible refine rd_inadd ?_
  | ((with_reducible refine' rd_sfaug3 ?h1 ?h2 ?_); (case h1 => walk_at "hp"); (case h2 => walk_at "lf"); intro Hn hn1 hnf)
  | walk_at "sp")
local macro_rules | `(tactic| walk_at "tab") => `(tactic| first | assumption | (apply Fr.tab; assumption; walk_at "tab"))
local macro_rules | `(tactic| walk_at "lf") => `(tactic| first | decide | exact Nat.le_of_ble_eq_true (by rfl) | (simp; done))
local macro_rules | `(tactic| walk_at "atI") => `(tactic| first | rfl | assumption)
local macro_rules | `(tactic| walk_at "ixN") => `(tactic| first | rfl | assumption)
local macro_rules | `(tactic| walk_at "rd") => `(tactic| repeat (walk_at "rd1"))
set_option hygiene false in
local macro_rules | `(tactic| walk_at "ite") => `(tactic| first
  | with_reducible refine rd_ite (fun hc => ?_) (fun hc => ?_)
  | with_reducible refine rd_iteN (fun hc => ?_) (fun hc => ?_)
  | with_reducible refine rd_iteNB (fun hc => ?_) (fun hc => ?_)
  | with_reducible refine rd_iteB (fun hc => ?_) (fun hc => ?_))

local macro_rules | `(tactic| walk_at "cls") => `(tactic| assumption)
local macro_rules | `(tactic| walk_at "nat") => `(tactic| assumption)

local macro_rules | `(tactic| walk_at "bx") => `(tactic| first | assumption | (apply Bx.fr; assumption; (walk_at "bx"); (walk_at "nin"); (walk_at "nin")))
local macro_rules | `(tactic| walk_at "ne") => `(tactic| first | assumption | (apply Ne.symm; assumption) | (apply Bx.nb; assumption; (walk_at "bx"); done) | (apply Bx.nc; assumption; (walk_at "bx"); done) | (apply Ne.symm; apply Bx.nb; assumption; (walk_at "bx"); done) | (apply Ne.symm; apply Bx.nc; assumption; (walk_at "bx"); done) | (apply ne_non; assumption; (walk_at "hp"); done) | (apply Ne.symm; apply ne_non; assumption; (walk_at "hp"); done))
set_option hygiene false in
local macro_rules | `(tactic| walk_at "sp") => `(tactic| first
  | ((with_reducible refine' use_draw ?h1 ?h2 ?_); (case h1 => walk_at "bx"); (case h2 => walk_at "ar"); intro i Hn hnf hbx hi0 hi1)
  | ((with_reducible refine' use_load ?h1 ?_); (case h1 => walk_at "bx"); intro i Hn hnf hbx)
  | ((with_reducible refine' use_part ?h1 ?_); (case h1 => walk_at "bx"); intro v ky Hn hnf hbx him hpd))

section
variable {P : Program} {w : World} {K : PySem.W.Frag} {mg : Str → Option Value} {base : Heap} {C Cb Cw Pp Pt : Addr}
theorem use_give {H : Hp} {Q : VK} {E : XK} {b c : Addr} {nd : V} {kn : Addr} {ys : List V} {ps : List (List Key)} (h1 : Bx H b c nd) (h2 : kn ≠ b) (h3 : kn ≠ c) (h4 : H kn = some (.lst ys)) (h5 : ImAll H ys (ps.map tupK)) (h6 : ps.length < 100000) (h7 : ∀ ks ∈ ps, goodK ks)
    (q : ∀ a ks H', Fr [b, c] H H' → Bx H' b c nd → H' a = some (.tup (ks.map kV)) → Im H' (.ref a) (tupK ks) → goodK ks → Q (.ref a) H') : spGive [.ref b, .ref kn] H Q E := ⟨b, c, nd, kn, ys, ps, rfl, h1, h2, h3, h4, h5, h6, h7, q⟩
theorem use_box {H : Hp} {Q : VK} {E : XK} {s : Addr} {ns : List Int} {nd : V} (h : SqL K H s (ns.map V.int)) (q : ∀ b c H', H b = none → H c = none → Fr [] H H' → Bx H' b c nd → Q (.ref b) H') : spBox K [.ref s, nd] H Q E := ⟨s, ns, nd, rfl, h, q⟩
theorem use_init {H : Hp} {Q : VK} {E : XK} {a dx : Addr} (h : H a = some (.ins C dx [])) (q : ∀ d l H', H d = none → H l = none → Fr [a] H H' → No C H' a d l [] 0 → Q .non H') : spInit C [.ref a] H Q E := ⟨a, dx, rfl, h, q⟩
theorem use_size {H : Hp} {Q : VK} {E : XK} {a d l : Addr} {ps : List (List Key)} {n m : Int} (h : No C H a d l ps n) (e : ((ps.length : Nat) : Int) = m) (q : Q (.int m) H) : spSize C [.ref a] H Q E := ⟨a, d, l, ps, n, rfl, h, by rw [e]; exact q⟩
theorem LS.ne {H : Hp} {b c a d l a' d' l' kn : Addr} {ps qs : List (List Key)} {n : Int} (h : LS C Pp Pt H b c a d l a' d' l' kn ps qs n) : (kn ≠ b ∧ kn ≠ c) ∧ (kn ≠ a ∧ kn ≠ d ∧ kn ≠ l) := by
  have nd := h.nd
  simp only [List.nodup_cons, List.mem_cons, List.not_mem_nil, or_false, not_or, List.nodup_nil, and_true] at nd
  exact ⟨⟨fun z => nd.1.2.2.2.2.2.2.2 z.symm, fun z => nd.2.1.2.2.2.2.2.2 z.symm⟩, fun z => nd.2.2.1.2.2.2.2.2 z.symm, fun z => nd.2.2.2.1.2.2.2.2 z.symm, fun z => nd.2.2.2.2.1.2.2.2 z.symm⟩
theorem dn_k {ks : List Key} (h : goodK ks) (n : Nat) : Dn (n + 1) (tupK ks) := by
  refine ⟨?_, fun x hx => ?_⟩
  · simp only [goodK, partsD, tupK, Bool.and_eq_true, decide_eq_true_eq] at h
    exact Nat.le_trans h.1.2 (by decide)
  · obtain ⟨k, hk, rfl⟩ := List.mem_map.mp hx
    cases k <;> cases n <;> trivial
theorem dn_2 {d e : Ow.D} (h1 : Dn 1 d) (h2 : Dn 1 e) : Dn 2 (.tup [d, e]) := ⟨by simp, fun x hx => by
  rcases List.mem_cons.mp hx with z | z
  · rw [z]; exact h1
  · rw [List.mem_singleton.mp z]; exact h2⟩
theorem use_finds {H : Hp} {Q : VK} {E : XK} {a d l : Addr} {ps : List (List Key)} {n : Int} (h : No C H a d l ps n) (q : Q (.int n) H) : spFinds C [.ref a] H Q E := ⟨a, d, l, ps, n, rfl, h, q⟩
theorem use_find {H : Hp} {Q : VK} {E : XK} {a d l : Addr} {ps : List (List Key)} {n : Int} {v : V} {x : D} (h : No C H a d l ps n) (hi : Im H v x) (hp : TabG H Pp) (ht : TabG H Pt) (q : ∀ H', Fr [a] H H' → No C H' a d l ps (n + 1) → Q (.int (dueD ps x)) H') : spFind C Pp Pt [.ref a, v] H Q E := ⟨a, d, l, ps, n, v, x, rfl, h, hi, hp, ht, q⟩
theorem use_parts_of {H : Hp} {Q : VK} {E : XK} {a d l : Addr} {ps : List (List Key)} {n i : Int} (h : No C H a d l ps n) (k1 : ∀ j ks v, i = (j : Nat) + 1 → ps[j]? = some ks → Im H v (tupK ks) → Q v H) (k2 : (∀ j, j < ps.length → i ≠ (j : Nat) + 1) → Q .non H) : spParts_of C [.ref a, .int i] H Q E := ⟨a, d, l, ps, n, i, rfl, h, k1, k2⟩
theorem use_wrong {H : Hp} {Q : VK} {E : XK} {b c : Addr} {nd : V} (h : Bx H b c nd) (q : ∀ v d H', Fr [b, c] H H' → Bx H' b c nd → Im H' v d → partsD d = false → Q v H') : spWrong [.ref b] H Q E := ⟨b, c, nd, rfl, h, q⟩
theorem use_refused {H : Hp} {Q : VK} {E : XK} {a d l : Addr} {ps : List (List Key)} {n : Int} {v : V} {x : D} (h : No C H a d l ps n) (hi : Im H v x) (hp : TabG H Pp) (ht : TabG H Pt) (hl : ps.length < 99999) (hx : partsD x = false) (q : ∀ H', Fr [] H H' → Q (.bl true) H') : spRefused C Cb Pp Pt [.ref a, v] H Q E := ⟨a, d, l, ps, n, v, x, rfl, h, hi, hp, ht, hl, hx, q⟩
theorem due_good {ps : List (List Key)} {ks : List Key} (h : goodK ks) : dueD ps (tupK ks) = match posK ps ks with | some i => (i : Nat) + 1 | none => 0 := by
  unfold dueD
  rw [if_pos (show partsD (tupK ks) = true from h), keys_tup] <;> cases posK ps ks <;> rfl
theorem No.new {H : Hp} {a d l p : Addr} {ps : List (List Key)} {n : Int} (h : No C H a d l ps n) (hp : H p = none) : p ≠ a ∧ p ≠ d ∧ p ≠ l := by
  obtain ⟨dx, kvs, xs, h1, h2, h3, _⟩ := h.ex
  exact ⟨(ne_of_none h1 hp).symm, (ne_of_none h2 hp).symm, (ne_of_none h3 hp).symm⟩
theorem rd_inS {H : Hp} {Q : VK} {p kn : Addr} {ys : List V} {ps : List (List Key)} {ks : List Key} {j : Nat} (e : posK ps ks = some j) (g1 : goodK ks) (g2 : ∀ ks ∈ ps, goodK ks) (hp : H p = some (.tup (ks.map kV))) (hk : H kn = some (.lst ys)) (hy : ImAll H ys (ps.map tupK)) (q : Q (.bl true) H) : rInD K (.ref p) (.ref kn) H Q :=
  rd_inK g1 g2 hp hk hy (by rw [e]; exact q)
theorem rd_inN {H : Hp} {Q : VK} {p kn : Addr} {ys : List V} {ps : List (List Key)} {ks : List Key} (e : posK ps ks = none) (g1 : goodK ks) (g2 : ∀ ks ∈ ps, goodK ks) (hp : H p = some (.tup (ks.map kV))) (hk : H kn = some (.lst ys)) (hy : ImAll H ys (ps.map tupK)) (q : Q (.bl false) H) : rInD K (.ref p) (.ref kn) H Q :=
  rd_inK g1 g2 hp hk hy (by rw [e]; exact q)
set_option hygiene false in
local macro_rules | `(tactic| walk_at "sp") => `(tactic| ((with_reducible refine' use_same ?h1 ?h2 ?h3 ?_); (case h1 => walk_at "im"); (case h2 => walk_at "im"); (case h3 => first | exact True.intro | assumption | exact dn_2 True.intro True.intro)))
set_option hygiene false in
local macro_rules | `(tactic| walk_at "fin") => `(tactic| ((obtain ⟨ysF, hkF, hyF⟩ := hL.kl); (obtain ⟨dxF, hAF⟩ := hL.n1.there); (walk_at "rd"); (refine' use_size hL.n1 (fin_len hyF) ?_); (walk_at "rd"); (refine' use_finds hL.n1 ?_); (walk_at "rd"); (exact ⟨_, _, _, _, _, _, _, _, _, rfl, hL.free (by walk_at "fr"), by first | omega | (simp; omega)⟩)))
theorem fin_len {H : Hp} {ys : List V} {ps : List (List Key)} (h : ImAll H ys (ps.map tupK)) : ((ps.length : Nat) : Int) = ((ys.length : Nat) : Int) := by rw [h.length, List.length_map]
structure TxtW (K : PySem.W.Frag) (mg : Str → Option Value) (C : Addr) : Prop where
  cls : Cls K C
  b_range : mg "range" = none
  b_len : mg "len" = none
/-- what a turn of the law keeps -/
def Inv0 (C Pp Pt : Addr) (s b c a d l a' d' l' kn : Addr) (i : Nat) (σ : L2.St) (H : Hp) : Prop :=
  ∃ (ps : List (List Key)) (n : Int) (x6 x7 x8 x9 x10 x11 x12 : Option V), σ = [some (.ref s), some (.ref b), some (.ref a), some (.ref a'), some (.ref kn), some (.int n), x6, x7, x8, x9, x10, x11, x12] ∧ LS C Pp Pt H b c a d l a' d' l' kn ps ps n ∧ ps.length ≤ i
def spLaw (K : PySem.W.Frag) (Pp Pt : Addr) : Sp := fun vs H Q _ => ∃ (s : Addr) (ns : List Int), vs = [.ref s] ∧ SqL K H s (ns.map V.int) ∧ TabG H Pp ∧ TabG H Pt ∧ ∀ H', Q (.bl true) H'
theorem ok_law {f : Addr} {fd : FuncData} (F : Fun K "law" "law" s_law f fd) (T : TxtW K mg C) (G__law_box : Ca P w K mg base 1 "_law_box" (spBox K)) (G_Notary : Ma P w K mg base 1 "Notary" C (spInit C)) (G__law_draw : Ca P w K mg base 2 "_law_draw" spDraw)
    (G__law_parts : Ca P w K mg base 4 "_law_parts" spGive) (G__law_same : Ca P w K mg base 3 "_law_same" (spSame 3)) (G_Notary_seal : Me P w K mg base 6 C "seal" (spSeal C Cb Pp Pt)) (G_Notary_find : Me P w K mg base 6 C "find" (spFind C Pp Pt))
    (G_Notary_parts_of : Me P w K mg base 1 C "parts_of" (spParts_of C)) (G_Notary_size : Me P w K mg base 1 C "size" (spSize C)) (G_Notary_finds : Me P w K mg base 1 C "finds" (spFinds C)) (G__law_wrong : Ca P w K mg base 3 "_law_wrong" spWrong)
    (G__law_refused : Ca P w K mg base 7 "_law_refused" (spRefused C Cb Pp Pt)) : FnOk P w K mg base (L2.CX P w) 8 f fd ["script"] (spLaw K Pp Pt) := by
  refine F.okX sc_law (fun vs H Q E h => ?_) (fun cdv A outer s H vs Q E hr h => ?_)
  · obtain ⟨s, ns, rfl, _⟩ := h
    rfl
  · obtain ⟨s', ns, rfl, hs, hp, ht, k⟩ := h
    refine ⟨_, (pss_cons (ps_asg (pe_ca G__law_box hr (by first | decide | omega) (by rfl) (pa_cons (pv 0) (pa_cons pe_int pa_nil))) (pg_name (i := 1) sc_law.nd rfl (Or.inl rfl))) (pss_cons (ps_asg (pe_ma0 G_Notary hr (by first | decide | omega) (by rfl)) (pg_name (i := 2) sc_law.nd rfl (Or.inl rfl))) (pss_cons (ps_asg (pe_ma0 G_Notary hr (by first | decide | omega) (by rfl)) (pg_name (i := 3) sc_law.nd rfl (Or.inl rfl))) (pss_cons (ps_asg (pe_lst pa_nil) (pg_name (i := 4) sc_law.nd rfl (Or.inl rfl))) (pss_cons (ps_asg pe_int (pg_name (i := 5) sc_law.nd rfl (Or.inl rfl))) (pss_cons (ps_for (passes_of rfl) rfl (pi_range1 (by rfl) T.b_range (pa_cons pe_int pa_nil)) (pg_name (i := 6) sc_law.nd rfl (Or.inl rfl)) (pss_cons (ps_asg (pe_ca G__law_draw hr (by first | decide | omega) (by rfl) (pa_cons (pv 1) (pa_cons pe_int pa_nil))) (pg_name (i := 7) sc_law.nd rfl (Or.inl rfl))) (pss_cons (ps_asg (pe_ca G__law_parts hr (by first | decide | omega) (by rfl) (pa_cons (pv 1) (pa_cons (pv 4) pa_nil))) (pg_name (i := 8) sc_law.nd rfl (Or.inl rfl))) (pss_cons (ps_asg (pe_ifExp (pt_cmpR (opU_in_list (hu65 hr)) (pv 8) (pv 4) (by rfl)) (pe_op opU_add (pe_bm PySem.F.plainAttrs_list PySem.F.slot_list_index PySem.F.type_list_index (mt_indexD (hu65 hr)) (pv 4) (pa_cons (pv 8) pa_nil)) pe_int) pe_int) (pg_name (i := 9) sc_law.nd rfl (Or.inl rfl))) (pss_cons (ps_if (pt_cmpR opU_lt (pv 7) pe_int (nomark _)) (pss_cons (ps_if (pt_cmpR (opU_eq hr.units) (pv 9) pe_int (nomark _)) (pss_cons (ps_expr (pe_bm PySem.F.plainAttrs_list PySem.F.slot_list_append PySem.F.type_list_append mt_append (pv 4) (pa_cons (pv 8) pa_nil))) (pss_one (ps_asg (pe_callB lenU (by rfl) T.b_len PySem.boot_len (pa_cons (pv 4) pa_nil)) (pg_name (i := 9) sc_law.nd rfl (Or.inl rfl))))) pss_nil) (pss_one (ps_if (pt_not (pt_val (pe_ca G__law_same hr (by first | decide | omega) (by rfl) (pa_cons (pe_me G_Notary_seal hr (by first | decide | omega) (pv 2) (pa_cons (pv 8) pa_nil)) (pa_cons (pv 9) pa_nil))))) (pss_one (ps_ret pe_bl)) pss_nil))) (pss_one (ps_if (pt_cmpR (opU_eq hr.units) (pv 7) pe_int (nomark _)) (pss_cons (ps_asg (pe_op opU_add (pv 5) pe_int) (pg_name (i := 5) sc_law.nd rfl (Or.inl rfl))) (pss_one (ps_if (pt_not (pt_val (pe_ca G__law_same hr (by first | decide | omega) (by rfl) (pa_cons (pe_me G_Notary_find hr (by first | decide | omega) (pv 2) (pa_cons (pv 8) pa_nil)) (pa_cons (pv 9) pa_nil))))) (pss_one (ps_ret pe_bl)) pss_nil))) (pss_one (ps_if (pt_cmpR (opU_eq hr.units) (pv 7) pe_int (nomark _)) (pss_cons (ps_asg (pe_ca G__law_draw hr (by first | decide | omega) (by rfl) (pa_cons (pv 1) (pa_cons (pe_op opU_add (pe_callB lenU (by rfl) T.b_len PySem.boot_len (pa_cons (pv 4) pa_nil)) pe_int) pa_nil))) (pg_name (i := 10) sc_law.nd rfl (Or.inl rfl))) (pss_cons (ps_asg (pe_me G_Notary_parts_of hr (by first | decide | omega) (pv 2) (pa_cons (pv 10) pa_nil)) (pg_name (i := 11) sc_law.nd rfl (Or.inl rfl))) (pss_one (ps_if (pt_chain opU_le opU_le pe_int (pv 10) (pe_callB lenU (by rfl) T.b_len PySem.boot_len (pa_cons (pv 4) pa_nil))) (pss_one (ps_if (pt_not (pt_val (pe_ca G__law_same hr (by first | decide | omega) (by rfl) (pa_cons (pv 11) (pa_cons (pe_ix ixU (pv 4) (pe_op op_sub (pv 10) pe_int) (fun _ _ => rfl)) pa_nil))))) (pss_one (ps_ret pe_bl)) pss_nil)) (pss_one (ps_if (pt_cmpR op_notN (pv 11) pe_non (nomark _)) (pss_one (ps_ret pe_bl)) pss_nil)))))) (pss_cons (ps_asg (pe_ca G__law_wrong hr (by first | decide | omega) (by rfl) (pa_cons (pv 1) pa_nil)) (pg_name (i := 12) sc_law.nd rfl (Or.inl rfl))) (pss_cons (ps_asg (pe_op opU_add (pv 5) pe_int) (pg_name (i := 5) sc_law.nd rfl (Or.inl rfl))) (pss_one (ps_if (PW.pt (pw_or (pt_not (pt_val (pe_ca G__law_refused hr (by first | decide | omega) (by rfl) (pa_cons (pv 2) (pa_cons (pv 12) pa_nil))))) (pw_or1 (pt_not (pt_val (pe_ca G__law_same hr (by first | decide | omega) (by rfl) (pa_cons (pe_me G_Notary_find hr (by first | decide | omega) (pv 2) (pa_cons (pv 12) pa_nil)) (pa_cons pe_int pa_nil)))))))) (pss_one (ps_ret pe_bl)) pss_nil))))))))) (pss_one (ps_if (pt_not (pt_val (pe_ca G__law_same hr (by first | decide | omega) (by rfl) (pa_cons (pe_tup (pa_cons (pe_me0 G_Notary_size hr (by first | decide | omega) (pv 2)) (pa_cons (pe_me0 G_Notary_finds hr (by first | decide | omega) (pv 2)) pa_nil))) (pa_cons (pe_tup (pa_cons (pe_callB lenU (by rfl) T.b_len PySem.boot_len (pa_cons (pv 4) pa_nil)) (pa_cons (pv 5) pa_nil))) pa_nil))))) (pss_one (ps_ret pe_bl)) pss_nil))))))) (pss_one (ps_ret (pe_and (pe_ca G__law_same hr (by first | decide | omega) (by rfl) (pa_cons (pe_tup (pa_cons (pe_me0 G_Notary_size hr (by first | decide | omega) (pv 3)) (pa_cons (pe_me0 G_Notary_finds hr (by first | decide | omega) (pv 3)) (pa_cons (pe_me G_Notary_parts_of hr (by first | decide | omega) (pv 3) (pa_cons pe_int pa_nil)) pa_nil)))) (pa_cons (pe_tup (pa_cons pe_int (pa_cons pe_int (pa_cons pe_non pa_nil)))) pa_nil))) (pe_one (pe_cmpR (opU_eq hr.units) (pe_me G_Notary_seal hr (by first | decide | omega) (pv 3) (pa_cons (pe_tup (pa_cons pe_str pa_nil)) pa_nil)) pe_int (nomark _)))))))))))), ?_⟩
    walk_at "rd"
    refine' use_box hs ?_
    intro b c H1 hb hc f1 bx1
    walk_at "rd"
    have a1 := Bx.nb hn0 bx1
    have a2 := Bx.nc hn0 bx1
    refine' use_init hn1 ?_
    intro d l H3 hd hl f3 N3
    refine ⟨rfl, ?_⟩
    have bx2 := bx1.go hnf (by simp) (by simp)
    have d1 := Bx.nb hd bx2
    have d2 := Bx.nc hd bx2
    have l1 := Bx.nb hl bx2
    have l2 := Bx.nc hl bx2
    have bx3 := bx2.go f3 (by simp [Ne.symm a1]) (by simp [Ne.symm a2])
    have F3 : Fr [] H H3 := ((f1.snoc hnf sub_nil).snoc f3 fun _ z => .inr (by simp at z; rw [z]; exact f1.free hn0))
    walk_at "rd"
    have e1 := Bx.nb hn0 bx3
    have e2 := Bx.nc hn0 bx3
    obtain ⟨e3, e4, e5⟩ := N3.new hn0
    refine' use_init hn1 ?_
    intro d' l' H5 hd' hl' f5 N5
    refine ⟨rfl, ?_⟩
    have bx4 := bx3.go hnf (by simp) (by simp)
    have N4 := N3.go hnf (by simp) (by simp) (by simp)
    have g1 := Bx.nb hd' bx4
    have g2 := Bx.nc hd' bx4
    obtain ⟨g3, g4, g5⟩ := N4.new hd'
    have m1 := Bx.nb hl' bx4
    have m2 := Bx.nc hl' bx4
    obtain ⟨m3, m4, m5⟩ := N4.new hl'
    have bx5 := bx4.go f5 (by simp [Ne.symm e1]) (by simp [Ne.symm e2])
    have N4' := N4.go f5 (by simp [Ne.symm e3]) (by simp [Ne.symm e4]) (by simp [Ne.symm e5])
    have F5 : Fr [] H H5 := ((F3.snoc hnf sub_nil).snoc f5 fun _ z => .inr (by simp at z; rw [z]; exact F3.free hn0))
    walk_at "rd"
    have bx6 := bx5.go hnf (by simp) (by simp)
    have N6 := N4'.go hnf (by simp) (by simp) (by simp)
    have N7 := N5.go hnf (by simp) (by simp) (by simp)
    have r1 := Bx.nb hn0 bx5
    have r2 := Bx.nc hn0 bx5
    obtain ⟨r3, r4, r5⟩ := N4'.new hn0
    obtain ⟨r6, r7, r8⟩ := N5.new hn0
    have F6 : Fr [] H Hn := F5.snoc hnf sub_nil
    rename_i a dx1 G1 z1 z2 z3 z4 a' G2 z5 z6 z7
    have hL : LS C Pp Pt Hn b c a d l a' d' l' p [] [] 0 := by
      refine ⟨?_, bx6, N6, N7, ⟨[], hn1, .nil⟩, fun _ z => absurd z (by simp), F6.tab _ hp, F6.tab _ ht⟩
      have y1 := bx1.bc
      have y2 := N3.da
      have y3 := N3.la
      have y4 := N3.ld
      have y5 := N5.da
      have y6 := N5.la
      have y7 := N5.ld
      simp only [List.nodup_cons, List.mem_cons, List.not_mem_nil, or_false, not_or, List.nodup_nil, and_true, not_false_eq_true]
      refine ⟨⟨Ne.symm y1, Ne.symm a1, Ne.symm d1, Ne.symm l1, Ne.symm e1, Ne.symm g1, Ne.symm m1, Ne.symm r1⟩, ⟨Ne.symm a2, Ne.symm d2, Ne.symm l2, Ne.symm e2, Ne.symm g2, Ne.symm m2, Ne.symm r2⟩, ⟨Ne.symm y2, Ne.symm y3, Ne.symm e3, Ne.symm g3, Ne.symm m3, Ne.symm r3⟩, ⟨Ne.symm y4, Ne.symm e4, Ne.symm g4, Ne.symm m4, Ne.symm r4⟩, ⟨Ne.symm e5, Ne.symm g5, Ne.symm m5, Ne.symm r5⟩, ⟨Ne.symm y5, Ne.symm y6, Ne.symm r6⟩, ⟨Ne.symm y7, Ne.symm r7⟩, Ne.symm r8⟩
    clear a1 a2 d1 d2 l1 l2 e1 e2 e3 e4 e5 g1 g2 g3 g4 g5 m1 m2 m3 m4 m5 r1 r2 r3 r4 r5 r6 r7 r8 bx1 bx2 bx3 bx4 bx5 bx6 N3 N4 N4' N5 N6 N7 F3 F5 F6
    clear hb hc f1 z1 z2 z3 z4 hd hl f3 z5 hn2 z6 z7 hd' hl' f5 hn0 hnf hn1 hp ht
    refine kF_range (Inv0 C Pp Pt s' b c a d l a' d' l' p) ⟨[], 0, _, _, _, _, _, _, _, rfl, hL, Nat.le_refl _⟩ ?_ ?_
    · clear hL
      rintro i σ H7 hi ⟨ps, n, x6, x7, x8, x9, x10, x11, x12, rfl, hL, hlen⟩
      have hi' : i < 40 := hi
      walk_at "rd"
      refine' use_draw hL.bx ⟨by omega, by omega⟩ ?_
      intro kind H8 f8 b8 k0 k1
      have hL8 := hL.box f8 b8
      clear hL f8 b8
      walk_at "rd"
      obtain ⟨ys, hk, hy⟩ := hL8.kl
      refine' use_give hL8.bx hL8.ne.1.1 hL8.ne.1.2 hk hy (by omega) hL8.good ?_
      intro pa ks H9 f9 b9 hpa him hg
      have hL := hL8.box f9 b9
      clear hL8 f9 b9 hk hy ys
      obtain ⟨ys, hk, hy⟩ := hL.kl
      have hyl : ys.length = ps.length := by rw [hy.length, List.length_map]
      walk_at "rd"
      obtain ⟨dx0, hA⟩ := hL.n1.there
      have hdn := dn_k hg 1
      cases hq : posK ps ks with
      | some j =>
        refine' rd_inS hq hg hL.good hpa hk hy ?_
        have e1 : dueD ps (tupK ks) = (j : Nat) + 1 := by rw [due_good hg, hq]
        walk_at "rd"
        refine' rd_indexK hg hL.good hpa hk hy hq ?_
        walk_at "rd"
        walk_at "ite"
        · walk_at "rd"
          walk_at "ite"
          · omega
          walk_at "rd"
          refine' use_seal hL.n1 him hL.tp hL.tt (by omega) (fun _ H10 f10 N10 => ?_) (fun z => absurd (show partsD (tupK ks) = true from hg) (by rw [z]; decide))
          have e2 : newPs ps (keysD (tupK ks)) = ps := by rw [keys_tup]; simp [newPs, hq]
          rw [e2] at N10 ⊢
          rw [e1]
          replace hL := hL.note f10 N10
          walk_at "rd"
          walk_at "fin"
        · walk_at "rd"
          walk_at "ite"
          · walk_at "rd"
            refine' use_find hL.n1 him hL.tp hL.tt ?_
            intro H10 f10 N10
            rw [e1]
            replace hL := hL.note (f10.wide (by simp)) N10
            walk_at "rd"
            walk_at "fin"
          · walk_at "rd"
            walk_at "ite"
            · walk_at "rd"
              refine' use_draw hL.bx ⟨by omega, by omega⟩ ?_
              intro num H10 f10 b10 n0 n1
              have hk2 : H10 p = some (.lst ys) := f10.lst hk rfl (by simp [hL.ne.1.1, hL.ne.1.2])
              have hy2 := hy.go f10
              replace hL := hL.box f10 b10
              obtain ⟨dx1, hA1⟩ := hL.n1.there
              clear hk hA hy
              walk_at "rd"
              refine' use_parts_of hL.n1 (fun j' ks' v' hj' hps hv' => ?_) (fun hno => ?_)
              · obtain ⟨hlt, _⟩ := List.getElem?_eq_some_iff.mp hps
                have hdn' := dn_k (hL.good ks' (List.mem_of_getElem? hps)) 1
                obtain ⟨u, hu, hiu⟩ := hy2.getD (i := j') (d := tupK ks') (by rw [List.getElem?_map, hps]; rfl)
                have hat : atI ys (num - 1) = some u := at_of (by omega) hu
                walk_at "rd"
                walk_at "ite"
                · walk_at "rd"
                  walk_at "ite"
                  · walk_at "rd"
                    walk_at "fin"
                  · omega
                · omega
              · walk_at "rd"
                walk_at "ite"
                · walk_at "rd"
                  walk_at "ite"
                  · exact absurd (show num = ((num - 1).toNat : Nat) + 1 by omega) (hno (num - 1).toNat (by omega))
                  · walk_at "rd"
                    walk_at "ite"
                    · exact absurd rfl hc
                    · walk_at "rd"
                      walk_at "fin"
                · walk_at "rd"
                  walk_at "ite"
                  · exact absurd rfl hc
                  · walk_at "rd"
                    walk_at "fin"
            · walk_at "rd"
              refine' use_wrong hL.bx ?_
              intro wv wd H10 f10 b10 hiw hpw
              replace hL := hL.box f10 b10
              obtain ⟨dx1, hA1⟩ := hL.n1.there
              walk_at "rd"
              refine' use_refused hL.n1 hiw hL.tp hL.tt (by omega) hpw ?_
              intro H11 f11
              replace hL := hL.free f11
              have hA2 := f11.lst hA1 rfl (by simp)
              walk_at "rd"
              refine' use_find hL.n1 (hiw.go f11) hL.tp hL.tt ?_
              intro H12 f12 N12
              have e3 : dueD ps wd = 0 := by simp [dueD, hpw]
              rw [e3]
              replace hL := hL.note (f12.wide (by simp)) N12
              walk_at "rd"
              walk_at "fin"
      | none =>
        refine' rd_inN hq hg hL.good hpa hk hy ?_
        have e1 : dueD ps (tupK ks) = 0 := by rw [due_good hg, hq]
        walk_at "rd"
        walk_at "ite"
        · walk_at "rd"
          walk_at "ite"
          · have hyz : ys.length < sizeLine := by rw [hyl, sizeLine_eq]; omega
            have na := hL.ne.2.1
            walk_at "rd"
            have hL' := hL.app hnf hn1 hk him hg
            refine' use_seal hL'.n1 (him.go hnf) hL'.tp hL'.tt (by omega) (fun _ H10 f10 N10 => ?_) (fun z => absurd (show partsD (tupK ks) = true from hg) (by rw [z]; decide))
            have e2 : newPs ps (keysD (tupK ks)) = ps ++ [ks] := by rw [keys_tup]; simp [newPs, hq]
            have e3 : dueD (ps ++ [ks]) (tupK ks) = ((ys ++ [V.ref pa]).length : Nat) := by
              rw [due_good hg, posK_snoc hq]
              simp [hyl]
            rw [e2] at N10 ⊢
            rw [e3]
            replace hL := hL'.note f10 N10
            walk_at "rd"
            walk_at "fin"
          · omega
        · walk_at "rd"
          walk_at "ite"
          · walk_at "rd"
            refine' use_find hL.n1 him hL.tp hL.tt ?_
            intro H10 f10 N10
            rw [e1]
            replace hL := hL.note (f10.wide (by simp)) N10
            walk_at "rd"
            walk_at "fin"
          · walk_at "rd"
            walk_at "ite"
            · walk_at "rd"
              refine' use_draw hL.bx ⟨by omega, by omega⟩ ?_
              intro num H10 f10 b10 n0 n1
              have hk2 : H10 p = some (.lst ys) := f10.lst hk rfl (by simp [hL.ne.1.1, hL.ne.1.2])
              have hy2 := hy.go f10
              replace hL := hL.box f10 b10
              obtain ⟨dx1, hA1⟩ := hL.n1.there
              clear hk hA hy
              walk_at "rd"
              refine' use_parts_of hL.n1 (fun j' ks' v' hj' hps hv' => ?_) (fun hno => ?_)
              · obtain ⟨hlt, _⟩ := List.getElem?_eq_some_iff.mp hps
                have hdn' := dn_k (hL.good ks' (List.mem_of_getElem? hps)) 1
                obtain ⟨u, hu, hiu⟩ := hy2.getD (i := j') (d := tupK ks') (by rw [List.getElem?_map, hps]; rfl)
                have hat : atI ys (num - 1) = some u := at_of (by omega) hu
                walk_at "rd"
                walk_at "ite"
                · walk_at "rd"
                  walk_at "ite"
                  · walk_at "rd"
                    walk_at "fin"
                  · omega
                · omega
              · walk_at "rd"
                walk_at "ite"
                · walk_at "rd"
                  walk_at "ite"
                  · exact absurd (show num = ((num - 1).toNat : Nat) + 1 by omega) (hno (num - 1).toNat (by omega))
                  · walk_at "rd"
                    walk_at "ite"
                    · exact absurd rfl hc
                    · walk_at "rd"
                      walk_at "fin"
                · walk_at "rd"
                  walk_at "ite"
                  · exact absurd rfl hc
                  · walk_at "rd"
                    walk_at "fin"
            · walk_at "rd"
              refine' use_wrong hL.bx ?_
              intro wv wd H10 f10 b10 hiw hpw
              replace hL := hL.box f10 b10
              obtain ⟨dx1, hA1⟩ := hL.n1.there
              walk_at "rd"
              refine' use_refused hL.n1 hiw hL.tp hL.tt (by omega) hpw ?_
              intro H11 f11
              replace hL := hL.free f11
              have hA2 := f11.lst hA1 rfl (by simp)
              walk_at "rd"
              refine' use_find hL.n1 (hiw.go f11) hL.tp hL.tt ?_
              intro H12 f12 N12
              have e3 : dueD ps wd = 0 := by simp [dueD, hpw]
              rw [e3]
              replace hL := hL.note (f12.wide (by simp)) N12
              walk_at "rd"
              walk_at "fin"
    · clear hL
      rintro σ H7 ⟨ps, n, x6, x7, x8, x9, x10, x11, x12, rfl, hL, hlen⟩
      obtain ⟨dx0, hA⟩ := hL.n2.there
      walk_at "rd"
      refine' use_size hL.n2 (m := 0) rfl ?_
      walk_at "rd"
      refine' use_finds hL.n2 ?_
      walk_at "rd"
      refine' use_parts_of hL.n2 (fun j ks v hj hps _ => absurd hps (by simp)) (fun _ => ?_)
      walk_at "rd"
      rename_i p2 H8 h80 h81 f8
      have hdn : Dn 2 (.tup [.int 0, .int 0, .non]) := ⟨by simp, by simp [Dn]⟩
      refine' use_same (d := .tup [.int 0, .int 0, .non]) (.tup (hnf.tup _ _ h81) (.cons (.int 0) (.cons (.int 0) (.cons .non .nil)))) (.tup hn1 (.cons (.int 0) (.cons (.int 0) (.cons .non .nil)))) hdn ?_
      have hL2 := (hL.free f8).free hnf
      clear hL hA
      obtain ⟨dx1, hA1⟩ := hL2.n2.there
      walk_at "rd"
      have hL3 := hL2.free hnf
      have gq : goodK [Sum.inr "q"] := by
        show partsD (tupK [.inr "q"]) = true
        decide +kernel
      refine' use_seal (x := tupK [.inr "q"]) hL3.n2 (.tup hn1 (.cons (.str _ (by decide)) .nil)) hL3.tp hL3.tt (by decide) (fun _ H10 f10 N10 => ?_) (fun z => absurd (show partsD (tupK [.inr "q"]) = true from gq) (by rw [z]; decide))
      have e3 : dueD (newPs [] (keysD (tupK [.inr "q"]))) (tupK [.inr "q"]) = 1 := by decide +kernel
      rw [e3]
      walk_at "rd"
      exact k _
end
end Ow

set_option Elab.async false
set_option linter.all false
set_option maxRecDepth 100000
set_option maxHeartbeats 8000000
namespace Ow
open PySem PySem.Spec PyProof.Rows L2 GxR
/-! ### the end -/
def Tabs (q : Program) (mg : Str → Option Value) (h : Heap) : Prop := ∀ d ∈ recsOf q, ∃ (a : Addr) (o : Obj) (fd : FuncData) (c P : Addr), mg d.name = some (.ref a) ∧ h.get? a = some o ∧ o.data = .func fd ∧ fd.code = .ref c ∧ h.IsCode c P #[] ∧ h.TableAt c P #[]
theorem Tabs.at {q : Program} {mg : Str → Option Value} {h : Heap} {K : PySem.W.Frag} {x : Str} {f c P : Addr} {o : Obj} {fd : FuncData} {e : Value} {dd : Option Addr} {vs : Array Value} {sl : Array (Option Value)} (T : Tabs q mg h) (hrec : ((recsOf q).any fun e => e.name == x) = true) (KX : K.In h) (hx : mg x = some (.ref f))
    (k1 : K.lookup f = some o) (k2 : o.data = .func fd) (k3 : fd.code = .ref c) (k4 : K.lookup c = some ⟨e, dd, .fields vs, sl⟩) (k5 : vs[11]? = some (.ref P)) : h.get? P = some { cls := .none, data := .fields #[] } ∧ PySem.W.CodeHd h c P := by
  obtain ⟨dL, hm, hn1⟩ := List.any_eq_true.mp hrec
  have hn2 : dL.name = x := beq_iff_eq.mp hn1
  obtain ⟨a', o', fd', c', P', h1, h2, h3, h4, h5, h6⟩ := T dL hm
  rw [hn2, hx] at h1
  cases h1
  have g1 := KX _ _ k1
  rw [g1] at h2
  cases h2
  rw [k2] at h3
  cases h3
  rw [k3] at h4
  cases h4
  have hc := PySem.W.CodeHd.of h5 h6
  obtain ⟨⟨oc, vc, e1, _, e3, e4⟩, hP⟩ := h6
  have g2 := KX _ _ k4
  rw [g2] at e1
  cases e1
  cases e3
  rw [k5] at e4
  cases e4
  exact ⟨hP, hc⟩
theorem tab0 {H : Hp} {P : Addr} (h : H P = some (.tbl #[])) : TabG H P := ⟨#[], h, by first | exact True.intro | exact fun _ z => absurd z (by simp) | simp [TriplesOk]⟩
theorem tabB {base : Heap} {mg : Str → Option Value} {c P : Addr} (t : LamX.TabB base mg c P) : TabB base mg c P := ⟨t.code, t.bm, t.gP⟩
theorem walk_ofG {l : PySem.W.OpenLaw} {n k : Nat} {q : Program} {loose : List Str} {XP : (Str → Option Value) → Heap → Prop} {YP : World → Heap → Prop} {d : DefRec} {K : Params → PySem.W.Frag} {CX : World → CXT} {x : Str}
    (hn : l.most = some n) (hn2 : n ≤ sizeLine) (hdf : d.params.defaults = []) (hr : Room k callerA) (hY : ∀ (w : World) (h : Heap), YP w h → (K w.params).In h)
    (F : ∀ (w : World) (mg : Str → Option Value) (fa : Addr) (h : Heap), YP w h → (K w.params).In h → h.Ns mainGlobals mg → mg d.name = some (.ref fa) → Tabs q mg h → LamX.LawAtS l w (K w.params) (CX w) k n x mg fa h)
    (hCX : ∀ (w : World) (H : Hp) (s : Shared) (e : Value) (s' : Shared), CX w [] H s (fun _ _ _ => False) e s' → False) :
    PySem.W.WalkO q loose XP YP l.row.toRowW d [] (fun f vs => PySem.call f vs) := by
  refine Att.attach_callB hn hdf fun w s₀ s₁ mg mb fa o pm cd doc a vs ns G Y ho hd hcd hmg hobj hints hlen hbits hg => ?_
  have KX := hY w _ Y
  obtain ⟨fd, cs, sp, hT, nT, C, hb, hsp, hF⟩ := F w mg fa _ Y KX G.T.g hmg G.T.tab
  exact LamX.law_callTs KX G.T.g G.T.b G.T.builtins G.T.nolimit hg hT nT C G.T.bmain hobj hints (Nat.le_trans hlen hn2) hr hF hb (fun H hH hS => hsp H a ns hlen hbits hH hS) fun H e s' => hCX w H s₁ e s'
theorem all_mk {l : PySem.W.OpenLaw} {w : World} {q : Program} {K : PySem.W.Frag} {h : Heap} {mg : Str → Option Value} {fa C Cb Cw c2 c3 P2 P3 f1 f2 f3 f4 f5 f6 f7 f8 f9 f10 f11 f12 m1 m2 m3 m4 m5 m6 : Addr} (X : K.In h) (G : h.Ns mainGlobals mg) (hfa : mg "law" = some (.ref fa)) (hT : Tabs q mg h)
    (q2 : ((recsOf q).any fun e => e.name == ("_is_text" : Str)) = true) (q3 : ((recsOf q).any fun e => e.name == ("is_parts" : Str)) = true)
    {odf1 anf1 odf2 anf2 odf3 anf3 odf4 anf4 odf5 anf5 odf6 anf6 odf7 anf7 odf8 anf8 odf9 anf9 odf10 anf10 odf11 anf11 odf12 anf12 odm1 anm1 odm2 anm2 odm3 anm3 odm4 anm4 odm5 anm5 odm6 anm6 ddf2 ddf3 : Option Addr} {slf1 slf2 slf3 slf4 slf5 slf6 slf7 slf8 slf9 slf10 slf11 slf12 slm1 slm2 slm3 slm4 slm5 slm6 scf2 scf3 : Array (Option Value)} {ocf1 kVf1 dcf1 pmf1 ctf1 cdf1 ocf2 kVf2 dcf2 pmf2 ctf2 ocf3 kVf3 dcf3 pmf3 ctf3 ocf4 kVf4 dcf4 pmf4 ctf4 cdf4 ocf5 kVf5 dcf5 pmf5 ctf5 cdf5 ocf6 kVf6 dcf6 pmf6 ctf6 cdf6 ocf7 kVf7 dcf7 pmf7 ctf7 cdf7 ocf8 kVf8 dcf8 pmf8 ctf8 cdf8 ocf9 kVf9 dcf9 pmf9 ctf9 cdf9 ocf10 kVf10 dcf10 pmf10 ctf10 cdf10 ocf11 kVf11 dcf11 pmf11 ctf11 cdf11 ocf12 kVf12 dcf12 pmf12 ctf12 cdf12 ocm1 kVm1 dcm1 pmm1 ctm1 cdm1 ocm2 kVm2 dcm2 pmm2 ctm2 cdm2 ocm3 kVm3 dcm3 pmm3 ctm3 cdm3 ocm4 kVm4 dcm4 pmm4 ctm4 cdm4 ocm5 kVm5 dcm5 pmm5 ctm5 cdm5 ocm6 kVm6 dcm6 pmm6 ctm6 cdm6 ef2 ef3 : Value} {vsf2 vsf3 : Array Value} {tMAX_PART t_MAX_ELEMENTS t_MAX_TEXT : Tok}
    (af1 : PySem.W.nsIn K mainGlobals "is_number" = some (some (.ref f1)))
    (lf1 : K.lookup f1 = some ⟨ocf1, odf1, .func (PySem.W.fnOf "is_number" "is_number" (defArgs s_is_number) (defBody s_is_number) (defScope s_is_number) .none kVf1 dcf1 pmf1 anf1 cdf1 ctf1), slf1⟩)
    (cf1 : PySem.W.codeIn K cdf1 "is_number" = true)
    (kf1 : PySem.W.keepIn K (.ref f1) = true)
    (af2 : PySem.W.nsIn K mainGlobals "_is_text" = some (some (.ref f2)))
    (lf2 : K.lookup f2 = some ⟨ocf2, odf2, .func (PySem.W.fnOf "_is_text" "_is_text" (defArgs s__is_text) (defBody s__is_text) (defScope s__is_text) .none kVf2 dcf2 pmf2 anf2 (.ref c2) ctf2), slf2⟩)
    (cf2 : PySem.W.codeIn K (.ref c2) "_is_text" = true)
    (kf2 : PySem.W.keepIn K (.ref f2) = true)
    (vf2 : K.lookup c2 = some ⟨ef2, ddf2, .fields vsf2, scf2⟩)
    (wf2 : vsf2[11]? = some (.ref P2))
    (nf2 : K.lookup P2 = none)
    (af3 : PySem.W.nsIn K mainGlobals "is_parts" = some (some (.ref f3)))
    (lf3 : K.lookup f3 = some ⟨ocf3, odf3, .func (PySem.W.fnOf "is_parts" "is_parts" (defArgs s_is_parts) (defBody s_is_parts) (defScope s_is_parts) .none kVf3 dcf3 pmf3 anf3 (.ref c3) ctf3), slf3⟩)
    (cf3 : PySem.W.codeIn K (.ref c3) "is_parts" = true)
    (kf3 : PySem.W.keepIn K (.ref f3) = true)
    (vf3 : K.lookup c3 = some ⟨ef3, ddf3, .fields vsf3, scf3⟩)
    (wf3 : vsf3[11]? = some (.ref P3))
    (nf3 : K.lookup P3 = none)
    (af4 : PySem.W.nsIn K mainGlobals "_law_same" = some (some (.ref f4)))
    (lf4 : K.lookup f4 = some ⟨ocf4, odf4, .func (PySem.W.fnOf "_law_same" "_law_same" (defArgs s__law_same) (defBody s__law_same) (defScope s__law_same) .none kVf4 dcf4 pmf4 anf4 cdf4 ctf4), slf4⟩)
    (cf4 : PySem.W.codeIn K cdf4 "_law_same" = true)
    (kf4 : PySem.W.keepIn K (.ref f4) = true)
    (af5 : PySem.W.nsIn K mainGlobals "_law_box" = some (some (.ref f5)))
    (lf5 : K.lookup f5 = some ⟨ocf5, odf5, .func (PySem.W.fnOf "_law_box" "_law_box" (defArgs s__law_box) (defBody s__law_box) (defScope s__law_box) .none kVf5 dcf5 pmf5 anf5 cdf5 ctf5), slf5⟩)
    (cf5 : PySem.W.codeIn K cdf5 "_law_box" = true)
    (kf5 : PySem.W.keepIn K (.ref f5) = true)
    (af6 : PySem.W.nsIn K mainGlobals "_law_load" = some (some (.ref f6)))
    (lf6 : K.lookup f6 = some ⟨ocf6, odf6, .func (PySem.W.fnOf "_law_load" "_law_load" (defArgs s__law_load) (defBody s__law_load) (defScope s__law_load) .none kVf6 dcf6 pmf6 anf6 cdf6 ctf6), slf6⟩)
    (cf6 : PySem.W.codeIn K cdf6 "_law_load" = true)
    (kf6 : PySem.W.keepIn K (.ref f6) = true)
    (af7 : PySem.W.nsIn K mainGlobals "_law_draw" = some (some (.ref f7)))
    (lf7 : K.lookup f7 = some ⟨ocf7, odf7, .func (PySem.W.fnOf "_law_draw" "_law_draw" (defArgs s__law_draw) (defBody s__law_draw) (defScope s__law_draw) .none kVf7 dcf7 pmf7 anf7 cdf7 ctf7), slf7⟩)
    (cf7 : PySem.W.codeIn K cdf7 "_law_draw" = true)
    (kf7 : PySem.W.keepIn K (.ref f7) = true)
    (af8 : PySem.W.nsIn K mainGlobals "_law_part" = some (some (.ref f8)))
    (lf8 : K.lookup f8 = some ⟨ocf8, odf8, .func (PySem.W.fnOf "_law_part" "_law_part" (defArgs s__law_part) (defBody s__law_part) (defScope s__law_part) .none kVf8 dcf8 pmf8 anf8 cdf8 ctf8), slf8⟩)
    (cf8 : PySem.W.codeIn K cdf8 "_law_part" = true)
    (kf8 : PySem.W.keepIn K (.ref f8) = true)
    (af9 : PySem.W.nsIn K mainGlobals "_law_parts" = some (some (.ref f9)))
    (lf9 : K.lookup f9 = some ⟨ocf9, odf9, .func (PySem.W.fnOf "_law_parts" "_law_parts" (defArgs s__law_parts) (defBody s__law_parts) (defScope s__law_parts) .none kVf9 dcf9 pmf9 anf9 cdf9 ctf9), slf9⟩)
    (cf9 : PySem.W.codeIn K cdf9 "_law_parts" = true)
    (kf9 : PySem.W.keepIn K (.ref f9) = true)
    (af10 : PySem.W.nsIn K mainGlobals "_law_wrong" = some (some (.ref f10)))
    (lf10 : K.lookup f10 = some ⟨ocf10, odf10, .func (PySem.W.fnOf "_law_wrong" "_law_wrong" (defArgs s__law_wrong) (defBody s__law_wrong) (defScope s__law_wrong) .none kVf10 dcf10 pmf10 anf10 cdf10 ctf10), slf10⟩)
    (cf10 : PySem.W.codeIn K cdf10 "_law_wrong" = true)
    (kf10 : PySem.W.keepIn K (.ref f10) = true)
    (af11 : PySem.W.nsIn K mainGlobals "_law_refused" = some (some (.ref f11)))
    (lf11 : K.lookup f11 = some ⟨ocf11, odf11, .func (PySem.W.fnOf "_law_refused" "_law_refused" (defArgs s__law_refused) (defBody s__law_refused) (defScope s__law_refused) .none kVf11 dcf11 pmf11 anf11 cdf11 ctf11), slf11⟩)
    (cf11 : PySem.W.codeIn K cdf11 "_law_refused" = true)
    (kf11 : PySem.W.keepIn K (.ref f11) = true)
    (af12 : PySem.W.nsIn K mainGlobals "law" = some (some (.ref f12)))
    (lf12 : K.lookup f12 = some ⟨ocf12, odf12, .func (PySem.W.fnOf "law" "law" (defArgs s_law) (defBody s_law) (defScope s_law) .none kVf12 dcf12 pmf12 anf12 cdf12 ctf12), slf12⟩)
    (cf12 : PySem.W.codeIn K cdf12 "law" = true)
    (kf12 : PySem.W.keepIn K (.ref f12) = true)
    (aC : PySem.W.nsIn K mainGlobals "Notary" = some (some (.ref C)))
    (aB : PySem.W.nsIn K mainGlobals "BadParts" = some (some (.ref Cb)))
    (aW : PySem.W.nsIn K mainGlobals "WatchError" = some (some (.ref Cw)))
    (am1 : PySem.W.findIn K (.ref C) "__init__" = some (some (.ref m1)))
    (im1 : PySem.W.isFn K (.ref m1) = true)
    (lm1 : K.lookup m1 = some ⟨ocm1, odm1, .func (PySem.W.fnOf "__init__" "Notary.__init__" (defArgs s_Notary___init__) (defBody s_Notary___init__) (defScope s_Notary___init__) .none kVm1 dcm1 pmm1 anm1 cdm1 ctm1), slm1⟩)
    (cm1 : PySem.W.codeIn K cdm1 "Notary.__init__" = true)
    (km1 : PySem.W.keepIn K (.ref m1) = true)
    (am2 : PySem.W.findIn K (.ref C) "seal" = some (some (.ref m2)))
    (im2 : PySem.W.isFn K (.ref m2) = true)
    (lm2 : K.lookup m2 = some ⟨ocm2, odm2, .func (PySem.W.fnOf "seal" "Notary.seal" (defArgs s_Notary_seal) (defBody s_Notary_seal) (defScope s_Notary_seal) .none kVm2 dcm2 pmm2 anm2 cdm2 ctm2), slm2⟩)
    (cm2 : PySem.W.codeIn K cdm2 "Notary.seal" = true)
    (km2 : PySem.W.keepIn K (.ref m2) = true)
    (am3 : PySem.W.findIn K (.ref C) "find" = some (some (.ref m3)))
    (im3 : PySem.W.isFn K (.ref m3) = true)
    (lm3 : K.lookup m3 = some ⟨ocm3, odm3, .func (PySem.W.fnOf "find" "Notary.find" (defArgs s_Notary_find) (defBody s_Notary_find) (defScope s_Notary_find) .none kVm3 dcm3 pmm3 anm3 cdm3 ctm3), slm3⟩)
    (cm3 : PySem.W.codeIn K cdm3 "Notary.find" = true)
    (km3 : PySem.W.keepIn K (.ref m3) = true)
    (am4 : PySem.W.findIn K (.ref C) "parts_of" = some (some (.ref m4)))
    (im4 : PySem.W.isFn K (.ref m4) = true)
    (lm4 : K.lookup m4 = some ⟨ocm4, odm4, .func (PySem.W.fnOf "parts_of" "Notary.parts_of" (defArgs s_Notary_parts_of) (defBody s_Notary_parts_of) (defScope s_Notary_parts_of) .none kVm4 dcm4 pmm4 anm4 cdm4 ctm4), slm4⟩)
    (cm4 : PySem.W.codeIn K cdm4 "Notary.parts_of" = true)
    (km4 : PySem.W.keepIn K (.ref m4) = true)
    (am5 : PySem.W.findIn K (.ref C) "size" = some (some (.ref m5)))
    (im5 : PySem.W.isFn K (.ref m5) = true)
    (lm5 : K.lookup m5 = some ⟨ocm5, odm5, .func (PySem.W.fnOf "size" "Notary.size" (defArgs s_Notary_size) (defBody s_Notary_size) (defScope s_Notary_size) .none kVm5 dcm5 pmm5 anm5 cdm5 ctm5), slm5⟩)
    (cm5 : PySem.W.codeIn K cdm5 "Notary.size" = true)
    (km5 : PySem.W.keepIn K (.ref m5) = true)
    (am6 : PySem.W.findIn K (.ref C) "finds" = some (some (.ref m6)))
    (im6 : PySem.W.isFn K (.ref m6) = true)
    (lm6 : K.lookup m6 = some ⟨ocm6, odm6, .func (PySem.W.fnOf "finds" "Notary.finds" (defArgs s_Notary_finds) (defBody s_Notary_finds) (defScope s_Notary_finds) .none kVm6 dcm6 pmm6 anm6 cdm6 ctm6), slm6⟩)
    (cm6 : PySem.W.codeIn K cdm6 "Notary.finds" = true)
    (km6 : PySem.W.keepIn K (.ref m6) = true)
    (pg : PySem.W.plainGet K C Str.empty = true)
    (hd : PySem.W.hasDictIn K C = true)
    (po : PySem.W.plainOver K C = true)
    (sa : PySem.W.findIn K (.ref C) "__setattr__" = some (some (.builtin "object.__setattr__")))
    (mk : PySem.W.makesIn K C = true)
    (kc : PySem.W.keepIn K (.ref C) = true)
    (nS : PySem.W.findIn K (.ref C) "_seals" = some none)
    (nP : PySem.W.findIn K (.ref C) "_parts" = some none)
    (nF : PySem.W.findIn K (.ref C) "_finds" = some none)
    (xB : PySem.W.excIn K Cb [.type "ValueError", .type "Exception", .type "BaseException", .type "object"] "ValueError.__new__" = true)
    (kB : PySem.W.keepIn K (.ref Cb) = true)
    (bB : PySem.W.subIn K (.ref Cb) (.type "BaseException") = some true)
    (tB : PySem.W.typeIn K (.ref Cb) = some (.type "type"))
    (sB : PySem.W.subIn K (.ref Cb) (.ref Cb) = some true)
    (hB : PySem.W.hasDictIn K Cb = true)
    (gB : PySem.W.findIn K (.ref Cb) "__getattribute__" = some (some (.builtin "BaseException.__getattribute__")))
    (rB : PySem.W.findIn K (.ref Cb) "__getattr__" = some none)
    (qB : PySem.W.findIn K (.ref Cb) "__class__" = some (some (.builtin "object.__class__")))
    (uB : PySem.W.specialIn K (.builtin "object.__class__") "__get__" = some (some (.builtin "getset_descriptor.__get__")))
    (yB : PySem.W.takesIn K (.builtin "object.__class__") = some true)
    (mB : PySem.W.mroIn K Cb (.type "object") = some true)
    (o1 : PySem.W.kitOne K (.ref Cb) (.ref Cw) = some true)
    (o2 : PySem.W.kitOne K (.ref Cb) (.type "ValueError") = some true)
    (z_isinstance : PySem.W.nsIn K mainGlobals "isinstance" = some none)
    (z_int : PySem.W.nsIn K mainGlobals "int" = some none)
    (z_bool : PySem.W.nsIn K mainGlobals "bool" = some none)
    (z_str : PySem.W.nsIn K mainGlobals "str" = some none)
    (z_tuple : PySem.W.nsIn K mainGlobals "tuple" = some none)
    (z_len : PySem.W.nsIn K mainGlobals "len" = some none)
    (z_all : PySem.W.nsIn K mainGlobals "all" = some none)
    (z_range : PySem.W.nsIn K mainGlobals "range" = some none)
    (z_list : PySem.W.nsIn K mainGlobals "list" = some none)
    (z_ValueError : PySem.W.nsIn K mainGlobals "ValueError" = some none)
    (g_MAX_PART : PySem.W.nsIn K mainGlobals "MAX_PART" = some (some (.int 281474976710656 tMAX_PART)))
    (g__MAX_ELEMENTS : PySem.W.nsIn K mainGlobals "_MAX_ELEMENTS" = some (some (.int 16 t_MAX_ELEMENTS)))
    (g__MAX_TEXT : PySem.W.nsIn K mainGlobals "_MAX_TEXT" = some (some (.int 24 t_MAX_TEXT)))
    : LamX.LawAtS l w K (L2.CX l.prog w) 8 63 "script" mg fa h := by
  have e := hfa.symm.trans (PySem.W.mg_of X G af12)
  cases e
  obtain ⟨y2, d2⟩ := hT.at q2 X (PySem.W.mg_of X G af2) lf2 rfl rfl vf2 wf2
  obtain ⟨y3, d3⟩ := hT.at q3 X (PySem.W.mg_of X G af3) lf3 rfl rfl vf3 wf3
  have Ff1 := fun_mk (st := s_is_number) lf1 cf1 kf1
  have bf1 := Ff1.binds (ps := ["value", "most"]) fun _ _ _ _ _ _ us hl => match us, hl with | [_, _], _ => rfl
  have Ff2 := fun_mk (st := s__is_text) lf2 cf2 kf2
  have bf2 := Ff2.binds (ps := ["value"]) fun _ _ _ _ _ _ us hl => match us, hl with | [_], _ => rfl
  have Ff3 := fun_mk (st := s_is_parts) lf3 cf3 kf3
  have bf3 := Ff3.binds (ps := ["value"]) fun _ _ _ _ _ _ us hl => match us, hl with | [_], _ => rfl
  have Ff4 := fun_mk (st := s__law_same) lf4 cf4 kf4
  have bf4 := Ff4.binds (ps := ["a", "b"]) fun _ _ _ _ _ _ us hl => match us, hl with | [_, _], _ => rfl
  have Ff5 := fun_mk (st := s__law_box) lf5 cf5 kf5
  have bf5 := Ff5.binds (ps := ["script", "nodes"]) fun _ _ _ _ _ _ us hl => match us, hl with | [_, _], _ => rfl
  have Ff6 := fun_mk (st := s__law_load) lf6 cf6 kf6
  have bf6 := Ff6.binds (ps := ["box"]) fun _ _ _ _ _ _ us hl => match us, hl with | [_], _ => rfl
  have Ff7 := fun_mk (st := s__law_draw) lf7 cf7 kf7
  have bf7 := Ff7.binds (ps := ["box", "many"]) fun _ _ _ _ _ _ us hl => match us, hl with | [_, _], _ => rfl
  have Ff8 := fun_mk (st := s__law_part) lf8 cf8 kf8
  have bf8 := Ff8.binds (ps := ["box"]) fun _ _ _ _ _ _ us hl => match us, hl with | [_], _ => rfl
  have Ff9 := fun_mk (st := s__law_parts) lf9 cf9 kf9
  have bf9 := Ff9.binds (ps := ["box", "known"]) fun _ _ _ _ _ _ us hl => match us, hl with | [_, _], _ => rfl
  have Ff10 := fun_mk (st := s__law_wrong) lf10 cf10 kf10
  have bf10 := Ff10.binds (ps := ["box"]) fun _ _ _ _ _ _ us hl => match us, hl with | [_], _ => rfl
  have Ff11 := fun_mk (st := s__law_refused) lf11 cf11 kf11
  have bf11 := Ff11.binds (ps := ["notary", "parts"]) fun _ _ _ _ _ _ us hl => match us, hl with | [_, _], _ => rfl
  have Ff12 := fun_mk (st := s_law) lf12 cf12 kf12
  have bf12 := Ff12.binds (ps := ["script"]) fun _ _ _ _ _ _ us hl => match us, hl with | [_], _ => rfl
  have Fm1 := fun_mk (st := s_Notary___init__) lm1 cm1 km1
  have bm1 := Fm1.binds (ps := ["self"]) fun _ _ _ _ _ _ us hl => match us, hl with | [_], _ => rfl
  have Fm2 := fun_mk (st := s_Notary_seal) lm2 cm2 km2
  have bm2 := Fm2.binds (ps := ["self", "parts"]) fun _ _ _ _ _ _ us hl => match us, hl with | [_, _], _ => rfl
  have Fm3 := fun_mk (st := s_Notary_find) lm3 cm3 km3
  have bm3 := Fm3.binds (ps := ["self", "parts"]) fun _ _ _ _ _ _ us hl => match us, hl with | [_, _], _ => rfl
  have Fm4 := fun_mk (st := s_Notary_parts_of) lm4 cm4 km4
  have bm4 := Fm4.binds (ps := ["self", "seal"]) fun _ _ _ _ _ _ us hl => match us, hl with | [_, _], _ => rfl
  have Fm5 := fun_mk (st := s_Notary_size) lm5 cm5 km5
  have bm5 := Fm5.binds (ps := ["self"]) fun _ _ _ _ _ _ us hl => match us, hl with | [_], _ => rfl
  have Fm6 := fun_mk (st := s_Notary_finds) lm6 cm6 km6
  have bm6 := Fm6.binds (ps := ["self"]) fun _ _ _ _ _ _ us hl => match us, hl with | [_], _ => rfl
  have T1 : Txt K mg := { b_isinstance := PySem.W.mg_none_of X G z_isinstance, b_int := PySem.W.mg_none_of X G z_int, b_bool := PySem.W.mg_none_of X G z_bool, b_str := PySem.W.mg_none_of X G z_str, b_tuple := PySem.W.mg_none_of X G z_tuple, b_len := PySem.W.mg_none_of X G z_len, b_all := PySem.W.mg_none_of X G z_all, g_MAX_PART := ⟨_, PySem.W.mg_of X G g_MAX_PART, ⟨_, rfl⟩⟩, g__MAX_ELEMENTS := ⟨_, PySem.W.mg_of X G g__MAX_ELEMENTS, ⟨_, rfl⟩⟩, g__MAX_TEXT := ⟨_, PySem.W.mg_of X G g__MAX_TEXT, ⟨_, rfl⟩⟩ }
  have cl : Cls K C := ⟨pg, hd, po, sa⟩
  have T2 : TxtN K mg C Cb := { toTxt := T1, cls := cl, n1 := nS, n2 := nP, n3 := nF, x_BadParts := xB, m_BadParts := PySem.W.mg_of X G aB, k_BadParts := kB, bx_BadParts := bB, tx_BadParts := tB }
  have T3 : TxtL K mg := { b_isinstance := T1.b_isinstance, b_int := T1.b_int, b_bool := T1.b_bool, b_str := T1.b_str, b_tuple := T1.b_tuple, b_list := PySem.W.mg_none_of X G z_list, b_len := T1.b_len, b_range := PySem.W.mg_none_of X G z_range }
  have T4 : TxtR K mg Cb Cw := { b_isinstance := T1.b_isinstance, b_ValueError := PySem.W.mg_none_of X G z_ValueError, m_BadParts := PySem.W.mg_of X G aB, g_WatchError := ⟨_, PySem.W.mg_of X G aW, rfl⟩, exm := PySem.W.exm_ref bB hB tB sB, exc := ⟨gB, rB, bB, hB, qB, uB, yB, mB⟩, k1 := o1, k2 := o2 }
  have T5 : TxtW K mg C := ⟨cl, T3.b_range, T3.b_len⟩
  refine ⟨PySem.W.fnOf "law" "law" (defArgs s_law) (defBody s_law) (defScope s_law) .none kVf12 dcf12 pmf12 anf12 cdf12 ctf12, [(c2, P2), (c3, P3)], spLaw K P3 P2, fun p hp => ?_, fun p hp => ?_, fun p hp => ?_, fun s u => .of_eq rfl, fun H a ns _ _ hH hS => ⟨a, ns, rfl, hS, tab0 (hH (c3, P3) (by simp)), tab0 (hH (c2, P2) (by simp)), fun _ => rfl⟩, fun base _ _ hB => ?_⟩
  · rcases List.mem_cons.mp hp with z | z
    · rw [z]; exact y2
    · rw [List.mem_singleton.mp z]; exact y3
  · rcases List.mem_cons.mp hp with z | z
    · rw [z]; exact nf2
    · rw [List.mem_singleton.mp z]; exact nf3
  · rcases List.mem_cons.mp hp with z | z
    · rw [z]; exact d2
    · rw [List.mem_singleton.mp z]; exact d3
  · have t2 := tabB (hB (c2, P2) (by simp))
    have t3 := tabB (hB (c3, P3) (by simp))
    have FT2 : FunT K base mg "_is_text" "_is_text" s__is_text f2 _ P2 := ⟨⟨_, _, _, _, _, _, c2, _, _, rfl, lf2, cf2, t2⟩, kf2⟩
    have FT3 : FunT K base mg "is_parts" "is_parts" s_is_parts f3 _ P3 := ⟨⟨_, _, _, _, _, _, c3, _, _, rfl, lf3, cf3, t3⟩, kf3⟩
    have G1 : Ca l.prog w K mg base 1 "is_number" spNum := ⟨f1, _, _, ok_is_number Ff1 T1, PySem.W.mg_of X G af1, kf1, bf1⟩
    have G2 : Ca l.prog w K mg base 2 "_is_text" (spText P2) := ⟨f2, _, _, ok__is_text FT2 T1, PySem.W.mg_of X G af2, kf2, bf2⟩
    have G3 : Ca l.prog w K mg base 5 "is_parts" (spParts P3 P2) := ⟨f3, _, _, ok_is_parts FT3 T1 G1 G2, PySem.W.mg_of X G af3, kf3, bf3⟩
    have G4 : Ca l.prog w K mg base 3 "_law_same" (spSame 3) := ⟨f4, _, _, ok_same Ff4 T3 (PySem.W.mg_of X G af4) kf4 bf4 3, PySem.W.mg_of X G af4, kf4, bf4⟩
    have G5 : Ca l.prog w K mg base 1 "_law_box" (spBox K) := ⟨f5, _, _, ok_box Ff5 T3, PySem.W.mg_of X G af5, kf5, bf5⟩
    have G6 : Ca l.prog w K mg base 1 "_law_load" spLoad := ⟨f6, _, _, ok_load Ff6 T3, PySem.W.mg_of X G af6, kf6, bf6⟩
    have G7 : Ca l.prog w K mg base 2 "_law_draw" spDraw := ⟨f7, _, _, ok_draw Ff7 T3 G6, PySem.W.mg_of X G af7, kf7, bf7⟩
    have G8 : Ca l.prog w K mg base 3 "_law_part" spPart := ⟨f8, _, _, ok_part Ff8 T3 G7, PySem.W.mg_of X G af8, kf8, bf8⟩
    have G9 : Ca l.prog w K mg base 4 "_law_parts" spGive := ⟨f9, _, _, ok_parts Ff9 T3 G7 G8, PySem.W.mg_of X G af9, kf9, bf9⟩
    have G10 : Ca l.prog w K mg base 3 "_law_wrong" spWrong := ⟨f10, _, _, ok_wrong Ff10 T3 G7, PySem.W.mg_of X G af10, kf10, bf10⟩
    have M2 : Me l.prog w K mg base 6 C "seal" (spSeal C Cb P3 P2) := ⟨m2, _, _, cl, ⟨am2, im2, km2⟩, ok_seal Fm2 T2 G3, bm2⟩
    have M3 : Me l.prog w K mg base 6 C "find" (spFind C P3 P2) := ⟨m3, _, _, cl, ⟨am3, im3, km3⟩, ok_find Fm3 T2 G3, bm3⟩
    have M4 : Me l.prog w K mg base 1 C "parts_of" (spParts_of C) := ⟨m4, _, _, cl, ⟨am4, im4, km4⟩, ok_parts_of Fm4 T2, bm4⟩
    have M5 : Me l.prog w K mg base 1 C "size" (spSize C) := ⟨m5, _, _, cl, ⟨am5, im5, km5⟩, ok_size Fm5 T2, bm5⟩
    have M6 : Me l.prog w K mg base 1 C "finds" (spFinds C) := ⟨m6, _, _, cl, ⟨am6, im6, km6⟩, ok_finds Fm6 T2, bm6⟩
    have MM : Ma l.prog w K mg base 1 "Notary" C (spInit C) := ⟨m1, _, _, ⟨mk, am1, im1, kc⟩, ok_init Fm1 T2, PySem.W.mg_of X G aC, bm1⟩
    have G11 : Ca l.prog w K mg base 7 "_law_refused" (spRefused C Cb P3 P2) := ⟨f11, _, _, ok_refused Ff11 T4 M2, PySem.W.mg_of X G af11, kf11, bf11⟩
    exact ok_law Ff12 T5 G5 MM G7 G9 G4 M2 M3 M4 M5 M6 G10 G11
end Ow


set_option Elab.async false

open PySem PySem.W PyProof.Rows in
set_option maxRecDepth 100000 in
set_option maxHeartbeats 0 in
theorem PySem.Challenge.cw_onewatcher_k00_notary_holds : PySem.Challenge.rw_onewatcher_k00_notary.Holds := by
  w_on; o_law; k_head; (case hw => w_witness2)
  k_fill
  refine Ow.walk_ofG (l := PySem.Challenge.rw_onewatcher_k00_notary) (n := 63) (k := 8) (x := "script") (CX := fun w => L2.CX (PySem.Challenge.rw_onewatcher_k00_notary).prog w) rfl (by decide) rfl ⟨rfl, by decide, by decide⟩ (fun w h Y => PySem.W.kIn_of Y) ?F (fun w H s e s' z => by obtain ⟨_, _, _, _, _, _, _, _, _, _, _, _, z⟩ := z; exact z)
  case F =>
    intro w mg fa h Y KX G hmg hT
    refine' Ow.all_mk KX G hmg hT (by decide +kernel) (by decide +kernel) ?af1 ?lf1 ?cf1 ?kf1 ?af2 ?lf2 ?cf2 ?kf2 ?vf2 ?wf2 ?nf2 ?af3 ?lf3 ?cf3 ?kf3 ?vf3 ?wf3 ?nf3 ?af4 ?lf4 ?cf4 ?kf4 ?af5 ?lf5 ?cf5 ?kf5 ?af6 ?lf6 ?cf6 ?kf6 ?af7 ?lf7 ?cf7 ?kf7 ?af8 ?lf8 ?cf8 ?kf8 ?af9 ?lf9 ?cf9 ?kf9 ?af10 ?lf10 ?cf10 ?kf10 ?af11 ?lf11 ?cf11 ?kf11 ?af12 ?lf12 ?cf12 ?kf12 ?aC ?aB ?aW ?am1 ?im1 ?lm1 ?cm1 ?km1 ?am2 ?im2 ?lm2 ?cm2 ?km2 ?am3 ?im3 ?lm3 ?cm3 ?km3 ?am4 ?im4 ?lm4 ?cm4 ?km4 ?am5 ?im5 ?lm5 ?cm5 ?km5 ?am6 ?im6 ?lm6 ?cm6 ?km6 ?pg ?hd ?po ?sa ?mk ?kc ?nS ?nP ?nF ?xB ?kB ?bB ?tB ?sB ?hB ?gB ?rB ?qB ?uB ?yB ?mB ?o1 ?o2 ?z_isinstance ?z_int ?z_bool ?z_str ?z_tuple ?z_len ?z_all ?z_range ?z_list ?z_ValueError ?g_MAX_PART ?g__MAX_ELEMENTS ?g__MAX_TEXT
    (case af1 => k_is)
    (case lf1 => k_is)
    (case cf1 => k_is)
    (case kf1 => k_is)
    (case af2 => k_is)
    (case lf2 => k_is)
    (case cf2 => k_is)
    (case kf2 => k_is)
    (case vf2 => k_is)
    (case wf2 => first | rfl | k_is)
    (case nf2 => exact rfl)
    (case af3 => k_is)
    (case lf3 => k_is)
    (case cf3 => k_is)
    (case kf3 => k_is)
    (case vf3 => k_is)
    (case wf3 => first | rfl | k_is)
    (case nf3 => exact rfl)
    (case af4 => k_is)
    (case lf4 => k_is)
    (case cf4 => k_is)
    (case kf4 => k_is)
    (case af5 => k_is)
    (case lf5 => k_is)
    (case cf5 => k_is)
    (case kf5 => k_is)
    (case af6 => k_is)
    (case lf6 => k_is)
    (case cf6 => k_is)
    (case kf6 => k_is)
    (case af7 => k_is)
    (case lf7 => k_is)
    (case cf7 => k_is)
    (case kf7 => k_is)
    (case af8 => k_is)
    (case lf8 => k_is)
    (case cf8 => k_is)
    (case kf8 => k_is)
    (case af9 => k_is)
    (case lf9 => k_is)
    (case cf9 => k_is)
    (case kf9 => k_is)
    (case af10 => k_is)
    (case lf10 => k_is)
    (case cf10 => k_is)
    (case kf10 => k_is)
    (case af11 => k_is)
    (case lf11 => k_is)
    (case cf11 => k_is)
    (case kf11 => k_is)
    (case af12 => k_is)
    (case lf12 => k_is)
    (case cf12 => k_is)
    (case kf12 => k_is)
    (case aC => k_is)
    (case aB => k_is)
    (case aW => k_is)
    (case am1 => k_is)
    (case im1 => k_is)
    (case lm1 => k_is)
    (case cm1 => k_is)
    (case km1 => k_is)
    (case am2 => k_is)
    (case im2 => k_is)
    (case lm2 => k_is)
    (case cm2 => k_is)
    (case km2 => k_is)
    (case am3 => k_is)
    (case im3 => k_is)
    (case lm3 => k_is)
    (case cm3 => k_is)
    (case km3 => k_is)
    (case am4 => k_is)
    (case im4 => k_is)
    (case lm4 => k_is)
    (case cm4 => k_is)
    (case km4 => k_is)
    (case am5 => k_is)
    (case im5 => k_is)
    (case lm5 => k_is)
    (case cm5 => k_is)
    (case km5 => k_is)
    (case am6 => k_is)
    (case im6 => k_is)
    (case lm6 => k_is)
    (case cm6 => k_is)
    (case km6 => k_is)
    (case pg => k_is)
    (case hd => k_is)
    (case po => k_is)
    (case sa => k_is)
    (case mk => k_is)
    (case kc => k_is)
    (case nS => k_is)
    (case nP => k_is)
    (case nF => k_is)
    (case xB => k_exc)
    (case kB => k_is)
    (case bB => k_is)
    (case tB => k_is)
    (case sB => first | rfl | k_is)
    (case hB => k_is)
    (case gB => k_is)
    (case rB => k_is)
    (case qB => k_is)
    (case uB => k_is)
    (case yB => k_is)
    (case mB => k_is)
    (case o1 => first | rfl | k_is)
    (case o2 => first | rfl | k_is)
    (case z_isinstance => k_is)
    (case z_int => k_is)
    (case z_bool => k_is)
    (case z_str => k_is)
    (case z_tuple => k_is)
    (case z_len => k_is)
    (case z_all => k_is)
    (case z_range => k_is)
    (case z_list => k_is)
    (case z_ValueError => k_is)
    (case g_MAX_PART => k_is)
    (case g__MAX_ELEMENTS => k_is)
    (case g__MAX_TEXT => k_is)

