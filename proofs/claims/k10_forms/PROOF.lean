import PyProof.Rows.All
import Wide.All
import OpenK.AllK
import Wide.FinOn
import HandS.ForMost
import HandS.AnyAll
import HandS.GenCall
import HandS.Deep
import HandS.TupAny
import HandS.TupMul
import HandS.Wide
import HandS.IsInst
import HandS.WordsExc
import HandS.ExcIs
import HandS.EndTab
import HandS.Conv
import HandS.Style
import PyProof.StrOps2
import HandS.Text
import HandS.Codes
import HandS.More
import HandS.RevRange
import HandS.TupLe
import HandS.TryOnly
import KE.GoesNew
import HandS.Zip
import PySem.Challenge.RW_onewatcher_k10_forms
set_option Elab.async false
set_option linter.all false
set_option maxRecDepth 100000
set_option maxHeartbeats 4000000
namespace Ow
open PySem PySem.Spec PyProof.Rows L2 GxR

/-- the context of a generator expression's code -/
abbrev gxCx (X : Cx) (s : Shared) (H : Hp) (scope : Scope) (cenv : Env) (A' : Around) (fp : List Addr) (pn : List (Addr × Obj)) : Cx :=
  { X with A := A', s_0 := s, H_0 := H, env := cenv, outer := X.stack, stack := cenv :: X.stack, ex := fp, fn := fun _ => false, calm := true, pn := pn, xe := fun _ _ => False }

section
variable {X : Cx} {pins : List (Addr × Obj)} {σ : L2.St} {H : Hp} {s : Shared}

theorem gx_start {scope : Scope} {own : List (Str × Nat)} {fp : List Addr} {A' : Around} {code : Value} {C : Addr} {h' : Heap} {g' : Array GenState} {t' : Nat} {mC : Str → Option Value} {pn : List (Addr × Obj)}
    (I : Inv X pins σ H s) (ok : BlkOk X.N X.env.scope scope own) (hcell : ∀ y ∈ scope.names, y.2 ≠ .cell) (hN : X.N.Nodup) (hfp : ∀ b ∈ fp, FpOk X pins H b ∧ b < s.heap.objs.size)
    (hC : s.heap.objs.size ≤ C) (hns : h'.Ns C mC) (kp : ∀ b o, s.heap.get? b = some o → h'.get? b = some o) (hg : AllBare g')
    (hA : A'.handled = none) (hfr : A'.frames = some (genEnv scope (cloFrom X.env.cells scope.names []) C code builtinsNs X.env :: X.stack))
    (hpn : ∀ p ∈ pn, h'.get? p.1 = some p.2 ∧ s.heap.objs.size ≤ p.1 ∧ p.1 ≠ C ∧ ∀ v, p.2.data ≠ .cell v) :
    Inv (gxCx X s H scope (genEnv scope (cloFrom X.env.cells scope.names []) C code builtinsNs X.env) A' fp pn) [] (wipe σ (own.map (·.2))) H { s with heap := h', gens := g', toks := t' } := by
  have hfree : ∀ y ∈ scope.names, y.2 = .free → ∃ c, X.env.cells.lookup y.1 = some c := fun y hy e => by
    rcases ok.free y hy e with k | k
    · exact I.ok.has _ (.inl k)
    · exact I.ok.has _ (.inr k)
  have cm : ∀ {y c}, (y, c) ∈ cloFrom X.env.cells scope.names [] → X.env.cells.lookup y = some c ∧ c < s.heap.objs.size := fun {y c} hm => by
    rcases cloFrom_mem hm with hm | ⟨h1, rfl⟩
    · cases hm
    · obtain ⟨c, hc⟩ := hfree _ h1 rfl
      rw [hc]
      obtain ⟨w, z⟩ := I.cell _ _ hc
      exact ⟨rfl, z.lt⟩
  have cml : ∀ {y c}, (cloFrom X.env.cells scope.names []).lookup y = some c → X.env.cells.lookup y = some c ∧ c < s.heap.objs.size := fun {y c} e => cm (PySem.mem_of_lookup e)
  have okB : (gxCx X s H scope (genEnv scope (cloFrom X.env.cells scope.names []) C code builtinsNs X.env) A' fp pn).Ok := by
    refine ⟨I.ok.mod, ok.kind, I.ok.glob, rfl, hC, fun y z c e1 e2 => ?_, fun y hy => ?_, fun y c z e => ?_, fun _ => hA, hfr, .inr ⟨rfl, rfl⟩, fun b hb => ⟨?_, fun y c e z => ?_⟩, I.bs, Nat.le_trans I.ok.bsz I.sz, fun b o e hb => ?_, fun b hb z => ?_, I.stack, I.stkFree⟩
    · exact I.ok.inj y z c (cml e1).1 (cml e2).1
    · rcases hy with hy | hy
      · have : scope.names.lookup y = some .cell := hy
        exact absurd rfl (hcell _ (PySem.mem_of_lookup this))
      · have hy' : scope.names.lookup y = some .free := hy
        obtain ⟨c', e'⟩ := mem_lookup (cloFrom_has (cells := X.env.cells) (acc := []) (PySem.mem_of_lookup hy'))
        exact ⟨c', e'⟩
    · cases z
    · show b ≠ C
      exact Nat.ne_of_lt (Nat.lt_of_lt_of_le (hfp b hb).2 hC)
    · have e : (cloFrom X.env.cells scope.names []).lookup y = some c := e
      exact (hfp b hb).1.2.2.2.2.1 y c (cml e).1 z
    · rcases (hfp b hb).1.2.2.2.1 with z | z
      · exact I.ok.noex b o e z
      · exact absurd (Nat.lt_of_lt_of_le (Heap.lt_size e) (Nat.le_trans I.ok.bsz z)) (Nat.lt_irrefl _)
    · rcases List.mem_cons.mp (I.stkSub b z) with z | z
      · exact (hfp b hb).1.2.1 z
      · exact (hfp b hb).1.2.2.1 z
  refine ⟨okB, rfl, hg, Un.kept kp, ⟨mC, hns, fun i y av e1 e2 e3 => ?_⟩, fun y c e => ?_, ?_, fun y c e => ?_, fun p hp => ?_, I.hok.kept kp, by rw [wipe_length]; exact I.len⟩
  · obtain ⟨e2, hne⟩ := wipe_some e2
    have e3 : Vis scope y := e3
    have no : ∀ k, scope.names.lookup y = some k → ¬ (k = .local ∨ k = .cell) := fun k e hh => by
      rcases ok.own _ (PySem.mem_of_lookup e) hh with e' | e'
      · obtain ⟨p, hp, hpy⟩ := List.mem_map.mp e'
        have e3 := ok.ix p hp
        have : p.1 = y := hpy
        rw [this] at e3
        exact hne (List.mem_map.mpr ⟨p, hp, nodup_ix hN e3 e1⟩)
      · exact e' (List.mem_of_getElem? e1)
    have hfr : scope.names.lookup y = some .free := by
      rcases e3 with e3 | e3 | e3
      · exact absurd (.inl rfl) (no _ e3)
      · exact absurd (.inr rfl) (no _ e3)
      · exact e3
    obtain ⟨m, hn, hl⟩ := I.loc
    have hvis : Vis X.env.scope y := (ok.free _ (PySem.mem_of_lookup hfr) rfl).elim (fun k => .inr (.inl k)) (fun k => .inr (.inr k))
    obtain ⟨w, r, q⟩ := hl i y av e1 e2 hvis
    refine ⟨w, r, .inr ⟨.inr hfr, ?_⟩⟩
    obtain ⟨c', e'⟩ := mem_lookup (cloFrom_has (cells := X.env.cells) (acc := []) (PySem.mem_of_lookup hfr))
    rcases q with ⟨k, _⟩ | ⟨_, c, e, z⟩
    · have k : X.env.scope.names.lookup y = some .local := k
      rcases ok.free _ (PySem.mem_of_lookup hfr) rfl with k' | k' <;> rw [show X.env.scope.names.lookup y = _ from k'] at k <;> cases k
    · have h1 := (cml e').1
      rw [h1] at e; cases e
      exact ⟨c', e', z.keeps kp⟩
  · have e : (cloFrom X.env.cells scope.names []).lookup y = some c := e
    obtain ⟨w, z⟩ := I.cell y c (cml e).1
    exact ⟨w, z.keeps kp⟩
  · show H C = none
    exact I.hok.fresh hC
  · have e : (cloFrom X.env.cells scope.names []).lookup y = some c := e
    exact I.freeC y c (cml e).1
  · have hp : p ∈ pn := by simpa using hp
    obtain ⟨h1, h2, h3, h4⟩ := hpn p hp
    exact ⟨h1, I.hok.fresh h2, h3, fun z => by
      rcases List.mem_cons.mp (I.stkSub p.1 z) with z | z
      · exact absurd (z ▸ I.lt) (Nat.not_lt_of_le h2)
      · exact I.nofs h2 z, h4⟩
end

/-- nothing but the table of generators has changed -/
structure Woke (s s' : Shared) : Prop where
  heap : s'.heap = s.heap
  os : s'.os = s.os
  bare : AllBare s'.gens
theorem inv_woke {X : Cx} {pins : List (Addr × Obj)} {σ : L2.St} {H : Hp} {s s' : Shared} (I : Inv X pins σ H s) (z : Woke s s') : Inv X pins σ H s' := by
  refine I.call' (ch := []) z.os (Un.kept fun b u e => by rw [z.heap]; exact e) (by rw [z.heap]; exact I.hok) z.bare fun b hb => absurd hb (by simp)

def gxEnd (X' : Cx) (σ0 : L2.St) (Qt : Hp → Prop) : GenEnd := fun n s₀ r s₁ => r = .ok .next ∧ ∃ H', Inv X' [] σ0 H' s₁ ∧ Qt H'
def gxOut (X' : Cx) (σ0 : L2.St) (Qf : Hp → Prop) : Protocol := fun n s₀ v s kap => ∃ (b : Bool) (H' : Hp), v = .bool b ∧ Inv X' [] σ0 H' s ∧ (b = false → Qf H') ∧ (b = true → ∀ s', Woke s s' → kap (.send .none) s')

/-- the turns of a generator expression of truth values: W by the turn and a measure -/
def gxTurns (J : It) (g : TG) (te : TE) (σ0 : L2.St) (vs : List Nat) (Qt Qf : Hp → Prop) (W : Nat → Nat → Hp → Prop) : Prop := ∀ i m H, W i m H →
  (J.stop i H ∧ Qt H) ∨ (J.go i H ∧ ∃ Nx : Hp → Prop, (∀ H', Nx H' → ∃ m', m' < m ∧ W (i + 1) m' H') ∧ ∀ x H', J.yld i H x H' → g x σ0 H' fun σ2 H2 => wipe σ2 vs = σ0 ∧ te σ2 H2 fun y H3 => ∃ b, y = .bl b ∧ (b = true → Nx H3) ∧ (b = false → Qf H3))

section
variable {X' : Cx} {A : Around} {elt tg iter : Expr} {scope : Scope} {pos : Pos} {it : Addr} {J : It} {fp : List Addr} {tn : Nat → Heap → Prop} {σ0 : L2.St} {vs : List Nat} {g : TG} {te : TE} {Qt Qf : Hp → Prop} {W : Nat → Nat → Hp → Prop}

theorem seg_gx (hA : X'.A = A.over (.compLoop (.GeneratorExp elt [⟨tg, iter, [], 0⟩] scope pos) 0 (.ref it) .none X'.env) []) (hc : X'.calm = true) (hco : X'.env.scope.isCoroutine = false) (hxe : X'.xe = fun _ _ => False) (hex : X'.ex = fp)
    (T : Turn X'.prog X'.w X'.K tg J fp it tn) (hg : PG X' tg g) (he : PE X' elt te) (hpn : ∀ b ∈ fp, ∀ p ∈ X'.pn, p.1 ≠ b) (hw : ∀ σ2 : L2.St, wipe σ2 vs = σ0 → ∀ (j : Nat) v, σ0[j]? = some (some v) → σ2[j]? = some (some v))
    (turn : gxTurns J g te σ0 vs Qt Qf W) :
    ∀ (m n i : Nat) (s₀ s : Shared) (H : Hp), m < n → Inv X' [] σ0 H s → tn i s.heap → (∀ b ∈ fp, H b = none) → W i m H →
      Seg (model X'.prog X'.w) A (gxEnd X' σ0 Qt) (gxOut X' σ0 Qf) n s₀ (.compLoop (.GeneratorExp elt [⟨tg, iter, [], 0⟩] scope pos) 0 (.ref it) .none X'.env)
        ((model X'.prog X'.w).den (.compLoop (.GeneratorExp elt [⟨tg, iter, [], 0⟩] scope pos) 0 (.ref it) .none X'.env)) [] s := by
  have stat : ∀ {σ' : L2.St} {H' : Hp} {s' : Shared}, Inv X' [] σ' H' s' → (∀ b ∈ fp, H' b = none) → ∀ b ∈ fp, FpOk X' [] H' b := fun {σ' H' s'} I' hn b hb =>
    ⟨hn b hb, (I'.ok.exf b (by rw [hex]; exact hb)).1, I'.ok.exfs b (by rw [hex]; exact hb), .inl (by rw [hex]; exact hb), fun x c e => (I'.ok.exf b (by rw [hex]; exact hb)).2 x c e, fun p hp => hpn b hb p (by simpa using hp)⟩
  intro m
  induction m using Nat.strongRecOn with
  | ind m ih =>
    intro n i s₀ s H hmn I st nf w
    show Seg _ A _ _ _ s₀ _ ((compTurn (.GeneratorExp elt [⟨tg, iter, [], 0⟩] scope pos) 0 (.ref it) .none X'.env).onRaise (leaving X'.env)) [] s
    rw [compTurn_gen, Sem.onRaise_eq_wrap]
    refine seg_bind_wrap (wpAny_standAt ?_)
    rcases turn i m H w with ⟨stop, qt⟩ | ⟨go, Nx, hNx, step⟩
    · refine seg_bind_wrap ?_
      rw [← hA]
      refine thnF (T.done X' rfl rfl rfl hc i [] s _ H (fun _ _ => False) I (stat I nf) st stop) fun r s1 ⟨hr, I1⟩ => ?_
      subst hr
      exact seg_end (.ok .next) ⟨rfl, H, I1, qt⟩
    · refine seg_bind_wrap ?_
      rw [← hA]
      refine thnF (T.item X' rfl rfl rfl hc i [] s _ H (fun _ _ => False) I (stat I nf) st go) fun r s1 ⟨u, hr, h1⟩ => ?_
      subst hr
      refine seg_bind_wrap ?_
      rw [← hA]
      refine thnF h1 fun _ s2 ⟨x, H2, I2, r2, y2, st2, nf2⟩ => ?_
      have I2' := I2.pinned (stat I2 nf2) (T.obj _ _ st2)
      refine seg_bind_wrap ?_
      rw [← hA]
      have pgr := hg.run _ s2 _ H2 x u _ I2' r2 (step x H2 y2)
      rw [hxe] at pgr
      refine thnF pgr fun _ s3 ⟨σ3, H3, I3, hw3, q3⟩ => ?_
      simp only [List.forIn_nil]
      refine seg_bind_wrap (wpAny_pure ?_)
      simp only [if_true]
      have hy : ∀ v, yieldOut X'.env v = yieldValue v := fun v => by simp only [yieldOut, hco, Bool.false_eq_true, if_false]
      simp only [hy]
      rw [Sem.bind_eq_wrap', Sem.bind_eq_wrap', Sem.wrap_wrap, Sem.wrap_wrap]
      refine seg_wrap ?_
      rw [← hA]
      have per := he.run _ s3 σ3 H3 _ I3 q3
      rw [hxe] at per
      refine thnF per fun v s4 ⟨y, H4, I4, r4, b, hb, hT, hF⟩ => ?_
      subst hb
      have hv : v = .bool b := r4
      subst hv
      have pin4 : ∀ c ∈ fp, ∀ o, s2.heap.get? c = some o → s4.heap.get? c = some o ∧ H4 c = none := fun c hb o e =>
        let z := I4.pin (c, o) (List.mem_append_right _ (List.mem_append_right _ (mem_pinsAt hb e)))
        ⟨z.1, z.2.1⟩
      have hl : σ0.length = σ3.length := by rw [← hw3, wipe_length]
      have I5 : Inv X' [] σ0 H4 s4 := (I4.unpinned (pins := [])).weak hl (hw σ3 hw3)
      have st5 : tn (i + 1) s4.heap := T.keep _ _ _ st2 fun c hb o e => (pin4 c hb o e).1
      have nf5 : ∀ c ∈ fp, H4 c = none := fun c hb => by
        obtain ⟨o, e, _⟩ := T.obj _ _ st2 c hb
        exact (pin4 c hb o e).2
      have hn : ∃ n', n = n' + 1 := ⟨n - 1, by omega⟩
      obtain ⟨n', rfl⟩ := hn
      refine seg_at (seg_yield rfl rfl rfl ⟨b, H4, rfl, I5, hF, fun hb s' z => ?_⟩)
      obtain ⟨m', hm', w'⟩ := hNx H4 (hT hb)
      refine seg_again rfl (ih m' hm' n' (i + 1) s' s' H4 (by omega) (inv_woke I5 z) ?_ nf5 w')
      rw [z.heap]; exact st5

theorem seg_gxStart (hA : X'.A = A.over (.compLoop (.GeneratorExp elt [⟨tg, iter, [], 0⟩] scope pos) 0 (.ref it) .none X'.env) []) (hc : X'.calm = true) (hco : X'.env.scope.isCoroutine = false) (hxe : X'.xe = fun _ _ => False) (hex : X'.ex = fp)
    (T : Turn X'.prog X'.w X'.K tg J fp it tn) (hg : PG X' tg g) (he : PE X' elt te) (hpn : ∀ b ∈ fp, ∀ p ∈ X'.pn, p.1 ≠ b) (hw : ∀ σ2 : L2.St, wipe σ2 vs = σ0 → ∀ (j : Nat) v, σ0[j]? = some (some v) → σ2[j]? = some (some v))
    (turn : gxTurns J g te σ0 vs Qt Qf W) (m n : Nat) (s₀ s : Shared) (H : Hp) (hmn : m < n) (I : Inv X' [] σ0 H s) (st : tn 0 s.heap) (nf : ∀ b ∈ fp, H b = none) (w : W 0 m H) :
    Seg (model X'.prog X'.w) A (gxEnd X' σ0 Qt) (gxOut X' σ0 Qf) n s₀ (.compStart (.GeneratorExp elt [⟨tg, iter, [], 0⟩] scope pos) 0 (.ref it) .none X'.env)
        ((model X'.prog X'.w).den (.compStart (.GeneratorExp elt [⟨tg, iter, [], 0⟩] scope pos) 0 (.ref it) .none X'.env)) [] s := by
  have loop := seg_gx (A := A) (iter := iter) (scope := scope) (pos := pos) hA hc hco hxe hex T hg he hpn hw turn m n 0 s₀ s H hmn I st nf w
  show Seg _ A _ _ _ s₀ _ ((compStart (.GeneratorExp elt [⟨tg, iter, [], 0⟩] scope pos) 0 (.ref it) .none X'.env).onRaise (leaving X'.env)) [] s
  unfold compStart
  rw [Sem.onRaise_eq_wrap]
  show Seg _ A _ _ _ s₀ _ ((ask >>= _).wrap _ _ _ _) [] s
  refine seg_bind_wrap (wpAny_askSetting ?_)
  split
  · exact seg_again rfl loop
  · first
      | exact seg_bind_wrap (wpAny_rule (seg_bind_wrap (wpAny_standAt (seg_bind_wrap (T.self _ 0 s _ _ st (seg_again rfl loop))))))
      | (refine seg_bind_wrap (wpAny_rule ?_); show Seg _ A _ _ _ s₀ _ ((standAt iter.pos >>= _).wrap _ _ _ _) [] s; exact seg_bind_wrap (wpAny_standAt (seg_bind_wrap (T.self _ 0 s _ _ st (seg_again rfl loop)))))
end

/-- a generator that waits: it goes on from here, n turns at most -/
def GxAt (P : Program) (w : World) (A : Around) (R : GenEnd) (Y : Protocol) (a : Addr) (g n : Nat) (s : Shared) : Prop :=
  s.heap.IsGen a g ∧ s.heap.NoLimit ∧ ∃ gs, s.gens[g]? = some gs ∧ gs.Goes (model P w) A R Y n (.send .none) (s.setGen g .running)

theorem bare_set {s : Shared} {g : Nat} {gs : GenState} (h : AllBare s.gens) (hb : gs.bare = true) : AllBare (s.setGen g gs).gens := by
  intro x hx
  have hx : x ∈ s.gens.setIfInBounds g gs := hx
  rcases Array.mem_or_eq_of_mem_setIfInBounds hx with h1 | h1
  · exact h x h1
  · rw [h1]; exact hb

theorem setGen_at {s : Shared} {g : Nat} {gs : GenState} (h : g < s.gens.size) : (s.setGen g gs).gens[g]? = some gs := by
  show (s.gens.setIfInBounds g gs)[g]? = some gs
  rw [Array.getElem?_setIfInBounds]
  simp [h]

theorem codeAny_all_gx {X' : Cx} {A : Around} {σ0 : L2.St} {Qt Qf : Hp → Prop} {a : Addr} {g : Nat} {Rz : Result → Shared → Prop} (hh : A.handled = none) (hroom : A.depth < recursionLimit)
    (hgen : ∀ σ H s, Inv X' [] σ H s → s.heap.IsGen a g)
    (fin : ∀ b H s, Inv X' [] σ0 H s → (b = true → Qt H) → (b = false → Qf H) → Rz (.ok (.ret (.bool b))) s) :
    ∀ (n : Nat) (s : Shared), AllBare s.gens → GxAt X'.prog X'.w A.in1.in1 (gxEnd X' σ0 Qt) (gxOut X' σ0 Qf) a g n s → codeAny (model X'.prog X'.w) A (.builtin "all.loop" ⟨[.ref a], []⟩) Rz s := by
  intro n
  induction n with
  | zero =>
    intro s hb0 ⟨hg, hl, gs, hgs, hgo⟩
    have hsz : g + 1 ≤ s.gens.size := by
      obtain ⟨h1, _⟩ := Array.getElem?_eq_some_iff.mp hgs
      exact h1
    refine codeAny_builtin F.entry_all_loop ?_
    rw [Around.under_plainId F.plain_all_loop _]
    show wpAny _ A.in1 (pyNext (.ref a) >>= _) _ _ s
    refine wpAny_bind (GenW.wpAny_gsz hsz (wpAny_pyNext_genexpQ (A := A.in1) (P := fun n s₀ s₁ => ∃ H', Inv X' [] σ0 H' s₁ ∧ Qt H') hh hl hroom hg hgs hgo (fun v s₁ gs' hb hv => ?_) (fun s₁ hp h' hk => ?_)))
    · obtain ⟨b, H', rfl, I', hF, hT⟩ := hv
      intro hsz1
      refine wpAny_bind (wpAny_holding (wpAny_truthy_bool ?_))
      refine wpAny_bind (wpAny_letGo ?_)
      cases b with
      | true => exact (hT rfl s₁ ⟨rfl, rfl, I'.bare⟩).elim
      | false =>
        simp only [Bool.false_eq_true, if_false]
        refine wpAny_bind (wpAny_rule (wpAny_pure ?_))
        exact fin false H' _ (inv_woke I' ⟨rfl, rfl, bare_set I'.bare hb⟩) (fun h => by cases h) hF
    · obtain ⟨H', I', q⟩ := hp
      intro hsz1
      refine wpAny_bind (wpAny_rule (wpAny_pure ?_))
      exact fin true H' _ ((inv_woke (s' := s₁.setGen g .finished) I' ⟨rfl, rfl, bare_set I'.bare rfl⟩).kept (t' := s₁.toks) hk) (fun _ => q) (fun h => by cases h)
  | succ n ih =>
    intro s hb0 ⟨hg, hl, gs, hgs, hgo⟩
    have hsz : g + 1 ≤ s.gens.size := by
      obtain ⟨h1, _⟩ := Array.getElem?_eq_some_iff.mp hgs
      exact h1
    refine codeAny_builtin F.entry_all_loop ?_
    rw [Around.under_plainId F.plain_all_loop _]
    show wpAny _ A.in1 (pyNext (.ref a) >>= _) _ _ s
    refine wpAny_bind (GenW.wpAny_gsz hsz (wpAny_pyNext_genexpQ (A := A.in1) (P := fun n s₀ s₁ => ∃ H', Inv X' [] σ0 H' s₁ ∧ Qt H') hh hl hroom hg hgs hgo (fun v s₁ gs' hb hv => ?_) (fun s₁ hp h' hk => ?_)))
    · obtain ⟨b, H', rfl, I', hF, hT⟩ := hv
      intro hsz1
      have hsz2 : g < s₁.gens.size := by
        have : (s₁.setGen g gs').gens.size = s₁.gens.size := GenW.setGen_size _ _ _
        omega
      refine wpAny_bind (wpAny_holding (wpAny_truthy_bool ?_))
      refine wpAny_bind (wpAny_letGo ?_)
      have I2 := inv_woke (s' := s₁.setGen g gs') I' ⟨rfl, rfl, bare_set I'.bare hb⟩
      cases b with
      | true =>
        simp only [if_true]
        refine wpAny_pure ⟨plainId_quiet F.plain_all_loop _, ih _ I2.bare ⟨hgen _ _ _ I2, I2.nolimit, gs', setGen_at hsz2, hT rfl _ ⟨rfl, rfl, bare_set I2.bare rfl⟩⟩⟩
      | false =>
        simp only [Bool.false_eq_true, if_false]
        refine wpAny_bind (wpAny_rule (wpAny_pure ?_))
        exact fin false H' _ I2 (fun h => by cases h) hF
    · obtain ⟨H', I', q⟩ := hp
      intro hsz1
      refine wpAny_bind (wpAny_rule (wpAny_pure ?_))
      exact fin true H' _ ((inv_woke (s' := s₁.setGen g .finished) I' ⟨rfl, rfl, bare_set I'.bare rfl⟩).kept (t' := s₁.toks) hk) (fun _ => q) (fun h => by cases h)

/-- all(elt for tg in iter): behind the making the def's table may have grown; then the turns -/
def tAllG (P : Addr) (wi : TI) (g : TG) (te : TE) (vs : List Nat) : TE := fun σ H Q => wi σ H fun J H1 => TabG H1 P ∧ ∀ H2, Tabbed P H1 H2 → ∃ W : Nat → Nat → Hp → Prop, (∃ m, W 0 m H2) ∧ gxTurns J g te (wipe σ vs) vs (Q (.bl true)) (Q (.bl false)) W

/-- what the generator's code asks of its scope -/
structure GxOk (scope : Scope) : Prop where
  co : scope.isCoroutine = false
  cell : ∀ y ∈ scope.names, y.2 ≠ .cell
  dot : scope.names.lookup (".0" : Str) = some NameKind.local

section
variable {X : Cx} {pins : List (Addr × Obj)} {σ : L2.St} {H : Hp} {s : Shared}
theorem gx_gen {c P : Addr} {elt tg iter : Expr} {gpos : Pos} {scope : Scope} {own : List (Str × Nat)} {wi : TI} {g : TG} {te : TE} {k : Nat} {Q' : Value → Shared → Prop} {Q : VK}
    (hr : Room (k + 1) X.A) (TB : TabB X.base X.mg c P) (hcode : X.env.code = .ref c) (hN : X.N.Nodup) (ok : BlkOk X.N X.env.scope scope own) (gk : GxOk scope) (hi : PI X tg iter wi)
    (hgt : ∀ (s : Shared) (H : Hp) (cl : List (Str × Addr)) (C : Addr) (code : Value) (A' : Around) (fp : List Addr) (pn : List (Addr × Obj)), Room k A' → PG (gxCx X s H scope (genEnv scope cl C code builtinsNs X.env) A' fp pn) tg g)
    (he : ∀ (s : Shared) (H : Hp) (cl : List (Str × Addr)) (C : Addr) (code : Value) (A' : Around) (fp : List Addr) (pn : List (Addr × Obj)), Room k A' → PE (gxCx X s H scope (genEnv scope cl C code builtinsNs X.env) A' fp pn) elt te)
    (hs : ∀ v, genFold iter X.env v = pure v) (I : Inv X pins σ H s) (h : tAllG P wi g te (own.map (·.2)) σ H Q)
    (hQ : ∀ (X' : Cx) (a : Addr) (gi n : Nat) (s5 : Shared), X'.prog = X.prog → X'.w = X.w → AllBare s5.gens → s5.heap.IsGen a gi → (∀ σ H s, Inv X' [] σ H s → s.heap.IsGen a gi) →
      GxAt X'.prog X'.w X.A.in1.in1 (gxEnd X' (wipe σ (own.map (·.2))) (Q (.bl true))) (gxOut X' (wipe σ (own.map (·.2))) (Q (.bl false))) a gi n s5 →
      (∀ σ' H' s', Inv X' [] σ' H' s' → Inv X pins σ H' s') → Q' (.ref a) s5) :
    wpAny (model X.prog X.w) X.A (eval (.GeneratorExp elt [⟨tg, iter, [], 0⟩] scope gpos) X.env) Q' X.xe s := by
  have hfree : ∀ y ∈ scope.names, y.2 = .free → ∃ c, X.env.cells.lookup y.1 = some c := fun y hy e => by
    rcases ok.free y hy e with k | k
    · exact I.ok.has _ (.inl k)
    · exact I.ok.has _ (.inr k)
  refine wpAny_GeneratorExp_make gk.co (closure_ok hfree) gk.cell gk.dot ok.kind (by have := hr.dp; omega) ?_ hs
  refine thn (hi.run pins s σ H _ I h) fun xv s1 hx => thn hx fun itv s2 ⟨it, fp, tn, J, H2, e, I2, T, st2, f2, ⟨ps, hP, ht⟩, q⟩ => ?_
  subst e
  have hPs : s2.heap.get? P = some { cls := .none, data := .fields ps } := I2.hok P _ hP
  have cd : PySem.W.CodeHd s2.heap c P := TB.code.keeps fun b u e => I2.bk b u e
  have szf : ∀ b ∈ fp, b < s2.heap.objs.size := fun b hb => by
    obtain ⟨o, e, _⟩ := T.obj _ _ st2 b hb
    exact Heap.lt_size e
  have cont : ∀ (code : Value) (h3 : Heap) (tk : Nat) (ps' : Array Value), Heap.ExtBut P s2.heap h3 → s2.heap.objs.size ≤ h3.objs.size → h3.get? P = some { cls := .none, data := .fields ps' } → (∃ more, ps' = ps ++ more) → TriplesOk ps'.toList →
      wpAny (model X.prog X.w) X.A (builtinsFor X.env.globals X.env.builtins) (fun bi s₄ =>
        ∀ h', h'.Ns s₄.heap.objs.size (fun y => if y = ".0" then some (.ref it) else none) → Heap.SameBut s₄.heap.objs.size (s₄.heap.push { cls := .type "frame", data := .dict #[] }) h' →
          Q' (.ref h'.objs.size) { s₄ with
            gens := s₄.gens.push (.fresh (.compStart (.GeneratorExp elt [⟨tg, iter, [], 0⟩] scope gpos) 0 (.ref it) .none (genEnv scope (cloFrom X.env.cells scope.names []) s₄.heap.objs.size code bi X.env))),
            toks := s₄.toks + 1 + 1 + 1,
            heap := h'.push { cls := .type "generator", data := .fields #[.int s₄.gens.size 0, .str "<genexpr>" (s₄.toks + 1), .str (X.env.qual ++ "<genexpr>") (s₄.toks + 1 + 1)] } }) X.xe { s2 with heap := h3, toks := tk } := by
    intro code h3 tk ps' hx hsz hP3 hmore ht3
    obtain ⟨more, em⟩ := hmore
    obtain ⟨bm, ob, e1, e2, e3, e4, e5, e6, e7, e8⟩ := TB.bm
    have I3 : Inv X pins σ (upd H2 P (.tbl (ps ++ more))) { s2 with heap := h3, toks := tk } :=
      inv_tab (more := more) (h' := h3) (g' := s2.gens) (d' := s2.drawn) (t' := tk) I2 hP (fun b u hb e => hx b u hb e) (by rw [← em]; exact hP3) I2.bare
    have hT : Tabbed P H2 (upd H2 P (.tbl (ps ++ more))) := ⟨⟨ps ++ more, upd_same, by rw [← em]; exact ht3⟩, fun b hb => upd_ne hb⟩
    generalize hH3 : upd H2 P (.tbl (ps ++ more)) = H3 at I3 hT
    obtain ⟨W, ⟨m0, w0⟩, turn⟩ := q H3 hT
    have fP : ∀ b ∈ fp, b ≠ P := fun b hb z => by
      have := (f2 b hb).1
      rw [z, hP] at this
      cases this
    have f3 : ∀ b ∈ fp, FpOk X pins H3 b ∧ b < h3.objs.size := fun b hb => ⟨⟨by rw [hT.2 b (fP b hb)]; exact (f2 b hb).1, (f2 b hb).2⟩, Nat.lt_of_lt_of_le (szf b hb) hsz⟩
    have st3 : tn 0 h3 := T.keep _ _ _ st2 fun b hb o e => hx b o (fP b hb) e
    refine wpAny_builtinsFor (m := X.mg) (by rw [I3.ok.glob]; exact I3.mod.glob.keeps I3.bk) e1 e2 (I3.bk _ _ e5) e6 e7 e8 ?_
    intro h' hns hsb
    generalize hs3 : ({ s2 with heap := h3, toks := tk } : Shared) = s3 at I3 hns hsb ⊢
    have hh3 : s3.heap = h3 := by rw [← hs3]
    have hsz' : h'.objs.size = s3.heap.objs.size + 1 := by rw [hsb.1, Heap.size_push]
    have keep' : ∀ b o, s3.heap.get? b = some o → h'.get? b = some o := fun b o e => hsb.extBut b o (Nat.ne_of_lt (Heap.lt_size e)) (Heap.get?_push_of_some _ e)
    generalize hgo : ({ cls := .type "generator", data := .fields #[.int s3.gens.size 0, .str "<genexpr>" (s3.toks + 1), .str (X.env.qual ++ "<genexpr>") (s3.toks + 1 + 1)] } : Obj) = go
    have hpushed : (h'.push go).get? h'.objs.size = some go := by
      rw [← hgo]
      exact Heap.get?_push_size _ rfl
    have hgen : ∀ h : Heap, h.get? h'.objs.size = some go → h.IsGen h'.objs.size s3.gens.size := fun h e => ⟨go, _, _, e, by rw [← hgo], by rw [← hgo], by rw [← hgo]⟩
    have kp : ∀ b o, s3.heap.get? b = some o → (h'.push go).get? b = some o := fun b o e => Heap.get?_push_of_some _ (keep' b o e)
    generalize hce : genEnv scope (cloFrom X.env.cells scope.names []) s3.heap.objs.size code builtinsNs X.env = ce
    have room' : Room k (X.A.in1.in1.over (.compLoop (.GeneratorExp elt [⟨tg, iter, [], 0⟩] scope gpos) 0 (.ref it) .none ce) []) :=
      ⟨hr.hd, by have := hr.dp; show X.A.depth + 0 + 1 + 3 * k + 5 < _; omega, by have := hr.un; show X.A.units + 1 + 1 + 0 + 3 + 16 * k + 200 < _; omega⟩
    have hbare : AllBare (s3.gens.push (.fresh (.compStart (.GeneratorExp elt [⟨tg, iter, [], 0⟩] scope gpos) 0 (.ref it) .none ce))) := I3.bare.push rfl
    have I5 : Inv (gxCx X s3 H3 scope ce (X.A.in1.in1.over (.compLoop (.GeneratorExp elt [⟨tg, iter, [], 0⟩] scope gpos) 0 (.ref it) .none ce) []) fp [(h'.objs.size, go)]) [] (wipe σ (own.map (·.2))) H3
        { s3 with heap := h'.push go, gens := s3.gens.push (.fresh (.compStart (.GeneratorExp elt [⟨tg, iter, [], 0⟩] scope gpos) 0 (.ref it) .none ce)), toks := s3.toks + 1 + 1 + 1 } := by
      rw [← hce]
      refine gx_start I3 ok gk.cell hN (fun b hb => by rw [hh3]; exact f3 b hb) (Nat.le_refl _) (hns.push _) kp (by rw [hce]; exact hbare) hr.hd ?_ fun p hp => ?_
      · rw [hce]
        show pushEnvs [ce] (pushEnvs [] X.A.frames) = _
        rw [I3.ok.frames]
        rfl
      · rw [List.mem_singleton.mp hp]
        refine ⟨hpushed, by show _ ≤ h'.objs.size; omega, by show h'.objs.size ≠ _; omega, fun v => by rw [← hgo]; intro z; cases z⟩
    have hA5 : ∀ b ∈ fp, ∀ p ∈ [(h'.objs.size, go)], p.1 ≠ b := fun b hb p hp => by
      rw [List.mem_singleton.mp hp]
      have h1 := (f3 b hb).2
      have h2 : s3.heap.objs.size = h3.objs.size := by rw [hh3]
      have h4 : s3.heap.objs.size ≤ h'.objs.size := by omega
      exact Nat.ne_of_gt (Nat.lt_of_lt_of_le h1 (by rw [← h2]; exact h4))
    have back : ∀ σ' H' s', Inv (gxCx X s3 H3 scope ce (X.A.in1.in1.over (.compLoop (.GeneratorExp elt [⟨tg, iter, [], 0⟩] scope gpos) 0 (.ref it) .none ce) []) fp [(h'.objs.size, go)]) [] σ' H' s' → Inv X pins σ H' s' := fun σ' H' s' I6 =>
      I3.call' (ch := fp) I6.os I6.base I6.hok I6.bare fun b hb => ⟨(f3 b hb).1.2.2.2.1, (f3 b hb).1.2.1, (f3 b hb).1.2.2.2.2.1, (f3 b hb).1.2.2.2.2.2⟩
    have genAt : ∀ σ H s, Inv (gxCx X s3 H3 scope ce (X.A.in1.in1.over (.compLoop (.GeneratorExp elt [⟨tg, iter, [], 0⟩] scope gpos) 0 (.ref it) .none ce) []) fp [(h'.objs.size, go)]) [] σ H s → s.heap.IsGen h'.objs.size s3.gens.size := fun σ H s I6 =>
      hgen _ (I6.pin (h'.objs.size, go) (by simp)).1
    refine hQ (gxCx X s3 H3 scope ce (X.A.in1.in1.over (.compLoop (.GeneratorExp elt [⟨tg, iter, [], 0⟩] scope gpos) 0 (.ref it) .none ce) []) fp [(h'.objs.size, go)]) h'.objs.size s3.gens.size (m0 + 1) _ rfl rfl hbare (hgen _ hpushed) genAt ⟨hgen _ hpushed, I5.nolimit, _, Array.getElem?_push_size .., rfl, ?_⟩ back
    refine seg_gxStart (X' := gxCx X s3 H3 scope ce (X.A.in1.in1.over (.compLoop (.GeneratorExp elt [⟨tg, iter, [], 0⟩] scope gpos) 0 (.ref it) .none ce) []) fp [(h'.objs.size, go)]) (vs := own.map (·.2)) (g := g) (te := te) (W := W) rfl rfl (by rw [← hce]; exact gk.co) rfl rfl T ?_ ?_ hA5
      (fun σ2 e j v z => by rw [← e] at z; exact (wipe_some z).1) turn m0 (m0 + 1) _ _ H3 (Nat.lt_succ_self _) (inv_woke I5 ⟨rfl, rfl, bare_set hbare rfl⟩) ?_ (fun b hb => (f3 b hb).1.1) w0
    · rw [← hce]
      exact hgt _ _ _ _ _ _ _ _ (by rw [hce]; exact room')
    · rw [← hce]
      exact he _ _ _ _ _ _ _ _ (by rw [hce]; exact room')
    · exact T.keep _ _ _ st3 fun b _ o e => kp b o (by rw [hh3]; exact e)
  refine ⟨I2.nolimit, ?_⟩
  cases hf : codeAmong gpos ps.toList with
  | none =>
    refine wpAny_genexprCodeX hcode (cd.code hPs ht) (cd.tab hPs) hf fun c' h' tk hx hge hlt hco' _ htab' _ => ?_
    obtain ⟨o1, vs, f1, tf, fl, tg, inF, tx, tt, op, _, _, _, _, _, _, _, _, _, htr, _⟩ := hco'
    exact cont _ h' tk _ hx (Nat.le_trans hge (Nat.le_of_lt hlt)) htab'.2 ⟨_, rfl⟩ htr
  | some cv =>
    refine wpAny_genexprCode_hit hcode (cd.code hPs ht) hf ?_
    exact cont cv s2.heap s2.toks ps (Heap.ExtBut.refl _ _) (Nat.le_refl _) hPs ⟨#[], by simp⟩ ht

theorem pe_allG {c P : Addr} {elt tg iter : Expr} {p pos gpos : Pos} {scope : Scope} {own : List (Str × Nat)} {wi : TI} {g : TG} {te : TE} {k : Nat}
    (hr : Room (k + 1) X.A) (hg : Gl X "all") (hm : X.mg "all" = none) (hb : bootBuiltins "all" = some (.builtin "all")) (TB : TabB X.base X.mg c P) (hcode : X.env.code = .ref c) (hN : X.N.Nodup) (ok : BlkOk X.N X.env.scope scope own) (gk : GxOk scope) (hi : PI X tg iter wi)
    (hgt : ∀ (s : Shared) (H : Hp) (cl : List (Str × Addr)) (C : Addr) (code : Value) (A' : Around) (fp : List Addr) (pn : List (Addr × Obj)), Room k A' → PG (gxCx X s H scope (genEnv scope cl C code builtinsNs X.env) A' fp pn) tg g)
    (he : ∀ (s : Shared) (H : Hp) (cl : List (Str × Addr)) (C : Addr) (code : Value) (A' : Around) (fp : List Addr) (pn : List (Addr × Obj)), Room k A' → PE (gxCx X s H scope (genEnv scope cl C code builtinsNs X.env) A' fp pn) elt te)
    (hs : ∀ v, genFold iter X.env v = pure v)
    (hse : starEach [.GeneratorExp elt [⟨tg, iter, [], 0⟩] scope gpos] X.env = (false, eval (.GeneratorExp elt [⟨tg, iter, [], 0⟩] scope gpos) X.env) :: starEach [] X.env := by rfl) :
    PE X (.Call (.Name "all" p) [.GeneratorExp elt [⟨tg, iter, [], 0⟩] scope gpos] [] pos) (tAllG P wi g te (own.map (·.2))) := by
  refine ⟨fun pins s σ H Q I h => ?_⟩
  refine wpAny_Call_Name_kw (ld_blt I hg hm hb ?_)
  refine PyProof.Rows.callWith_builtin1 ?_ hse (by rfl)
  rw [hse]
  show wpAny _ _ (spliced ((false, eval (.GeneratorExp elt [⟨tg, iter, [], 0⟩] scope gpos) X.env) :: backTo pos (starEach [] X.env))) _ _ s
  refine Calls.spliced_cons (gx_gen (Q := Q) hr TB hcode hN ok gk hi hgt he hs I h fun X' a gi n s5 hp hw hb5 hgi hgen hat back => ?_)
  refine Calls.spliced_nil ?_
  refine call_function_tree F.kind_all F.plain_all F.entry_all (F.args_all1 _) ?_
  unfold Builtin.«all»
  refine wpAny_bind (m := oneArg "all" _) (wpAny_pure ?_)
  refine wpAny_bind (wpAny_pyIter_gen hgi ?_)
  rw [← hp, ← hw]
  exact wpAny_pure ⟨plainId_quiet F.plain_all_loop _, codeAny_all_gx hr.hd (by have := hr.dp; omega) hgen (fun b H' s' I' hT hF => ⟨.bl b, H', back _ _ _ I', rfl, by cases b; exact hF rfl; exact hT rfl⟩) n s5 hb5 hat⟩
end
end Ow

set_option Elab.async false
set_option linter.all false
set_option maxRecDepth 100000
set_option maxHeartbeats 4000000
namespace Ow
open PySem PySem.Spec PyProof.Rows L2 GxR

/-! ### immutable data -/
inductive D where
  | non | bl (b : Bool) | int (i : Int) | str (x : Str) | tup (ds : List D)

mutual
inductive Im (H : Hp) : V → D → Prop
  | non : Im H .non .non
  | bl (b : Bool) : Im H (.bl b) (.bl b)
  | int (i : Int) : Im H (.int i) (.int i)
  | str (x : Str) (h : x.length ≤ 1000000) : Im H (.str x) (.str x)
  | tup {a : Addr} {xs : List V} {ds : List D} : H a = some (.tup xs) → ImAll H xs ds → Im H (.ref a) (.tup ds)
inductive ImAll (H : Hp) : List V → List D → Prop
  | nil : ImAll H [] []
  | cons {v : V} {vs : List V} {d : D} {ds : List D} : Im H v d → ImAll H vs ds → ImAll H (v :: vs) (d :: ds)
end

/-! ### how a heap goes on -/
def nt : HO → Bool
  | .tbl _ => false
  | _ => true
/-- all that was tracked stands but what ch names; the tables may have grown -/
structure Fr (ch : List Addr) (H H' : Hp) : Prop where
  keep : ∀ a o, H a = some o → nt o = true → a ∉ ch → H' a = some o
  tup : ∀ a xs, H a = some (.tup xs) → H' a = some (.tup xs)
  frz : ∀ a o u, H a = some (.frz o u) → H' a = some (.frz o u)
  tab : ∀ a, TabG H a → TabG H' a
  there : ∀ a o, H a = some o → ∃ o', H' a = some o'

theorem Fr.refl {ch : List Addr} {H : Hp} : Fr ch H H := ⟨fun _ _ h _ _ => h, fun _ _ h => h, fun _ _ _ h => h, fun _ h => h, fun _ o h => ⟨o, h⟩⟩
theorem Fr.free {ch : List Addr} {H H' : Hp} (f : Fr ch H H') {a : Addr} (h : H' a = none) : H a = none := by
  cases q : H a with
  | none => rfl
  | some o =>
    obtain ⟨o', e⟩ := f.there a o q
    rw [h] at e
    cases e
theorem Fr.snoc {ch c : List Addr} {H H1 H2 : Hp} (f : Fr ch H H1) (g : Fr c H1 H2) (hc : ∀ a ∈ c, a ∈ ch ∨ H a = none) : Fr ch H H2 :=
  ⟨fun a o h n hn => g.keep a o (f.keep a o h n hn) n fun hm => (hc a hm).elim hn fun z => (by rw [h] at z; cases z),
   fun a xs h => g.tup a xs (f.tup a xs h), fun a o u h => g.frz a o u (f.frz a o u h), fun a h => g.tab a (f.tab a h),
   fun a o h => by obtain ⟨o1, h1⟩ := f.there a o h; exact g.there a o1 h1⟩
theorem sub_nil {ch : List Addr} {H : Hp} : ∀ a ∈ ([] : List Addr), a ∈ ch ∨ H a = none := fun _ h => absurd h List.not_mem_nil
theorem sub_cons {ch c : List Addr} {H : Hp} {p : Addr} (h : p ∈ ch ∨ H p = none) (k : ∀ a ∈ c, a ∈ ch ∨ H a = none) : ∀ a ∈ p :: c, a ∈ ch ∨ H a = none := fun a ha => by
  rcases List.mem_cons.mp ha with e | e
  · rw [e]; exact h
  · exact k a e
theorem Fr.wide {ch ch' : List Addr} {H H' : Hp} (f : Fr ch H H') (h : ∀ a ∈ ch, a ∈ ch') : Fr ch' H H' :=
  ⟨fun a o e n hn => f.keep a o e n fun hm => hn (h a hm), f.tup, f.frz, f.tab, f.there⟩
theorem Fr.lay {ch : List Addr} {H : Hp} {p : Addr} {o : HO} (h : H p = none) : Fr ch H (upd H p o) :=
  ⟨fun a u e _ _ => by rw [upd_ne (ne_of_none e h)]; exact e, fun a xs e => by rw [upd_ne (ne_of_none e h)]; exact e, fun a o u e => by rw [upd_ne (ne_of_none e h)]; exact e,
   fun a ⟨ps, e, t⟩ => ⟨ps, by rw [upd_ne (ne_of_none e h)]; exact e, t⟩, fun a u e => ⟨u, by rw [upd_ne (ne_of_none e h)]; exact e⟩⟩
theorem Fr.put {ch : List Addr} {H : Hp} {p : Addr} {o o' : HO} (h : H p = some o) (m : Mut (some o)) (hp : p ∈ ch) : Fr ch H (upd H p o') :=
  ⟨fun a u e _ hn => by rw [upd_ne (show a ≠ p from fun z => hn (by rw [z]; exact hp))]; exact e,
   fun a xs e => by rw [upd_ne (show a ≠ p from fun z => by rw [z, h] at e; cases e; exact m)]; exact e,
   fun a o u e => by rw [upd_ne (show a ≠ p from fun z => by rw [z, h] at e; cases e; exact m)]; exact e,
   fun a ⟨ps, e, t⟩ => ⟨ps, by rw [upd_ne (show a ≠ p from fun z => by rw [z, h] at e; cases e; exact m)]; exact e, t⟩,
   fun a u e => by
    by_cases hb : a = p
    · exact ⟨o', by rw [hb]; exact upd_same⟩
    · exact ⟨u, by rw [upd_ne hb]; exact e⟩⟩
theorem Fr.tabbed {ch : List Addr} {H H' : Hp} {P : Addr} (h : TabG H P) (t : Tabbed P H H') : Fr ch H H' := by
  obtain ⟨ps, e, tr⟩ := h
  obtain ⟨⟨ps', e', tr'⟩, k⟩ := t
  have ne : ∀ a o, H a = some o → nt o = true → a ≠ P := fun a o h n z => by
    rw [z, e] at h
    cases h
    cases n
  refine ⟨fun a o h n _ => by rw [k a (ne a o h n)]; exact h, fun a xs h => by rw [k a (ne a _ h rfl)]; exact h, fun a o u h => by rw [k a (ne a _ h rfl)]; exact h, fun a ⟨qs, h, tq⟩ => ?_, fun a o h => ?_⟩
  · by_cases hb : a = P
    · subst hb
      exact ⟨ps', e', tr'⟩
    · exact ⟨qs, by rw [k a hb]; exact h, tq⟩
  · by_cases hb : a = P
    · subst hb
      exact ⟨_, e'⟩
    · exact ⟨o, by rw [k a hb]; exact h⟩
theorem Fr.lst {ch : List Addr} {H H' : Hp} (f : Fr ch H H') {a : Addr} {o : HO} (h : H a = some o) (n : nt o = true) (hc : a ∉ ch) : H' a = some o := f.keep a o h n hc
theorem Fr.seqT {ch : List Addr} {K : PySem.W.Frag} {H H' : Hp} (f : Fr ch H H') {a : Addr} {xs : List V} (h : SqT K H a xs) : SqT K H' a xs := by
  rcases h with (h | ⟨o, h⟩) | h
  · exact .inl (.inl (f.tup _ _ h))
  · exact .inl (.inr ⟨o, f.frz _ _ _ h⟩)
  · exact .inr h

mutual
theorem Im.fr {ch : List Addr} {H H' : Hp} (f : Fr ch H H') : ∀ (d : D) (v : V), Im H v d → Im H' v d
  | .non, _, h => by cases h; exact .non
  | .bl b, _, h => by cases h; exact .bl b
  | .int i, _, h => by cases h; exact .int i
  | .str x, _, h => by
    cases h with
    | str _ hl => exact .str x hl
  | .tup ds, _, h => by
    cases h with
    | tup e ha => exact .tup (f.tup _ _ e) (ImAll.fr f ds _ ha)
theorem ImAll.fr {ch : List Addr} {H H' : Hp} (f : Fr ch H H') : ∀ (ds : List D) (vs : List V), ImAll H vs ds → ImAll H' vs ds
  | [], _, h => by cases h; exact .nil
  | d :: ds, _, h => by
    cases h with
    | cons h1 h2 => exact .cons (Im.fr f d _ h1) (ImAll.fr f ds _ h2)
end
theorem Im.go {ch : List Addr} {H H' : Hp} {v : V} {d : D} (h : Im H v d) (f : Fr ch H H') : Im H' v d := Im.fr f d v h
theorem ImAll.go {ch : List Addr} {H H' : Hp} {vs : List V} {ds : List D} (h : ImAll H vs ds) (f : Fr ch H H') : ImAll H' vs ds := ImAll.fr f ds vs h
theorem ImAll.length {H : Hp} : ∀ {vs : List V} {ds : List D}, ImAll H vs ds → vs.length = ds.length
  | _, _, .nil => rfl
  | _, _, .cons _ h => by rw [List.length_cons, List.length_cons, ImAll.length h]
theorem ImAll.get {H : Hp} : ∀ {vs : List V} {ds : List D}, ImAll H vs ds → ∀ {i : Nat} {v : V}, vs[i]? = some v → ∃ d, ds[i]? = some d ∧ Im H v d
  | _, _, .nil, i, v, e => by simp at e
  | _, _, .cons h _, 0, v, e => by simp at e; subst e; exact ⟨_, rfl, h⟩
  | _, _, .cons _ h, i + 1, v, e => by
    obtain ⟨d, h1, h2⟩ := ImAll.get h (i := i) (v := v) (by simpa using e)
    exact ⟨d, by simpa using h1, h2⟩
theorem ImAll.getD {H : Hp} {vs : List V} {ds : List D} (h : ImAll H vs ds) {i : Nat} {d : D} (e : ds[i]? = some d) : ∃ v, vs[i]? = some v ∧ Im H v d := by
  have hl := h.length
  obtain ⟨hi, _⟩ := List.getElem?_eq_some_iff.mp e
  have hv : vs[i]? = some vs[i] := List.getElem?_eq_getElem (by omega)
  obtain ⟨d', h1, h2⟩ := h.get hv
  rw [e] at h1
  cases h1
  exact ⟨_, hv, h2⟩
theorem ImAll.append {H : Hp} : ∀ {vs ws : List V} {ds es : List D}, ImAll H vs ds → ImAll H ws es → ImAll H (vs ++ ws) (ds ++ es)
  | _, _, _, _, .nil, h => h
  | _, _, _, _, .cons h k, h2 => .cons h (ImAll.append k h2)
theorem ImAll.take {H : Hp} : ∀ {vs : List V} {ds : List D} (n : Nat), ImAll H vs ds → ImAll H (vs.take n) (ds.take n)
  | _, _, 0, _ => .nil
  | _, _, n + 1, .nil => .nil
  | _, _, n + 1, .cons h k => .cons h (ImAll.take n k)
theorem ImAll.drop {H : Hp} : ∀ {vs : List V} {ds : List D} (n : Nat), ImAll H vs ds → ImAll H (vs.drop n) (ds.drop n)
  | _, _, 0, h => h
  | _, _, n + 1, .nil => .nil
  | _, _, n + 1, .cons _ k => ImAll.drop n k
theorem ImAll.snoc {H : Hp} {vs : List V} {ds : List D} {v : V} {d : D} (h : ImAll H vs ds) (k : Im H v d) : ImAll H (vs ++ [v]) (ds ++ [d]) := h.append (.cons k .nil)
theorem ImAll.tyl {H : Hp} {vs : List V} {ns : List Int} (h : ImAll H vs (ns.map D.int)) : vs = ns.map V.int := by
  induction ns generalizing vs with
  | nil => cases h; rfl
  | cons n ns ih =>
    cases h with
    | cons h1 h2 =>
      cases h1
      rw [List.map_cons, ih h2]
theorem ImAll.ints {H : Hp} (ns : List Int) : ImAll H (ns.map V.int) (ns.map D.int) := by
  induction ns with
  | nil => exact .nil
  | cons n ns ih => exact .cons (.int n) ih

/-! ### the kind of a value -/
def tyD : D → String
  | .non => "NoneType"
  | .bl _ => "bool"
  | .int _ => "int"
  | .str _ => "str"
  | .tup _ => "tuple"
theorem Im.ty {K : PySem.W.Frag} {H : Hp} {v : V} {d : D} (h : Im H v d) : TyX K H v (.type (tyD d)) := by
  cases h with
  | non => exact .base .non
  | bl b => exact .base (.bl b)
  | int i => exact .base (.int i)
  | str x _ => exact .base (.str x)
  | tup e _ => exact .base (.tup e)
end Ow

set_option Elab.async false
set_option linter.all false
set_option maxRecDepth 100000
set_option maxHeartbeats 4000000
namespace Ow
open PySem PySem.Spec PyProof.Rows L2 GxR

/-! ### calls, with their callee's promise -/
structure Ca (P : Program) (w : World) (K : PySem.W.Frag) (mg : Str → Option Value) (base : Heap) (k : Nat) (x : Str) (sp : Sp) : Prop where
  ex : ∃ (f : Addr) (fd : FuncData) (ps : List Str), FnOk P w K mg base (L2.CX P w) k f fd ps sp ∧ mg x = some (.ref f) ∧ PySem.W.keepIn K (.ref f) = true ∧ Binds K fd ps []
structure Me (P : Program) (w : World) (K : PySem.W.Frag) (mg : Str → Option Value) (base : Heap) (k : Nat) (C : Addr) (m : Str) (sp : Sp) : Prop where
  ex : ∃ (f : Addr) (fd : FuncData) (ps : List Str), Cls K C ∧ Meth K C m f ∧ FnOk P w K mg base (L2.CX P w) k f fd ps sp ∧ Binds K fd ps []
structure Ma (P : Program) (w : World) (K : PySem.W.Frag) (mg : Str → Option Value) (base : Heap) (k : Nat) (x : Str) (C : Addr) (sp : Sp) : Prop where
  ex : ∃ (f : Addr) (fd : FuncData) (ps : List Str), Mk K C f ∧ FnOk P w K mg base (L2.CX P w) k f fd ps sp ∧ mg x = some (.ref C) ∧ Binds K fd ps []
def tCa (sp : Sp) (E : XK) (t : TA) : TE := fun σ H Q => t σ H fun vs H1 => sp vs H1 Q E
def tMe (C : Addr) (m : Str) (sp : Sp) (E : XK) (ta : TE) (t : TA) : TE := fun σ H Q => ta σ H fun x H1 => ∃ a dx fs, x = .ref a ∧ H1 a = some (.ins C dx fs) ∧ fs.lookup m = none ∧ t σ H1 fun vs H2 => sp (x :: vs) H2 Q E
def tMa (C : Addr) (sp : Sp) (E : XK) (t : TA) : TE := fun σ H Q => t σ H fun vs H1 => ∀ x dx, H1 x = none → H1 dx = none → dx ≠ x → sp (.ref x :: vs) (upd (upd H1 dx (.own x)) x (.ins C dx [])) (fun v H2 => v = .non ∧ Q (.ref x) H2) E
theorem sp_nil {sp : Sp} {Q : VK} {E : XK} : (fun (vs : List V) H1 => sp (vs ++ []) H1 Q E) = fun vs H1 => sp vs H1 Q E := by
  funext vs H1
  rw [List.append_nil]
section
variable {X : Cx} {k j : Nat} {x m : Str} {C : Addr} {sp : Sp} {p pos apos : Pos} {e o : Expr} {es : List Expr} {t : TA} {ta : TE} {E : XK}
theorem pe_caX (c : Ca X.prog X.w X.K X.mg X.base k x sp) (hr : Room j X.A) (hk : k ≤ j) (hg : Gl X x) (hx : Passes (L2.CX X.prog X.w) X E) (ha : PA X (e :: es) t)
    (hdb : (x == ("__debug__" : Str)) = false := by decide) (he : starEach (e :: es) X.env = (false, eval e X.env) :: starEach es X.env := by rfl) (hpl : (backTo pos (starEach es X.env)).any (·.1) = false := by rfl) :
    PE X (.Call (.Name x p) (e :: es) [] pos) (tCa sp E t) := by
  obtain ⟨f, fd, ps, F, hm, kp, b⟩ := c.ex
  refine ⟨fun pins s σ H Q I h => (pe_call F (hr.mono hk) hg hm kp b .nil hx ha hdb he hpl).run pins s σ H Q I ?_⟩
  show t σ H fun vs H1 => sp (vs ++ []) H1 Q E
  rw [sp_nil]
  exact h
theorem pe_ca (c : Ca X.prog X.w X.K X.mg X.base k x sp) (hr : Room j X.A) (hk : k ≤ j) (hg : Gl X x) (ha : PA X (e :: es) t)
    (hdb : (x == ("__debug__" : Str)) = false := by decide) (he : starEach (e :: es) X.env = (false, eval e X.env) :: starEach es X.env := by rfl) (hpl : (backTo pos (starEach es X.env)).any (·.1) = false := by rfl) :
    PE X (.Call (.Name x p) (e :: es) [] pos) (tCa sp E0 t) := pe_caX c hr hk hg passL ha hdb he hpl
theorem pe_ca0 (c : Ca X.prog X.w X.K X.mg X.base k x sp) (hr : Room j X.A) (hk : k ≤ j) (hg : Gl X x) (hdb : (x == ("__debug__" : Str)) = false := by decide) :
    PE X (.Call (.Name x p) [] [] pos) (tCa sp E0 tNil) := by
  obtain ⟨f, fd, ps, F, hm, kp, b⟩ := c.ex
  exact ⟨fun pins s σ H Q I h => (pe_call0 F (hr.mono hk) hg hm kp b .nil passL hdb).run pins s σ H Q I h⟩
theorem pe_meX {pl : Sem Bool} (c : Me X.prog X.w X.K X.mg X.base k C m sp) (hr : Room j X.A) (hk : k ≤ j) (he : PE X o ta) (hx : Passes (L2.CX X.prog X.w) X E) (ha : PA X (e :: es) t)
    (hst : starEach (e :: es) X.env = (false, eval e X.env) :: starEach es X.env := by rfl) (hpl : (backTo pos (starEach es X.env)).any (·.1) = false := by rfl)
    (ht : eval (.Call (.Attribute o m apos) (e :: es) [] pos) X.env = (do
      let ov ← eval o X.env
      standAt apos.atName
      let (f, first) ← holding [ov] (getMethod ov m pl)
      callWith pos f first (backTo pos (starEach (e :: es) X.env)) (backToKw pos (keywordEach [] X.env))) := by rfl) :
    PE X (.Call (.Attribute o m apos) (e :: es) [] pos) (tMe C m sp E ta t) := by
  obtain ⟨f, fd, ps, cl, me, F, b⟩ := c.ex
  refine ⟨fun pins s σ H Q I h => (pe_meth he cl me F (hr.mono hk) b .nil hx ha hst hpl ht).run pins s σ H Q I ?_⟩
  have e : tMeth C m sp [] E ta t σ H Q = tMe C m sp E ta t σ H Q := by
    unfold tMeth tMe
    congr 1
    funext x H1
    simp only [List.append_nil]
  rw [e]
  exact h
theorem pe_me {pl : Sem Bool} (c : Me X.prog X.w X.K X.mg X.base k C m sp) (hr : Room j X.A) (hk : k ≤ j) (he : PE X o ta) (ha : PA X (e :: es) t)
    (hst : starEach (e :: es) X.env = (false, eval e X.env) :: starEach es X.env := by rfl) (hpl : (backTo pos (starEach es X.env)).any (·.1) = false := by rfl)
    (ht : eval (.Call (.Attribute o m apos) (e :: es) [] pos) X.env = (do
      let ov ← eval o X.env
      standAt apos.atName
      let (f, first) ← holding [ov] (getMethod ov m pl)
      callWith pos f first (backTo pos (starEach (e :: es) X.env)) (backToKw pos (keywordEach [] X.env))) := by rfl) :
    PE X (.Call (.Attribute o m apos) (e :: es) [] pos) (tMe C m sp E0 ta t) := pe_meX c hr hk he passL ha hst hpl ht
theorem pe_me0 {pl : Sem Bool} (c : Me X.prog X.w X.K X.mg X.base k C m sp) (hr : Room j X.A) (hk : k ≤ j) (he : PE X o ta)
    (ht : eval (.Call (.Attribute o m apos) [] [] pos) X.env = (do
      let ov ← eval o X.env
      standAt apos.atName
      let (f, first) ← holding [ov] (getMethod ov m pl)
      callWith pos f first [] (backToKw pos (keywordEach [] X.env))) := by rfl) :
    PE X (.Call (.Attribute o m apos) [] [] pos) (tMe C m sp E0 ta tNil) := by
  obtain ⟨f, fd, ps, cl, me, F, b⟩ := c.ex
  exact ⟨fun pins s σ H Q I h => (pe_meth0 he cl me F (hr.mono hk) b .nil passL ht).run pins s σ H Q I h⟩
theorem pe_ma0 (c : Ma X.prog X.w X.K X.mg X.base k x C sp) (hr : Room j X.A) (hk : k + 1 ≤ j) (hg : Gl X x) (hdb : (x == ("__debug__" : Str)) = false := by decide) :
    PE X (.Call (.Name x p) [] [] pos) (tMa C sp E0 tNil) := by
  obtain ⟨f, fd, ps, M, F, hm, b⟩ := c.ex
  exact ⟨fun pins s σ H Q I h => (pe_make0 M F (hr.mono hk) hg hm b .nil passL hdb).run pins s σ H Q I h⟩
theorem pe_ma (c : Ma X.prog X.w X.K X.mg X.base k x C sp) (hr : Room j X.A) (hk : k + 1 ≤ j) (hg : Gl X x) (ha : PA X (e :: es) t)
    (hdb : (x == ("__debug__" : Str)) = false := by decide) (he : starEach (e :: es) X.env = (false, eval e X.env) :: starEach es X.env := by rfl) (hpl : (backTo pos (starEach es X.env)).any (·.1) = false := by rfl) :
    PE X (.Call (.Name x p) (e :: es) [] pos) (tMa C sp E0 t) := by
  obtain ⟨f, fd, ps, M, F, hm, b⟩ := c.ex
  refine ⟨fun pins s σ H Q I h => (pe_make M F (hr.mono hk) hg hm b .nil passL ha hdb he hpl).run pins s σ H Q I ?_⟩
  have e : tMake C sp [] E0 t σ H Q = tMa C sp E0 t σ H Q := by
    unfold tMake tMa
    simp only [List.append_nil]
  rw [e]
  exact h
end
/-- calls within a try: what is wished of an exception may speak of the slots -/
def tMeS (C : Addr) (m : Str) (sp : Sp) (E : L2.St → XK) (ta : TE) (t : TA) : TE := fun σ H Q => ta σ H fun x H1 => ∃ a dx fs, x = .ref a ∧ H1 a = some (.ins C dx fs) ∧ fs.lookup m = none ∧ t σ H1 fun vs H2 => sp (x :: vs) H2 Q (E σ)
def tCaS (sp : Sp) (E : L2.St → XK) (t : TA) : TE := fun σ H Q => t σ H fun vs H1 => sp vs H1 Q (E σ)
section
variable {X : Cx} {k j : Nat} {x m : Str} {C : Addr} {sp : Sp} {p pos apos : Pos} {e o : Expr} {es : List Expr} {t : TA} {ta : TE} {E : L2.St → XK}
theorem pe_meS {pl : Sem Bool} (c : Me X.prog X.w X.K X.mg X.base k C m sp) (hr : Room j X.A) (hk : k ≤ j) (he : PE X o ta) (hx : ∀ σ, PassesAt (L2.CX X.prog X.w) X σ (E σ)) (ha : PA X (e :: es) t)
    (hst : starEach (e :: es) X.env = (false, eval e X.env) :: starEach es X.env := by rfl) (hpl : (backTo pos (starEach es X.env)).any (·.1) = false := by rfl)
    (ht : eval (.Call (.Attribute o m apos) (e :: es) [] pos) X.env = (do
      let ov ← eval o X.env
      standAt apos.atName
      let (f, first) ← holding [ov] (getMethod ov m pl)
      callWith pos f first (backTo pos (starEach (e :: es) X.env)) (backToKw pos (keywordEach [] X.env))) := by rfl) :
    PE X (.Call (.Attribute o m apos) (e :: es) [] pos) (tMeS C m sp E ta t) := by
  obtain ⟨f, fd, ps, cl, hm, F, b⟩ := c.ex
  refine ⟨fun pins s σ H Q I h => ?_⟩
  refine PySem.W.methodCall_KW (pl := pl) (thn (he.run pins s σ H _ I h) fun u s1 ⟨x, H1, I1, rx, a, dx, fs, ex, ea, l, q⟩ => ?_) ht
  subst ex
  have rx : u = Value.ref a := rx
  subst rx
  refine getmeth_ok I1 ea cl hm l (PySem.W.callWith_K (first := [.ref a]) (h₀ := X.base) I.ok.mod.kin hm.kp (thn (ha.run pos pins s1 σ H1 _ I1 q) fun us s2 ⟨vs, H2, I2, r, q2⟩ => ⟨I2.kIn, ?_⟩) hst hpl)
  exact run_fnS (us := .ref a :: us) (vs := .ref a :: vs) F (hr.mono hk) b (hx σ) I2 (.cons rfl r) q2
theorem pe_caS (c : Ca X.prog X.w X.K X.mg X.base k x sp) (hr : Room j X.A) (hk : k ≤ j) (hg : Gl X x) (hx : ∀ σ, PassesAt (L2.CX X.prog X.w) X σ (E σ)) (ha : PA X (e :: es) t)
    (hdb : (x == ("__debug__" : Str)) = false := by decide) (he : starEach (e :: es) X.env = (false, eval e X.env) :: starEach es X.env := by rfl) (hpl : (backTo pos (starEach es X.env)).any (·.1) = false := by rfl) :
    PE X (.Call (.Name x p) (e :: es) [] pos) (tCaS sp E t) := by
  obtain ⟨f, fd, ps, F, hm, kp, b⟩ := c.ex
  exact pe_callS F (hr.mono hk) hg hm kp b hx ha hdb he hpl
end
theorem hu65 {A : Around} {k : Nat} (hr : Room k A) : A.units + 65 < cLine := by have := hr.un; omega
theorem pe_gi {X : Cx} {x : Str} {pos : Pos} {v : V} (hg : Gl X x) (h : ∃ u, X.mg x = some u ∧ RelV v u) (hd : (x == ("__debug__" : Str)) = false := by decide) : PE X (.Name x pos) (tC v) := by
  obtain ⟨u, hm, r⟩ := h
  exact pe_glob hg hm r hd

/-! ### one rule for an operator, whatever the values -/
section
variable {X : Cx}
def rAddU (K : PySem.W.Frag) : R2 := fun x y H Q => rI0 (fun i j => .int (i + j)) x y H Q ∨ rCatA K x y H Q ∨ rCat x y H Q ∨ (∃ i j, x = .str i ∧ y = .str j ∧ i.length + j.length ≤ sizeLine ∧ Q (.str (i ++ j)) H)
theorem opU_add : OpR X (binaryOp .Add) (rAddU X.K) := op_add.or (op_catA.or (op_cat.or op_add_str))
def rMulU (K : PySem.W.Frag) : R2 := fun x y H Q => rI CMul (fun i j => .int (i * j)) x y H Q ∨ rRepT K x y H Q ∨ rRep x y H Q
theorem opU_mul : OpR X (binaryOp .Mult) (rMulU X.K) := op_mul.or (op_repT.or op_rep)
def rLeU : R2 := fun x y H Q => rI0 (fun i j => .bl (decide (i ≤ j))) x y H Q ∨ (∃ i j, x = .str i ∧ y = .str j ∧ Q (.bl (!decide (j.cps.toList < i.cps.toList))) H)
theorem opU_le : OpR X (compareOp .LtE) rLeU := op_le.or op_le_str
def rLtU : R2 := rI0 (fun i j => .bl (decide (i < j)))
theorem opU_lt : OpR X (compareOp .Lt) rLtU := op_lt
def rGeU : R2 := rI0 (fun i j => .bl (decide (j ≤ i)))
theorem opU_ge : OpR X (compareOp .GtE) rGeU := op_ge
def rGtU : R2 := rI0 (fun i j => .bl (decide (j < i)))
theorem opU_gt : OpR X (compareOp .Gt) rGtU := op_gt
def rEqU (K : PySem.W.Frag) : R2 := fun x y H Q => rEq x y H Q ∨ rEqD K x y H Q
theorem opU_eq (hu : X.A.units + 64 < cLine) : OpR X (compareOp .Eq) (rEqU X.K) := op_eq.or (op_eqD hu)
def rNeU (K : PySem.W.Frag) : R2 := fun x y H Q => rNe x y H Q ∨ rNeD K x y H Q
theorem opU_ne (hu : X.A.units + 64 < cLine) : OpR X (compareOp .NotEq) (rNeU X.K) := op_ne.or (op_neD hu)
theorem opU_in_list (hu : X.A.units + 65 < cLine) : OpR X (compareOp .In) (rInD X.K) := op_inD hu
theorem opU_notin_list (hu : X.A.units + 65 < cLine) : OpR X (compareOp .NotIn) (rNotInD X.K) := op_notInD hu
theorem opU_is : OpR X (compareOp .Is) rIsB := op_isBl
theorem opU_isnot : OpR X (compareOp .IsNot) rNotB := op_notBl
theorem ixU : IxR X (rIx X.K) := ix_seq
def rSlU (K : PySem.W.Frag) : V → Option Int → Option Int → Hp → VK → Prop := fun x lo hi H Q => rSlL K x lo hi H Q ∨ rSlA K x lo hi H Q ∨ rSlS x lo hi H Q
theorem slU : SlR X (rSlU X.K) := sl_list.or (sl_tupA.or sl_str)
def rLenU (K : PySem.W.Frag) : List V → Hp → VK → Prop := fun xs H Q => ∃ x n, xs = [x] ∧ LenV K x H n ∧ Q (.int n) H
theorem lenU : CallR X (.builtin "len") (rLenU X.K) := call_len
def rListU (K : PySem.W.Frag) : List V → Hp → VK → Prop := fun xs H Q => ∃ p ys, xs = [.ref p] ∧ (SqL K H p ys ∨ SqT K H p ys) ∧ ∀ l, H l = none → Q (.ref l) (upd H l (.lst ys))
theorem listU : CallR X (.type "list") (rListU X.K) := call_list_of
def rTupleU (K : PySem.W.Frag) : List V → Hp → VK → Prop := fun xs H Q => ∃ p ys, xs = [.ref p] ∧ ((SqL K H p ys ∧ ∀ l, H l = none → Q (.ref l) (upd H l (.tup ys))) ∨ (SqT K H p ys ∧ Q (.ref p) H))
theorem tupleU : CallR X (.type "tuple") (rTupleU X.K) := call_tuple_of
def rIntU : List V → Hp → VK → Prop := fun xs H Q => (∃ i, xs = [.int i] ∧ Q (.int i) H) ∨ ∃ k, xs = [.bl k] ∧ Q (.int (if k then 1 else 0)) H
theorem intU : CallR X (.type "int") rIntU := call_int1
theorem gxOk_by {scope : Scope} (h1 : scope.isCoroutine = false := by rfl) (h2 : ∀ y ∈ scope.names, y.2 ≠ .cell := by decide +kernel) (h3 : scope.names.lookup (".0" : Str) = some NameKind.local := by decide +kernel) : GxOk scope := ⟨h1, h2, h3⟩
end

/-! ### readings, rule by rule; heaps that come are new letters -/
section
variable {K : PySem.W.Frag} {σ : L2.St} {H H1 : Hp} {Q : VK} {D : Ends} {ta tb tc te : TE} {t : TA} {ts tu : TS} {g : TG} {E : XK}
theorem rd_var {i : Nat} {v : V} (h : σ[i]? = some (some v)) (q : Q v H) : tVar i σ H Q := ⟨v, h, q⟩
theorem rd_c {v : V} (q : Q v H) : tC v σ H Q := q
theorem rd_op {r : R2} (h : ta σ H fun x H1 => tb σ H1 fun y H2 => r x y H2 Q) : tOp r ta tb σ H Q := h
theorem rd_un {r : V → Hp → VK → Prop} (h : ta σ H fun x H1 => r x H1 Q) : tUn r ta σ H Q := h
theorem rd_chain {r r' : R2} (h : ta σ H fun x H1 => tb σ H1 fun y H2 => r x y H2 fun z H3 => ∃ k, z = .bl k ∧ (if k = true then tc σ H3 fun w' H4 => r' y w' H4 Q else Q (.bl false) H3)) : tChain r r' ta tb tc σ H Q := h
theorem rd_k {P : Bool → Prop} {b : Bool} (h : P b) : ∃ k, V.bl b = V.bl k ∧ P k := ⟨b, rfl, h⟩
theorem rd_I0 {gg : Int → Int → V} {i j : Int} (q : Q (gg i j) H) : rI0 gg (.int i) (.int j) H Q := ⟨i, j, rfl, rfl, q⟩
theorem rd_I {C : Int → Int → Prop} {gg : Int → Int → V} {i j : Int} (c : C i j) (q : Q (gg i j) H) : rI C gg (.int i) (.int j) H Q := ⟨i, j, rfl, rfl, c, q⟩
theorem rd_addI {i j : Int} (q : Q (.int (i + j)) H) : rAddU K (.int i) (.int j) H Q := .inl ⟨i, j, rfl, rfl, q⟩
theorem rd_addS {i j : Str} (l : i.length + j.length ≤ sizeLine) (q : Q (.str (i ++ j)) H) : rAddU K (.str i) (.str j) H Q := .inr (.inr (.inr ⟨i, j, rfl, rfl, l, q⟩))
theorem rd_mulI {i j : Int} (c : CMul i j) (q : Q (.int (i * j)) H) : rMulU K (.int i) (.int j) H Q := .inl ⟨i, j, rfl, rfl, c, q⟩
theorem rd_leI {i j : Int} (q : Q (.bl (decide (i ≤ j))) H) : rLeU (.int i) (.int j) H Q := .inl ⟨i, j, rfl, rfl, q⟩
theorem rd_leS {i j : Str} (q : Q (.bl (!decide (j.cps.toList < i.cps.toList))) H) : rLeU (.str i) (.str j) H Q := .inr ⟨i, j, rfl, rfl, q⟩
theorem rd_ltI {i j : Int} (q : Q (.bl (decide (i < j))) H) : rLtU (.int i) (.int j) H Q := ⟨i, j, rfl, rfl, q⟩
theorem rd_geI {i j : Int} (q : Q (.bl (decide (j ≤ i))) H) : rGeU (.int i) (.int j) H Q := ⟨i, j, rfl, rfl, q⟩
theorem rd_gtI {i j : Int} (q : Q (.bl (decide (j < i))) H) : rGtU (.int i) (.int j) H Q := ⟨i, j, rfl, rfl, q⟩
theorem rd_eqI {i j : Int} (q : Q (.bl (decide (i = j))) H) : rEqU K (.int i) (.int j) H Q := .inl ⟨rfl, by
  have e : decide (V.int i = V.int j) = decide (i = j) := by simp
  rw [e]; exact q⟩
theorem rd_eqS {i j : Str} (q : Q (.bl (decide (i = j))) H) : rEqU K (.str i) (.str j) H Q := .inl ⟨rfl, by
  have e : decide (V.str i = V.str j) = decide (i = j) := by simp
  rw [e]; exact q⟩
theorem rd_eqB {i j : Bool} (q : Q (.bl (decide (i = j))) H) : rEqU K (.bl i) (.bl j) H Q := .inl ⟨rfl, by
  have e : decide (V.bl i = V.bl j) = decide (i = j) := by simp
  rw [e]; exact q⟩
theorem rd_neI {i j : Int} (q : Q (.bl (!decide (i = j))) H) : rNeU K (.int i) (.int j) H Q := .inl ⟨rfl, by
  have e : decide (V.int i = V.int j) = decide (i = j) := by simp
  rw [e]; exact q⟩
theorem rd_neS {i j : Str} (q : Q (.bl (!decide (i = j))) H) : rNeU K (.str i) (.str j) H Q := .inl ⟨rfl, by
  have e : decide (V.str i = V.str j) = decide (i = j) := by simp
  rw [e]; exact q⟩
theorem rd_isN {x : V} (q : Q (.bl (decide (x = .non))) H) : (fun x y H Q => y = V.non ∧ Q (.bl (decide (x = .non))) H : R2) x .non H Q := ⟨rfl, q⟩
theorem rd_neg {i : Int} (q : Q (.int (-i)) H) : rU (fun i => .int (-i)) (.int i) H Q := ⟨i, rfl, q⟩
theorem rd_andV (h : ta σ H fun x H1 => ∃ c, x = .bl c ∧ if c = true then tb σ H1 Q else Q (.bl false) H1) : tAndV ta tb σ H Q := h
theorem rd_orV (h : ta σ H fun x H1 => ∃ c, x = .bl c ∧ if c = true then Q (.bl true) H1 else tb σ H1 Q) : tOrV ta tb σ H Q := h
theorem rd_notV (h : ta σ H fun x H1 => ∃ c, x = .bl c ∧ Q (.bl (!c)) H1) : tNotV ta σ H Q := h
theorem rd_if {tt : TT} (h : tt σ H fun c H1 => if c = true then ta σ H1 Q else tb σ H1 Q) : tIf tt ta tb σ H Q := h
theorem rd_test {R : Bool → Hp → Prop} (h : te σ H fun x H' => ∃ k, x = .bl k ∧ R k H') : tTest te σ H R := h
theorem rd_tB {R : Bool → Hp → Prop} (h : te σ H fun x H1 => ∃ c, x = .bl c ∧ R c H1) : tB te σ H R := h
theorem rd_tand {t u : TT} {R : Bool → Hp → Prop} (h : t σ H fun c H1 => if c = true then u σ H1 R else R false H1) : tAnd t u σ H R := h
theorem rd_tor {t u : TT} {R : Bool → Hp → Prop} (h : t σ H fun c H1 => if c = true then R true H1 else u σ H1 R) : tOr t u σ H R := h
theorem rd_tnot {t : TT} {R : Bool → Hp → Prop} (h : t σ H fun c H1 => R (!c) H1) : tNot t σ H R := h
theorem rd_seq (h : ts { D with nx := tu D } σ H) : tSeq ts tu D σ H := h
theorem rd_next (h : D.nx σ H) : tNext D σ H := h
theorem rd_asg (h : te σ H fun x H1 => g x σ H1 D.nx) : tAsg te g D σ H := h
theorem rd_name {i : Nat} {v : V} {R : L2.St → Hp → Prop} (h : R (σ.set i (some v)) H) : gName i v σ H R := h
theorem rd_gsub {to ti : TE} {tset : TSet} {v : V} {R : L2.St → Hp → Prop} (h : to σ H fun o H1 => ti σ H1 fun i H2 => tset o i v H2 fun H3 => R σ H3) : gSub to ti tset v σ H R := h
theorem rd_ret (h : te σ H D.rt) : tRet te D σ H := h
theorem rd_retN (h : D.rt .non H) : tRetN D σ H := h
theorem rd_drop (h : te σ H fun _ H1 => D.nx σ H1) : tDrop te D σ H := h
theorem rd_ifS {c : TT} (h : c σ H fun b H1 => if b = true then ts D σ H1 else tu D σ H1) : tIfS c ts tu D σ H := h
theorem rd_cons {tr : TA} {R : List V → Hp → Prop} (h : ta σ H fun x H1 => tr σ H1 fun xs H2 => R (x :: xs) H2) : tCons ta tr σ H R := h
theorem rd_nil {R : List V → Hp → Prop} (h : R [] H) : tNil σ H R := h
theorem rd_ca {sp : Sp} (h : t σ H fun vs H1 => sp vs H1 Q E) : tCa sp E t σ H Q := h
theorem rd_cb {r : List V → Hp → VK → Prop} (h : t σ H fun vs H1 => r vs H1 Q) : tCB r t σ H Q := h
theorem rd_me {C : Addr} {m : Str} {sp : Sp} (h : ta σ H fun x H1 => ∃ a dx fs, x = .ref a ∧ H1 a = some (.ins C dx fs) ∧ fs.lookup m = none ∧ t σ H1 fun vs H2 => sp (x :: vs) H2 Q E) : tMe C m sp E ta t σ H Q := h
theorem rd_me2 {C : Addr} {m : Str} {a dx : Addr} {fs : List (Str × V)} {R : Prop} (h : H a = some (.ins C dx fs)) (l : fs.lookup m = none) (q : R) : ∃ a' dx fs, V.ref a = .ref a' ∧ H a' = some (.ins C dx fs) ∧ fs.lookup m = none ∧ R := ⟨a, dx, fs, rfl, h, l, q⟩
theorem rd_meS {C : Addr} {m : Str} {sp : Sp} {E : L2.St → XK} (h : ta σ H fun x H1 => ∃ a dx fs, x = .ref a ∧ H1 a = some (.ins C dx fs) ∧ fs.lookup m = none ∧ t σ H1 fun vs H2 => sp (x :: vs) H2 Q (E σ)) : tMeS C m sp E ta t σ H Q := h
theorem rd_caS {sp : Sp} {E : L2.St → XK} (h : t σ H fun vs H1 => sp vs H1 Q (E σ)) : tCaS sp E t σ H Q := h
/-- what follows when a new thing is laid, folded -/
def kMa (C : Addr) (sp : Sp) (E : XK) (Q : VK) : List V → Hp → Prop := fun vs H1 => ∀ x dx, H1 x = none → H1 dx = none → dx ≠ x → sp (.ref x :: vs) (upd (upd H1 dx (.own x)) x (.ins C dx [])) (fun v H2 => v = .non ∧ Q (.ref x) H2) E
def kTup (Q : VK) : List V → Hp → Prop := fun xs H1 => xs.length ≤ sizeLine ∧ ∀ p, H1 p = none → Q (.ref p) (upd H1 p (.tup xs))
def kLst (Q : VK) : List V → Hp → Prop := fun xs H1 => xs.length ≤ sizeLine ∧ ∀ p, H1 p = none → Q (.ref p) (upd H1 p (.lst xs))
theorem rd_ma {C : Addr} {sp : Sp} (h : t σ H (kMa C sp E Q)) : tMa C sp E t σ H Q := h
theorem rd_kMa {C : Addr} {sp : Sp} {vs : List V} (h : ∀ x dx H2, H1 x = none → H1 dx = none → H2 x = some (.ins C dx []) → Fr [] H1 H2 → sp (.ref x :: vs) H2 (fun v H3 => v = .non ∧ Q (.ref x) H3) E) : kMa C sp E Q vs H1 := fun x dx h1 h2 h3 =>
  h x dx _ h1 h2 upd_same ((Fr.lay (ch := []) h2).snoc (Fr.lay (ch := []) (by rw [upd_ne (Ne.symm h3)]; exact h1)) fun _ z => absurd z (by simp))
theorem rd_tup (h : t σ H (kTup Q)) : tTup t σ H Q := h
theorem rd_lst (h : t σ H (kLst Q)) : tLst t σ H Q := h
theorem rd_kTup {xs : List V} (hl : xs.length ≤ sizeLine) (h : ∀ p H2, H1 p = none → H2 p = some (.tup xs) → Fr [] H1 H2 → Q (.ref p) H2) : kTup Q xs H1 := ⟨hl, fun p hp => h p _ hp upd_same (Fr.lay hp)⟩
theorem rd_kLst {xs : List V} (hl : xs.length ≤ sizeLine) (h : ∀ p H2, H1 p = none → H2 p = some (.lst xs) → Fr [] H1 H2 → Q (.ref p) H2) : kLst Q xs H1 := ⟨hl, fun p hp => h p _ hp upd_same (Fr.lay hp)⟩
theorem rd_new {o : HO} {P : V → Hp → Prop} (h : ∀ p H2, H1 p = none → H2 p = some o → Fr [] H1 H2 → P (.ref p) H2) : ∀ p, H1 p = none → P (.ref p) (upd H1 p o) :=
  fun p hp => h p _ hp upd_same (Fr.lay hp)
theorem rd_dT (h : ∀ p H2, H p = none → H2 p = some (.dT []) → Fr [] H H2 → Q (.ref p) H2) : tDNewT σ H Q := rd_new (P := Q) h
theorem rd_dK (h : ∀ p H2, H p = none → H2 p = some (.dK []) → Fr [] H H2 → Q (.ref p) H2) : tDNewK σ H Q := rd_new (P := Q) h
theorem rd_fld {f : Str} (h : ta σ H fun x H1 => ∃ a C dx fs v, x = .ref a ∧ H1 a = some (.ins C dx fs) ∧ Cls K C ∧ NoAttr K C f ∧ fs.lookup f = some v ∧ Q v H1) : tFld K ta f σ H Q := h
theorem rd_fld2 {f : Str} {a C dx : Addr} {fs : List (Str × V)} {v : V} (h : H a = some (.ins C dx fs)) (c : Cls K C) (n : NoAttr K C f) (l : fs.lookup f = some v) (q : Q v H) :
    ∃ a' C dx fs v, V.ref a = .ref a' ∧ H a' = some (.ins C dx fs) ∧ Cls K C ∧ NoAttr K C f ∧ fs.lookup f = some v ∧ Q v H := ⟨a, C, dx, fs, v, rfl, h, c, n, l, q⟩
theorem rd_sfld {f : Str} {tv : TE} (h : tv σ H fun y H1 => ta σ H1 fun x H2 => ∃ a C dx fs, x = .ref a ∧ H2 a = some (.ins C dx fs) ∧ Cls K C ∧ NoAttr K C f ∧ fs.length < 1000 ∧ D.nx σ (upd H2 a (.ins C dx (putF f y fs)))) : sFld K ta tv f D σ H := h
theorem rd_sfld2 {f : Str} {a C dx : Addr} {fs : List (Str × V)} {y : V} {P : Hp → Prop} (h : H a = some (.ins C dx fs)) (c : Cls K C) (n : NoAttr K C f) (l : fs.length < 1000)
    (q : ∀ H2, H2 a = some (.ins C dx (putF f y fs)) → Fr [a] H H2 → P H2) : ∃ a' C dx fs, V.ref a = .ref a' ∧ H a' = some (.ins C dx fs) ∧ Cls K C ∧ NoAttr K C f ∧ fs.length < 1000 ∧ P (upd H a' (.ins C dx (putF f y fs))) :=
  ⟨a, C, dx, fs, rfl, h, c, n, l, q _ upd_same (Fr.put h trivial List.mem_cons_self)⟩
theorem rd_sfaug {f : Str} {tv : TE} {rd : V → V → Hp → VK → Prop} (h : ta σ H fun x H1 => ∃ a C dx fs v, x = .ref a ∧ H1 a = some (.ins C dx fs) ∧ Cls K C ∧ NoAttr K C f ∧ fs.lookup f = some v ∧
    tv σ H1 fun y H2 => rd v y H2 fun z H3 => ∃ dx' fs', H3 a = some (.ins C dx' fs') ∧ fs'.length < 1000 ∧ D.nx σ (upd H3 a (.ins C dx' (putF f z fs')))) : sFldAug K ta tv rd f D σ H := h
theorem rd_sfaug2 {f : Str} {a C dx : Addr} {fs : List (Str × V)} {v : V} {R : Addr → Addr → Addr → V → Prop} (h : H a = some (.ins C dx fs)) (c : Cls K C) (n : NoAttr K C f) (l : fs.lookup f = some v) (q : R a C dx v) :
    ∃ a' C dx fs v, V.ref a = .ref a' ∧ H a' = some (.ins C dx fs) ∧ Cls K C ∧ NoAttr K C f ∧ fs.lookup f = some v ∧ R a' C dx v := ⟨a, C, dx, fs, v, rfl, h, c, n, l, q⟩
theorem rd_sfaug3 {f : Str} {a C dx : Addr} {fs : List (Str × V)} {z : V} {P : Hp → Prop} (h : H a = some (.ins C dx fs)) (l : fs.length < 1000) (q : ∀ H2, H2 a = some (.ins C dx (putF f z fs)) → Fr [a] H H2 → P H2) :
    ∃ dx' fs', H a = some (.ins C dx' fs') ∧ fs'.length < 1000 ∧ P (upd H a (.ins C dx' (putF f z fs'))) := ⟨dx, fs, h, l, q _ upd_same (Fr.put h trivial List.mem_cons_self)⟩
theorem rd_inadd {i j : Int} (q : Q (.int (i + j)) H) : rAdd (.int i) (.int j) H Q := ⟨i, j, rfl, rfl, q⟩
theorem rd_bm {T : String} {r : V → List V → Hp → VK → Prop} {to : TE} (h : to σ H fun x H1 => tyV K T x H1 ∧ t σ H1 fun xs H2 => r x xs H2 Q) : tBM K T r to t σ H Q := h
theorem rd_bm0 {T : String} {r : V → List V → Hp → VK → Prop} {to : TE} (h : to σ H fun x H1 => tyV K T x H1 ∧ r x [] H1 Q) : tBM0 K T r to σ H Q := h
theorem rd_tyL {p : Addr} {xs : List V} {R : Prop} (h : SqL K H p xs) (q : R) : tyV K "list" (.ref p) H ∧ R := ⟨.inl ⟨rfl, xs, h⟩, q⟩
theorem rd_app {l : Addr} {xs : List V} {y : V} (h : H l = some (.lst xs)) (n : xs.length < sizeLine) (q : ∀ H2, H2 l = some (.lst (xs ++ [y])) → Fr [l] H H2 → Q .non H2) : rAppend (.ref l) [y] H Q :=
  ⟨l, xs, y, rfl, rfl, h, n, q _ upd_same (Fr.put h trivial List.mem_cons_self)⟩
theorem rd_pop0 {l : Addr} {x : V} {xs : List V} (h : H l = some (.lst (x :: xs))) (q : ∀ H2, H2 l = some (.lst xs) → Fr [l] H H2 → Q x H2) : rPopAt (.ref l) [.int 0] H Q :=
  ⟨l, x :: xs, 0, 0, x, rfl, rfl, h, by decide, by decide, by simp [seqIndex?], rfl, q _ upd_same (Fr.put h trivial List.mem_cons_self)⟩
theorem rd_setL {p : Addr} {xs : List V} {k : Int} {j : Nat} {v : V} {P : Hp → Prop} (h : H p = some (.lst xs)) (hj : ixN xs.length k = some j) (q : ∀ H2, H2 p = some (.lst (xs.set j v)) → Fr [p] H H2 → P H2) : rSetL (.ref p) (.int k) v H P :=
  ⟨p, xs, k, j, rfl, rfl, h, hj, q _ upd_same (Fr.put h trivial List.mem_cons_self)⟩
theorem rd_ixL {p : Addr} {xs : List V} {i : Int} {v : V} (h : SqL K H p xs) (e : atI xs i = some v) (q : Q v H) : rIx K (.ref p) (.int i) H Q := .inl ⟨p, xs, i, v, rfl, rfl, h, e, q⟩
theorem rd_ixT {p : Addr} {xs : List V} {i : Int} {v : V} (h : SqT K H p xs) (e : atI xs i = some v) (q : Q v H) : rIx K (.ref p) (.int i) H Q := .inr (.inl ⟨p, xs, i, v, rfl, rfl, h, e, q⟩)
theorem rd_lenS {x : Str} (h : x.length ≤ sizeLine) (q : Q (.int x.length) H) : rLenU K [.str x] H Q := ⟨_, _, rfl, ⟨h, rfl⟩, q⟩
theorem rd_lenL {p : Addr} {xs : List V} (h : SqL K H p xs) (q : Q (.int xs.length) H) : rLenU K [.ref p] H Q := ⟨_, _, rfl, .inl ⟨xs, h, rfl⟩, q⟩
theorem rd_lenT {p : Addr} {xs : List V} (h : SqT K H p xs) (q : Q (.int xs.length) H) : rLenU K [.ref p] H Q := ⟨_, _, rfl, .inr ⟨xs, h, rfl⟩, q⟩
theorem rd_listL {p : Addr} {ys : List V} (h : SqL K H p ys) (q : ∀ l H2, H l = none → H2 l = some (.lst ys) → Fr [] H H2 → Q (.ref l) H2) : rListU K [.ref p] H Q := ⟨p, ys, rfl, .inl h, rd_new q⟩
theorem rd_listT {p : Addr} {ys : List V} (h : SqT K H p ys) (q : ∀ l H2, H l = none → H2 l = some (.lst ys) → Fr [] H H2 → Q (.ref l) H2) : rListU K [.ref p] H Q := ⟨p, ys, rfl, .inr h, rd_new q⟩
theorem rd_tupL {p : Addr} {ys : List V} (h : SqL K H p ys) (q : ∀ l H2, H l = none → H2 l = some (.tup ys) → Fr [] H H2 → Q (.ref l) H2) : rTupleU K [.ref p] H Q := ⟨p, ys, rfl, .inl ⟨h, rd_new q⟩⟩
theorem rd_int {i : Int} (q : Q (.int i) H) : rIntU [.int i] H Q := .inl ⟨i, rfl, q⟩
theorem rd_isi {v : V} {d : Ow.D} {T : String} {b : Bool} (h : Im H v d) (e : kitB (tyD d) T = some b) (q : Q (.bl b) H) : rIsi K [v, .ty T] H Q := ⟨v, .ty T, _, _, b, rfl, .ty T, h.ty, kit_ty e, q⟩
theorem rd_iteT {A B : Prop} (h : A) : if true = true then A else B := by simpa using h
theorem rd_iteF {A B : Prop} (h : B) : if false = true then A else B := by simpa using h
theorem rd_not {A B : Prop} (h : B) : if (!true) = true then A else B := by simpa using h
theorem rd_nof {A B : Prop} (h : A) : if (!false) = true then A else B := by simpa using h
theorem rd_ite {p : Prop} [Decidable p] {A B : Prop} (h1 : p → A) (h2 : ¬ p → B) : if decide p = true then A else B := by
  by_cases h : p
  · simpa [h] using h1 h
  · simpa [h] using h2 h
theorem rd_iteN {p : Prop} [Decidable p] {A B : Prop} (h1 : ¬ p → A) (h2 : p → B) : if (!decide p) = true then A else B := by
  by_cases h : p
  · simpa [h] using h2 h
  · simpa [h] using h1 h
theorem rd_iteB {b : Bool} {A B : Prop} (h1 : b = true → A) (h2 : b = false → B) : if b = true then A else B := by
  cases b with
  | true => simpa using h1 rfl
  | false => simpa using h2 rfl
theorem rd_iteNB {b : Bool} {A B : Prop} (h1 : b = false → A) (h2 : b = true → B) : if (!b) = true then A else B := by
  cases b with
  | true => simpa using h2 rfl
  | false => simpa using h1 rfl
end

/-! ### all(.. for ..) over n items that stay -/
section
variable {K : PySem.W.Frag} {σ : L2.St} {H : Hp} {Q : VK} {te : TE} {g : TG} {vs : List Nat}
theorem gx_run {J : It} {P : Addr} {n : Nat} (item : Nat → V → Prop) (pb : Nat → Bool) (hT : TabG H P) (stop : ∀ H', Fr [] H H' → J.stop n H') (go : ∀ i H', i < n → Fr [] H H' → J.go i H')
    (yld : ∀ i H' x H'', i < n → Fr [] H H' → J.yld i H' x H'' → H'' = H' ∧ item i x)
    (step : ∀ i x H' (R : VK), i < n → item i x → Fr [] H H' → (∀ H3, Fr [] H H3 → R (.bl (pb i)) H3) → g x (wipe σ vs) H' fun σ2 H2 => wipe σ2 vs = wipe σ vs ∧ te σ2 H2 R)
    (yes : (∀ i, i < n → pb i = true) → ∀ H', Fr [] H H' → Q (.bl true) H') (no : ∀ i, i < n → pb i = false → ∀ H', Fr [] H H' → Q (.bl false) H') :
    TabG H P ∧ ∀ H2, Tabbed P H H2 → ∃ W : Nat → Nat → Hp → Prop, (∃ m, W 0 m H2) ∧ gxTurns J g te (wipe σ vs) vs (Q (.bl true)) (Q (.bl false)) W := by
  refine ⟨hT, fun H2 ht => ⟨fun i m H' => m = n - i ∧ i ≤ n ∧ Fr [] H H' ∧ ∀ j, j < i → pb j = true, ⟨n, by simp, Nat.zero_le _, Fr.tabbed hT ht, fun j hj => absurd hj (Nat.not_lt_zero _)⟩, ?_⟩⟩
  rintro i m H' ⟨rfl, hi, f, hp⟩
  by_cases hlt : i < n
  · refine .inr ⟨go i H' hlt f, fun H'' => Fr [] H H'' ∧ pb i = true, fun H'' ⟨f', hb⟩ => ⟨n - (i + 1), by omega, rfl, hlt, f', fun j hj => ?_⟩, fun x H'' y => ?_⟩
    · by_cases e : j = i
      · rw [e]; exact hb
      · exact hp j (by omega)
    · obtain ⟨e, hx⟩ := yld i H' x H'' hlt f y
      subst e
      exact step i x H'' _ hlt hx f fun H4 f4 => ⟨pb i, rfl, fun hb => ⟨f4, hb⟩, fun hb => no i hlt hb H4 f4⟩
  · have e : i = n := by omega
    subst e
    exact .inl ⟨stop H' f, yes (fun j hj => hp j hj) H' f⟩

def gxBody (P : Addr) (g : TG) (te : TE) (vs : List Nat) (σ : L2.St) (Q : VK) : It → Hp → Prop := fun J H1 => TabG H1 P ∧ ∀ H2, Tabbed P H1 H2 → ∃ W : Nat → Nat → Hp → Prop, (∃ m, W 0 m H2) ∧ gxTurns J g te (wipe σ vs) vs (Q (.bl true)) (Q (.bl false)) W
theorem rd_allG {P : Addr} {wi : TI} (h : wi σ H (gxBody P g te vs σ Q)) : tAllG P wi g te vs σ H Q := h
theorem rd_iStr {R : It → Hp → Prop} {ta : TE} (h : ta σ H fun v H1 => ∃ x, v = .str x ∧ R (Its x) H1) : iStr ta σ H R := h
theorem rd_iStr2 {R : It → Hp → Prop} {x : Str} (h : R (Its x) H) : ∃ y, V.str x = .str y ∧ R (Its y) H := ⟨x, rfl, h⟩
theorem rd_iTup {R : It → Hp → Prop} {ta : TE} (h : ta σ H fun x H1 => ∃ a, x = .ref a ∧ (∃ xs, SqT K H1 a xs) ∧ R (Itt K a) H1) : iTup K ta σ H R := h
theorem rd_iTup2 {R : It → Hp → Prop} {a : Addr} {xs : List V} (k : SqT K H a xs) (h : R (Itt K a) H) : ∃ b, V.ref a = .ref b ∧ (∃ xs, SqT K H b xs) ∧ R (Itt K b) H := ⟨a, rfl, ⟨xs, k⟩, h⟩
theorem gx_str {P : Addr} {x : Str} (pb : Nat → Bool) (hT : TabG H P)
    (step : ∀ c H' (R : VK), Fr [] H H' → (∀ H3, Fr [] H H3 → R (.bl (pb c)) H3) → g (.str ⟨#[c]⟩) (wipe σ vs) H' fun σ2 H2 => wipe σ2 vs = wipe σ vs ∧ te σ2 H2 R)
    (fin : ∀ H', Fr [] H H' → Q (.bl (x.cps.toList.all pb)) H') : gxBody P g te vs σ Q (Its x) H := by
  have hn : x.cps.size = x.cps.toList.length := by simp

  refine gx_run (n := x.cps.size) (fun i v => ∃ c, x.cps[i]? = some c ∧ v = .str ⟨#[c]⟩) (fun i => match x.cps[i]? with | some c => pb c | none => false) hT (fun _ _ => Nat.le_refl _) (fun _ _ h _ => h) (fun i H' y H'' _ _ h => h) ?_ ?_ ?_
  · rintro i v H' R hi ⟨c, hc, rfl⟩ f k
    refine step c H' R f fun H3 f3 => ?_
    have := k H3 f3
    simp only [hc] at this
    exact this
  · intro hall H' f
    have e : x.cps.toList.all pb = true := List.all_eq_true.mpr fun c hc => by
      obtain ⟨j, hj, e⟩ := List.getElem_of_mem hc
      have hj' : j < x.cps.size := by omega
      have h1 : x.cps[j]? = some c := by rw [Array.getElem?_eq_getElem hj']; simpa using e
      have := hall j hj'
      simpa only [h1] using this
    have := fin H' f
    rw [e] at this
    exact this
  · intro i hi hb H' f
    have h1 : x.cps[i]? = some x.cps[i] := Array.getElem?_eq_getElem hi
    simp only [h1] at hb
    have e : x.cps.toList.all pb = false := by
      rw [List.all_eq_false]
      exact ⟨x.cps[i], by simp, by simp [hb]⟩
    have := fin H' f
    rw [e] at this
    exact this
theorem gx_tup {P a : Addr} {xs : List V} {ds : List D} (pb : D → Bool) (hT : TabG H P) (hx : H a = some (.tup xs)) (hd : ImAll H xs ds)
    (step : ∀ v d H' (R : VK), Im H' v d → Fr [] H H' → (∀ H3, Fr [] H H3 → R (.bl (pb d)) H3) → g v (wipe σ vs) H' fun σ2 H2 => wipe σ2 vs = wipe σ vs ∧ te σ2 H2 R)
    (fin : ∀ H', Fr [] H H' → Q (.bl (ds.all pb)) H') : gxBody P g te vs σ Q (Itt K a) H := by
  have hl := hd.length
  refine gx_run (n := xs.length) (fun i v => xs[i]? = some v) (fun i => match ds[i]? with | some d => pb d | none => false) hT (fun H' f => ⟨xs, f.seqT (SqT.of hx), Nat.le_refl _⟩) (fun i H' h f => ⟨xs, xs[i], f.seqT (SqT.of hx), List.getElem?_eq_getElem h⟩) (fun i H' y H'' _ f h => ⟨h.1, h.2 xs (f.seqT (SqT.of hx))⟩) ?_ ?_ ?_
  · intro i v H' R hi hv f k
    obtain ⟨d, hd1, hd2⟩ := hd.get hv
    refine step v d H' R (hd2.go f) f fun H3 f3 => ?_
    have := k H3 f3
    simp only [hd1] at this
    exact this
  · intro hall H' f
    have e : ds.all pb = true := List.all_eq_true.mpr fun c hc => by
      obtain ⟨j, hj, e⟩ := List.getElem_of_mem hc
      have h1 : ds[j]? = some c := by rw [List.getElem?_eq_getElem hj, e]
      have := hall j (by omega)
      simpa only [h1] using this
    have := fin H' f
    rw [e] at this
    exact this
  · intro i hi hb H' f
    have hi' : i < ds.length := by omega
    have h1 : ds[i]? = some ds[i] := List.getElem?_eq_getElem hi'
    simp only [h1] at hb
    have e : ds.all pb = false := by
      rw [List.all_eq_false]
      exact ⟨ds[i], by simp, by simp [hb]⟩
    have := fin H' f
    rw [e] at this
    exact this
end
end Ow

set_option Elab.async false
set_option linter.all false
set_option maxRecDepth 100000
set_option maxHeartbeats 4000000
namespace Ow
open PySem PySem.Spec PyProof.Rows L2 GxR
/-! ### text * int -/
def repS (z : Str) (k : Int) : Str := ⟨(List.replicate k.toNat z.cps).foldl (· ++ ·) #[]⟩
def rRepS : R2 := fun x y H Q => ∃ z k, x = .str z ∧ y = .int k ∧ 2 ≤ k ∧ k ≤ 1000 ∧ 1 ≤ z.length ∧ z.length ≤ 1000 ∧ Q (.str (repS z k)) H
theorem op_repS {X : Cx} : OpR X (binaryOp .Mult) rRepS := by
  intro pins s σ H x y v u Q I rx ry h
  obtain ⟨z, k, rfl, rfl, h1, h2, h3, h4, q⟩ := h
  obtain ⟨t, rfl⟩ := rx
  obtain ⟨t', rfl⟩ := ry
  have c : (k == 1 || z.length == 0) = false := by
    have e1 : (k == 1) = false := beq_eq_false_iff_ne.mpr (by omega)
    have e2 : (z.length == 0) = false := beq_eq_false_iff_ne.mpr (by omega)
    rw [e1, e2]; rfl
  have hm : z.length * k.toNat ≤ 1000 * 1000 := Nat.mul_le_mul h4 (by omega)
  refine PySem.P.mul_str ?_ (fun _ _ => ?_) (fun _ _ => ?_) ?_
  · rw [decide_eq_false (by omega), decide_eq_false (by omega)]; rfl
  · have : (1000 : Int) ≤ (2 ^ 63 - 1) / k := by
      rw [Int.le_ediv_iff_mul_le (by omega)]
      omega
    omega
  · unfold Builtin.Str.tooLong
    rw [sizeLine_eq]
    exact decide_eq_false (by omega)
  · rw [if_neg (by omega), if_neg (by rw [c]; exact Bool.false_ne_true)]
    have hlen : (repS z k).length ≤ sizeLine := by
      have e : ∀ (n : Nat) (acc : Array Nat), ((List.replicate n z.cps).foldl (· ++ ·) acc).size = acc.size + n * z.length := by
        intro n
        induction n with
        | zero => intro acc; simp
        | succ n ih =>
          intro acc
          rw [List.replicate_succ, List.foldl_cons, ih, Array.size_append, Nat.succ_mul]
          show acc.size + z.length + n * z.length = _
          omega
      show ((List.replicate k.toNat z.cps).foldl (· ++ ·) #[]).size ≤ _
      rw [e, sizeLine_eq]
      have : k.toNat * z.length = z.length * k.toNat := Nat.mul_comm _ _
      simp
      omega
    exact ⟨hlen, .str (repS z k), H, I.tok _, ⟨_, rfl⟩, q⟩
/-- * of any -/
def rMulV (K : PySem.W.Frag) : R2 := fun x y H Q => rMulU K x y H Q ∨ rRepS x y H Q
theorem opV_mul {X : Cx} : OpR X (binaryOp .Mult) (rMulV X.K) := opU_mul.or op_repS
section
variable {K : PySem.W.Frag} {σ : L2.St} {H H1 : Hp} {Q : VK} {D : Ends} {ta tb tc te : TE} {t : TA} {ts tu tb' : TS} {g : TG} {E : XK} {wi : TI} {tt : TT}
theorem rv_mulI {i j : Int} (c : CMul i j) (q : Q (.int (i * j)) H) : rMulV K (.int i) (.int j) H Q := .inl (rd_mulI c q)
theorem rv_mulS {z : Str} {k : Int} (h : 2 ≤ k ∧ k ≤ 1000 ∧ 1 ≤ z.length ∧ z.length ≤ 1000) (q : Q (.str (repS z k)) H) : rMulV K (.str z) (.int k) H Q := .inr ⟨z, k, rfl, rfl, h.1, h.2.1, h.2.2.1, h.2.2.2, q⟩
theorem rv_mulT {p : Addr} {xs : List V} {k : Int} (h : SqT K H p xs) (h2 : xs ≠ [] ∧ 2 ≤ k ∧ k ≤ 1000 ∧ xs.length ≤ 1000) (q : ∀ p2 H2, H p2 = none → H2 p2 = some (.tup (List.replicate k.toNat xs).flatten) → Fr [] H H2 → Q (.ref p2) H2) : rMulV K (.ref p) (.int k) H Q :=
  .inl (.inr (.inl ⟨p, k, xs, rfl, rfl, h, h2.1, h2.2.1, h2.2.2.1, h2.2.2.2, rd_new (P := Q) q⟩))

theorem rd_subI {i j : Int} (q : Q (.int (i - j)) H) : rI0 (fun i j => .int (i - j)) (.int i) (.int j) H Q := ⟨i, j, rfl, rfl, q⟩
theorem cdivW_of {i m : Int} (h0 : 0 < m) (h : m < 1000000000000000000) : CDivW i m := ⟨h0, by
  have : m.natAbs < 2 ^ 60 := by omega
  have := (Nat.log2_lt (by omega)).mpr this
  omega⟩
theorem Fr.seqL {ch : List Addr} {K : PySem.W.Frag} {H H' : Hp} (f : Fr ch H H') {a : Addr} {xs : List V} (hc : a ∉ ch) (h : SqL K H a xs) : SqL K H' a xs := by
  rcases h with (h | ⟨o, h⟩) | h
  · exact .inl (.inl (f.lst h rfl hc))
  · exact .inl (.inr ⟨o, f.frz _ _ _ h⟩)
  · exact .inr h
theorem rd_nn {R : Prop} (q : R) : V.non = V.non ∧ R := ⟨rfl, q⟩
/-! ### loops -/
def kF (g : TG) (tb : TS) (D : Ends) (σ : L2.St) : It → Hp → Prop := fun J H1 => ∃ W : Nat → Nat → L2.St → Hp → Prop, (∃ m, W 0 m σ H1) ∧ ∀ i m σ H, W i m σ H →
  (J.stop i H ∧ D.nx σ H) ∨ (J.go i H ∧ ∃ N : L2.St → Hp → Prop, (∀ σ' H', N σ' H' → ∃ m', m' < m ∧ W (i + 1) m' σ' H') ∧ ∀ x H', J.yld i H x H' → g x σ H' fun σ2 H2 => tb { D with nx := N, ct := N, bk := D.nx } σ2 H2)
theorem rd_for (h : wi σ H (kF g tb' D σ)) : tFor wi g tb' D σ H := h
theorem kF_range {lo : Int} {n : Nat} (Pv : Nat → L2.St → Hp → Prop) (h0 : Pv 0 σ H)
    (hs : ∀ i σ H, i < n → Pv i σ H → g (.int (lo + i)) σ H fun σ2 H2 => tb' { D with nx := Pv (i + 1), ct := Pv (i + 1), bk := D.nx } σ2 H2) (hd : ∀ σ H, Pv n σ H → D.nx σ H) : kF g tb' D σ (Itr lo n) H := for_range Pv h0 hs hd
theorem rd_rng1 {R : It → Hp → Prop} (h : t σ H fun vs H1 => ∃ j : Int, vs = [.int j] ∧ -(2 ^ 62) ≤ j ∧ j < 2 ^ 62 ∧ R (Itr 0 j.toNat) H1) : iRng1 t σ H R := h
theorem rd_rng1b {R : It → Hp → Prop} {j : Int} (h : -(2 ^ 62) ≤ j ∧ j < 2 ^ 62) (q : R (Itr 0 j.toNat) H) : ∃ i : Int, [V.int j] = [.int i] ∧ -(2 ^ 62) ≤ i ∧ i < 2 ^ 62 ∧ R (Itr 0 i.toNat) H := ⟨j, rfl, h.1, h.2, q⟩
/-! ### list comprehensions over ranges, without a condition -/
def kLc (g : TG) (tt : TT) (te : TE) (vs : List Nat) (σ : L2.St) (Q : VK) : It → Hp → Prop := fun J H1 => ∀ D, H1 D = none → ∃ W : Nat → Nat → Hp → Prop, (∃ m, W 0 m (upd H1 D (.lst []))) ∧ ∀ i m H, W i m H →
  (J.stop i H ∧ Q (.ref D) H) ∨ (J.go i H ∧ ∃ Nx : Hp → Prop, (∀ H', Nx H' → ∃ m', m' < m ∧ W (i + 1) m' H') ∧ ∀ x H', J.yld i H x H' → g x (wipe σ vs) H' fun σ2 H2 => wipe σ2 vs = wipe σ vs ∧ tt σ2 H2 fun b H3 =>
    if b = true then te σ2 H3 fun y H4 => ∃ acc, H4 D = some (.lst acc) ∧ acc.length < sizeLine ∧ Nx (upd H4 D (.lst (acc ++ [y]))) else Nx H3)
theorem rd_lc {vs : List Nat} (h : wi σ H (kLc g tt te vs σ Q)) : tLc wi g tt te vs σ H Q := h
/-- I: what holds of the list so far and the heap -/
theorem kLc_range {lo : Int} {n : Nat} {vs : List Nat} (I : Addr → Nat → List V → Hp → Prop) (h0 : ∀ D H2, H1 D = none → H2 D = some (.lst []) → Fr [] H1 H2 → I D 0 [] H2)
    (hs : ∀ D i acc H (R : V → Hp → Prop), H1 D = none → i < n → H D = some (.lst acc) → I D i acc H → (∀ y H4, H4 D = some (.lst acc) → acc.length < sizeLine → (∀ H5, H5 D = some (.lst (acc ++ [y])) → Fr [D] H4 H5 → I D (i + 1) (acc ++ [y]) H5) → R y H4) →
      g (.int (lo + i)) (wipe σ vs) H fun σ2 H2 => wipe σ2 vs = wipe σ vs ∧ tt σ2 H2 fun b H3 => if b = true then te σ2 H3 R else False)
    (hd : ∀ D acc H, H1 D = none → H D = some (.lst acc) → I D n acc H → Q (.ref D) H)
    (mono : ∀ x σ2 H2 (R R' : L2.St → Hp → Prop), (∀ σ H, R σ H → R' σ H) → g x σ2 H2 R → g x σ2 H2 R')
    (mtt : ∀ σ2 H2 (R R' : Bool → Hp → Prop), (∀ b H, R b H → R' b H) → tt σ2 H2 R → tt σ2 H2 R') : kLc g tt te vs σ Q (Itr lo n) H1 := fun D hD => by
  refine lc_range (fun i H => ∃ acc, H D = some (.lst acc) ∧ I D i acc H) ⟨[], upd_same, h0 D _ hD upd_same (Fr.lay hD)⟩ (fun i H hi ⟨acc, ha, hI⟩ => ?_) (fun H ⟨acc, ha, hI⟩ => hd D acc H hD ha hI)
  have h := hs D i acc H (fun y H4 => ∃ acc, H4 D = some (.lst acc) ∧ acc.length < sizeLine ∧ ∃ acc', (upd H4 D (.lst (acc ++ [y]))) D = some (.lst acc') ∧ I D (i + 1) acc' (upd H4 D (.lst (acc ++ [y])))) hD hi ha hI
    (fun y H4 h4 hl k => ⟨acc, h4, hl, acc ++ [y], upd_same, k _ upd_same (Fr.put h4 trivial List.mem_cons_self)⟩)
  refine mono _ _ _ _ _ (fun σ2 H2 z => ⟨z.1, mtt _ _ _ _ (fun b H3 q => ?_) z.2⟩) h
  cases b with
  | true => simpa using q
  | false => exact absurd q (by simp)
end
end Ow

set_option Elab.async false
set_option linter.all false
set_option maxRecDepth 100000
set_option maxHeartbeats 4000000
namespace Ow
open PySem PySem.Spec PyProof.Rows L2 GxR
section
variable {K : PySem.W.Frag} {σ : L2.St} {H H1 : Hp} {Q : VK} {ta te : TE} {t : TA} {g : TG} {tt : TT} {vs : List Nat}
/-- a comprehension, whatever it walks over; I: what holds of the list so far and the heap -/
theorem kLc_run {J : It} {n : Nat} (item : Nat → V → Prop) (I : Addr → Nat → List V → Hp → Prop) (h0 : ∀ D H2, H1 D = none → H2 D = some (.lst []) → Fr [] H1 H2 → I D 0 [] H2)
    (hJ : ∀ D i acc H, H1 D = none → i ≤ n → H D = some (.lst acc) → I D i acc H → (i < n → J.go i H) ∧ (i = n → J.stop i H) ∧ ∀ x H', i < n → J.yld i H x H' → H' = H ∧ item i x)
    (hs : ∀ D i acc H x (R : V → Hp → Prop) (Rn : Hp → Prop), H1 D = none → i < n → H D = some (.lst acc) → I D i acc H → item i x →
      (∀ y H4, H4 D = some (.lst acc) → acc.length < sizeLine → (∀ H5, H5 D = some (.lst (acc ++ [y])) → Fr [D] H4 H5 → I D (i + 1) (acc ++ [y]) H5) → R y H4) → (∀ H4, H4 D = some (.lst acc) → I D (i + 1) acc H4 → Rn H4) →
      g x (wipe σ vs) H fun σ2 H2 => wipe σ2 vs = wipe σ vs ∧ tt σ2 H2 fun b H3 => if b = true then te σ2 H3 R else Rn H3)
    (hd : ∀ D acc H, H1 D = none → H D = some (.lst acc) → I D n acc H → Q (.ref D) H) : kLc g tt te vs σ Q J H1 := fun D hD => by
  refine ⟨fun i m H => m = n - i ∧ i ≤ n ∧ ∃ acc, H D = some (.lst acc) ∧ I D i acc H, ⟨n, by simp, Nat.zero_le _, [], upd_same, h0 D _ hD upd_same (Fr.lay hD)⟩, ?_⟩
  rintro i m H ⟨rfl, hi, acc, ha, hI⟩
  obtain ⟨a1, a2, a3⟩ := hJ D i acc H hD hi ha hI
  by_cases hlt : i < n
  · refine .inr ⟨a1 hlt, fun H' => ∃ acc', H' D = some (.lst acc') ∧ I D (i + 1) acc' H', fun H' ⟨acc', x1, x2⟩ => ⟨n - (i + 1), by omega, rfl, hlt, acc', x1, x2⟩, fun x H' y => ?_⟩
    obtain ⟨e, hx⟩ := a3 x H' hlt y
    subst e
    exact hs D i acc _ x _ _ hD hlt ha hI hx (fun y H4 h4 hl k => ⟨acc, h4, hl, acc ++ [y], upd_same, k _ upd_same (Fr.put h4 trivial List.mem_cons_self)⟩) fun H3 h3 k => ⟨acc, h3, k⟩
  · have e : i = n := by omega
    subst e
    exact .inl ⟨a2 rfl, hd D acc H hD ha hI⟩
theorem itt_J {K : PySem.W.Frag} {a : Addr} {xs : List V} {H : Hp} {i : Nat} (h : SqT K H a xs) (hi : i ≤ xs.length) : (i < xs.length → (Itt K a).go i H) ∧ (i = xs.length → (Itt K a).stop i H) ∧ ∀ x H', i < xs.length → (Itt K a).yld i H x H' → H' = H ∧ xs[i]? = some x :=
  ⟨fun z => ⟨xs, xs[i], h, List.getElem?_eq_getElem z⟩, fun z => ⟨xs, h, by omega⟩, fun x H' _ y => ⟨y.1, y.2 xs h⟩⟩
theorem its_J {x : Str} {H : Hp} {i : Nat} (hi : i ≤ x.cps.size) : (i < x.cps.size → (Its x).go i H) ∧ (i = x.cps.size → (Its x).stop i H) ∧ ∀ v H', i < x.cps.size → (Its x).yld i H v H' → H' = H ∧ ∃ c, x.cps[i]? = some c ∧ v = .str ⟨#[c]⟩ :=
  ⟨fun z => z, fun z => by show x.cps.size ≤ i; omega, fun v H' _ y => y⟩
theorem itr_J {n : Nat} {H : Hp} {i : Nat} (hi : i ≤ n) : (i < n → (Itr 0 n).go i H) ∧ (i = n → (Itr 0 n).stop i H) ∧ ∀ v H', i < n → (Itr 0 n).yld i H v H' → H' = H ∧ v = .int ((0 : Int) + (i : Nat)) :=
  ⟨fun z => z, fun z => by show n ≤ i; omega, fun v H' _ y => y⟩
theorem rd_ixS {z : Str} {i : Int} {c : Nat} (l : z.length ≤ sizeLine) (e : atI z.cps.toList i = some c) (q : Q (.str ⟨#[c]⟩) H) : rIx K (.str z) (.int i) H Q := .inr (.inr ⟨z, i, c, rfl, rfl, l, e, q⟩)
theorem rd_join {to : TE} (h : to σ H fun x H1 => (∃ a, x = .str a) ∧ ta σ H1 fun y H2 => ∃ a p, ∃ ys : List Str, x = .str a ∧ [y] = [.ref p] ∧ (SqL K H2 p (ys.map V.str) ∨ SqT K H2 p (ys.map V.str)) ∧ (ys.map (·.length)).sum + ys.length * a.length ≤ 16777216 ∧ Q (.str (Txt.join a ys)) H2) :
    tM1 (fun x xs H Q => ∃ a p, ∃ ys : List Str, x = .str a ∧ xs = [.ref p] ∧ (SqL K H p (ys.map V.str) ∨ SqT K H p (ys.map V.str)) ∧ (ys.map (·.length)).sum + ys.length * a.length ≤ 16777216 ∧ Q (.str (Txt.join a ys)) H) to ta σ H Q := h
theorem rd_jS {x : Str} {R : Prop} (q : R) : (∃ a, V.str x = .str a) ∧ R := ⟨⟨x, rfl⟩, q⟩
theorem rd_jL {K : PySem.W.Frag} {p : Addr} {a : Str} {ys : List Str} (h : SqL K H p (ys.map V.str)) (l : (ys.map (·.length)).sum + ys.length * a.length ≤ 16777216) (q : Q (.str (Txt.join a ys)) H) :
    ∃ a' p', ∃ ys' : List Str, V.str a = .str a' ∧ [V.ref p] = [.ref p'] ∧ (SqL K H p' (ys'.map V.str) ∨ SqT K H p' (ys'.map V.str)) ∧ (ys'.map (·.length)).sum + ys'.length * a'.length ≤ 16777216 ∧ Q (.str (Txt.join a' ys')) H := ⟨a, p, ys, rfl, rfl, .inl h, l, q⟩
theorem len_app (a b : Str) : (a ++ b).length = a.length + b.length := Array.size_append
theorem join_len : ∀ (ys : List Str), (∀ y ∈ ys, y.length = 1) → (Txt.join "" ys).length = ys.length := by
  intro ys h
  rw [TL.join_eq]
  induction ys with
  | nil => rfl
  | cons y ys ih =>
    have h1 := h y List.mem_cons_self
    have h2 := ih fun z hz => h z (List.mem_cons_of_mem _ hz)
    cases ys with
    | nil =>
      rw [Str.join.eq_2, h1]; rfl
    | cons z zs =>
      rw [Str.join.eq_3 ("" : Str) y (z :: zs) (by intro e; cases e), len_app, len_app, h1, h2]
      show 1 + 0 + _ = _
      simp
      omega
theorem sum_one : ∀ (ys : List Str), (∀ y ∈ ys, y.length = 1) → (ys.map (·.length)).sum = ys.length
  | [], _ => rfl
  | y :: ys, h => by
    rw [List.map_cons, List.sum_cons, h y List.mem_cons_self, sum_one ys fun z hz => h z (List.mem_cons_of_mem _ hz), List.length_cons]
    omega
theorem rd_allL {p : Addr} {bs : List Bool} (h : SqL K H p (bs.map V.bl)) (q : Q (.bl (bs.all id)) H) : rAll K [.ref p] H Q := ⟨p, bs, rfl, h, q⟩
theorem yes_of2 {P : Hp → Prop} {R : VK} (h : te σ H R) : tYes σ H fun b H3 => if b = true then te σ H3 R else P H3 := by
  show (if true = true then te σ H R else P H)
  simpa using h
theorem take_next {α : Type} {l : List α} {i : Nat} {x : α} (h : l[i]? = some x) : l.take (i + 1) = l.take i ++ [x] := by
  rw [List.take_add_one, h]; rfl
end
end Ow

set_option Elab.async false
set_option linter.all false
set_option maxRecDepth 100000
set_option maxHeartbeats 4000000
namespace Sd
open PySem PySem.Spec PyProof.Rows L2 GxR

/-! ### data: tuples are values; what may change stands at an address -/
inductive D where
  | non | bl (b : Bool) | int (i : Int) | str (x : Str) | tup (ds : List D) | ctup (ds : List D) | ref (a : Addr) | scr | ty (n : String)
  deriving Inhabited
/-- what stands at an address -/
inductive O where
  | lst (ds : List D) | dK (kvs : List (Key × D)) | dT (kvs : List (List Key × D)) | ins (C : Addr) (nm : List Str) (ds : List D)
  | fK (kvs : List (Key × D)) | fT (kvs : List (List Key × D))
  | box (c : Addr) | cells
abbrev Sto := Addr → Option O
def sup (S : Sto) (a : Addr) (o : O) : Sto := fun b => if b = a then some o else S b
theorem sup_same {S : Sto} {a : Addr} {o : O} : sup S a o a = some o := by unfold sup; rw [if_pos rfl]
theorem sup_ne {S : Sto} {a b : Addr} {o : O} (h : b ≠ a) : sup S a o b = S b := by unfold sup; rw [if_neg h]
theorem sup_sup {S : Sto} {a : Addr} {o u : O} : sup (sup S a o) a u = sup S a u := by funext b; unfold sup; split <;> rfl
theorem sup_comm {S : Sto} {a b : Addr} {o u : O} (h : a ≠ b) : sup (sup S a o) b u = sup (sup S b u) a o := by
  funext c
  unfold sup
  by_cases h1 : c = b
  · by_cases h2 : c = a
    · exact absurd (h2.symm.trans h1) h
    · simp [h1, Ne.symm h]
  · by_cases h2 : c = a
    · simp [h2, h]
    · simp [h1, h2]
theorem sup_id {S : Sto} {a : Addr} {o : O} (h : S a = some o) : sup S a o = S := by
  funext b; unfold sup; split
  · rename_i e; rw [e, h]
  · rfl
theorem sne {S : Sto} {a b : Addr} {o : O} (h : S a = some o) (h' : S b = none) : a ≠ b := by
  intro e; subst e; rw [h] at h'; cases h'

/-- what is fixed through a law: the written part, the tables, the script -/
structure Gm where
  K : PySem.W.Frag
  tabs : List Addr
  scr : Addr
  ns : List Int

/-- a text of a size that all rules take -/
def okS (x : Str) : Prop := x.length ≤ 1000000 ∧ PyData.strOk x = true
mutual
inductive Im (G : Gm) (H : Hp) : V → D → Prop
  | non : Im G H .non .non
  | bl (b : Bool) : Im G H (.bl b) (.bl b)
  | int (i : Int) : Im G H (.int i) (.int i)
  | str (x : Str) (h : okS x) : Im G H (.str x) (.str x)
  | tup {a : Addr} {xs : List V} {ds : List D} : H a = some (.tup xs) → ImAll G H xs ds → Im G H (.ref a) (.tup ds)
  | ctup {a : Addr} {xs : List V} {ds : List D} {o : Obj} : (∀ H1, SqT G.K H1 a xs) → G.K.lookup a = some o → o.cls = .type "tuple" → o.dict = none → ImAll G H xs ds → Im G H (.ref a) (.ctup ds)
  | ref (a : Addr) : Im G H (.ref a) (.ref a)
  | scr : Im G H (.ref G.scr) .scr
  | ty (n : String) : Im G H (.ty n) (.ty n)
inductive ImAll (G : Gm) (H : Hp) : List V → List D → Prop
  | nil : ImAll G H [] []
  | cons {v : V} {vs : List V} {d : D} {ds : List D} : Im G H v d → ImAll G H vs ds → ImAll G H (v :: vs) (d :: ds)
end
/-- pairs: the same keys, values that are the data -/
inductive KvAll (G : Gm) (H : Hp) {κ : Type} : List (κ × V) → List (κ × D) → Prop
  | nil : KvAll G H [] []
  | cons {k : κ} {v : V} {d : D} {r : List (κ × V)} {s : List (κ × D)} : Im G H v d → KvAll G H r s → KvAll G H ((k, v) :: r) ((k, d) :: s)

def nt : HO → Bool
  | .tbl _ => false
  | _ => true

/-- what the store says of the heap -/
def RO (G : Gm) (S : Sto) (H : Hp) (a : Addr) : O → Prop
  | .lst ds => ∃ xs, H a = some (.lst xs) ∧ ImAll G H xs ds
  | .dK kvs => ∃ ks, H a = some (.dK ks) ∧ KvAll G H ks kvs
  | .dT kvs => ∃ ks, H a = some (.dT ks) ∧ KvAll G H ks kvs
  | .ins C nm ds => ∃ dx gs, H a = some (.ins C dx gs) ∧ KvAll G H gs (nm.zip ds) ∧ ds.length ≤ nm.length ∧ nm.length ≤ 999
  | .fK kvs => ∃ o ks, H a = some (.frz o (.dK ks)) ∧ KvAll G H ks kvs
  | .fT kvs => ∃ o ks, H a = some (.frz o (.dT ks)) ∧ KvAll G H ks kvs
  | .box c => ∃ v1 v2 nd, H a = some (.lst [.ref c, .int v1, .int v2, nd]) ∧ S c = some .cells ∧ c ≠ a
  | .cells => ∃ ns : List Int, H a = some (.lst (ns.map V.int))

/-- a list of the store -/
def atL (S : Sto) (a : Addr) (k : List D → Prop) : Prop := match S a with | some (.lst ds) => k ds | _ => False
theorem atL_of {S : Sto} {a : Addr} {k : List D → Prop} (h : atL S a k) : ∃ ds, S a = some (.lst ds) ∧ k ds := by
  unfold atL at h
  split at h
  · exact ⟨_, by assumption, h⟩
  · exact h.elim
theorem atL_to {S : Sto} {a : Addr} {k : List D → Prop} {ds : List D} (h : S a = some (.lst ds)) (q : k ds) : atL S a k := by unfold atL; rw [h]; exact q
/-- an instance of the store -/
def atO (S : Sto) (a : Addr) (C : Addr) (nm : List Str) (k : List D → Prop) : Prop := match S a with | some (.ins C' nm' ds) => C' = C ∧ nm' = nm ∧ k ds | _ => False
theorem atO_of {S : Sto} {a C : Addr} {nm : List Str} {k : List D → Prop} (h : atO S a C nm k) : ∃ ds, S a = some (.ins C nm ds) ∧ k ds := by
  unfold atO at h
  split at h
  · obtain ⟨rfl, rfl, h⟩ := h
    exact ⟨_, by assumption, h⟩
  · exact h.elim
theorem atO_to {S : Sto} {a C : Addr} {nm : List Str} {k : List D → Prop} {ds : List D} (h : S a = some (.ins C nm ds)) (q : k ds) : atO S a C nm k := by unfold atO; rw [h]; exact ⟨rfl, rfl, q⟩
def asRef (x : D) (k : Addr → Prop) : Prop := match x with | .ref a => k a | _ => False
theorem asRef_of {x : D} {k : Addr → Prop} (h : asRef x k) : ∃ a, x = .ref a ∧ k a := by
  cases x <;> first | exact ⟨_, rfl, h⟩ | exact h.elim
/-- the place of a name -/
structure FIx (nm : List Str) (f : Str) (i : Nat) : Prop where
  at_ : nm[i]? = some f
  no : f ∉ nm.take i

/-- how a heap grows: what was tracked stands -/
structure Ext (H H' : Hp) : Prop where
  keep : ∀ a o, H a = some o → nt o = true → H' a = some o
  tab : ∀ P, TabG H P → TabG H' P
  there : ∀ a, H a ≠ none → H' a ≠ none
/-- tuples stand -/
def Tu (H H' : Hp) : Prop := ∀ a xs, H a = some (.tup xs) → H' a = some (.tup xs)
theorem Ext.tu {H H' : Hp} (e : Ext H H') : Tu H H' := fun a xs h => e.keep a _ h rfl

section
variable {G : Gm} {S S' : Sto} {H H' : Hp}
mutual
theorem Im.tu (t : Tu H H') : ∀ (d : D) (v : V), Im G H v d → Im G H' v d
  | .non, _, h => by cases h; exact .non
  | .bl b, _, h => by cases h; exact .bl b
  | .int i, _, h => by cases h; exact .int i
  | .str x, _, h => by
    cases h with
    | str _ hl => exact .str x hl
  | .tup ds, _, h => by
    cases h with
    | tup e ha => exact .tup (t _ _ e) (ImAll.tu t ds _ ha)
  | .ctup ds, _, h => by
    cases h with
    | ctup e k1 k2 k3 ha => exact .ctup e k1 k2 k3 (ImAll.tu t ds _ ha)
  | .ref a, _, h => by cases h; exact .ref a
  | .scr, _, h => by cases h; exact .scr
  | .ty n, _, h => by cases h; exact .ty n
theorem ImAll.tu (t : Tu H H') : ∀ (ds : List D) (vs : List V), ImAll G H vs ds → ImAll G H' vs ds
  | [], _, h => by cases h; exact .nil
  | d :: ds, _, h => by
    cases h with
    | cons h1 h2 => exact .cons (Im.tu t d _ h1) (ImAll.tu t ds _ h2)
end
theorem Im.go {v : V} {d : D} (h : Im G H v d) (t : Tu H H') : Im G H' v d := Im.tu t d v h
theorem ImAll.go {vs : List V} {ds : List D} (h : ImAll G H vs ds) (t : Tu H H') : ImAll G H' vs ds := ImAll.tu t ds vs h
theorem KvAll.go {κ : Type} {r : List (κ × V)} {s : List (κ × D)} (h : KvAll G H r s) (t : Tu H H') : KvAll G H' r s := by
  induction h with
  | nil => exact .nil
  | cons h _ ih => exact .cons (h.go t) ih
theorem ImAll.length : ∀ {vs : List V} {ds : List D}, ImAll G H vs ds → vs.length = ds.length
  | _, _, .nil => rfl
  | _, _, .cons _ h => by rw [List.length_cons, List.length_cons, ImAll.length h]
theorem ImAll.get : ∀ {vs : List V} {ds : List D}, ImAll G H vs ds → ∀ {i : Nat} {v : V}, vs[i]? = some v → ∃ d, ds[i]? = some d ∧ Im G H v d
  | _, _, .nil, i, v, e => by simp at e
  | _, _, .cons h _, 0, v, e => by simp at e; subst e; exact ⟨_, rfl, h⟩
  | _, _, .cons _ h, i + 1, v, e => by
    obtain ⟨d, h1, h2⟩ := ImAll.get h (i := i) (v := v) (by simpa using e)
    exact ⟨d, by simpa using h1, h2⟩
theorem ImAll.getD {vs : List V} {ds : List D} (h : ImAll G H vs ds) {i : Nat} {d : D} (e : ds[i]? = some d) : ∃ v, vs[i]? = some v ∧ Im G H v d := by
  have hl := h.length
  obtain ⟨hi, _⟩ := List.getElem?_eq_some_iff.mp e
  have hv : vs[i]? = some vs[i] := List.getElem?_eq_getElem (by omega)
  obtain ⟨d', h1, h2⟩ := h.get hv
  rw [e] at h1
  cases h1
  exact ⟨_, hv, h2⟩
theorem ImAll.append : ∀ {vs ws : List V} {ds es : List D}, ImAll G H vs ds → ImAll G H ws es → ImAll G H (vs ++ ws) (ds ++ es)
  | _, _, _, _, .nil, h => h
  | _, _, _, _, .cons h k, h2 => .cons h (ImAll.append k h2)
theorem ImAll.take : ∀ {vs : List V} {ds : List D} (n : Nat), ImAll G H vs ds → ImAll G H (vs.take n) (ds.take n)
  | _, _, 0, _ => .nil
  | _, _, n + 1, .nil => .nil
  | _, _, n + 1, .cons h k => .cons h (ImAll.take n k)
theorem ImAll.drop : ∀ {vs : List V} {ds : List D} (n : Nat), ImAll G H vs ds → ImAll G H (vs.drop n) (ds.drop n)
  | _, _, 0, h => h
  | _, _, n + 1, .nil => .nil
  | _, _, n + 1, .cons _ k => ImAll.drop n k
theorem ImAll.set : ∀ {vs : List V} {ds : List D} (i : Nat) {v : V} {d : D}, ImAll G H vs ds → Im G H v d → ImAll G H (vs.set i v) (ds.set i d)
  | _, _, _, _, _, .nil, _ => .nil
  | _, _, 0, _, _, .cons _ t, h => .cons h t
  | _, _, i + 1, _, _, .cons q t, h => .cons q (ImAll.set i t h)
theorem ImAll.snoc {vs : List V} {ds : List D} {v : V} {d : D} (h : ImAll G H vs ds) (k : Im G H v d) : ImAll G H (vs ++ [v]) (ds ++ [d]) := h.append (.cons k .nil)
theorem ImAll.ints (ns : List Int) : ImAll G H (ns.map V.int) (ns.map D.int) := by
  induction ns with
  | nil => exact .nil
  | cons n ns ih => exact .cons (.int n) ih
theorem ImAll.reverse {vs : List V} {ds : List D} (h : ImAll G H vs ds) : ImAll G H vs.reverse ds.reverse := by
  have gen : ∀ {vs : List V} {ds : List D}, ImAll G H vs ds → ∀ {ws es}, ImAll G H ws es → ImAll G H (vs.reverseAux ws) (ds.reverseAux es) := by
    intro vs ds h
    induction vs generalizing ds with
    | nil => intro ws es k; cases h; exact k
    | cons v vs ih =>
      intro ws es k
      cases h with
      | cons h1 h2 => exact ih h2 (.cons h1 k)
  exact gen h .nil
theorem ImAll.rep {v : V} {d : D} (h : Im G H v d) : ∀ n, ImAll G H (List.replicate n v) (List.replicate n d)
  | 0 => .nil
  | n + 1 => by rw [List.replicate_succ, List.replicate_succ]; exact .cons h (ImAll.rep h n)
theorem ImAll.repL {vs : List V} {ds : List D} (h : ImAll G H vs ds) : ∀ n, ImAll G H (List.replicate n vs).flatten (List.replicate n ds).flatten
  | 0 => .nil
  | n + 1 => by rw [List.replicate_succ, List.replicate_succ, List.flatten_cons, List.flatten_cons]; exact h.append (ImAll.repL h n)
theorem KvAll.keys {κ : Type} {r : List (κ × V)} {s : List (κ × D)} (h : KvAll G H r s) : r.map (·.1) = s.map (·.1) := by
  induction h with
  | nil => rfl
  | cons _ _ ih => simp [ih]
theorem KvAll.length {κ : Type} {r : List (κ × V)} {s : List (κ × D)} (h : KvAll G H r s) : r.length = s.length := by
  have := congrArg List.length h.keys
  simpa using this

/-- the store is held -/
structure Sim (G : Gm) (S : Sto) (H : Hp) : Prop where
  ob : ∀ a o, S a = some o → RO G S H a o
  tab : ∀ P ∈ G.tabs, TabG H P
  scr : (S G.scr = none ∧ Rd H G.scr (.lst (G.ns.map V.int))) ∨ ∀ H1, SqL G.K H1 G.scr (G.ns.map V.int)

/-- from one state to a later one: what the store does not name stands -/
structure Up (S S' : Sto) (H H' : Hp) : Prop where
  keep : ∀ a o, H a = some o → nt o = true → S a = none → H' a = some o
  dom : ∀ a, S a = none → H a ≠ none → S' a = none
  there : ∀ a, H a ≠ none → H' a ≠ none
theorem Up.refl : Up S S H H := ⟨fun _ _ h _ _ => h, fun _ h _ => h, fun _ h => h⟩
theorem Up.trans {S S1 S2 : Sto} {H H1 H2 : Hp} (u : Up S S1 H H1) (v : Up S1 S2 H1 H2) : Up S S2 H H2 :=
  ⟨fun a o h n z => v.keep a o (u.keep a o h n z) n (u.dom a z (by rw [h]; simp)), fun a z h => v.dom a (u.dom a z h) (u.there a h), fun a h => v.there a (u.there a h)⟩

/-- the kind of a tracked thing is none of these -/
theorem Sim.has (s : Sim G S H) {a : Addr} {o : O} (h : S a = some o) : ∃ u, H a = some u ∧ nt u = true ∧ ∀ xs, u ≠ .tup xs := by
  have r := s.ob a o h
  cases o with
  | lst ds => obtain ⟨_, e, _⟩ := r; exact ⟨_, e, rfl, fun _ z => by cases z⟩
  | dK ds => obtain ⟨_, e, _⟩ := r; exact ⟨_, e, rfl, fun _ z => by cases z⟩
  | dT ds => obtain ⟨_, e, _⟩ := r; exact ⟨_, e, rfl, fun _ z => by cases z⟩
  | ins C nm fs => obtain ⟨_, _, e, _⟩ := r; exact ⟨_, e, rfl, fun _ z => by cases z⟩
  | fK ds => obtain ⟨_, _, e, _⟩ := r; exact ⟨_, e, rfl, fun _ z => by cases z⟩
  | fT ds => obtain ⟨_, _, e, _⟩ := r; exact ⟨_, e, rfl, fun _ z => by cases z⟩
  | box c => obtain ⟨_, _, _, e, _⟩ := r; exact ⟨_, e, rfl, fun _ z => by cases z⟩
  | cells => obtain ⟨_, e⟩ := r; exact ⟨_, e, rfl, fun _ z => by cases z⟩
theorem Sim.free (s : Sim G S H) {a : Addr} (h : H a = none) : S a = none := by
  cases q : S a with
  | none => rfl
  | some o =>
    obtain ⟨u, e, _⟩ := s.has q
    rw [h] at e; cases e
theorem Sim.notup (s : Sim G S H) {a : Addr} {xs : List V} (h : H a = some (.tup xs)) : S a = none := by
  cases q : S a with
  | none => rfl
  | some o =>
    obtain ⟨u, e, _, n⟩ := s.has q
    rw [h] at e; cases e
    exact absurd rfl (n xs)
theorem Up.tu (s : Sim G S H) (u : Up S S' H H') : Tu H H' := fun a xs h => u.keep a _ h rfl (s.notup h)
theorem Up.of_ext (e : Ext H H') : Up S S H H' := ⟨fun a o h n _ => e.keep a o h n, fun _ h _ => h, e.there⟩
theorem Ext.refl : Ext H H := ⟨fun _ _ h _ => h, fun _ h => h, fun _ h => h⟩
theorem Ext.lay {p : Addr} {o : HO} (h : H p = none) : Ext H (upd H p o) :=
  ⟨fun a u e _ => by rw [upd_ne (ne_of_none e h)]; exact e, fun P ⟨ps, e, t⟩ => ⟨ps, by rw [upd_ne (ne_of_none e h)]; exact e, t⟩, fun a z => by
    by_cases e : a = p
    · rw [e, upd_same]; simp
    · rw [upd_ne e]; exact z⟩
theorem Ext.tabbed {P : Addr} (h : TabG H P) (t : Tabbed P H H') : Ext H H' := by
  obtain ⟨ps, e, tr⟩ := h
  obtain ⟨⟨ps', e', tr'⟩, k⟩ := t
  refine ⟨fun a o h n => ?_, fun Q hQ => ?_, fun a z => ?_⟩
  · rw [k a (fun z => by rw [z, e] at h; cases h; cases n)]; exact h
  · by_cases z : Q = P
    · exact ⟨ps', by rw [z]; exact e', tr'⟩
    · obtain ⟨qs, e2, t2⟩ := hQ
      exact ⟨qs, by rw [k Q z]; exact e2, t2⟩
  · by_cases y : a = P
    · rw [y, e']; simp
    · rw [k a y]; exact z
/-- a tracked thing's word, where it and the tuples stand -/
theorem RO.go {a : Addr} {o : O} (r : RO G S H a o) (he : ∀ u, H a = some u → nt u = true → H' a = some u) (t : Tu H H') (hc : ∀ c, S c = some .cells → S' c = some .cells) : RO G S' H' a o := by
  cases o with
  | lst ds => obtain ⟨xs, e, i⟩ := r; exact ⟨xs, he _ e rfl, i.go t⟩
  | dK ds => obtain ⟨xs, e, i⟩ := r; exact ⟨xs, he _ e rfl, i.go t⟩
  | dT ds => obtain ⟨xs, e, i⟩ := r; exact ⟨xs, he _ e rfl, i.go t⟩
  | ins C nm fs => obtain ⟨dx, gs, e, i, l⟩ := r; exact ⟨dx, gs, he _ e rfl, i.go t, l⟩
  | fK ds => obtain ⟨o, xs, e, i⟩ := r; exact ⟨o, xs, he _ e rfl, i.go t⟩
  | fT ds => obtain ⟨o, xs, e, i⟩ := r; exact ⟨o, xs, he _ e rfl, i.go t⟩
  | box c => obtain ⟨v1, v2, nd, e, i, n⟩ := r; exact ⟨v1, v2, nd, he _ e rfl, hc c i, n⟩
  | cells => obtain ⟨ns, e⟩ := r; exact ⟨ns, he _ e rfl⟩
theorem Sim.ext (s : Sim G S H) (e : Ext H H') : Sim G S H' := by
  refine ⟨fun a o h => (s.ob a o h).go (fun u hu n => e.keep a u hu n) e.tu fun _ z => z, fun P hP => e.tab P (s.tab P hP), ?_⟩
  rcases s.scr with ⟨h1, h2⟩ | h
  · refine .inl ⟨h1, ?_⟩
    rcases h2 with h2 | ⟨o, h2⟩
    · exact .inl (e.keep _ _ h2 rfl)
    · exact .inr ⟨o, e.keep _ _ h2 rfl⟩
  · exact .inr h
/-- a new thing -/
theorem Sim.lay {p : Addr} {o : O} {ho : HO} (s : Sim G S H) (hp : H p = none) (r : RO G (sup S p o) (upd H p ho) p o) : Sim G (sup S p o) (upd H p ho) ∧ Up S (sup S p o) H (upd H p ho) := by
  have e := Ext.lay (o := ho) hp
  have s2 := s.ext e
  have hS := s.free hp
  have hc : ∀ c, S c = some .cells → (sup S p o) c = some .cells := fun c z => by rw [sup_ne (sne z hS)]; exact z
  refine ⟨⟨fun a u h => ?_, s2.tab, ?_⟩, ⟨fun a u h n _ => e.keep a u h n, fun a h z => ?_, e.there⟩⟩
  · by_cases y : a = p
    · subst y
      rw [sup_same] at h
      cases h
      exact r
    · rw [sup_ne y] at h
      exact (s2.ob a u h).go (fun _ z _ => z) (fun _ _ z => z) hc
  · rcases s.scr with ⟨h1, h2⟩ | h
    · have np : G.scr ≠ p := by
        rcases h2 with h2 | ⟨o, h2⟩ <;> exact ne_of_none h2 hp
      refine .inl ⟨by rw [sup_ne np]; exact h1, ?_⟩
      rcases h2 with h2 | ⟨o, h2⟩
      · exact .inl (by rw [upd_ne np]; exact h2)
      · exact .inr ⟨o, by rw [upd_ne np]; exact h2⟩
    · exact .inr h
  · rw [sup_ne (fun y => z (by rw [y]; exact hp))]; exact h
/-- a thing that changes -/
theorem Sim.put {a : Addr} {o0 o : O} {ho : HO} (s : Sim G S H) (h0 : S a = some o0) (hn : o0 ≠ .cells) (hno : nt ho = true) (r : RO G (sup S a o) (upd H a ho) a o) : Sim G (sup S a o) (upd H a ho) ∧ Up S (sup S a o) H (upd H a ho) := by
  obtain ⟨u0, e0, n0, nt0⟩ := s.has h0
  have hc : ∀ c, S c = some .cells → (sup S a o) c = some .cells := fun c z => by rw [sup_ne (fun y => by rw [y, h0] at z; exact hn (Option.some.inj z))]; exact z
  have t : Tu H (upd H a ho) := fun b xs h => by rw [upd_ne (fun y => by rw [y, e0] at h; exact nt0 xs (Option.some.inj h))]; exact h
  refine ⟨⟨fun b u h => ?_, fun P hP => ?_, ?_⟩, ⟨fun b u h n z => ?_, fun b h z => ?_, fun b z => ?_⟩⟩
  · by_cases y : b = a
    · subst y
      rw [sup_same] at h
      cases h
      exact r
    · rw [sup_ne y] at h
      exact (s.ob b u h).go (fun _ z _ => by rw [upd_ne y]; exact z) t hc
  · obtain ⟨ps, e, tr⟩ := s.tab P hP
    exact ⟨ps, by rw [upd_ne (fun y => by rw [y, e0] at e; cases e; cases n0)]; exact e, tr⟩
  · rcases s.scr with ⟨h1, h2⟩ | h
    · have np : G.scr ≠ a := Ne.symm (sne h0 h1)
      refine .inl ⟨by rw [sup_ne np]; exact h1, ?_⟩
      rcases h2 with h2 | ⟨o, h2⟩
      · exact .inl (by rw [upd_ne np]; exact h2)
      · exact .inr ⟨o, by rw [upd_ne np]; exact h2⟩
    · exact .inr h
  · rw [upd_ne (Ne.symm (sne h0 z))]; exact h
  · rw [sup_ne (Ne.symm (sne h0 h))]; exact h
  · by_cases y : b = a
    · rw [y, upd_same]; simp
    · rw [upd_ne y]; exact z
end

/-! ### where one stands -/
abbrev DV := List (Option D)
/-- the slots -/
structure Sl (G : Gm) (H : Hp) (σ : L2.St) (δ : DV) : Prop where
  len : σ.length = δ.length
  at_ : ∀ (i : Nat) (d : D), δ[i]? = some (some d) → ∃ v, σ[i]? = some (some v) ∧ Im G H v d
theorem Sl.go {G : Gm} {H H' : Hp} {σ : L2.St} {δ : DV} (h : Sl G H σ δ) (t : Tu H H') : Sl G H' σ δ := ⟨h.len, fun i d e => by obtain ⟨v, h1, h2⟩ := h.at_ i d e; exact ⟨v, h1, h2.go t⟩⟩
theorem Sl.set {G : Gm} {H : Hp} {σ : L2.St} {δ : DV} (h : Sl G H σ δ) (i : Nat) {v : V} {d : D} (k : Im G H v d) : Sl G H (σ.set i (some v)) (δ.set i (some d)) := by
  refine ⟨by rw [List.length_set, List.length_set]; exact h.len, fun j e hj => ?_⟩
  rw [List.getElem?_set] at hj ⊢
  by_cases y : i = j
  · subst y
    rw [if_pos rfl] at hj ⊢
    have hl := h.len
    by_cases z : i < δ.length
    · rw [if_pos z] at hj
      rw [if_pos (by omega)]
      cases hj
      exact ⟨v, rfl, k⟩
    · rw [if_neg z] at hj; cases hj
  · rw [if_neg y] at hj ⊢
    exact h.at_ j e hj
/-- the state at a def's entry -/
structure En where
  S : Sto
  H : Hp
structure Rel (G : Gm) (N : En) (σ : L2.St) (δ : DV) (S : Sto) (H : Hp) : Prop where
  sl : Sl G H σ δ
  sim : Sim G S H
  up : Up N.S S N.H H
section
variable {G : Gm} {N : En} {σ : L2.St} {δ : DV} {S S' : Sto} {H H' : Hp}
theorem Rel.go (r : Rel G N σ δ S H) (s : Sim G S' H') (u : Up S S' H H') : Rel G N σ δ S' H' := ⟨r.sl.go (u.tu r.sim), s, r.up.trans u⟩
theorem Rel.set (r : Rel G N σ δ S H) (i : Nat) {v : V} {d : D} (k : Im G H v d) : Rel G N (σ.set i (some v)) (δ.set i (some d)) S H := ⟨r.sl.set i k, r.sim, r.up⟩
end
end Sd

set_option Elab.async false
set_option linter.all false
set_option maxRecDepth 100000
set_option maxHeartbeats 4000000
namespace Sd
open PySem PySem.Spec PyProof.Rows L2 GxR

abbrev DK := D → Sto → Prop
abbrev DE := DV → Sto → DK → Prop
abbrev DT := DV → Sto → (Bool → Sto → Prop) → Prop
abbrev DA := DV → Sto → (List D → Sto → Prop) → Prop
structure DN where
  nx : DV → Sto → Prop
  rt : DK
  bk : DV → Sto → Prop := fun _ _ => False
  ct : DV → Sto → Prop := fun _ _ => False
abbrev DS := DN → DV → Sto → Prop
/-- an operator by values -/
abbrev B2 := D → D → Sto → DK → Prop
abbrev B1 := D → Sto → DK → Prop
abbrev BL := List D → Sto → DK → Prop
/-- a def: arguments, store, what follows, what is raised (class, fields of the error) -/
abbrev XD := Addr → List (Str × D) → Sto → Prop
abbrev WF := List D → Sto → DK → XD → Prop

section
variable (G : Gm) (N : En)
def SE (t : TE) (f : DE) : Prop := ∀ (σ : L2.St) (δ : DV) (H : Hp) (S : Sto) (Q : DK) (R : VK), Rel G N σ δ S H → f δ S Q → (∀ v d H' S', Im G H' v d → Rel G N σ δ S' H' → Up S S' H H' → Q d S' → R v H') → t σ H R
def ST (t : TT) (f : DT) : Prop := ∀ (σ : L2.St) (δ : DV) (H : Hp) (S : Sto) (Q : Bool → Sto → Prop) (R : Bool → Hp → Prop), Rel G N σ δ S H → f δ S Q → (∀ b H' S', Rel G N σ δ S' H' → Up S S' H H' → Q b S' → R b H') → t σ H R
def SA (t : TA) (f : DA) : Prop := ∀ (σ : L2.St) (δ : DV) (H : Hp) (S : Sto) (Q : List D → Sto → Prop) (R : List V → Hp → Prop), Rel G N σ δ S H → f δ S Q → (∀ vs ds H' S', ImAll G H' vs ds → Rel G N σ δ S' H' → Up S S' H H' → Q ds S' → R vs H') → t σ H R
/-- what must be shown behind a statement -/
structure EOk (S : Sto) (H : Hp) (D : DN) (E : Ends) : Prop where
  nx : ∀ σ δ H' S', Rel G N σ δ S' H' → Up S S' H H' → D.nx δ S' → E.nx σ H'
  bk : ∀ σ δ H' S', Rel G N σ δ S' H' → Up S S' H H' → D.bk δ S' → E.bk σ H'
  ct : ∀ σ δ H' S', Rel G N σ δ S' H' → Up S S' H H' → D.ct δ S' → E.ct σ H'
  rt : ∀ v d H' S', Im G H' v d → Sim G S' H' → Up N.S S' N.H H' → D.rt d S' → E.rt v H'
def SS (t : TS) (f : DS) : Prop := ∀ (σ : L2.St) (δ : DV) (H : Hp) (S : Sto) (D : DN) (E : Ends), Rel G N σ δ S H → f D δ S → EOk G N S H D E → t E σ H
def S2 (r : R2) (rd : B2) : Prop := ∀ x y d e H S Q (R : VK), Im G H x d → Im G H y e → Sim G S H → rd d e S Q → (∀ v d' H' S', Im G H' v d' → Sim G S' H' → Up S S' H H' → Q d' S' → R v H') → r x y H R
def S1 (r : V → Hp → VK → Prop) (rd : B1) : Prop := ∀ x d H S Q (R : VK), Im G H x d → Sim G S H → rd d S Q → (∀ v d' H' S', Im G H' v d' → Sim G S' H' → Up S S' H H' → Q d' S' → R v H') → r x H R
def SL (r : List V → Hp → VK → Prop) (rd : BL) : Prop := ∀ xs ds H S Q (R : VK), ImAll G H xs ds → Sim G S H → rd ds S Q → (∀ v d' H' S', Im G H' v d' → Sim G S' H' → Up S S' H H' → Q d' S' → R v H') → r xs H R
end

/-! ### words of the data's side -/
def eVar (i : Nat) : DE := fun δ S Q => match δ[i]? with | some (some d) => Q d S | _ => False
def eC (d : D) : DE := fun _ S Q => Q d S
def eOp (r : B2) (a b : DE) : DE := fun δ S Q => a δ S fun x S1 => b δ S1 fun y S2 => r x y S2 Q
def eUn (r : B1) (a : DE) : DE := fun δ S Q => a δ S fun x S1 => r x S1 Q
/-- both ways of a test -/
def br (b : Bool) (p q : Prop) : Prop := (b = true → p) ∧ (b = false → q)
def asB (d : D) (k : Bool → Prop) : Prop := match d with | .bl b => k b | _ => False
def eAnd (a b : DE) : DE := fun δ S Q => a δ S fun x S1 => asB x fun c => br c (b δ S1 Q) (Q (.bl false) S1)
def eOr (a b : DE) : DE := fun δ S Q => a δ S fun x S1 => asB x fun c => br c (Q (.bl true) S1) (b δ S1 Q)
def eNot (a : DE) : DE := fun δ S Q => a δ S fun x S1 => asB x fun c => Q (.bl (!c)) S1
def eIf (t : DT) (a b : DE) : DE := fun δ S Q => t δ S fun c S1 => br c (a δ S1 Q) (b δ S1 Q)
def eChain (r r' : B2) (a b c : DE) : DE := fun δ S Q => a δ S fun x S1 => b δ S1 fun y S2 => r x y S2 fun z S3 => asB z fun k => br k (c δ S3 fun w S4 => r' y w S4 Q) (Q (.bl false) S3)
def tV (a : DE) : DT := fun δ S Q => a δ S fun x S1 => asB x fun c => Q c S1
def tAnd' (t u : DT) : DT := fun δ S Q => t δ S fun c S1 => br c (u δ S1 Q) (Q false S1)
def tOr' (t u : DT) : DT := fun δ S Q => t δ S fun c S1 => br c (Q true S1) (u δ S1 Q)
def tNot' (t : DT) : DT := fun δ S Q => t δ S fun c S1 => Q (!c) S1
def aNil : DA := fun _ S Q => Q [] S
def aCons (a : DE) (r : DA) : DA := fun δ S Q => a δ S fun x S1 => r δ S1 fun xs S2 => Q (x :: xs) S2
def eTup (a : DA) : DE := fun δ S Q => a δ S fun xs S1 => xs.length ≤ 1000000 ∧ Q (.tup xs) S1
def eLst (a : DA) : DE := fun δ S Q => a δ S fun xs S1 => xs.length ≤ 1000000 ∧ ∀ p, S1 p = none → Q (.ref p) (sup S1 p (.lst xs))
def eCB (r : BL) (a : DA) : DE := fun δ S Q => a δ S fun xs S1 => r xs S1 Q
def eDK : DE := fun _ S Q => ∀ p, S p = none → Q (.ref p) (sup S p (.dK []))
def eDT : DE := fun _ S Q => ∀ p, S p = none → Q (.ref p) (sup S p (.dT []))
/-- o.f, the field at the place i -/
def eFld (C : Addr) (nm : List Str) (i : Nat) (a : DE) : DE := fun δ S Q => a δ S fun x S1 => asRef x fun o => atO S1 o C nm fun ds => match ds[i]? with | some v => Q v S1 | none => False

theorem le_line {n : Nat} (h : n ≤ 1000000) : n ≤ sizeLine := Nat.le_trans h (by decide)
section
variable {G : Gm} {N : En} {ta tb tc : TE} {fa fb fc : DE} {t u : TT} {f g : DT} {r r' : R2} {rd rd' : B2}
theorem se_var {i : Nat} : SE G N (tVar i) (eVar i) := by
  intro σ δ H S Q R r h k
  unfold eVar at h
  split at h
  · rename_i d e
    obtain ⟨v, h1, h2⟩ := r.sl.at_ i d e
    exact ⟨v, h1, k v d H S h2 r .refl h⟩
  · exact h.elim
theorem se_c {v : V} {d : D} (i : ∀ H, Im G H v d) : SE G N (tC v) (eC d) := fun σ δ H S Q R r h k => k v d H S (i H) r .refl h
theorem se_int {i : Int} : SE G N (tC (.int i)) (eC (.int i)) := se_c fun _ => .int i
theorem se_bl {b : Bool} : SE G N (tC (.bl b)) (eC (.bl b)) := se_c fun _ => .bl b
theorem se_non : SE G N (tC .non) (eC .non) := se_c fun _ => .non
theorem se_str {x : Str} (h : okS x) : SE G N (tC (.str x)) (eC (.str x)) := se_c fun _ => .str x h
theorem se_ty {n : String} : SE G N (tC (.ty n)) (eC (.ty n)) := se_c fun _ => .ty n
theorem se_ref {a : Addr} : SE G N (tC (.ref a)) (eC (.ref a)) := se_c fun _ => .ref a
theorem se_op (ho : S2 G r rd) (ha : SE G N ta fa) (hb : SE G N tb fb) : SE G N (tOp r ta tb) (eOp rd fa fb) := by
  intro σ δ H S Q R rl h k
  refine ha σ δ H S _ _ rl h fun x d H1 S1 i1 r1 u1 q1 => ?_
  refine hb σ δ H1 S1 _ _ r1 q1 fun y e H2 S2 i2 r2 u2 q2 => ?_
  exact ho x y d e H2 S2 Q R (i1.go (u2.tu r1.sim)) i2 r2.sim q2 fun v d' H' S' i3 s3 u3 q3 => k v d' H' S' i3 (r2.go s3 u3) (u1.trans (u2.trans u3)) q3
theorem se_un {r1 : V → Hp → VK → Prop} {rd1 : B1} (ho : S1 G r1 rd1) (ha : SE G N ta fa) : SE G N (tUn r1 ta) (eUn rd1 fa) := by
  intro σ δ H S Q R rl h k
  refine ha σ δ H S _ _ rl h fun x d H1 S1 i1 r1 u1 q1 => ?_
  exact ho x d H1 S1 Q R i1 r1.sim q1 fun v d' H' S' i3 s3 u3 q3 => k v d' H' S' i3 (r1.go s3 u3) (u1.trans u3) q3
theorem asB_of {d : D} {k : Bool → Prop} (h : asB d k) : ∃ b, d = .bl b ∧ k b := by
  cases d <;> first | exact ⟨_, rfl, h⟩ | exact h.elim
theorem im_bl {H : Hp} {v : V} {b : Bool} (h : Im G H v (.bl b)) : v = .bl b := by cases h; rfl
theorem se_and (ha : SE G N ta fa) (hb : SE G N tb fb) : SE G N (tAndV ta tb) (eAnd fa fb) := by
  intro σ δ H S Q R rl h k
  refine ha σ δ H S _ _ rl h fun x d H1 S1 i1 r1 u1 q1 => ?_
  obtain ⟨c, rfl, q⟩ := asB_of q1
  refine ⟨c, im_bl i1, ?_⟩
  cases c with
  | true => rw [if_pos rfl]; exact hb σ δ H1 S1 _ _ r1 (q.1 rfl) fun v d' H' S' i2 r2 u2 q2 => k v d' H' S' i2 r2 (u1.trans u2) q2
  | false => rw [if_neg Bool.false_ne_true]; exact k _ _ H1 S1 (.bl false) r1 u1 (q.2 rfl)
theorem se_or (ha : SE G N ta fa) (hb : SE G N tb fb) : SE G N (tOrV ta tb) (eOr fa fb) := by
  intro σ δ H S Q R rl h k
  refine ha σ δ H S _ _ rl h fun x d H1 S1 i1 r1 u1 q1 => ?_
  obtain ⟨c, rfl, q⟩ := asB_of q1
  refine ⟨c, im_bl i1, ?_⟩
  cases c with
  | true => rw [if_pos rfl]; exact k _ _ H1 S1 (.bl true) r1 u1 (q.1 rfl)
  | false => rw [if_neg Bool.false_ne_true]; exact hb σ δ H1 S1 _ _ r1 (q.2 rfl) fun v d' H' S' i2 r2 u2 q2 => k v d' H' S' i2 r2 (u1.trans u2) q2
theorem se_not (ha : SE G N ta fa) : SE G N (tNotV ta) (eNot fa) := by
  intro σ δ H S Q R rl h k
  refine ha σ δ H S _ _ rl h fun x d H1 S1 i1 r1 u1 q1 => ?_
  obtain ⟨c, rfl, q⟩ := asB_of q1
  exact ⟨c, im_bl i1, k _ _ H1 S1 (.bl _) r1 u1 q⟩
theorem se_if (ht : ST G N t f) (ha : SE G N ta fa) (hb : SE G N tb fb) : SE G N (tIf t ta tb) (eIf f fa fb) := by
  intro σ δ H S Q R rl h k
  refine ht σ δ H S _ _ rl h fun c H1 S1 r1 u1 q => ?_
  cases c with
  | true => rw [if_pos rfl]; exact ha σ δ H1 S1 _ _ r1 (q.1 rfl) fun v d' H' S' i2 r2 u2 q2 => k v d' H' S' i2 r2 (u1.trans u2) q2
  | false => rw [if_neg Bool.false_ne_true]; exact hb σ δ H1 S1 _ _ r1 (q.2 rfl) fun v d' H' S' i2 r2 u2 q2 => k v d' H' S' i2 r2 (u1.trans u2) q2
theorem se_chain (ho : S2 G r rd) (ho' : S2 G r' rd') (ha : SE G N ta fa) (hb : SE G N tb fb) (hc : SE G N tc fc) : SE G N (tChain r r' ta tb tc) (eChain rd rd' fa fb fc) := by
  intro σ δ H S Q R rl h k
  refine ha σ δ H S _ _ rl h fun x d H1 S1 i1 r1 u1 q1 => ?_
  refine hb σ δ H1 S1 _ _ r1 q1 fun y e H2 S2 i2 r2 u2 q2 => ?_
  refine ho x y d e H2 S2 _ _ (i1.go (u2.tu r1.sim)) i2 r2.sim q2 fun v d' H3 S3 i3 s3 u3 q3 => ?_
  obtain ⟨c, rfl, q⟩ := asB_of q3
  refine ⟨c, im_bl i3, ?_⟩
  have r3 := r2.go s3 u3
  cases c with
  | true =>
    rw [if_pos rfl]
    refine hc σ δ H3 S3 _ _ r3 (q.1 rfl) fun z e4 H4 S4 i4 r4 u4 q4 => ?_
    exact ho' y z e e4 H4 S4 Q R ((i2.go (u3.tu r2.sim)).go (u4.tu r3.sim)) i4 r4.sim q4 fun v d' H' S' i5 s5 u5 q5 => k v d' H' S' i5 (r4.go s5 u5) (u1.trans (u2.trans (u3.trans (u4.trans u5)))) q5
  | false => rw [if_neg Bool.false_ne_true]; exact k _ _ H3 S3 (.bl false) r3 (u1.trans (u2.trans u3)) (q.2 rfl)
/-! tests -/
theorem st_tB (ha : SE G N ta fa) : ST G N (tB ta) (tV fa) := by
  intro σ δ H S Q R rl h k
  refine ha σ δ H S _ _ rl h fun x d H1 S1 i1 r1 u1 q1 => ?_
  obtain ⟨c, rfl, q⟩ := asB_of q1
  exact ⟨c, im_bl i1, k c H1 S1 r1 u1 q⟩
theorem st_test (ha : SE G N ta fa) : ST G N (tTest ta) (tV fa) := st_tB ha
theorem st_and (ha : ST G N t f) (hb : ST G N u g) : ST G N (tAnd t u) (tAnd' f g) := by
  intro σ δ H S Q R rl h k
  refine ha σ δ H S _ _ rl h fun c H1 S1 r1 u1 q => ?_
  cases c with
  | true => rw [if_pos rfl]; exact hb σ δ H1 S1 _ _ r1 (q.1 rfl) fun c' H' S' r2 u2 q2 => k c' H' S' r2 (u1.trans u2) q2
  | false => rw [if_neg Bool.false_ne_true]; exact k _ H1 S1 r1 u1 (q.2 rfl)
theorem st_or (ha : ST G N t f) (hb : ST G N u g) : ST G N (tOr t u) (tOr' f g) := by
  intro σ δ H S Q R rl h k
  refine ha σ δ H S _ _ rl h fun c H1 S1 r1 u1 q => ?_
  cases c with
  | true => rw [if_pos rfl]; exact k _ H1 S1 r1 u1 (q.1 rfl)
  | false => rw [if_neg Bool.false_ne_true]; exact hb σ δ H1 S1 _ _ r1 (q.2 rfl) fun c' H' S' r2 u2 q2 => k c' H' S' r2 (u1.trans u2) q2
theorem st_not (ha : ST G N t f) : ST G N (tNot t) (tNot' f) := fun σ δ H S Q R rl h k => ha σ δ H S _ _ rl h fun c H1 S1 r1 u1 q => k _ H1 S1 r1 u1 q
/-! arguments, displays -/
variable {tl : TA} {fl : DA}
theorem sa_nil : SA G N tNil aNil := fun σ δ H S Q R rl h k => k [] [] H S .nil rl .refl h
theorem sa_cons (ha : SE G N ta fa) (hl : SA G N tl fl) : SA G N (tCons ta tl) (aCons fa fl) := by
  intro σ δ H S Q R rl h k
  refine ha σ δ H S _ _ rl h fun x d H1 S1 i1 r1 u1 q1 => ?_
  refine hl σ δ H1 S1 _ _ r1 q1 fun vs ds H2 S2 i2 r2 u2 q2 => ?_
  exact k _ _ H2 S2 (.cons (i1.go (u2.tu r1.sim)) i2) r2 (u1.trans u2) q2
theorem new_tup {S : Sto} {H : Hp} {p : Addr} {xs : List V} {ds : List D} (s : Sim G S H) (hp : H p = none) (i : ImAll G H xs ds) : Im G (upd H p (.tup xs)) (.ref p) (.tup ds) ∧ Sim G S (upd H p (.tup xs)) ∧ Up S S H (upd H p (.tup xs)) :=
  let e := Ext.lay (o := .tup xs) hp
  ⟨.tup upd_same (i.go e.tu), s.ext e, Up.of_ext e⟩
theorem se_tup (hl : SA G N tl fl) : SE G N (tTup tl) (eTup fl) := by
  intro σ δ H S Q R rl h k
  refine hl σ δ H S _ _ rl h fun vs ds H1 S1 i1 r1 u1 ⟨z, q⟩ => ⟨by rw [i1.length]; exact le_line z, fun p hp => ?_⟩
  obtain ⟨a1, a2, a3⟩ := new_tup r1.sim hp i1
  exact k _ _ _ S1 a1 (r1.go a2 a3) (u1.trans a3) q
theorem new_lst {S : Sto} {H : Hp} {p : Addr} {xs : List V} {ds : List D} (s : Sim G S H) (hp : H p = none) (i : ImAll G H xs ds) : S p = none ∧ Sim G (sup S p (.lst ds)) (upd H p (.lst xs)) ∧ Up S (sup S p (.lst ds)) H (upd H p (.lst xs)) :=
  ⟨s.free hp, s.lay hp ⟨xs, upd_same, i.go (Ext.lay (o := .lst xs) hp).tu⟩⟩
theorem se_lst (hl : SA G N tl fl) : SE G N (tLst tl) (eLst fl) := by
  intro σ δ H S Q R rl h k
  refine hl σ δ H S _ _ rl h fun vs ds H1 S1 i1 r1 u1 ⟨z, q⟩ => ⟨by rw [i1.length]; exact le_line z, fun p hp => ?_⟩
  obtain ⟨a1, a2, a3⟩ := new_lst r1.sim hp i1
  exact k _ _ _ _ (.ref p) (r1.go a2 a3) (u1.trans a3) (q p a1)
theorem se_dK : SE G N tDNewK eDK := fun σ δ H S Q R rl h k p hp =>
  let a := rl.sim.lay (o := .dK []) (ho := .dK []) hp ⟨[], upd_same, .nil⟩
  k _ _ _ _ (.ref p) (rl.go a.1 a.2) a.2 (h p (rl.sim.free hp))
theorem se_dT : SE G N tDNewT eDT := fun σ δ H S Q R rl h k p hp =>
  let a := rl.sim.lay (o := .dT []) (ho := .dT []) hp ⟨[], upd_same, .nil⟩
  k _ _ _ _ (.ref p) (rl.go a.1 a.2) a.2 (h p (rl.sim.free hp))
theorem se_cb {rl : List V → Hp → VK → Prop} {rb : BL} (ho : SL G rl rb) (hl : SA G N tl fl) : SE G N (tCB rl tl) (eCB rb fl) := by
  intro σ δ H S Q R rl h k
  refine hl σ δ H S _ _ rl h fun vs ds H1 S1 i1 r1 u1 q => ?_
  exact ho vs ds H1 S1 Q R i1 r1.sim q fun v d' H' S' i3 s3 u3 q3 => k v d' H' S' i3 (r1.go s3 u3) (u1.trans u3) q3
theorem kv_look {κ : Type} [BEq κ] {H : Hp} {gs : List (κ × V)} {fs : List (κ × D)} (h : KvAll G H gs fs) {f : κ} {d : D} (e : fs.lookup f = some d) : ∃ v, gs.lookup f = some v ∧ Im G H v d := by
  induction h with
  | nil => cases e
  | @cons k v d' r s hi _ ih =>
    rw [List.lookup_cons] at e ⊢
    split at e
    · rename_i hk
      cases e
      exact ⟨v, rfl, hi⟩
    · rename_i hk
      exact ih e
theorem kv_none {κ : Type} [BEq κ] {H : Hp} {gs : List (κ × V)} {fs : List (κ × D)} (h : KvAll G H gs fs) {f : κ} (e : fs.lookup f = none) : gs.lookup f = none := by
  induction h with
  | nil => rfl
  | @cons k v d' r s hi _ ih =>
    rw [List.lookup_cons] at e ⊢
    split at e
    · cases e
    · rename_i hk
      exact ih e
theorem im_ref {H : Hp} {v : V} {a : Addr} (h : Im G H v (.ref a)) : v = .ref a := by cases h; rfl
theorem zip_look {f : Str} : ∀ {nm : List Str} {i : Nat} {ds : List D}, FIx nm f i → (nm.zip ds).lookup f = ds[i]?
  | [], _, _, h => by have := h.at_; simp at this
  | n :: nm, 0, [], h => by simp
  | n :: nm, 0, d :: ds, h => by
    have : n = f := by simpa using h.at_
    subst this
    simp
  | n :: nm, i + 1, [], h => by simp
  | n :: nm, i + 1, d :: ds, h => by
    have hn : f ≠ n := fun e => h.no (by rw [List.take_succ_cons, e]; exact List.mem_cons_self)
    rw [List.zip_cons_cons, List.lookup_cons, beq_eq_false_iff_ne.mpr hn]
    simp only [List.getElem?_cons_succ]
    exact zip_look ⟨by simpa using h.at_, fun z => h.no (by rw [List.take_succ_cons]; exact List.mem_cons_of_mem _ z)⟩
theorem se_fld {C : Addr} {f' : Str} {nm : List Str} {i : Nat} (c : Cls G.K C) (n : NoAttr G.K C f') (x : FIx nm f' i) (ha : SE G N ta fa) : SE G N (tFld G.K ta f') (eFld C nm i fa) := by
  intro σ δ H S Q R rl h k
  refine ha σ δ H S _ _ rl h fun x' d H1 S1 i1 r1 u1 q1 => ?_
  obtain ⟨o, rfl, q2⟩ := asRef_of q1
  obtain ⟨ds, ho, q⟩ := atO_of q2
  obtain ⟨dx, gs, hH, kv, _⟩ := r1.sim.ob o _ ho
  split at q
  · rename_i v hv
    obtain ⟨w, hw, iw⟩ := kv_look kv (f := f') (d := v) (by rw [zip_look x]; exact hv)
    exact ⟨o, C, dx, gs, w, im_ref i1, hH, c, n, hw, k w v H1 S1 iw r1 u1 q⟩
  · exact q.elim
end
end Sd

set_option Elab.async false
set_option linter.all false
set_option maxRecDepth 100000
set_option maxHeartbeats 4000000
namespace Sd
open PySem PySem.Spec PyProof.Rows L2
/-! ### a tuple times 0, 1, or less than 0 (own; the library's rule begins with 2) -/
theorem tupMul0 (l : Addr) (its : Array Value) (n : Nat) (dd : Option Addr) (sl : Array (Option Value)) (x : Int) (u : Tok) (c0 : (decide (x < -(2 ^ 63)) || decide (x ≥ 2 ^ 63)) = false)
    (c1 : (its.isEmpty || x == 1) = false) (c2 : (decide (x ≤ 0) || its.isEmpty) = true) :
    Meets (Builtin.«tuple.__mul__» ⟨[.ref l, .int x u], []⟩) (fun _ R s => s.heap.get? l = some ⟨.type "tuple", dd, .seq its n, sl⟩ ∧
      R (.ok (.ret (.ref s.heap.objs.size))) ⟨s.heap.push { cls := .type "tuple", data := .seq #[] }, s.gens, s.drawn, s.toks, s.os⟩) :=
  .of_wp fun prog w A R s h => by
    obtain ⟨hp, g, d, tk, os⟩ := s
    obtain ⟨hl, h⟩ := h
    have ix := AutoSeq1.idx_int
    wp_walk using wpAny_loadPart' hl
    repeat first
      | refine wpAny_ite_false (decide_eq_false (by rw [c0]; decide)) ?_; wp_walk using wpAny_loadPart' hl
      | refine wpAny_ite_false (decide_eq_false (by rw [c1]; decide)) ?_; wp_walk using wpAny_loadPart' hl
      | refine wpAny_ite_true (decide_eq_true (by rw [c2])) ?_; wp_walk using wpAny_loadPart' hl
    exact ⟨_, rfl, h⟩
theorem tupMul1 (l : Addr) (its : Array Value) (n : Nat) (dd : Option Addr) (sl : Array (Option Value)) (x : Int) (u : Tok) (c0 : (decide (x < -(2 ^ 63)) || decide (x ≥ 2 ^ 63)) = false) (c1 : (its.isEmpty || x == 1) = true) :
    Meets (Builtin.«tuple.__mul__» ⟨[.ref l, .int x u], []⟩) (fun _ R s => s.heap.get? l = some ⟨.type "tuple", dd, .seq its n, sl⟩ ∧ R (.ok (.ret (.ref l))) s) :=
  .of_wp fun prog w A R s h => by
    obtain ⟨hp, g, d, tk, os⟩ := s
    obtain ⟨hl, h⟩ := h
    have ix := AutoSeq1.idx_int
    wp_walk using wpAny_loadPart' hl
    repeat first
      | refine wpAny_ite_false (decide_eq_false (by rw [c0]; decide)) ?_; wp_walk using wpAny_loadPart' hl
      | refine wpAny_ite_true (decide_eq_true (by rw [c1])) ?_; wp_walk using wpAny_loadPart' hl
    exact ⟨_, rfl, h⟩
def rTm0 (K : PySem.W.Frag) : R2 := fun x y H Q => ∃ l k xs, x = .ref l ∧ y = .int k ∧ SqT K H l xs ∧ xs ≠ [] ∧ -(2 ^ 62) ≤ k ∧ k ≤ 0 ∧ ∀ p, H p = none → Q (.ref p) (upd H p (.tup []))
def rTm1 (K : PySem.W.Frag) : R2 := fun x y H Q => ∃ l xs, x = .ref l ∧ y = .int 1 ∧ SqT K H l xs ∧ Q (.ref l) H
section
variable {X : Cx}
theorem op_tm0 : OpR X (binaryOp .Mult) (rTm0 X.K) := by
  intro pins s σ H x y v u Q I rx ry h
  obtain ⟨l, k, xs, rfl, rfl, hT, hne, k1, k2, q⟩ := h
  cases rx
  obtain ⟨t, rfl⟩ := ry
  obtain ⟨its, r, ⟨⟨cls, dd, data, sl⟩, ho, hc, n, hd⟩, hs⟩ := I.tuple hT
  simp only at hc hd
  subst hc hd
  have e0 : its.toArray.isEmpty = false := by
    cases its with
    | nil => exact absurd (List.eq_nil_of_length_eq_zero r.length) hne
    | cons _ _ => rfl
  have d0 : (decide (k < -(2 ^ 63)) || decide (k ≥ 2 ^ 63)) = false := by simp; omega
  have d1 : (its.toArray.isEmpty || k == 1) = false := by rw [e0, Bool.false_or]; exact beq_eq_false_iff_ne.mpr (by omega)
  have d2 : (decide (k ≤ 0) || its.toArray.isEmpty) = true := by rw [decide_eq_true k2]; rfl
  have ty : s.TypeIs (.ref l) "tuple" := ⟨_, ho, rfl⟩
  refine wpAny_binaryOp_repeat_ref (T := "tuple") (U := "int") (by decide) ty (fun z => typeIs_int z k t) noFill_tuple_mul F.fills_int_mul F.slot_int_rmul repeat_tuple F.slot_int_index.lookup ?_
  refine call_meets F.slot_int_rmul (typeIs_int s k t) F.entry_int_rmul (F.args_int_rmul_2 _ _) (int_rmul_tuple k t l its.toArray n dd sl) ⟨ho, rfl, ty, ?_⟩
  refine call_meets F.slot_tuple_mul ty F.entry_tuple_mul (F.args_tuple_mul_2 _ _) (tupMul0 l its.toArray n dd sl k t d0 d1 d2) ⟨ho, ?_⟩
  refine ⟨.ref s.heap.objs.size, _, I.laid (t' := s.toks) (o := .tup []) (fun b ob z => Heap.get?_push_of_some _ z) (Nat.le_refl _) ?_, rfl, q _ (I.hok.fresh (Nat.le_refl _))⟩
  exact ⟨Nat.zero_le _, _, .nil, IsTup.new _ _⟩
theorem op_tm1 : OpR X (binaryOp .Mult) (rTm1 X.K) := by
  intro pins s σ H x y v u Q I rx ry h
  obtain ⟨l, xs, rfl, rfl, hT, q⟩ := h
  cases rx
  obtain ⟨t, rfl⟩ := ry
  obtain ⟨its, r, ⟨⟨cls, dd, data, sl⟩, ho, hc, n, hd⟩, hs⟩ := I.tuple hT
  simp only at hc hd
  subst hc hd
  have d1 : (its.toArray.isEmpty || (1 : Int) == 1) = true := by simp
  have ty : s.TypeIs (.ref l) "tuple" := ⟨_, ho, rfl⟩
  refine wpAny_binaryOp_repeat_ref (T := "tuple") (U := "int") (by decide) ty (fun z => typeIs_int z 1 t) noFill_tuple_mul F.fills_int_mul F.slot_int_rmul repeat_tuple F.slot_int_index.lookup ?_
  refine call_meets F.slot_int_rmul (typeIs_int s 1 t) F.entry_int_rmul (F.args_int_rmul_2 _ _) (int_rmul_tuple 1 t l its.toArray n dd sl) ⟨ho, rfl, ty, ?_⟩
  refine call_meets F.slot_tuple_mul ty F.entry_tuple_mul (F.args_tuple_mul_2 _ _) (tupMul1 l its.toArray n dd sl 1 t (by decide) d1) ⟨ho, ?_⟩
  exact ⟨.ref l, H, I, rfl, q⟩
/-- a tuple, many times -/
def rTm2 (K : PySem.W.Frag) : R2 := fun x y H Q => ∃ l k xs, x = .ref l ∧ y = .int k ∧ SqT K H l xs ∧ xs ≠ [] ∧ 2 ≤ k ∧ k ≤ 4000 ∧ xs.length ≤ 200 ∧ ∀ p, H p = none → Q (.ref p) (upd H p (.tup (List.replicate k.toNat xs).flatten))
theorem op_tm2 : OpR X (binaryOp .Mult) (rTm2 X.K) := by
  intro pins s σ H x y v u Q I rx ry h
  obtain ⟨l, k, xs, rfl, rfl, hT, hne, k1, k2, k3, q⟩ := h
  cases rx
  obtain ⟨t, rfl⟩ := ry
  obtain ⟨its, r, ⟨⟨cls, dd, data, sl⟩, ho, hc, n, hd⟩, hs⟩ := I.tuple hT
  simp only at hc hd
  subst hc hd
  have hlen : its.length = xs.length := r.length.symm
  have e0 : its.toArray.isEmpty = false := by
    cases its with
    | nil => exact absurd (List.eq_nil_of_length_eq_zero r.length) hne
    | cons _ _ => rfl
  have big : k.toNat * xs.length ≤ 4000 * 200 := Nat.mul_le_mul (by omega) k3
  have big2 : ((its.toArray.size : Nat) : Int) * k ≤ 800000 := by
    rw [List.size_toArray, hlen]
    have e : ((k.toNat * xs.length : Nat) : Int) = (xs.length : Int) * k := by
      rw [Int.natCast_mul, Int.toNat_of_nonneg (by omega), Int.mul_comm]
    rw [← e]
    omega
  have fl : (List.replicate k.toNat its).flatten.length ≤ 800000 := by
    rw [PyProof.Rows.lm_len_rep_flat, hlen]
    exact big
  have sl8 : (800000 : Nat) ≤ sizeLine := by decide
  have d0 : (decide (k < -(2 ^ 63)) || decide (k ≥ 2 ^ 63)) = false := by simp; omega
  have d1 : (its.toArray.isEmpty || k == 1) = false := by rw [e0, Bool.false_or]; exact beq_eq_false_iff_ne.mpr (by omega)
  have d2 : (decide (k ≤ 0) || its.toArray.isEmpty) = false := by rw [e0, Bool.or_false]; exact decide_eq_false (by omega)
  have d4 : Builtin.Tuple.tupleTooMany (((its.toArray.size : Nat) : Int) * k) = false := by
    unfold Builtin.Tuple.tupleTooMany
    have e : ((800000 : Nat) : Int) ≤ (sizeLine : Int) := by exact_mod_cast sl8
    exact decide_eq_false (by omega)
  have ty : s.TypeIs (.ref l) "tuple" := ⟨_, ho, rfl⟩
  refine wpAny_binaryOp_repeat_ref (T := "tuple") (U := "int") (by decide) ty (fun z => typeIs_int z k t) noFill_tuple_mul F.fills_int_mul F.slot_int_rmul repeat_tuple F.slot_int_index.lookup ?_
  refine call_meets F.slot_int_rmul (typeIs_int s k t) F.entry_int_rmul (F.args_int_rmul_2 _ _) (int_rmul_tuple k t l its.toArray n dd sl) ⟨ho, rfl, ty, ?_⟩
  refine call_meets F.slot_tuple_mul ty F.entry_tuple_mul (F.args_tuple_mul_2 _ _) (tuple_mulW l its.toArray n dd sl k t d0 d1 d2 (by omega) d4 (by rw [size_rep, List.size_toArray]; exact Nat.le_trans fl sl8)) ⟨ho, ?_⟩
  rw [size_rep]
  refine ⟨.ref s.heap.objs.size, _, I.laid (t' := s.toks) (o := .tup (List.replicate k.toNat xs).flatten) (fun b ob z => Heap.get?_push_of_some _ z) (Nat.le_refl _) ?_, rfl, q _ (I.hok.fresh (Nat.le_refl _))⟩
  refine ⟨?_, _, r.rep k.toNat, IsTup.new _ _⟩
  rw [PyProof.Rows.lm_len_rep_flat]
  exact Nat.le_trans big sl8
def rMulW (K : PySem.W.Frag) : R2 := fun x y H Q => Ow.rMulV K x y H Q ∨ rTm0 K x y H Q ∨ rTm1 K x y H Q ∨ rTm2 K x y H Q
theorem opW_mul : OpR X (binaryOp .Mult) (rMulW X.K) := Ow.opV_mul.or (op_tm0.or (op_tm1.or op_tm2))
end
end Sd

set_option Elab.async false
set_option linter.all false
set_option maxRecDepth 100000
set_option maxHeartbeats 4000000
namespace Sd
open PySem PySem.Spec PyProof.Rows L2 GxR

/-! ### operators by values -/
def dAdd : B2 := fun x y S Q => match x, y with
  | .int i, .int j => Q (.int (i + j)) S
  | .str a, .str b => a.length + b.length ≤ 1000000 ∧ Q (.str (a ++ b)) S
  | .tup xs, .tup ys => xs.length + ys.length ≤ 1000000 ∧ Q (.tup (xs ++ ys)) S
  | .ref a, .ref b => atL S a fun xs => atL S b fun ys => xs.length + ys.length ≤ 1000000 ∧ ∀ p, S p = none → Q (.ref p) (sup S p (.lst (xs ++ ys)))
  | _, _ => False
def dI (C : Int → Int → Prop) (f : Int → Int → D) : B2 := fun x y S Q => match x, y with
  | .int i, .int j => C i j ∧ Q (f i j) S
  | _, _ => False
def dSub : B2 := fun x y S Q => (dI (fun _ _ => True) fun i j => .int (i - j)) x y S Q
def dMod : B2 := fun x y S Q => (dI (fun _ j => 0 < j) fun i j => .int (i % j)) x y S Q
def dDiv : B2 := fun x y S Q => (dI CDivW fun i j => .int (i / j)) x y S Q
def dXor : B2 := fun x y S Q => (dI (fun _ _ => True) fun i j => .int (Builtin.bitXor i j)) x y S Q
def dShl : B2 := fun x y S Q => (dI CPow fun i j => .int (i * 2 ^ j.toNat)) x y S Q
def dShr : B2 := fun x y S Q => (dI (fun _ j => 0 ≤ j) fun i j => .int (i / 2 ^ j.toNat)) x y S Q
def dMul : B2 := fun x y S Q => match x, y with
  | .int i, .int j => CMul i j ∧ Q (.int (i * j)) S
  | .tup xs, .int k => xs ≠ [] ∧ -(2 ^ 62) ≤ k ∧ k ≤ 4000 ∧ xs.length ≤ 200 ∧ Q (.tup (List.replicate k.toNat xs).flatten) S
  | .str z, .int k => 2 ≤ k ∧ k ≤ 1000 ∧ 1 ≤ z.length ∧ z.length ≤ 1000 ∧ Q (.str (Ow.repS z k)) S
  | .ref a, .int k => atL S a fun xs => -(2 ^ 62) ≤ k ∧ k < 2 ^ 62 ∧ xs.length * k.toNat ≤ 1000000 ∧ ∀ p, S p = none → Q (.ref p) (sup S p (.lst (List.replicate k.toNat xs).flatten))
  | _, _ => False
def sLt (a b : Str) : Bool := decide (a.cps.toList < b.cps.toList)
def dCmp (p : Int → Int → Bool) (q : Str → Str → Bool) : B2 := fun x y S Q => match x, y with
  | .int i, .int j => Q (.bl (p i j)) S
  | .str i, .str j => Q (.bl (q i j)) S
  | _, _ => False
def dLe : B2 := fun x y S Q => (dCmp (fun i j => decide (i ≤ j)) fun i j => !sLt j i) x y S Q
def dLt : B2 := fun x y S Q => (dCmp (fun i j => decide (i < j)) fun i j => sLt i j) x y S Q
def dGe : B2 := fun x y S Q => (dCmp (fun i j => decide (j ≤ i)) fun i j => !sLt i j) x y S Q
def dGt : B2 := fun x y S Q => (dCmp (fun i j => decide (j < i)) fun i j => sLt j i) x y S Q

mutual
/-- data without addresses, as the library has it -/
def py : D → PyData
  | .non => .none
  | .bl b => .bool b
  | .int i => .int i
  | .str x => .str x
  | .tup ds => .tuple (pys ds)
  | .ctup ds => .tuple (pys ds)
  | .ref _ => .none
  | .scr => .none
  | .ty _ => .none
def pys : List D → List PyData
  | [] => []
  | d :: ds => py d :: pys ds
end
mutual
/-- pure data, at most n deep -/
def dat : Nat → D → Bool
  | _, .non => true
  | _, .bl _ => true
  | _, .int _ => true
  | _, .str _ => true
  | 0, .tup _ => false
  | n + 1, .tup ds => decide (ds.length ≤ 1000000) && dats n ds
  | _, .ctup _ => false
  | _, .ref _ => false
  | _, .scr => false
  | _, .ty _ => false
def dats : Nat → List D → Bool
  | _, [] => true
  | n, d :: ds => dat n d && dats n ds
end
def eqD (x y : D) : Bool := PyData.eqv (py x) (py y)
/-- a constant tuple read as a tuple -/
def unC : D → D
  | .ctup ds => .tup ds
  | .tup ds => .tup ds
  | .int i => .int i
  | .str x => .str x
  | .bl b => .bl b
  | .non => .non
  | .ref a => .ref a
  | .scr => .scr
  | .ty n => .ty n
def dEq : B2 := fun x y S Q => dat 60 (unC x) = true ∧ dat 60 (unC y) = true ∧ Q (.bl (eqD x y)) S
def dNe : B2 := fun x y S Q => dat 60 (unC x) = true ∧ dat 60 (unC y) = true ∧ Q (.bl (!eqD x y)) S
def flatD : D → Bool
  | .non => true | .bl _ => true | .int _ => true | .str _ => true | _ => false
def dIn (neg : Bool) : B2 := fun x y S Q => match y with
  | .tup ds => flatD x = true ∧ ds.all flatD = true ∧ Q (.bl (if neg then !ds.any fun z => eqD z x else ds.any fun z => eqD z x)) S
  | .ctup ds => flatD x = true ∧ ds.all flatD = true ∧ Q (.bl (if neg then !ds.any fun z => eqD z x else ds.any fun z => eqD z x)) S
  | .ref a => atL S a fun ds => dat 60 x = true ∧ dats 60 ds = true ∧ Q (.bl (if neg then !ds.any fun z => eqD z x else ds.any fun z => eqD z x)) S
  | _ => False
def isNon : D → Bool
  | .non => true
  | _ => false
def dIsN (neg : Bool) : B2 := fun x y S Q => match y with
  | .non => Q (.bl (if neg then !isNon x else isNon x)) S
  | _ => False
def dIx : B2 := fun x y S Q => match y with
  | .int i => (match x with
    | .tup ds => (match atI ds i with | some d => Q d S | none => False)
    | .ctup ds => (match atI ds i with | some d => Q d S | none => False)
    | .str z => (match atI z.cps.toList i with | some c => Q (.str ⟨#[c]⟩) S | none => False)
    | .ref a => atL S a fun ds => (match atI ds i with | some d => Q d S | none => False)
    | _ => False)
  | _ => False
def dNeg : B1 := fun x S Q => match x with | .int i => Q (.int (-i)) S | _ => False
def dLen : BL := fun xs S Q => match xs with
  | [.str x] => Q (.int x.length) S
  | [.tup ds] => Q (.int ds.length) S
  | [.ctup ds] => Q (.int ds.length) S
  | [.ref a] => atL S a fun ds => Q (.int ds.length) S
  | _ => False
def dList : BL := fun xs S Q => match xs with
  | [.ref a] => atL S a fun ds => ∀ l, S l = none → Q (.ref l) (sup S l (.lst ds))
  | [.tup ds] => ∀ l, S l = none → Q (.ref l) (sup S l (.lst ds))
  | [.ctup ds] => ∀ l, S l = none → Q (.ref l) (sup S l (.lst ds))
  | _ => False
def dTuple : BL := fun xs S Q => match xs with
  | [.ref a] => atL S a fun ds => Q (.tup ds) S
  | [.tup ds] => Q (.tup ds) S
  | [.ctup ds] => Q (.ctup ds) S
  | _ => False
def dInt : BL := fun xs S Q => match xs with
  | [.int i] => Q (.int i) S
  | [.bl k] => Q (.int (if k then 1 else 0)) S
  | _ => False
/-- the name of a value's type -/
def tyD (S : Sto) : D → Option String
  | .non => some "NoneType"
  | .bl _ => some "bool"
  | .int _ => some "int"
  | .str _ => some "str"
  | .tup _ => some "tuple"
  | .ctup _ => some "tuple"
  | .ref a => (match S a with | some (.lst _) => some "list" | some (.dK _) => some "dict" | some (.dT _) => some "dict" | _ => none)
  | _ => none
def tyNames : List String := ["NoneType", "bool", "int", "str", "tuple", "list", "dict"]
def isTy (n T : String) : Bool := n == T || (n == "bool" && T == "int")
def tyKn (T : String) : Bool := T == "int" || T == "bool" || T == "str" || T == "tuple" || T == "list" || T == "dict"
theorem tyKn_mem {T : String} (h : tyKn T = true) : T ∈ ["int", "bool", "str", "tuple", "list", "dict"] := by
  simp only [tyKn, Bool.or_eq_true, beq_iff_eq] at h
  rcases h with ((((rfl | rfl) | rfl) | rfl) | rfl) | rfl <;> decide
def dIsi : BL := fun xs S Q => match xs with
  | [d, .ty T] => (match tyD S d with | some n => tyKn T = true ∧ Q (.bl (isTy n T)) S | none => False)
  | _ => False
def isBl : D → Bool
  | .bl _ => true
  | _ => false
def isTr : D → Bool
  | .bl true => true
  | _ => false
def dAll : BL := fun xs S Q => match xs with
  | [.ref a] => atL S a fun ds => ds.all isBl = true ∧ Q (.bl (ds.all isTr)) S
  | _ => False

section
variable {G : Gm} {H : Hp} {S : Sto}
theorem im_int {v : V} {i : Int} (h : Im G H v (.int i)) : v = .int i := by cases h; rfl
theorem im_str {v : V} {x : Str} (h : Im G H v (.str x)) : v = .str x ∧ okS x := by cases h; exact ⟨rfl, by assumption⟩
theorem im_non {v : V} (h : Im G H v .non) : v = .non := by cases h; rfl
theorem im_ty {v : V} {n : String} (h : Im G H v (.ty n)) : v = .ty n := by cases h; rfl
theorem im_tup {v : V} {ds : List D} (h : Im G H v (.tup ds)) : ∃ a xs, v = .ref a ∧ H a = some (.tup xs) ∧ ImAll G H xs ds := by cases h; exact ⟨_, _, rfl, by assumption, by assumption⟩
theorem im_seq {v : V} {ds : List D} (h : Im G H v (.tup ds) ∨ Im G H v (.ctup ds)) : ∃ a xs, v = .ref a ∧ SqT G.K H a xs ∧ ImAll G H xs ds := by
  rcases h with h | h
  · obtain ⟨a, xs, e, h1, h2⟩ := im_tup h
    exact ⟨a, xs, e, SqT.of h1, h2⟩
  · match h with
    | .ctup h1 _ _ _ h2 => exact ⟨_, _, rfl, h1 H, h2⟩
theorem okS_app {a b : Str} (ha : okS a) (hb : okS b) (h : a.length + b.length ≤ 1000000) : okS (a ++ b) := by
  refine ⟨by rw [Ow.len_app]; exact h, ?_⟩
  show (a.cps ++ b.cps).all _ = true
  rw [Array.all_append]
  have h1 := ha.2
  have h2 := hb.2
  unfold PyData.strOk at h1 h2
  simp [h1, h2]
theorem s2_add : S2 G (Ow.rAddU G.K) dAdd := by
  intro x y d e H S Q R hx hy s h k
  unfold dAdd at h
  split at h
  · cases im_int hx; cases im_int hy
    exact .inl ⟨_, _, rfl, rfl, k _ _ H S (.int _) s .refl h⟩
  · obtain ⟨rfl, o1⟩ := im_str hx
    obtain ⟨rfl, o2⟩ := im_str hy
    exact .inr (.inr (.inr ⟨_, _, rfl, rfl, le_line h.1, k _ _ H S (.str _ (okS_app o1 o2 h.1)) s .refl h.2⟩))
  · obtain ⟨a, vs, rfl, h1, i1⟩ := im_tup hx
    obtain ⟨b, ws, rfl, h2, i2⟩ := im_tup hy
    refine .inr (.inl ⟨a, b, vs, ws, rfl, rfl, SqT.of h1, SqT.of h2, by rw [i1.length, i2.length]; exact le_line h.1, fun z => ?_, fun _ z => ?_, fun _ _ p hp => ?_⟩)
    · subst z
      cases i1
      exact k _ _ H S (.tup h2 i2) s .refl h.2
    · subst z
      cases i2
      have q := h.2
      rw [List.append_nil] at q
      exact k _ _ H S (.tup h1 i1) s .refl q
    · obtain ⟨a1, a2, a3⟩ := new_tup s hp (i1.append i2)
      exact k _ _ _ S a1 a2 a3 h.2
  · cases im_ref hx; cases im_ref hy
    obtain ⟨xs, h1, h⟩ := atL_of h
    obtain ⟨ys, h2, hl, q⟩ := atL_of h
    obtain ⟨vs, e1, i1⟩ := s.ob _ _ h1
    obtain ⟨ws, e2, i2⟩ := s.ob _ _ h2
    refine .inr (.inr (.inl ⟨_, _, vs, ws, rfl, rfl, e1, e2, by rw [i1.length, i2.length]; exact le_line hl, fun p hp => ?_⟩))
    obtain ⟨a1, a2, a3⟩ := new_lst s hp (i1.append i2)
    exact k _ _ _ _ (.ref p) a2 a3 (q p a1)
  · exact h.elim
theorem s2_I {C : Int → Int → Prop} {g : Int → Int → V} {f : Int → Int → D} (hf : ∀ H i j, Im G H (g i j) (f i j)) : S2 G (rI C g) (dI C f) := by
  intro x y d e H S Q R hx hy s h k
  unfold dI at h
  split at h
  · cases im_int hx; cases im_int hy
    exact ⟨_, _, rfl, rfl, h.1, k _ _ H S (hf H _ _) s .refl h.2⟩
  · exact h.elim
theorem s2_I0 {g : Int → Int → V} {f : Int → Int → D} (hf : ∀ H i j, Im G H (g i j) (f i j)) : S2 G (rI0 g) (dI (fun _ _ => True) f) := by
  intro x y d e H S Q R hx hy s h k
  unfold dI at h
  split at h
  · cases im_int hx; cases im_int hy
    exact ⟨_, _, rfl, rfl, k _ _ H S (hf H _ _) s .refl h.2⟩
  · exact h.elim
theorem s2_sub : S2 G (rI0 fun i j => .int (i - j)) dSub := s2_I0 fun _ _ _ => .int _
theorem s2_mod : S2 G (rI (fun _ j => 0 < j) fun i j => .int (i % j)) dMod := s2_I fun _ _ _ => .int _
theorem s2_div : S2 G (rI CDivW fun i j => .int (i / j)) dDiv := s2_I fun _ _ _ => .int _
theorem s2_xor : S2 G (rI0 fun i j => .int (Builtin.bitXor i j)) dXor := s2_I0 fun _ _ _ => .int _
theorem s2_shl : S2 G (rI CPow fun i j => .int (i * 2 ^ j.toNat)) dShl := s2_I fun _ _ _ => .int _
theorem s2_shr : S2 G (rI (fun _ j => 0 ≤ j) fun i j => .int (i / 2 ^ j.toNat)) dShr := s2_I fun _ _ _ => .int _
theorem okS_rep {z : Str} {k : Int} (h : okS z) (h1 : 1 ≤ z.length) (h2 : z.length ≤ 1000) (h3 : k ≤ 1000) : okS (Ow.repS z k) := by
  have e : ∀ (n : Nat) (acc : Array Nat), ((List.replicate n z.cps).foldl (· ++ ·) acc).size = acc.size + n * z.length ∧ (acc.all (· < 0x110000) = true → ((List.replicate n z.cps).foldl (· ++ ·) acc).all (· < 0x110000) = true) := by
    intro n
    induction n with
    | zero => intro acc; simp
    | succ n ih =>
      intro acc
      rw [List.replicate_succ, List.foldl_cons]
      obtain ⟨a1, a2⟩ := ih (acc ++ z.cps)
      refine ⟨?_, fun ha => a2 ?_⟩
      · rw [a1, Array.size_append, Nat.succ_mul]
        show acc.size + z.length + n * z.length = _
        omega
      · rw [Array.all_append, ha]
        exact h.2
  obtain ⟨a1, a2⟩ := e k.toNat #[]
  refine ⟨?_, a2 (by simp)⟩
  show ((List.replicate k.toNat z.cps).foldl (· ++ ·) #[]).size ≤ _
  rw [a1]
  have : k.toNat * z.length ≤ 1000 * 1000 := Nat.mul_le_mul (by omega) h2
  simp
  omega
theorem s2_mul : S2 G (rMulW G.K) dMul := by
  intro x y d e H S Q R hx hy s h k
  unfold dMul at h
  split at h
  · cases im_int hx; cases im_int hy
    exact .inl <| .inl <| .inl ⟨_, _, rfl, rfl, h.1, k _ _ H S (.int _) s .refl h.2⟩
  · cases im_int hy
    obtain ⟨a, vs, rfl, h1, i1⟩ := im_tup hx
    obtain ⟨c1, c2, c3, c4, q⟩ := h
    have hl := i1.length
    have vne : vs ≠ [] := fun z => by
      subst z
      cases i1
      exact c1 rfl
    rename_i ki
    by_cases k2 : 2 ≤ ki
    · refine .inr <| .inr <| .inr ⟨a, _, vs, rfl, rfl, SqT.of h1, vne, k2, c3, by omega, fun p hp => ?_⟩
      obtain ⟨a1, a2, a3⟩ := new_tup s hp (i1.repL _)
      exact k _ _ _ S a1 a2 a3 q
    · by_cases k1 : ki = 1
      · subst k1
        refine .inr <| .inr <| .inl ⟨a, vs, rfl, rfl, SqT.of h1, ?_⟩
        have e : (List.replicate (Int.toNat 1) ‹List D›).flatten = ‹List D› := by simp
        rw [e] at q
        exact k _ _ H S (.tup h1 i1) s .refl q
      · refine .inr <| .inl ⟨a, ki, vs, rfl, rfl, SqT.of h1, vne, c2, by omega, fun p hp => ?_⟩
        obtain ⟨a1, a2, a3⟩ := new_tup s hp (xs := []) (ds := []) .nil
        have e : ki.toNat = 0 := by omega
        rw [e] at q
        exact k _ _ _ S a1 a2 a3 q
  · cases im_int hy
    obtain ⟨rfl, o⟩ := im_str hx
    obtain ⟨c1, c2, c3, c4, q⟩ := h
    exact .inl <| .inr ⟨_, _, rfl, rfl, c1, c2, c3, c4, k _ _ H S (.str _ (okS_rep o c3 c4 c2)) s .refl q⟩
  · cases im_int hy; cases im_ref hx
    obtain ⟨xs, h1, c1, c2, c3, q⟩ := atL_of h
    obtain ⟨vs, e1, i1⟩ := s.ob _ _ h1
    have hl := i1.length
    refine .inl <| .inl <| .inr (.inr ⟨_, _, vs, rfl, rfl, e1, by omega, by omega, by rw [hl]; exact le_line c3, fun p hp => ?_⟩)
    obtain ⟨a1, a2, a3⟩ := new_lst s hp (i1.repL _)
    exact k _ _ _ _ (.ref p) a2 a3 (q p a1)
  · exact h.elim
theorem s2_cmp {r : R2} {p : Int → Int → Bool} {q : Str → Str → Bool} (h1 : ∀ i j H (Q : VK), Q (.bl (p i j)) H → r (.int i) (.int j) H Q) (h2 : ∀ i j H (Q : VK), Q (.bl (q i j)) H → r (.str i) (.str j) H Q) : S2 G r (dCmp p q) := by
  intro x y d e H S Q R hx hy s h k
  unfold dCmp at h
  split at h
  · cases im_int hx; cases im_int hy
    exact h1 _ _ _ _ (k _ _ H S (.bl _) s .refl h)
  · obtain ⟨rfl, o1⟩ := im_str hx
    obtain ⟨rfl, o2⟩ := im_str hy
    exact h2 _ _ _ _ (k _ _ H S (.bl _) s .refl h)
  · exact h.elim
def rLtV : R2 := fun x y H Q => rI0 (fun i j => .bl (decide (i < j))) x y H Q ∨ ∃ i j, x = .str i ∧ y = .str j ∧ Q (.bl (decide (i.cps.toList < j.cps.toList))) H
theorem opV_lt {X : Cx} : OpR X (compareOp .Lt) rLtV := op_lt.or op_lt_str
def rGeV : R2 := fun x y H Q => rI0 (fun i j => .bl (decide (j ≤ i))) x y H Q ∨ ∃ i j, x = .str i ∧ y = .str j ∧ Q (.bl (!decide (i.cps.toList < j.cps.toList))) H
theorem opV_ge {X : Cx} : OpR X (compareOp .GtE) rGeV := op_ge.or op_ge_str
def rGtV : R2 := fun x y H Q => rI0 (fun i j => .bl (decide (j < i))) x y H Q ∨ ∃ i j, x = .str i ∧ y = .str j ∧ Q (.bl (decide (j.cps.toList < i.cps.toList))) H
theorem opV_gt {X : Cx} : OpR X (compareOp .Gt) rGtV := op_gt.or op_gt_str
theorem s2_le : S2 G Ow.rLeU dLe := s2_cmp (fun i j H Q q => .inl ⟨i, j, rfl, rfl, q⟩) fun i j H Q q => .inr ⟨i, j, rfl, rfl, q⟩
theorem s2_lt : S2 G rLtV dLt := s2_cmp (fun i j H Q q => .inl ⟨i, j, rfl, rfl, q⟩) fun i j H Q q => .inr ⟨i, j, rfl, rfl, q⟩
theorem s2_ge : S2 G rGeV dGe := s2_cmp (fun i j H Q q => .inl ⟨i, j, rfl, rfl, q⟩) fun i j H Q q => .inr ⟨i, j, rfl, rfl, q⟩
theorem s2_gt : S2 G rGtV dGt := s2_cmp (fun i j H Q q => .inl ⟨i, j, rfl, rfl, q⟩) fun i j H Q q => .inr ⟨i, j, rfl, rfl, q⟩

/-! equality -/
mutual
theorem dp_of : ∀ (n : Nat) (d : D) (v : V), dat n d = true → Im G H v d → Dp G.K H v (py d) ∧ (py d).canLay0 = true ∧ (py d).depth ≤ n + 1
  | _, .non, _, _, h => by cases h; exact ⟨.non, by simp [py, PyData.canLay0], by simp [py, PyData.depth]⟩
  | _, .bl b, _, _, h => by cases h; exact ⟨.bl b, by simp [py, PyData.canLay0], by simp [py, PyData.depth]⟩
  | _, .int i, _, _, h => by cases h; exact ⟨.int i, by simp [py, PyData.canLay0], by simp [py, PyData.depth]⟩
  | _, .str x, _, _, h => by
    obtain ⟨rfl, o⟩ := im_str h
    exact ⟨.str x, by simp [py, PyData.canLay0, o.2], by simp [py, PyData.depth]⟩
  | 0, .tup ds, _, z, _ => by simp [dat] at z
  | n + 1, .tup ds, _, z, h => by
    rw [dat, Bool.and_eq_true] at z
    replace z := z.2
    obtain ⟨a, xs, rfl, h1, h2⟩ := im_seq (.inl h)
    obtain ⟨k1, k2, k3⟩ := dps_of n ds xs z h2
    exact ⟨by rw [py]; exact .tup h1 k1, by rw [py, PyData.canLay0]; exact k2, by rw [py, PyData.depth]; omega⟩
  | n, .ctup a, _, z, _ => by cases n <;> simp [dat] at z
  | n, .ref a, _, z, _ => by cases n <;> simp [dat] at z
  | n, .scr, _, z, _ => by cases n <;> simp [dat] at z
  | n, .ty t, _, z, _ => by cases n <;> simp [dat] at z
theorem dps_of : ∀ (n : Nat) (ds : List D) (vs : List V), dats n ds = true → ImAll G H vs ds → DpAll G.K H vs (pys ds) ∧ PyData.canLayAll0 (pys ds) = true ∧ PyData.depthAll (pys ds) ≤ n + 1
  | _, [], _, _, h => by cases h; exact ⟨.nil, by simp [pys, PyData.canLayAll0], by simp [pys, PyData.depthAll]⟩
  | n, d :: ds, _, z, h => by
    rw [dats, Bool.and_eq_true] at z
    cases h with
    | cons h1 h2 =>
      obtain ⟨a1, a2, a3⟩ := dp_of n d _ z.1 h1
      obtain ⟨b1, b2, b3⟩ := dps_of n ds _ z.2 h2
      refine ⟨by rw [pys]; exact .cons a1 b1, by rw [pys, PyData.canLayAll0, a2, b2]; rfl, by rw [pys, PyData.depthAll]; omega⟩
end
theorem dpC_of {n : Nat} {d : D} {v : V} (h : dat n (unC d) = true) (i : Im G H v d) : Dp G.K H v (py d) ∧ (py d).canLay0 = true ∧ (py d).depth ≤ n + 1 := by
  cases d with
  | ctup ds =>
    cases n with
    | zero => simp [unC, dat] at h
    | succ n =>
      rw [unC, dat, Bool.and_eq_true] at h
      obtain ⟨a, xs, rfl, h1, h2⟩ := im_seq (.inr i)
      obtain ⟨k1, k2, k3⟩ := dps_of n ds xs h.2 h2
      exact ⟨by rw [py]; exact .tup h1 k1, by rw [py, PyData.canLay0]; exact k2, by rw [py, PyData.depth]; omega⟩
  | _ => exact dp_of n _ v h i
theorem shaped_of {d : PyData} (h : d.canLay0 = true) (k : d.depth ≤ 64) : SeqAt.shaped d = true := by
  show (d.canLay0 && decide (d.depth ≤ 64)) = true
  rw [h, decide_eq_true k]; rfl
theorem s2_eq : S2 G (Ow.rEqU G.K) dEq := by
  intro x y d e H S Q R hx hy s ⟨h1, h2, h⟩ k
  obtain ⟨a1, a2, a3⟩ := dpC_of h1 hx
  obtain ⟨b1, b2, b3⟩ := dpC_of h2 hy
  exact .inr ⟨py d, py e, a1, b1, shaped_of a2 (by omega), shaped_of b2 (by omega), k _ _ H S (.bl _) s .refl h⟩
theorem s2_ne : S2 G (Ow.rNeU G.K) dNe := by
  intro x y d e H S Q R hx hy s ⟨h1, h2, h⟩ k
  obtain ⟨a1, a2, a3⟩ := dpC_of h1 hx
  obtain ⟨b1, b2, b3⟩ := dpC_of h2 hy
  exact .inr ⟨py d, py e, a1, b1, shaped_of a2 (by omega), shaped_of b2 (by omega), k _ _ H S (.bl _) s .refl h⟩
/-! in, not in -/
def rInV (K : PySem.W.Frag) : R2 := fun x y H Q => rInD K x y H Q ∨ rIn K false x y H Q
theorem opV_in {X : Cx} (hu : X.A.units + 65 < cLine) : OpR X (compareOp .In) (rInV X.K) := (op_inD hu).or op_in_seq
def rNotInV (K : PySem.W.Frag) : R2 := fun x y H Q => rNotInD K x y H Q ∨ rIn K true x y H Q
theorem opV_notin {X : Cx} (hu : X.A.units + 65 < cLine) : OpR X (compareOp .NotIn) (rNotInV X.K) := (op_notInD hu).or op_notIn_seq
theorem flat_im {d : D} {v : V} (h : flatD d = true) (i : Im G H v d) : flatV v = true := by
  cases d <;> first | (cases i; rfl) | cases h
theorem flats_im : ∀ {ds : List D} {vs : List V}, ds.all flatD = true → ImAll G H vs ds → vs.all flatV = true
  | _, _, _, .nil => rfl
  | _, _, h, .cons h1 h2 => by
    rw [List.all_cons, Bool.and_eq_true] at h
    rw [List.all_cons, flat_im h.1 h1, flats_im h.2 h2]; rfl
theorem eqV_im {d e : D} {v w : V} (hd : flatD d = true) (he : flatD e = true) (i : Im G H v d) (j : Im G H w e) : eqV v w = eqD d e := by
  cases d <;> first | cases hd | skip
  all_goals cases e <;> first | cases he | skip
  all_goals cases i <;> cases j <;> simp [eqV, eqD, py, PyData.eqv]
theorem any_im {x : D} {v : V} (hx : flatD x = true) (i : Im G H v x) : ∀ {ds : List D} {vs : List V}, ds.all flatD = true → ImAll G H vs ds → inV v vs = ds.any fun z => eqD z x
  | _, _, _, .nil => rfl
  | _, _, h, .cons h1 h2 => by
    rw [List.all_cons, Bool.and_eq_true] at h
    rw [List.any_cons, ← any_im hx i h.2 h2, ← eqV_im h.1 hx h1 i]
    rfl
theorem pys_map : ∀ ds : List D, pys ds = ds.map py
  | [] => rfl
  | d :: ds => by rw [pys, pys_map ds]; rfl
theorem any_py (x : D) (ds : List D) : ((pys ds).any fun z => PyData.eqv z (py x)) = ds.any fun z => eqD z x := by
  rw [pys_map, List.any_map]
  rfl
theorem s2_inB {neg : Bool} {r : R2} (h1 : ∀ x y d ds H (Q : VK), Dp G.K H x d → Dp G.K H y (.list ds) → SeqAt.shaped d = true → SeqAt.shaped (.list ds) = true → Q (.bl (if neg then !(ds.any fun z => PyData.eqv z d) else ds.any fun z => PyData.eqv z d)) H → r x y H Q)
    (h2 : ∀ x y H (Q : VK), rIn G.K neg x y H Q → r x y H Q) : S2 G r (dIn neg) := by
  intro x y d e H S Q R hx hy s h k
  unfold dIn at h
  have seq : ∀ {ds : List D}, Im G H y (.tup ds) ∨ Im G H y (.ctup ds) → flatD d = true ∧ ds.all flatD = true ∧ Q (.bl (if neg then !ds.any fun z => eqD z d else ds.any fun z => eqD z d)) S → r x y H R := by
    intro ds hy ⟨c1, c2, q⟩
    obtain ⟨a, vs, rfl, e1, i1⟩ := im_seq hy
    refine h2 _ _ _ _ ⟨a, vs, rfl, .inr e1, flat_im c1 hx, flats_im c2 i1, ?_⟩
    rw [any_im c1 hx c2 i1]
    exact k _ _ H S (.bl _) s .refl q
  split at h
  · exact seq (.inl hy) h
  · exact seq (.inr hy) h
  · cases im_ref hy
    obtain ⟨ds, e1, c1, c2, q⟩ := atL_of h
    obtain ⟨vs, hv, i1⟩ := s.ob _ _ e1
    obtain ⟨a1, a2, a3⟩ := dp_of 60 d x c1 hx
    obtain ⟨b1, b2, b3⟩ := dps_of 60 ds vs c2 i1
    refine h1 _ _ _ _ _ _ a1 (.lst (SqL.of hv) b1) (shaped_of a2 (by omega)) (shaped_of (by rw [PyData.canLay0]; exact b2) (by rw [PyData.depth]; omega)) ?_
    rw [any_py]
    exact k _ _ H S (.bl _) s .refl q
  · exact h.elim
theorem s2_in : S2 G (rInV G.K) (dIn false) := s2_inB (fun x y d ds H Q a b c e q => .inl ⟨d, ds, a, b, c, e, q⟩) fun x y H Q q => .inr q
theorem s2_notin : S2 G (rNotInV G.K) (dIn true) := s2_inB (fun x y d ds H Q a b c e q => .inl ⟨d, ds, a, b, c, e, q⟩) fun x y H Q q => .inr q
theorem isNon_im {d : D} {v : V} (i : Im G H v d) : decide (v = .non) = isNon d := by
  cases i <;> simp [isNon]
theorem s2_isN : S2 G (fun x y H Q => y = .non ∧ Q (.bl (decide (x = .non))) H) (dIsN false) := by
  intro x y d e H S Q R hx hy s h k
  unfold dIsN at h
  split at h
  · cases im_non hy
    refine ⟨rfl, ?_⟩
    rw [isNon_im hx]
    exact k _ _ H S (.bl _) s .refl h
  · exact h.elim
theorem s2_notN : S2 G (fun x y H Q => y = .non ∧ Q (.bl (!decide (x = .non))) H) (dIsN true) := by
  intro x y d e H S Q R hx hy s h k
  unfold dIsN at h
  split at h
  · cases im_non hy
    refine ⟨rfl, ?_⟩
    rw [isNon_im hx]
    exact k _ _ H S (.bl _) s .refl h
  · exact h.elim
/-! places -/
theorem at_im {ds : List D} {vs : List V} {i : Int} {d : D} (h : ImAll G H vs ds) (e : atI ds i = some d) : ∃ v, atI vs i = some v ∧ Im G H v d := by
  unfold atI at e ⊢
  rw [h.length]
  cases q : ixN ds.length i with
  | none => rw [q] at e; cases e
  | some j =>
    rw [q] at e
    exact h.getD e
theorem okS_sign {z : Str} {c : Nat} (h : okS z) (hc : c ∈ z.cps.toList) : okS ⟨#[c]⟩ := by
  refine ⟨by show 1 ≤ 1000000; decide, ?_⟩
  have := h.2
  unfold PyData.strOk at this ⊢
  rw [Array.all_eq_true] at this
  simp only [List.size_toArray]
  obtain ⟨i, hi, e⟩ := List.getElem_of_mem hc
  have h1 := this i (by simpa using hi)
  have h2 : z.cps[i]'(by simpa using hi) = c := by simpa using e
  rw [h2] at h1
  simpa using h1
theorem atI_mem {α : Type} {xs : List α} {i : Int} {c : α} (h : atI xs i = some c) : c ∈ xs := by
  obtain ⟨j, _, h2, _⟩ := atI_get h
  exact List.mem_of_getElem? h2
theorem s2_ix : S2 G (rIx G.K) dIx := by
  intro x y d e H S Q R hx hy s h k
  unfold dIx at h
  split at h
  · cases im_int hy
    split at h
    · split at h
      · rename_i ds _ c hc
        obtain ⟨a, vs, rfl, e1, i1⟩ := im_seq (.inl hx)
        obtain ⟨v, hv, iv⟩ := at_im i1 hc
        exact .inr (.inl ⟨a, vs, _, v, rfl, rfl, e1, hv, k v c H S iv s .refl h⟩)
      · exact h.elim
    · split at h
      · rename_i ds _ c hc
        obtain ⟨a, vs, rfl, e1, i1⟩ := im_seq (.inr hx)
        obtain ⟨v, hv, iv⟩ := at_im i1 hc
        exact .inr (.inl ⟨a, vs, _, v, rfl, rfl, e1, hv, k v c H S iv s .refl h⟩)
      · exact h.elim
    · split at h
      · rename_i z _ c hc
        obtain ⟨rfl, o⟩ := im_str hx
        exact .inr (.inr ⟨z, _, c, rfl, rfl, le_line o.1, hc, k _ _ H S (.str _ (okS_sign o (atI_mem hc))) s .refl h⟩)
      · exact h.elim
    · cases im_ref hx
      obtain ⟨ds, e1, q⟩ := atL_of h
      obtain ⟨vs, hv, i1⟩ := s.ob _ _ e1
      split at q
      · rename_i c hc
        obtain ⟨v, hv2, iv⟩ := at_im i1 hc
        exact .inl ⟨_, vs, _, v, rfl, rfl, SqL.of hv, hv2, k v c H S iv s .refl q⟩
      · exact q.elim
    · exact h.elim
  · exact h.elim
theorem s1_neg : S1 G (rU fun i => .int (-i)) dNeg := by
  intro x d H S Q R hx s h k
  unfold dNeg at h
  split at h
  · cases im_int hx
    exact ⟨_, rfl, k _ _ H S (.int _) s .refl h⟩
  · exact h.elim
/-! builtins -/
theorem ia1 {vs : List V} {d : D} (h : ImAll G H vs [d]) : ∃ v, vs = [v] ∧ Im G H v d := by
  cases h with
  | cons h1 h2 => cases h2; exact ⟨_, rfl, h1⟩
theorem ia2 {vs : List V} {d e : D} (h : ImAll G H vs [d, e]) : ∃ v w, vs = [v, w] ∧ Im G H v d ∧ Im G H w e := by
  cases h with
  | cons h1 h2 =>
    obtain ⟨w, rfl, h3⟩ := ia1 h2
    exact ⟨_, w, rfl, h1, h3⟩
theorem sl_len : SL G (Ow.rLenU G.K) dLen := by
  intro xs ds H S Q R hx s h k
  unfold dLen at h
  split at h
  · obtain ⟨v, rfl, i⟩ := ia1 hx
    obtain ⟨rfl, o⟩ := im_str i
    exact ⟨_, _, rfl, ⟨le_line o.1, rfl⟩, k _ _ H S (.int _) s .refl h⟩
  · obtain ⟨v, rfl, i⟩ := ia1 hx
    obtain ⟨a, vs, rfl, e1, i1⟩ := im_seq (.inl i)
    exact ⟨_, _, rfl, .inr ⟨vs, e1, rfl⟩, by rw [i1.length]; exact k _ _ H S (.int _) s .refl h⟩
  · obtain ⟨v, rfl, i⟩ := ia1 hx
    obtain ⟨a, vs, rfl, e1, i1⟩ := im_seq (.inr i)
    exact ⟨_, _, rfl, .inr ⟨vs, e1, rfl⟩, by rw [i1.length]; exact k _ _ H S (.int _) s .refl h⟩
  · obtain ⟨v, rfl, i⟩ := ia1 hx
    cases im_ref i
    obtain ⟨ds, e1, q⟩ := atL_of h
    obtain ⟨vs, hv, i1⟩ := s.ob _ _ e1
    exact ⟨_, _, rfl, .inl ⟨vs, SqL.of hv, rfl⟩, by rw [i1.length]; exact k _ _ H S (.int _) s .refl q⟩
  · exact h.elim
theorem sl_list : SL G (Ow.rListU G.K) dList := by
  intro xs ds H S Q R hx s h k
  unfold dList at h
  split at h
  · obtain ⟨v, rfl, i⟩ := ia1 hx
    cases im_ref i
    obtain ⟨ds, e1, q⟩ := atL_of h
    obtain ⟨vs, hv, i1⟩ := s.ob _ _ e1
    refine ⟨_, vs, rfl, .inl (SqL.of hv), fun l hl => ?_⟩
    obtain ⟨a1, a2, a3⟩ := new_lst s hl i1
    exact k _ _ _ _ (.ref l) a2 a3 (q l a1)
  · obtain ⟨v, rfl, i⟩ := ia1 hx
    obtain ⟨a, vs, rfl, e1, i1⟩ := im_seq (.inl i)
    refine ⟨_, vs, rfl, .inr e1, fun l hl => ?_⟩
    obtain ⟨a1, a2, a3⟩ := new_lst s hl i1
    exact k _ _ _ _ (.ref l) a2 a3 (h l a1)
  · obtain ⟨v, rfl, i⟩ := ia1 hx
    obtain ⟨a, vs, rfl, e1, i1⟩ := im_seq (.inr i)
    refine ⟨_, vs, rfl, .inr e1, fun l hl => ?_⟩
    obtain ⟨a1, a2, a3⟩ := new_lst s hl i1
    exact k _ _ _ _ (.ref l) a2 a3 (h l a1)
  · exact h.elim
theorem sl_tuple : SL G (Ow.rTupleU G.K) dTuple := by
  intro xs ds H S Q R hx s h k
  unfold dTuple at h
  split at h
  · obtain ⟨v, rfl, i⟩ := ia1 hx
    cases im_ref i
    obtain ⟨ds, e1, q⟩ := atL_of h
    obtain ⟨vs, hv, i1⟩ := s.ob _ _ e1
    refine ⟨_, vs, rfl, .inl ⟨SqL.of hv, fun l hl => ?_⟩⟩
    obtain ⟨a1, a2, a3⟩ := new_tup s hl i1
    exact k _ _ _ S a1 a2 a3 q
  · obtain ⟨v, rfl, i⟩ := ia1 hx
    have i' := i
    obtain ⟨a, vs, rfl, e1, i1⟩ := im_seq (.inl i)
    exact ⟨_, vs, rfl, .inr ⟨e1, k _ _ H S i' s .refl h⟩⟩
  · obtain ⟨v, rfl, i⟩ := ia1 hx
    have i' := i
    obtain ⟨a, vs, rfl, e1, i1⟩ := im_seq (.inr i)
    exact ⟨_, vs, rfl, .inr ⟨e1, k _ _ H S i' s .refl h⟩⟩
  · exact h.elim
theorem sl_int : SL G Ow.rIntU dInt := by
  intro xs ds H S Q R hx s h k
  unfold dInt at h
  split at h
  · obtain ⟨v, rfl, i⟩ := ia1 hx
    cases im_int i
    exact .inl ⟨_, rfl, k _ _ H S (.int _) s .refl h⟩
  · obtain ⟨v, rfl, i⟩ := ia1 hx
    cases im_bl i
    exact .inr ⟨_, rfl, k _ _ H S (.int _) s .refl h⟩
  · exact h.elim
theorem ty_im {S : Sto} {d : D} {v : V} {n : String} (s : Sim G S H) (i : Im G H v d) (e : tyD S d = some n) : TyX G.K H v (.type n) ∧ n ∈ tyNames := by
  cases i with
  | non => cases e; exact ⟨.base .non, by decide⟩
  | bl b => cases e; exact ⟨.base (.bl b), by decide⟩
  | int i => cases e; exact ⟨.base (.int i), by decide⟩
  | str x _ => cases e; exact ⟨.base (.str x), by decide⟩
  | tup h1 _ => cases e; exact ⟨.base (.tup h1), by decide⟩
  | ctup _ h2 h3 _ _ => cases e; exact ⟨.kTuple h2 h3, by decide⟩
  | ref a =>
    simp only [tyD] at e
    split at e
    · rename_i ds hs
      cases e
      obtain ⟨vs, hv, _⟩ := s.ob _ _ hs
      exact ⟨.base (.lst hv), by decide⟩
    · rename_i ds hs
      cases e
      obtain ⟨vs, hv, _⟩ := s.ob _ _ hs
      exact ⟨.base (.dK hv), by decide⟩
    · rename_i ds hs
      cases e
      obtain ⟨vs, hv, _⟩ := s.ob _ _ hs
      exact ⟨.base (.dT hv), by decide⟩
    · cases e
  | scr => cases e
  | ty n => cases e
theorem kit_tab {n T : String} (h1 : n ∈ tyNames) (h2 : T ∈ ["int", "bool", "str", "tuple", "list", "dict"]) : kitB n T = some (isTy n T) := by
  simp only [tyNames, List.mem_cons, List.not_mem_nil, or_false] at h1 h2
  rcases h1 with rfl | rfl | rfl | rfl | rfl | rfl | rfl <;> rcases h2 with rfl | rfl | rfl | rfl | rfl | rfl <;> rfl
theorem sl_isi : SL G (rIsi G.K) dIsi := by
  intro xs ds H S Q R hx s h k
  unfold dIsi at h
  split at h
  · obtain ⟨v, w, rfl, i, j⟩ := ia2 hx
    cases im_ty j
    split at h
    · rename_i n hn
      obtain ⟨t, m⟩ := ty_im s i hn
      exact ⟨v, _, _, _, _, rfl, .ty _, t, kit_ty (kit_tab m (tyKn_mem h.1)), k _ _ H S (.bl _) s .refl h.2⟩
    · exact h.elim
  · exact h.elim
theorem im_bls : ∀ {bs : List Bool} {vs : List V}, ImAll G H vs (bs.map D.bl) → vs = bs.map V.bl
  | [], _, h => by cases h; rfl
  | b :: bs, _, h => by
    cases h with
    | cons h1 h2 => cases im_bl h1; rw [im_bls h2]; rfl
theorem bls_of : ∀ {ds : List D}, ds.all isBl = true → ∃ bs : List Bool, ds = bs.map D.bl
  | [], _ => ⟨[], rfl⟩
  | d :: ds, h => by
    rw [List.all_cons, Bool.and_eq_true] at h
    obtain ⟨bs, rfl⟩ := bls_of h.2
    cases d <;> first | exact ⟨_ :: bs, rfl⟩ | cases h.1
theorem all_bls : ∀ bs : List Bool, (bs.map D.bl).all isTr = bs.all id
  | [] => rfl
  | b :: bs => by
    rw [List.map_cons, List.all_cons, List.all_cons, all_bls bs]
    cases b <;> rfl
theorem sl_all : SL G (rAll G.K) dAll := by
  intro xs ds H S Q R hx s h k
  unfold dAll at h
  split at h
  · obtain ⟨v, rfl, i⟩ := ia1 hx
    cases im_ref i
    obtain ⟨ds, e1, c1, q⟩ := atL_of h
    obtain ⟨bs, rfl⟩ := bls_of c1
    obtain ⟨vs, hv, i1⟩ := s.ob _ _ e1
    cases im_bls i1
    rw [all_bls] at q
    exact ⟨_, bs, rfl, SqL.of hv, k _ _ H S (.bl _) s .refl q⟩
  · exact h.elim
/-! slices -/
abbrev DO := DV → Sto → (Option Int → Sto → Prop) → Prop
def oNone : DO := fun _ S Q => Q none S
def oSome (a : DE) : DO := fun δ S Q => a δ S fun x S1 => match x with | .int i => Q (some i) S1 | _ => False
def SO (G : Gm) (N : En) (t : TO) (f : DO) : Prop := ∀ (σ : L2.St) (δ : DV) (H : Hp) (S : Sto) (Q : Option Int → Sto → Prop) (R : Option Int → Hp → Prop), Rel G N σ δ S H → f δ S Q → (∀ b H' S', Rel G N σ δ S' H' → Up S S' H H' → Q b S' → R b H') → t σ H R
def cutD (xs : List D) (lo hi : Option Int) : List D := (xs.drop (HT.sIx xs.length 0 lo)).take (HT.sIx xs.length xs.length hi - HT.sIx xs.length 0 lo)
def dSl (x : D) (lo hi : Option Int) : Sto → DK → Prop := fun S Q => match x with
  | .tup ds => Q (.tup (cutD ds lo hi)) S
  | .ref a => atL S a fun ds => ∀ p, S p = none → Q (.ref p) (sup S p (.lst (cutD ds lo hi)))
  | _ => False
def eSl (a : DE) (l u : DO) : DE := fun δ S Q => a δ S fun x S1 => l δ S1 fun lo S2 => u δ S2 fun hi S3 => dSl x lo hi S3 Q
theorem so_none {N : En} : SO G N tNoPart oNone := fun σ δ H S Q R rl h k => k none H S rl .refl h
theorem so_some {N : En} {ta : TE} {fa : DE} (ha : SE G N ta fa) : SO G N (tPart ta) (oSome fa) := by
  intro σ δ H S Q R rl h k
  refine ha σ δ H S _ _ rl h fun x d H1 S1 i1 r1 u1 q1 => ?_
  cases d <;> first | exact q1.elim | skip
  exact ⟨_, im_int i1, k _ H1 S1 r1 u1 q1⟩
theorem cut_im {xs : List V} {ds : List D} (h : ImAll G H xs ds) (lo hi : Option Int) : ImAll G H (cutV xs lo hi) (cutD ds lo hi) := by
  unfold cutV cutD
  rw [h.length]
  exact (h.drop _).take _
theorem cut_whole {xs : List D} {lo hi : Option Int} (h : HT.sIx xs.length 0 lo = 0 ∧ HT.sIx xs.length xs.length hi = xs.length) : cutD xs lo hi = xs := by
  unfold cutD
  rw [h.1, h.2]
  simp
theorem se_sl {N : En} {ta : TE} {fa : DE} {tl tu : TO} {fl fu : DO} (ha : SE G N ta fa) (hl : SO G N tl fl) (hu : SO G N tu fu) : SE G N (tSl (Ow.rSlU G.K) ta tl tu) (eSl fa fl fu) := by
  intro σ δ H S Q R rl h k
  refine ha σ δ H S _ _ rl h fun x d H1 S1 i1 r1 u1 q1 => ?_
  refine hl σ δ H1 S1 _ _ r1 q1 fun lo H2 S2 r2 u2 q2 => ?_
  refine hu σ δ H2 S2 _ _ r2 q2 fun hi H3 S3 r3 u3 q3 => ?_
  have i3 := (i1.go (u2.tu r1.sim)).go (u3.tu r2.sim)
  have uu := u1.trans (u2.trans u3)
  unfold dSl at q3
  split at q3
  · rename_i ds
    have i3' := i3
    obtain ⟨a, vs, rfl, e1, j1⟩ := im_tup i3
    refine .inr (.inl ⟨a, vs, rfl, SqT.of e1, fun z => ?_, fun z p hp => ?_⟩)
    · rw [j1.length] at z
      rw [cut_whole z] at q3
      exact k _ _ H3 S3 i3' r3 uu q3
    · obtain ⟨a1, a2, a3⟩ := new_tup r3.sim hp (cut_im j1 lo hi)
      exact k _ _ _ S3 a1 (r3.go a2 a3) (uu.trans a3) q3
  · cases im_ref i3
    obtain ⟨ds, e1, q⟩ := atL_of q3
    obtain ⟨vs, hv, j1⟩ := r3.sim.ob _ _ e1
    refine .inl ⟨_, vs, rfl, SqL.of hv, fun p hp => ?_⟩
    obtain ⟨a1, a2, a3⟩ := new_lst r3.sim hp (cut_im j1 lo hi)
    exact k _ _ _ _ (.ref p) (r3.go a2 a3) (uu.trans a3) (q p a1)
  · exact q3.elim
end
end Sd

set_option Elab.async false
set_option linter.all false
set_option maxRecDepth 100000
set_option maxHeartbeats 4000000
namespace Sd
open PySem PySem.Spec PyProof.Rows L2 GxR

/-! ### slots forgotten -/
def wipeD (δ : DV) : List Nat → DV
  | [] => δ
  | v :: vs => (wipeD δ vs).set v none
theorem wipeD_length (δ : DV) : ∀ vs : List Nat, (wipeD δ vs).length = δ.length
  | [] => rfl
  | v :: vs => by unfold wipeD; rw [List.length_set, wipeD_length δ vs]
theorem Sl.wipe {G : Gm} {H : Hp} {σ : L2.St} {δ : DV} (h : Sl G H σ δ) : ∀ vs, Sl G H (L2.wipe σ vs) (wipeD δ vs)
  | [] => h
  | v :: vs => by
    have ih := Sl.wipe h vs
    unfold L2.wipe wipeD
    refine ⟨by rw [List.length_set, List.length_set]; exact ih.len, fun j e hj => ?_⟩
    rw [List.getElem?_set] at hj ⊢
    by_cases y : v = j
    · rw [if_pos y] at hj
      split at hj <;> cases hj
    · rw [if_neg y] at hj ⊢
      exact ih.at_ j e hj
theorem wipe_set {σ : L2.St} {i : Nat} {x : Option V} : ∀ {vs : List Nat}, i ∈ vs → L2.wipe (σ.set i x) vs = L2.wipe σ vs
  | [], h => by cases h
  | v :: vs, h => by
    unfold L2.wipe
    by_cases e : i ∈ vs
    · rw [wipe_set e]
    · have hv : i = v := by
        rcases List.mem_cons.mp h with h | h
        · exact h
        · exact absurd h e
      subst hv
      have : ∀ ws : List Nat, i ∉ ws → L2.wipe (σ.set i x) ws = (L2.wipe σ ws).set i x := by
        intro ws
        induction ws with
        | nil => intro _; rfl
        | cons w ws ih =>
          intro hw
          rw [List.mem_cons, not_or] at hw
          unfold L2.wipe
          rw [ih hw.2, List.set_comm _ _ hw.1]
      rw [this vs e, List.set_set]
theorem wipeD_set {δ : DV} {i : Nat} {x : Option D} : ∀ {vs : List Nat}, i ∈ vs → wipeD (δ.set i x) vs = wipeD δ vs
  | [], h => by cases h
  | v :: vs, h => by
    unfold wipeD
    by_cases e : i ∈ vs
    · rw [wipeD_set e]
    · have hv : i = v := by
        rcases List.mem_cons.mp h with h | h
        · exact h
        · exact absurd h e
      subst hv
      have : ∀ ws : List Nat, i ∉ ws → wipeD (δ.set i x) ws = (wipeD δ ws).set i x := by
        intro ws
        induction ws with
        | nil => intro _; rfl
        | cons w ws ih =>
          intro hw
          rw [List.mem_cons, not_or] at hw
          unfold wipeD
          rw [ih hw.2, List.set_comm _ _ hw.1]
      rw [this vs e, List.set_set]
theorem wipe_wipe (σ : L2.St) : ∀ vs : List Nat, L2.wipe (L2.wipe σ vs) vs = L2.wipe σ vs := by
  have gen : ∀ ws vs : List Nat, (∀ v ∈ ws, v ∈ vs) → L2.wipe (L2.wipe σ ws) vs = L2.wipe σ vs := by
    intro ws
    induction ws with
    | nil => intro vs _; rfl
    | cons w ws ih =>
      intro vs h
      show L2.wipe ((L2.wipe σ ws).set w none) vs = _
      rw [wipe_set (h w List.mem_cons_self), ih vs fun v hv => h v (List.mem_cons_of_mem _ hv)]
  intro vs
  exact gen vs vs fun _ h => h
theorem wipeD_wipe (δ : DV) : ∀ vs : List Nat, wipeD (wipeD δ vs) vs = wipeD δ vs := by
  have gen : ∀ ws vs : List Nat, (∀ v ∈ ws, v ∈ vs) → wipeD (wipeD δ ws) vs = wipeD δ vs := by
    intro ws
    induction ws with
    | nil => intro vs _; rfl
    | cons w ws ih =>
      intro vs h
      show wipeD ((wipeD δ ws).set w none) vs = _
      rw [wipeD_set (h w List.mem_cons_self), ih vs fun v hv => h v (List.mem_cons_of_mem _ hv)]
  intro vs
  exact gen vs vs fun _ h => h

/-! ### targets -/
abbrev DG := D → DV → Sto → (DV → Sto → Prop) → Prop
abbrev DGs := List D → DV → Sto → (DV → Sto → Prop) → Prop
def SG (G : Gm) (N : En) (ws : List Nat) (t : TG) (g : DG) : Prop := ∀ (v : V) (d : D) (σ : L2.St) (δ : DV) (H : Hp) (S : Sto) (Q : DV → Sto → Prop) (R : L2.St → Hp → Prop), Rel G N σ δ S H → Im G H v d → g d δ S Q →
  (∀ σ' δ' H' S', Rel G N σ' δ' S' H' → Up S S' H H' → (∀ vs, (∀ i ∈ ws, i ∈ vs) → L2.wipe σ' vs = L2.wipe σ vs ∧ wipeD δ' vs = wipeD δ vs) → Q δ' S' → R σ' H') → t v σ H R
def SGs (G : Gm) (N : En) (ws : List Nat) (t : TGs) (g : DGs) : Prop := ∀ (v : List V) (d : List D) (σ : L2.St) (δ : DV) (H : Hp) (S : Sto) (Q : DV → Sto → Prop) (R : L2.St → Hp → Prop), Rel G N σ δ S H → ImAll G H v d → g d δ S Q →
  (∀ σ' δ' H' S', Rel G N σ' δ' S' H' → Up S S' H H' → (∀ vs, (∀ i ∈ ws, i ∈ vs) → L2.wipe σ' vs = L2.wipe σ vs ∧ wipeD δ' vs = wipeD δ vs) → Q δ' S' → R σ' H') → t v σ H R
def xName (i : Nat) : DG := fun d δ S Q => Q (δ.set i (some d)) S
def xNil : DGs := fun ds δ S Q => ds = [] ∧ Q δ S
def xCons (t : DG) (u : DGs) : DGs := fun ds δ S Q => match ds with | d :: r => t d δ S fun δ' S' => u r δ' S' Q | [] => False
def xTup (n : Nat) (t : DGs) : DG := fun d δ S Q => match d with | .tup ds => ds.length = n ∧ t ds δ S Q | .ctup ds => ds.length = n ∧ t ds δ S Q | _ => False
section
variable {G : Gm} {N : En} {ws us : List Nat}
theorem sg_name {i : Nat} : SG G N [i] (gName i) (xName i) := by
  intro v d σ δ H S Q R rl im h k
  refine k _ _ H S (rl.set i im) .refl (fun vs hv => ⟨wipe_set (hv i List.mem_cons_self), wipeD_set (hv i List.mem_cons_self)⟩) h
theorem sgs_nil : SGs G N [] gNil xNil := by
  intro v d σ δ H S Q R rl im ⟨e, h⟩ k
  subst e
  cases im
  exact ⟨rfl, k σ δ H S rl .refl (fun _ _ => ⟨rfl, rfl⟩) h⟩
theorem sgs_cons {t : TG} {g : DG} {ts : TGs} {gs : DGs} (h1 : SG G N ws t g) (h2 : SGs G N us ts gs) : SGs G N (ws ++ us) (gCons t ts) (xCons g gs) := by
  intro v d σ δ H S Q R rl im h k
  cases im with
  | nil => exact h.elim
  | @cons v vs d ds i1 i2 =>
    refine ⟨v, vs, rfl, h1 v d σ δ H S _ _ rl i1 h fun σ1 δ1 H1 S1 r1 u1 w1 q1 => ?_⟩
    refine h2 vs ds σ1 δ1 H1 S1 _ _ r1 (i2.go (u1.tu rl.sim)) q1 fun σ2 δ2 H2 S2 r2 u2 w2 q2 => ?_
    refine k _ _ H2 S2 r2 (u1.trans u2) (fun ws' hw => ?_) q2
    obtain ⟨a1, a2⟩ := w1 ws' fun i hi => hw i (List.mem_append_left _ hi)
    obtain ⟨b1, b2⟩ := w2 ws' fun i hi => hw i (List.mem_append_right _ hi)
    exact ⟨b1.trans a1, b2.trans a2⟩
theorem sg_tup {n : Nat} {ts : TGs} {gs : DGs} (h1 : SGs G N ws ts gs) : SG G N ws (gTup G.K n ts) (xTup n gs) := by
  intro v d σ δ H S Q R rl im h k
  unfold xTup at h
  split at h
  · obtain ⟨a, xs, rfl, e1, i1⟩ := im_seq (.inl im)
    exact ⟨a, xs, rfl, e1, by rw [i1.length]; exact h.1, h1 xs _ σ δ H S Q R rl i1 h.2 k⟩
  · obtain ⟨a, xs, rfl, e1, i1⟩ := im_seq (.inr im)
    exact ⟨a, xs, rfl, e1, by rw [i1.length]; exact h.1, h1 xs _ σ δ H S Q R rl i1 h.2 k⟩
  · exact h.elim
end
/-- o[i] = v of a list -/
def xSub (fo fi : DE) : DG := fun d δ S Q => fo δ S fun o S1 => fi δ S1 fun i S2 => match o, i with
  | .ref a, .int k => atL S2 a fun ds => (match ixN ds.length k with | some j => Q δ (sup S2 a (.lst (ds.set j d))) | none => False)
  | _, _ => False

/-! ### statements -/
section
variable {G : Gm} {N : En}
theorem EOk.go {S S1 : Sto} {H H1 : Hp} {D : DN} {E : Ends} (k : EOk G N S H D E) (u : Up S S1 H H1) : EOk G N S1 H1 D E :=
  ⟨fun σ δ H' S' r v => k.nx σ δ H' S' r (u.trans v), fun σ δ H' S' r v => k.bk σ δ H' S' r (u.trans v), fun σ δ H' S' r v => k.ct σ δ H' S' r (u.trans v), k.rt⟩
def sNext : DS := fun D δ S => D.nx δ S
/-- what follows, folded -/
noncomputable def NX (u : DS) (D : DN) : DV → Sto → Prop := Classical.choose (⟨_, rfl⟩ : ∃ X : DV → Sto → Prop, X = fun δ S => u D δ S)
theorem NX_eq (u : DS) (D : DN) : NX u D = fun δ S => u D δ S := Classical.choose_spec (⟨_, rfl⟩ : ∃ X : DV → Sto → Prop, X = fun δ S => u D δ S)
theorem nx_go {u : DS} {D : DN} {δ : DV} {S : Sto} (h : u D δ S) : NX u D δ S := by rw [NX_eq]; exact h
theorem nx_of {u : DS} {D : DN} {δ : DV} {S : Sto} (h : NX u D δ S) : u D δ S := by rw [NX_eq] at h; exact h
noncomputable def sSeq (t u : DS) : DS := fun D δ S => t { D with nx := NX u D } δ S
def sBreak : DS := fun D δ S => D.bk δ S
def sCont : DS := fun D δ S => D.ct δ S
def sDrop (e : DE) : DS := fun D δ S => e δ S fun _ S1 => D.nx δ S1
def sRet (e : DE) : DS := fun D δ S => e δ S D.rt
def sRetN : DS := fun D _ S => D.rt .non S
def sIf (c : DT) (t u : DS) : DS := fun D δ S => c δ S fun b S1 => br b (t D δ S1) (u D δ S1)
def sAsg (e : DE) (g : DG) : DS := fun D δ S => e δ S fun x S1 => g x δ S1 D.nx
def sAug (i : Nat) (e : DE) (r : B2) : DS := fun D δ S => match δ[i]? with | some (some x) => e δ S fun y S1 => r x y S1 fun z S2 => D.nx (δ.set i (some z)) S2 | _ => False
def sNever : DS := fun _ _ _ => False
variable {te : TE} {fe : DE} {ts us : TS} {ft fu : DS} {tc : TT} {fc : DT}
theorem ss_next : SS G N tNext sNext := fun σ δ H S D E r h k => k.nx σ δ H S r .refl h
theorem ss_seq (h1 : SS G N ts ft) (h2 : SS G N us fu) : SS G N (tSeq ts us) (sSeq ft fu) := fun σ δ H S D E r h k =>
  h1 σ δ H S _ _ r h ⟨fun σ' δ' H' S' r' u q => h2 σ' δ' H' S' D E r' (nx_of q) (k.go u), k.bk, k.ct, k.rt⟩
theorem ss_break : SS G N tBreak sBreak := fun σ δ H S D E r h k => k.bk σ δ H S r .refl h
theorem ss_cont : SS G N tCont sCont := fun σ δ H S D E r h k => k.ct σ δ H S r .refl h
theorem ss_drop (he : SE G N te fe) : SS G N (tDrop te) (sDrop fe) := fun σ δ H S D E r h k => he σ δ H S _ _ r h fun v d H' S' i r' u q => k.nx σ δ H' S' r' u q
theorem ss_ret (he : SE G N te fe) : SS G N (tRet te) (sRet fe) := fun σ δ H S D E r h k => he σ δ H S _ _ r h fun v d H' S' i r' u q => k.rt v d H' S' i r'.sim r'.up q
theorem ss_retN : SS G N tRetN sRetN := fun σ δ H S D E r h k => k.rt .non .non H S .non r.sim r.up h
theorem ss_if (hc : ST G N tc fc) (h1 : SS G N ts ft) (h2 : SS G N us fu) : SS G N (tIfS tc ts us) (sIf fc ft fu) := by
  intro σ δ H S D E r h k
  refine hc σ δ H S _ _ r h fun b H1 S1 r1 u1 q => ?_
  cases b with
  | true => rw [if_pos rfl]; exact h1 σ δ H1 S1 D E r1 (q.1 rfl) (k.go u1)
  | false => rw [if_neg Bool.false_ne_true]; exact h2 σ δ H1 S1 D E r1 (q.2 rfl) (k.go u1)
theorem ss_asg {ws : List Nat} {tg : TG} {g : DG} (he : SE G N te fe) (hg : SG G N ws tg g) : SS G N (tAsg te tg) (sAsg fe g) := by
  intro σ δ H S D E r h k
  refine he σ δ H S _ _ r h fun v d H1 S1 i1 r1 u1 q1 => ?_
  exact hg v d σ δ H1 S1 _ _ r1 i1 q1 fun σ2 δ2 H2 S2 r2 u2 _ q2 => k.nx σ2 δ2 H2 S2 r2 (u1.trans u2) q2
theorem ss_aug {i : Nat} {tip : TIp} {rd : B2} (ho : S2 G tip rd) (he : SE G N te fe) : SS G N (tAug i te tip) (sAug i fe rd) := by
  intro σ δ H S D E r h k
  unfold sAug at h
  split at h
  · rename_i x e
    obtain ⟨v, hv, iv⟩ := r.sl.at_ i x e
    refine ⟨v, hv, he σ δ H S _ _ r h fun w d H1 S1 i1 r1 u1 q1 => ?_⟩
    exact ho v w x d H1 S1 _ _ (iv.go (u1.tu r.sim)) i1 r1.sim q1 fun z d2 H2 S2 i2 s2 u2 q2 => k.nx _ _ H2 S2 ((r1.go s2 u2).set i i2) (u1.trans u2) q2
  · exact h.elim
theorem s2_ipadd : S2 G (ipI fun i j => i + j) (dI (fun _ _ => True) fun i j => .int (i + j)) := by
  intro x y d e H S Q R hx hy s h k
  unfold dI at h
  split at h
  · cases im_int hx; cases im_int hy
    exact ⟨_, _, rfl, rfl, k _ _ H S (.int _) s .refl h.2⟩
  · exact h.elim
theorem s2_ipsub : S2 G (ipI fun i j => i - j) (dI (fun _ _ => True) fun i j => .int (i - j)) := by
  intro x y d e H S Q R hx hy s h k
  unfold dI at h
  split at h
  · cases im_int hx; cases im_int hy
    exact ⟨_, _, rfl, rfl, k _ _ H S (.int _) s .refl h.2⟩
  · exact h.elim
theorem ss_never : SS G N tNever sNever := fun _ _ _ _ _ _ _ h _ => h.elim
theorem sg_sub {to ti : TE} {fo fi : DE} (ho : SE G N to fo) (hi : SE G N ti fi) : SG G N [] (gSub to ti rSetL) (xSub fo fi) := by
  intro v d σ δ H S Q R rl im h k
  refine ho σ δ H S _ _ rl h fun o o' H1 S1 i1 r1 u1 q1 => ?_
  refine hi σ δ H1 S1 _ _ r1 q1 fun i i' H2 S2 i2 r2 u2 q2 => ?_
  have io := i1.go (u2.tu r1.sim)
  split at q2
  · rename_i a k'
    cases im_ref io
    cases im_int i2
    obtain ⟨ds, e1, q⟩ := atL_of q2
    obtain ⟨xs, hx, ix⟩ := r2.sim.ob _ _ e1
    split at q
    · rename_i j hj
      have i3 := (im.go (u1.tu rl.sim)).go (u2.tu r1.sim)
      have t : Tu H2 (upd H2 a (.lst (xs.set j v))) := fun b ys hb => by rw [upd_ne (fun y => by rw [y, hx] at hb; cases hb)]; exact hb
      obtain ⟨s3, u3⟩ := r2.sim.put (o := .lst (ds.set j d)) (ho := .lst (xs.set j v)) e1 (by simp) rfl ⟨_, upd_same, (ix.set j i3).go t⟩
      exact ⟨a, xs, k', j, rfl, rfl, hx, by rw [ix.length]; exact hj, k σ δ _ _ (r2.go s3 u3) (u1.trans (u2.trans u3)) (fun _ _ => ⟨rfl, rfl⟩) q⟩
    · exact q.elim
  · exact q2.elim
end

/-! ### what is walked -/
structure Src where
  items : List D
  ok : Sto → Prop
abbrev DI := DV → Sto → (Src → Sto → Prop) → Prop
def JOk (G : Gm) (J : It) (src : Src) (S : Sto) (H : Hp) : Prop := ∀ S2 H2, Sim G S2 H2 → Up S S2 H H2 → src.ok S2 → ∀ i, i ≤ src.items.length →
  (i < src.items.length → J.go i H2) ∧ (i = src.items.length → J.stop i H2) ∧ ∀ x H', i < src.items.length → J.yld i H2 x H' → ∃ d, src.items[i]? = some d ∧ Im G H' x d ∧ Sim G S2 H' ∧ Up S2 S2 H2 H' ∧ Ext H2 H'
def SI (G : Gm) (N : En) (t : TI) (f : DI) : Prop := ∀ (σ : L2.St) (δ : DV) (H : Hp) (S : Sto) (Q : Src → Sto → Prop) (R : It → Hp → Prop), Rel G N σ δ S H → f δ S Q → (∀ J src H' S', JOk G J src S' H' → Rel G N σ δ S' H' → Up S S' H H' → Q src S' → R J H') → t σ H R
def forD (ok : Sto → Prop) (g : DG) (tb : DS) : List D → DS
  | [] => fun D δ S => ok S ∧ D.nx δ S
  | x :: xs => fun D δ S => ok S ∧ g x δ S fun δ' S' => tb { D with nx := forD ok g tb xs D, ct := forD ok g tb xs D, bk := D.nx } δ' S'
def sFor (wi : DI) (g : DG) (tb : DS) : DS := fun D δ S => wi δ S fun src S' => forD src.ok g tb src.items D δ S'
def whN (c : DT) (tb : DS) : Nat → DS
  | 0 => fun _ _ _ => False
  | n + 1 => fun D δ S => c δ S fun b S1 => br b (tb { D with nx := whN c tb n D, ct := whN c tb n D, bk := D.nx } δ S1) (D.nx δ S1)
def sWhile (c : DT) (tb : DS) : DS := fun D δ S => ∃ n, whN c tb n D δ S
section
variable {G : Gm} {N : En}
theorem ss_for {ws : List Nat} {twi : TI} {wi : DI} {tg : TG} {g : DG} {tb : TS} {fb : DS} (hi : SI G N twi wi) (hg : SG G N ws tg g) (hb : SS G N tb fb) : SS G N (tFor twi tg tb) (sFor wi g fb) := by
  intro σ δ H S D E r h k
  refine hi σ δ H S _ _ r h fun J src H1 S1 jk r1 u1 q1 => ?_
  refine ⟨fun i m σ' H' => m = src.items.length - i ∧ i ≤ src.items.length ∧ ∃ δ' S', Rel G N σ' δ' S' H' ∧ Up S1 S' H1 H' ∧ forD src.ok g fb (src.items.drop i) D δ' S', ⟨src.items.length, by simp, Nat.zero_le _, δ, S1, r1, .refl, by simpa using q1⟩, ?_⟩
  rintro i m σ' H' ⟨rfl, hi', δ', S', r', u', q'⟩
  by_cases hlt : i < src.items.length
  · rw [List.drop_eq_getElem_cons hlt] at q'
    obtain ⟨a1, _, a3⟩ := jk S' H' r'.sim u' q'.1 i hi'
    refine .inr ⟨a1 hlt, fun σ2 H2 => ∃ δ2 S2, Rel G N σ2 δ2 S2 H2 ∧ Up S1 S2 H1 H2 ∧ forD src.ok g fb (src.items.drop (i + 1)) D δ2 S2, fun σ2 H2 ⟨δ2, S2, x1, x2, x3⟩ => ⟨src.items.length - (i + 1), by omega, rfl, hlt, δ2, S2, x1, x2, x3⟩, fun x H2 y => ?_⟩
    obtain ⟨d, hd, im, s2, u2, _⟩ := a3 x H2 hlt y
    rw [List.getElem?_eq_getElem hlt] at hd
    cases hd
    refine hg x _ σ' δ' H2 S' _ _ (r'.go s2 u2) im q'.2 fun σ3 δ3 H3 S3 r3 u3 _ q3 => ?_
    have uu := u'.trans (u2.trans u3)
    exact hb σ3 δ3 H3 S3 _ _ r3 q3 ⟨fun σ4 δ4 H4 S4 r4 u4 q4 => ⟨δ4, S4, r4, uu.trans u4, q4⟩, fun σ4 δ4 H4 S4 r4 u4 q4 => k.nx σ4 δ4 H4 S4 r4 (u1.trans (uu.trans u4)) q4, fun σ4 δ4 H4 S4 r4 u4 q4 => ⟨δ4, S4, r4, uu.trans u4, q4⟩, k.rt⟩
  · have e : i = src.items.length := by omega
    subst e
    rw [List.drop_length] at q'
    obtain ⟨_, a2, _⟩ := jk S' H' r'.sim u' q'.1 _ (Nat.le_refl _)
    exact .inl ⟨a2 rfl, k.nx σ' δ' H' S' r' (u1.trans u') q'.2⟩
theorem ss_while {tc : TT} {fc : DT} {tb : TS} {fb : DS} (hc : ST G N tc fc) (hb : SS G N tb fb) : SS G N (tWhile tc tb) (sWhile fc fb) := by
  rintro σ δ H S D E r ⟨n, h⟩ k
  refine ⟨fun m σ' H' => ∃ δ' S', Rel G N σ' δ' S' H' ∧ Up S S' H H' ∧ whN fc fb m D δ' S', ⟨n, δ, S, r, .refl, h⟩, ?_⟩
  rintro m σ' H' ⟨δ', S', r', u', q'⟩
  cases m with
  | zero => exact q'.elim
  | succ m =>
    refine hc σ' δ' H' S' _ _ r' q' fun b H1 S1 r1 u1 q1 => ?_
    cases b with
    | true =>
      rw [if_pos rfl]
      refine ⟨fun σ2 H2 => ∃ δ2 S2, Rel G N σ2 δ2 S2 H2 ∧ Up S S2 H H2 ∧ whN fc fb m D δ2 S2, fun σ2 H2 ⟨δ2, S2, x⟩ => ⟨m, Nat.lt_succ_self m, δ2, S2, x⟩, ?_⟩
      have uu := u'.trans u1
      exact hb σ' δ' H1 S1 _ _ r1 (q1.1 rfl) ⟨fun σ4 δ4 H4 S4 r4 u4 q4 => ⟨δ4, S4, r4, uu.trans u4, q4⟩, fun σ4 δ4 H4 S4 r4 u4 q4 => k.nx σ4 δ4 H4 S4 r4 (uu.trans u4) q4, fun σ4 δ4 H4 S4 r4 u4 q4 => ⟨δ4, S4, r4, uu.trans u4, q4⟩, k.rt⟩
    | false =>
      rw [if_neg Bool.false_ne_true]
      exact k.nx σ' δ' H1 S1 r1 (u'.trans u1) (q1.2 rfl)

/-! what is walked, kind by kind -/
def iL (e : DE) : DI := fun δ S Q => e δ S fun x S1 => match x with | .ref a => atL S1 a fun ds => Q ⟨ds, fun S2 => S2 a = some (.lst ds)⟩ S1 | _ => False
def iT (e : DE) : DI := fun δ S Q => e δ S fun x S1 => match x with | .tup ds => Q ⟨ds, fun _ => True⟩ S1 | .ctup ds => Q ⟨ds, fun _ => True⟩ S1 | _ => False
def signs (z : Str) : List D := z.cps.toList.map fun c => .str ⟨#[c]⟩
def iS (e : DE) : DI := fun δ S Q => e δ S fun x S1 => match x with | .str z => Q ⟨signs z, fun _ => True⟩ S1 | _ => False
def upto (lo : Int) (n : Nat) : List D := (List.range n).map fun i => .int (lo + (i : Nat))
def iR1 (a : DA) : DI := fun δ S Q => a δ S fun xs S1 => match xs with | [.int j] => -(2 ^ 62) ≤ j ∧ j < 2 ^ 62 ∧ Q ⟨upto 0 j.toNat, fun _ => True⟩ S1 | _ => False
def iR2 (a : DA) : DI := fun δ S Q => a δ S fun xs S1 => match xs with | [.int i, .int j] => -(2 ^ 62) ≤ i ∧ i < 2 ^ 62 ∧ -(2 ^ 62) ≤ j ∧ j < 2 ^ 62 ∧ Q ⟨upto i (j - i).toNat, fun _ => True⟩ S1 | _ => False
variable {te : TE} {fe : DE}
theorem si_list (he : SE G N te fe) : SI G N (iList G.K te) (iL fe) := by
  intro σ δ H S Q R r h k
  refine he σ δ H S _ _ r h fun v d H1 S1 i1 r1 u1 q1 => ?_
  split at q1
  · rename_i a
    cases im_ref i1
    obtain ⟨ds, e1, q⟩ := atL_of q1
    obtain ⟨xs, hx, ix⟩ := r1.sim.ob _ _ e1
    refine ⟨a, rfl, ⟨xs, SqL.of hx⟩, k _ ⟨ds, fun S2 => S2 a = some (.lst ds)⟩ H1 S1 (fun S2 H2 s2 u2 ok i hi => ?_) r1 u1 q⟩
    obtain ⟨ys, hy, iy⟩ := s2.ob _ _ ok
    have hl := iy.length
    refine ⟨fun z => ⟨ys, ys[i], SqL.of hy, List.getElem?_eq_getElem (by show i < ys.length; rw [hl]; exact z)⟩, fun z => ⟨ys, SqL.of hy, by rw [hl]; exact Nat.le_of_eq z.symm⟩, fun x H' z y => ?_⟩
    obtain ⟨rfl, y⟩ := y
    obtain ⟨e, he2, ie⟩ := iy.get (y ys (SqL.of hy))
    exact ⟨e, he2, ie, s2, .refl, .refl⟩
  · exact q1.elim
theorem jok_tup {a : Addr} {xs : List V} {ds : List D} {S : Sto} {H : Hp} (s : Sim G S H) (e1 : H a = some (.tup xs) ∨ ∀ H1, SqT G.K H1 a xs) (i1 : ImAll G H xs ds) : JOk G (Itt G.K a) ⟨ds, fun _ => True⟩ S H := by
  intro S2 H2 s2 u2 _ i hi
  have hl := i1.length
  have t := u2.tu s
  have e2 : SqT G.K H2 a xs := by
    rcases e1 with e1 | e1
    · exact SqT.of (t _ _ e1)
    · exact e1 H2
  refine ⟨fun z => ⟨xs, xs[i], e2, List.getElem?_eq_getElem (by show i < xs.length; rw [hl]; exact z)⟩, fun z => ⟨xs, e2, by rw [hl]; exact Nat.le_of_eq z.symm⟩, fun x H' z y => ?_⟩
  obtain ⟨rfl, y⟩ := y
  obtain ⟨e, he2, ie⟩ := i1.get (y xs e2)
  exact ⟨e, he2, ie.go t, s2, .refl, .refl⟩
theorem si_tup (he : SE G N te fe) : SI G N (iTup G.K te) (iT fe) := by
  intro σ δ H S Q R r h k
  refine he σ δ H S _ _ r h fun v d H1 S1 i1 r1 u1 q1 => ?_
  split at q1
  · obtain ⟨a, xs, rfl, e1, j1⟩ := im_tup i1
    exact ⟨a, rfl, ⟨xs, SqT.of e1⟩, k _ _ H1 S1 (jok_tup r1.sim (.inl e1) j1) r1 u1 q1⟩
  · match i1 with
    | .ctup h1 _ _ _ h2 => exact ⟨_, rfl, ⟨_, h1 H1⟩, k _ _ H1 S1 (jok_tup r1.sim (.inr h1) h2) r1 u1 q1⟩
  · exact q1.elim
theorem si_str (he : SE G N te fe) : SI G N (iStr te) (iS fe) := by
  intro σ δ H S Q R r h k
  refine he σ δ H S _ _ r h fun v d H1 S1 i1 r1 u1 q1 => ?_
  split at q1
  · rename_i z
    obtain ⟨rfl, o⟩ := im_str i1
    refine ⟨z, rfl, k _ _ H1 S1 (fun S2 H2 s2 u2 _ i hi => ?_) r1 u1 q1⟩
    have hl : (signs z).length = z.cps.size := by simp [signs]
    simp only [hl] at hi ⊢
    refine ⟨fun y => y, fun y => by show z.cps.size ≤ i; omega, fun x H' y w => ?_⟩
    obtain ⟨rfl, c, hc, rfl⟩ := w
    refine ⟨.str ⟨#[c]⟩, ?_, .str _ (okS_sign o ?_), s2, .refl, .refl⟩
    · have : z.cps.toList[i]? = some c := by simpa using hc
      simp [signs, this]
    · have : z.cps.toList[i]? = some c := by simpa using hc
      exact List.mem_of_getElem? this
  · exact q1.elim
theorem jok_ints {lo : Int} {n : Nat} {S : Sto} {H : Hp} : JOk G (Itr lo n) ⟨upto lo n, fun _ => True⟩ S H := by
  intro S2 H2 s2 u2 _ i hi
  have hl : (upto lo n).length = n := by simp [upto]
  simp only [hl] at hi ⊢
  refine ⟨fun y => y, fun y => by show n ≤ i; omega, fun x H' y w => ?_⟩
  obtain ⟨rfl, rfl⟩ := w
  exact ⟨.int (lo + (i : Nat)), by simp [upto, y], .int _, s2, .refl, .refl⟩
theorem si_r1 {tl : TA} {fl : DA} (ha : SA G N tl fl) : SI G N (iRng1 tl) (iR1 fl) := by
  intro σ δ H S Q R r h k
  refine ha σ δ H S _ _ r h fun vs ds H1 S1 i1 r1 u1 q1 => ?_
  split at q1
  · obtain ⟨v, rfl, i⟩ := ia1 i1
    cases im_int i
    exact ⟨_, rfl, q1.1, q1.2.1, k _ _ H1 S1 jok_ints r1 u1 q1.2.2⟩
  · exact q1.elim
theorem si_r2 {tl : TA} {fl : DA} (ha : SA G N tl fl) : SI G N (iRng2 tl) (iR2 fl) := by
  intro σ δ H S Q R r h k
  refine ha σ δ H S _ _ r h fun vs ds H1 S1 i1 r1 u1 q1 => ?_
  split at q1
  · obtain ⟨v, w, rfl, i, j⟩ := ia2 i1
    cases im_int i
    cases im_int j
    exact ⟨_, _, rfl, ⟨q1.1, q1.2.1, q1.2.2.1, q1.2.2.2.1⟩, k _ _ H1 S1 jok_ints r1 u1 q1.2.2.2.2⟩
  · exact q1.elim
end
end Sd

set_option Elab.async false
set_option linter.all false
set_option maxRecDepth 100000
set_option maxHeartbeats 4000000
namespace Sd
open PySem PySem.Spec PyProof.Rows L2 GxR

/-! ### list comprehensions -/
def tYes' : DT := fun _ S Q => Q true S
def lcD (ok : Sto → Prop) (g : DG) (tt : DT) (te : DE) (δ : DV) : List D → List D → Sto → (List D → Sto → Prop) → Prop
  | [], acc, S, Q => ok S ∧ Q acc S
  | x :: xs, acc, S, Q => ok S ∧ g x δ S fun δ2 S2 => tt δ2 S2 fun b S3 => br b (te δ2 S3 fun y S4 => acc.length < 1000000 ∧ lcD ok g tt te δ xs (acc ++ [y]) S4 Q) (lcD ok g tt te δ xs acc S3 Q)
def eLc (wi : DI) (g : DG) (tt : DT) (te : DE) (vs : List Nat) : DE := fun δ S Q => wi δ S fun src S1 => lcD src.ok g tt te (wipeD δ vs) src.items [] S1 fun ys S2 => ∀ p, S2 p = none → Q (.ref p) (sup S2 p (.lst ys))
/-- all(.. for ..) -/
def allD (ok : Sto → Prop) (g : DG) (te : DE) (δ : DV) : List D → Sto → (Bool → Sto → Prop) → Prop
  | [], S, Q => ok S ∧ Q true S
  | x :: xs, S, Q => ok S ∧ g x δ S fun δ2 S2 => te δ2 S2 fun y S3 => asB y fun b => br b (allD ok g te δ xs S3 Q) (Q false S3)
def eAll (wi : DI) (g : DG) (te : DE) (vs : List Nat) : DE := fun δ S Q => wi δ S fun src S1 => allD src.ok g te (wipeD δ vs) src.items S1 fun b S2 => Q (.bl b) S2
section
variable {G : Gm} {N : En}
theorem st_yes : ST G N tYes tYes' := fun σ δ H S Q R r h k => k true H S r .refl h
/-- a list that the store does not name grows -/
theorem Sim.side {S : Sto} {H : Hp} {p : Addr} {acc acc' : List V} (s : Sim G S H) (hp : H p = some (.lst acc)) (hS : S p = none) (hs : G.scr ≠ p ∨ ∀ H1, SqL G.K H1 G.scr (G.ns.map V.int)) : Sim G S (upd H p (.lst acc')) ∧ Tu H (upd H p (.lst acc')) := by
  have t : Tu H (upd H p (.lst acc')) := fun b xs h => by rw [upd_ne (fun y => by rw [y, hp] at h; cases h)]; exact h
  refine ⟨⟨fun a o h => ?_, fun P hP => ?_, ?_⟩, t⟩
  · have ne : a ≠ p := sne h hS
    exact (s.ob a o h).go (fun _ z _ => by rw [upd_ne ne]; exact z) t fun _ z => z
  · obtain ⟨ps, e, tr⟩ := s.tab P hP
    exact ⟨ps, by rw [upd_ne (fun y => by rw [y, hp] at e; cases e)]; exact e, tr⟩
  · rcases s.scr with ⟨h1, h2⟩ | h
    · rcases hs with np | h
      · refine .inl ⟨h1, ?_⟩
        rcases h2 with h2 | ⟨o, h2⟩
        · exact .inl (by rw [upd_ne np]; exact h2)
        · exact .inr ⟨o, by rw [upd_ne np]; exact h2⟩
      · exact .inr h
    · exact .inr h
theorem Up.side {S S' : Sto} {H H' : Hp} {p : Addr} {o : HO} (u : Up S S' H H') (hp : H p = none) : Up S S' H (upd H' p o) :=
  ⟨fun a v h n z => by rw [upd_ne (ne_of_none h hp)]; exact u.keep a v h n z, u.dom, fun a z => by
    by_cases y : a = p
    · rw [y, upd_same]; simp
    · rw [upd_ne y]; exact u.there a z⟩
/-- a list that stands comes into the store -/
theorem Sim.take {S : Sto} {H : Hp} {p : Addr} {xs : List V} {ds : List D} (s : Sim G S H) (hp : H p = some (.lst xs)) (hS : S p = none) (i : ImAll G H xs ds) (hs : G.scr ≠ p ∨ ∀ H1, SqL G.K H1 G.scr (G.ns.map V.int)) : Sim G (sup S p (.lst ds)) H := by
  refine ⟨fun a o h => ?_, s.tab, ?_⟩
  · by_cases y : a = p
    · subst y
      rw [sup_same] at h
      cases h
      exact ⟨xs, hp, i⟩
    · rw [sup_ne y] at h
      exact (s.ob a o h).go (fun _ z _ => z) (fun _ _ z => z) fun c z => by rw [sup_ne (sne z hS)]; exact z
  · rcases s.scr with ⟨h1, h2⟩ | h
    · rcases hs with np | h
      · exact .inl ⟨by rw [sup_ne np]; exact h1, h2⟩
      · exact .inr h
    · exact .inr h
theorem Up.take {S S' : Sto} {H H' : Hp} {p : Addr} {o : O} (u : Up S S' H H') (hp : H p = none) : Up S (sup S' p o) H H' :=
  ⟨u.keep, fun a h z => by rw [sup_ne (fun y => z (by rw [y]; exact hp))]; exact u.dom a h z, u.there⟩
theorem Sim.scrNe {S : Sto} {H : Hp} {p : Addr} (s : Sim G S H) (hp : H p = none) : G.scr ≠ p ∨ ∀ H1, SqL G.K H1 G.scr (G.ns.map V.int) := by
  rcases s.scr with ⟨_, h2⟩ | h
  · refine .inl fun y => ?_
    rcases h2 with h2 | ⟨o, h2⟩ <;> (rw [y, hp] at h2; cases h2)
  · exact .inr h
theorem se_lc {ws vs : List Nat} {twi : TI} {wi : DI} {tg : TG} {g : DG} {tt : TT} {ft : DT} {te : TE} {fe : DE} (hi : SI G N twi wi) (hg : SG G N ws tg g) (ht : ST G N tt ft) (he : SE G N te fe) (hw : ∀ i ∈ ws, i ∈ vs) :
    SE G N (tLc twi tg tt te vs) (eLc wi g ft fe vs) := by
  intro σ δ H S Q R r h k
  refine hi σ δ H S _ _ r h fun J src H1 S1 jk r1 u1 q1 => fun p hp => ?_
  have hsc := r1.sim.scrNe hp
  have e0 := Ext.lay (o := HO.lst []) hp
  have hN : N.H p = none := by
    cases z : N.H p with
    | none => rfl
    | some o => exact absurd hp (r1.up.there p (by rw [z]; simp))
  have hH : H p = none := by
    cases z : H p with
    | none => rfl
    | some o => exact absurd hp (u1.there p (by rw [z]; simp))
  refine ⟨fun i m H' => m = src.items.length - i ∧ i ≤ src.items.length ∧ ∃ S' acc ds, Rel G N σ δ S' H' ∧ Up S1 S' H1 H' ∧ H' p = some (.lst acc) ∧ ImAll G H' acc ds ∧ S' p = none ∧ lcD src.ok g ft fe (wipeD δ vs) (src.items.drop i) ds S' (fun ys S2 => ∀ p, S2 p = none → Q (.ref p) (sup S2 p (.lst ys))),
    ⟨src.items.length, by simp, Nat.zero_le _, S1, [], [], ⟨r1.sl.go e0.tu, r1.sim.ext e0, r1.up.trans (Up.of_ext e0)⟩, Up.of_ext e0, upd_same, .nil, r1.sim.free hp, by simpa using q1⟩, ?_⟩
  rintro i m H' ⟨rfl, hi', S', acc, ds, r', u', hacc, iacc, hS', q'⟩
  by_cases hlt : i < src.items.length
  · rw [List.drop_eq_getElem_cons hlt] at q'
    obtain ⟨a1, _, a3⟩ := jk S' H' r'.sim u' q'.1 i hi'
    refine .inr ⟨a1 hlt, fun H2 => ∃ S2 acc2 ds2, Rel G N σ δ S2 H2 ∧ Up S1 S2 H1 H2 ∧ H2 p = some (.lst acc2) ∧ ImAll G H2 acc2 ds2 ∧ S2 p = none ∧ lcD src.ok g ft fe (wipeD δ vs) (src.items.drop (i + 1)) ds2 S2 (fun ys S2 => ∀ p, S2 p = none → Q (.ref p) (sup S2 p (.lst ys))),
      fun H2 ⟨S2, acc2, ds2, x⟩ => ⟨src.items.length - (i + 1), by omega, rfl, hlt, S2, acc2, ds2, x⟩, fun x H2 y => ?_⟩
    obtain ⟨d, hd, im, s2, u2, e2⟩ := a3 x H2 hlt y
    rw [List.getElem?_eq_getElem hlt] at hd
    cases hd
    have r2 : Rel G N (L2.wipe σ vs) (wipeD δ vs) S' H2 := ⟨(r'.sl.go e2.tu).wipe vs, s2, r'.up.trans u2⟩
    refine hg x _ _ _ H2 S' _ _ r2 im q'.2 fun σ3 δ3 H3 S3 r3 u3 w3 q3 => ⟨by rw [(w3 vs hw).1, wipe_wipe], ?_⟩
    refine ht σ3 δ3 H3 S3 _ _ r3 q3 fun b H4 S4 r4 u4 q4 => ?_
    have up4 := u2.trans (u3.trans u4)
    have hp4 : H4 p = some (.lst acc) := up4.keep p _ hacc rfl hS'
    have hS4 : S4 p = none := up4.dom p hS' (by rw [hacc]; simp)
    have t4 := up4.tu r'.sim
    have rel4 : Rel G N σ δ S4 H4 := ⟨r'.sl.go t4, r4.sim, r4.up⟩
    cases b with
    | true =>
      rw [if_pos rfl]
      refine he σ3 δ3 H4 S4 _ _ r4 (q4.1 rfl) fun v e5 H5 S5 i5 r5 u5 ⟨l5, q5⟩ => ?_
      have up5 := up4.trans u5
      have hp5 : H5 p = some (.lst acc) := up5.keep p _ hacc rfl hS'
      have hS5 : S5 p = none := up5.dom p hS' (by rw [hacc]; simp)
      have t5 := up5.tu r'.sim
      refine ⟨acc, hp5, Nat.lt_of_lt_of_le (by rw [iacc.length]; exact l5) (le_line (Nat.le_refl _)), ?_⟩
      obtain ⟨s6, t6⟩ := r5.sim.side (acc' := acc ++ [v]) hp5 hS5 hsc
      exact ⟨S5, acc ++ [v], ds ++ [e5], ⟨(r'.sl.go t5).go t6, s6, r5.up.side hN⟩, (u'.trans up5).side hp, upd_same, ((iacc.go t5).snoc i5).go t6, hS5, q5⟩
    | false =>
      rw [if_neg Bool.false_ne_true]
      exact ⟨S4, acc, ds, rel4, u'.trans up4, hp4, iacc.go t4, hS4, q4.2 rfl⟩
  · have e : i = src.items.length := by omega
    subst e
    rw [List.drop_length] at q'
    obtain ⟨_, a2, _⟩ := jk S' H' r'.sim u' q'.1 _ (Nat.le_refl _)
    refine .inl ⟨a2 rfl, k _ (.ref p) H' (sup S' p (.lst ds)) (.ref p) ⟨r'.sl, r'.sim.take hacc hS' iacc hsc, r'.up.take hN⟩ ((u1.trans u').take hH) (q'.2 p hS')⟩
theorem se_all {P : Addr} {ws vs : List Nat} {twi : TI} {wi : DI} {tg : TG} {g : DG} {te : TE} {fe : DE} (hP : P ∈ G.tabs) (hi : SI G N twi wi) (hg : SG G N ws tg g) (he : SE G N te fe) (hw : ∀ i ∈ ws, i ∈ vs) :
    SE G N (Ow.tAllG P twi tg te vs) (eAll wi g fe vs) := by
  intro σ δ H S Q R r h k
  refine hi σ δ H S _ _ r h fun J src H1 S1 jk r1 u1 q1 => ⟨r1.sim.tab P hP, fun H2 ht => ?_⟩
  have e0 := Ext.tabbed (r1.sim.tab P hP) ht
  refine ⟨fun i m H' => m = src.items.length - i ∧ i ≤ src.items.length ∧ ∃ S', Rel G N σ δ S' H' ∧ Up S1 S' H1 H' ∧ allD src.ok g fe (wipeD δ vs) (src.items.drop i) S' (fun b S2 => Q (.bl b) S2),
    ⟨src.items.length, by simp, Nat.zero_le _, S1, ⟨r1.sl.go e0.tu, r1.sim.ext e0, r1.up.trans (Up.of_ext e0)⟩, Up.of_ext e0, by simpa using q1⟩, ?_⟩
  rintro i m H' ⟨rfl, hi', S', r', u', q'⟩
  by_cases hlt : i < src.items.length
  · rw [List.drop_eq_getElem_cons hlt] at q'
    obtain ⟨a1, _, a3⟩ := jk S' H' r'.sim u' q'.1 i hi'
    refine .inr ⟨a1 hlt, fun H2 => ∃ S2, Rel G N σ δ S2 H2 ∧ Up S1 S2 H1 H2 ∧ allD src.ok g fe (wipeD δ vs) (src.items.drop (i + 1)) S2 (fun b S2 => Q (.bl b) S2),
      fun H2 ⟨S2, x⟩ => ⟨src.items.length - (i + 1), by omega, rfl, hlt, S2, x⟩, fun x H2 y => ?_⟩
    obtain ⟨d, hd, im, s2, u2, e2⟩ := a3 x H2 hlt y
    rw [List.getElem?_eq_getElem hlt] at hd
    cases hd
    have r2 : Rel G N (L2.wipe σ vs) (wipeD δ vs) S' H2 := ⟨(r'.sl.go e2.tu).wipe vs, s2, r'.up.trans u2⟩
    refine hg x _ _ _ H2 S' _ _ r2 im q'.2 fun σ3 δ3 H3 S3 r3 u3 w3 q3 => ⟨by rw [(w3 vs hw).1, wipe_wipe], ?_⟩
    refine he σ3 δ3 H3 S3 _ _ r3 q3 fun v e5 H5 S5 i5 r5 u5 q5 => ?_
    obtain ⟨b, rfl, q⟩ := asB_of q5
    have up5 := u2.trans (u3.trans u5)
    have rel5 : Rel G N σ δ S5 H5 := ⟨r'.sl.go (up5.tu r'.sim), r5.sim, r5.up⟩
    exact ⟨b, im_bl i5, fun hb => ⟨S5, rel5, u'.trans up5, q.1 hb⟩, fun hb => k _ _ H5 S5 (.bl false) rel5 (u1.trans (u'.trans up5)) (q.2 hb)⟩
  · have e : i = src.items.length := by omega
    subst e
    rw [List.drop_length] at q'
    obtain ⟨_, a2, _⟩ := jk S' H' r'.sim u' q'.1 _ (Nat.le_refl _)
    exact .inl ⟨a2 rfl, k _ _ H' S' (.bl true) r' (u1.trans u') q'.2⟩
end

/-! ### fields -/
def setO (ds : List D) (i : Nat) (d : D) : List D := if i < ds.length then ds.set i d else ds ++ [d]
def sFldD (C : Addr) (nm : List Str) (i : Nat) (fa fv : DE) : DS := fun D δ S => fv δ S fun y S1 => fa δ S1 fun x S2 => asRef x fun a => atO S2 a C nm fun ds => i ≤ ds.length ∧ D.nx δ (sup S2 a (.ins C nm (setO ds i y)))
def sFldAugD (C : Addr) (nm : List Str) (i : Nat) (rd : B2) (fa fv : DE) : DS := fun D δ S => fa δ S fun x S1 => asRef x fun a => atO S1 a C nm fun ds => match ds[i]? with
  | some v => fv δ S1 fun y S2 => rd v y S2 fun z S3 => atO S3 a C nm fun ds' => i ≤ ds'.length ∧ D.nx δ (sup S3 a (.ins C nm (setO ds' i z)))
  | none => False
section
variable {G : Gm} {N : En}
theorem KvAll.putF {H : Hp} {f : Str} {v : V} {d : D} (im : Im G H v d) : ∀ {nm : List Str} {i : Nat} {gs : List (Str × V)} {ds : List D}, FIx nm f i → i ≤ ds.length → KvAll G H gs (nm.zip ds) → KvAll G H (L2.putF f v gs) (nm.zip (setO ds i d))
  | [], _, _, _, x, _, _ => by have := x.at_; simp at this
  | n :: nm, 0, gs, [], x, _, h => by
    have : n = f := by simpa using x.at_
    subst this
    simp only [List.zip_nil_right] at h
    cases h
    show KvAll G H [(n, v)] ((n :: nm).zip [d])
    simp only [List.zip_cons_cons, List.zip_nil_right]
    exact .cons im .nil
  | n :: nm, 0, gs, e :: ds, x, _, h => by
    have : n = f := by simpa using x.at_
    subst this
    rw [List.zip_cons_cons] at h
    cases h with
    | cons h1 h2 =>
      unfold L2.putF
      rw [if_pos rfl]
      show KvAll G H _ ((n :: nm).zip (d :: ds))
      rw [List.zip_cons_cons]
      exact .cons im h2
  | n :: nm, i + 1, gs, [], x, l, h => by simp at l
  | n :: nm, i + 1, gs, e :: ds, x, l, h => by
    have hn : n ≠ f := fun e => x.no (by rw [List.take_succ_cons, e]; exact List.mem_cons_self)
    have x' : FIx nm f i := ⟨by simpa using x.at_, fun z => x.no (by rw [List.take_succ_cons]; exact List.mem_cons_of_mem _ z)⟩
    rw [List.zip_cons_cons] at h
    cases h with
    | cons h1 h2 =>
      unfold L2.putF
      rw [if_neg hn]
      have e : setO (e :: ds) (i + 1) d = e :: setO ds i d := by
        unfold setO
        by_cases z : i < ds.length
        · rw [if_pos z, if_pos (by simpa using z)]; rfl
        · rw [if_neg z, if_neg (by simpa using z)]; rfl
      rw [e, List.zip_cons_cons]
      exact .cons h1 (KvAll.putF im x' (by simpa using l) h2)
theorem setO_len {nm : List Str} {f : Str} {i : Nat} {ds : List D} {d : D} (x : FIx nm f i) (l : i ≤ ds.length) (h : ds.length ≤ nm.length) : (setO ds i d).length ≤ nm.length := by
  have hi := (List.getElem?_eq_some_iff.mp x.at_).1
  unfold setO
  split
  · rw [List.length_set]; exact h
  · rw [List.length_append]; simp; omega
theorem put_ins {S : Sto} {H : Hp} {a C dx : Addr} {gs gs' : List (Str × V)} {nm : List Str} {fs fs' : List D} (s : Sim G S H) (e : S a = some (.ins C nm fs)) (h : H a = some (.ins C dx gs)) (i : KvAll G H gs' (nm.zip fs')) (l : fs'.length ≤ nm.length) (l2 : nm.length ≤ 999) : Sim G (sup S a (.ins C nm fs')) (upd H a (.ins C dx gs')) ∧ Up S (sup S a (.ins C nm fs')) H (upd H a (.ins C dx gs')) := by
  have t : Tu H (upd H a (.ins C dx gs')) := fun b ys hb => by rw [upd_ne (fun y => by rw [y, h] at hb; cases hb)]; exact hb
  exact s.put e (by simp) rfl ⟨dx, gs', upd_same, i.go t, l, l2⟩
theorem kv_len {H : Hp} {nm : List Str} {gs : List (Str × V)} {ds : List D} (kv : KvAll G H gs (nm.zip ds)) (l : nm.length ≤ 999) : gs.length < 1000 := by
  rw [kv.length, List.length_zip]; omega
theorem ss_fld {C : Addr} {f : Str} {nm : List Str} {i : Nat} {ta tv : TE} {fa fv : DE} (c : Cls G.K C) (n : NoAttr G.K C f) (x : FIx nm f i) (ha : SE G N ta fa) (hv : SE G N tv fv) : SS G N (sFld G.K ta tv f) (sFldD C nm i fa fv) := by
  intro σ δ H S D E r h k
  refine hv σ δ H S _ _ r h fun v d H1 S1 i1 r1 u1 q1 => ?_
  refine ha σ δ H1 S1 _ _ r1 q1 fun x' e H2 S2 i2 r2 u2 q2 => ?_
  obtain ⟨a, rfl, q3⟩ := asRef_of q2
  obtain ⟨fs, e2, l, q⟩ := atO_of q3
  obtain ⟨dx, gs, hg, kv, l1, l2⟩ := r2.sim.ob _ _ e2
  obtain ⟨s3, u3⟩ := put_ins r2.sim e2 hg (KvAll.putF (i1.go (u2.tu r1.sim)) x l kv) (setO_len x l l1) l2
  exact ⟨a, C, dx, gs, im_ref i2, hg, c, n, kv_len kv l2, k.nx σ δ _ _ (r2.go s3 u3) (u1.trans (u2.trans u3)) q⟩
theorem ss_fldaug {C : Addr} {f : Str} {nm : List Str} {i : Nat} {ta tv : TE} {fa fv : DE} {rr : V → V → Hp → VK → Prop} {rd : B2} (c : Cls G.K C) (n : NoAttr G.K C f) (x : FIx nm f i) (ho : S2 G rr rd) (ha : SE G N ta fa) (hv : SE G N tv fv) : SS G N (sFldAug G.K ta tv rr f) (sFldAugD C nm i rd fa fv) := by
  intro σ δ H S D E r h k
  refine ha σ δ H S _ _ r h fun x' e H1 S1 i1 r1 u1 q1 => ?_
  obtain ⟨a, rfl, q2⟩ := asRef_of q1
  obtain ⟨fs, e1, q⟩ := atO_of q2
  obtain ⟨dx, gs, hg, kv, l1, l2⟩ := r1.sim.ob _ _ e1
  split at q
  · rename_i w hw0
    obtain ⟨w', hw, iw⟩ := kv_look kv (f := f) (d := w) (by rw [zip_look x]; exact hw0)
    refine ⟨a, C, dx, gs, w', im_ref i1, hg, c, n, hw, ?_⟩
    refine hv σ δ H1 S1 _ _ r1 q fun v d H2 S2 i2 r2 u2 q2 => ?_
    refine ho w' v w d H2 S2 _ _ (iw.go (u2.tu r1.sim)) i2 r2.sim q2 fun z d3 H3 S3 i3 s3 u3 q3 => ?_
    obtain ⟨fs', e3, l3, q3⟩ := atO_of q3
    obtain ⟨dx', gs', hg', kv', m1, m2⟩ := s3.ob _ _ e3
    obtain ⟨s4, u4⟩ := put_ins s3 e3 hg' (KvAll.putF i3 x l3 kv') (setO_len x l3 m1) m2
    exact ⟨dx', gs', hg', kv_len kv' m2, k.nx σ δ _ _ ((r2.go s3 u3).go s4 u4) (u1.trans (u2.trans (u3.trans u4))) q3⟩
  · exact q.elim
theorem s2_inadd : S2 G rAdd (dI (fun _ _ => True) fun i j => .int (i + j)) := s2_ipadd
theorem s2_insub : S2 G rSub (dI (fun _ _ => True) fun i j => .int (i - j)) := s2_ipsub
end

/-! ### methods of lists -/
def eBM0 (r : D → List D → Sto → DK → Prop) (fo : DE) : DE := fun δ S Q => fo δ S fun x S1 => r x [] S1 Q
def eBM (r : D → List D → Sto → DK → Prop) (fo : DE) (fa : DA) : DE := fun δ S Q => fo δ S fun x S1 => (asRef x fun a => atL S1 a fun _ => True) ∧ fa δ S1 fun xs S2 => r x xs S2 Q
def dAppend : D → List D → Sto → DK → Prop := fun x xs S Q => match x, xs with | .ref a, [y] => atL S a fun ds => ds.length < 1000000 ∧ Q .non (sup S a (.lst (ds ++ [y]))) | _, _ => False
def dPopAt : D → List D → Sto → DK → Prop := fun x xs S Q => match x, xs with | .ref a, [.int i] => atL S a fun ds => -(2 ^ 62) ≤ i ∧ i < 2 ^ 62 ∧ (match ixN ds.length i with | some j => (match ds[j]? with | some d => Q d (sup S a (.lst (ds.eraseIdx j))) | none => False) | none => False) | _, _ => False
def dIndex : D → List D → Sto → DK → Prop := fun x xs S Q => match x, xs with
  | .ref a, [y] => atL S a fun ds => ∃ j, dat 60 y = true ∧ dats 60 ds = true ∧ (∃ z, ds[j]? = some z ∧ eqD z y = true) ∧ (∀ m z, m < j → ds[m]? = some z → eqD z y = false) ∧ Q (.int (j : Nat)) S
  | _, _ => False
section
variable {G : Gm} {N : En}
def SM (G : Gm) (r : V → List V → Hp → VK → Prop) (rd : D → List D → Sto → DK → Prop) : Prop := ∀ x d xs ds H S Q (R : VK), Im G H x d → ImAll G H xs ds → Sim G S H → rd d ds S Q → (∀ v d' H' S', Im G H' v d' → Sim G S' H' → Up S S' H H' → Q d' S' → R v H') → r x xs H R
theorem se_bmL {to : TE} {fo : DE} {tl : TA} {fl : DA} {r : V → List V → Hp → VK → Prop} {rd : D → List D → Sto → DK → Prop} (hm : SM G r rd) (ho : SE G N to fo) (ha : SA G N tl fl) : SE G N (tBM G.K "list" r to tl) (eBM rd fo fl) := by
  intro σ δ H S Q R rl h k
  refine ho σ δ H S _ _ rl h fun x d H1 S1 i1 r1 u1 ⟨q0, q⟩ => ?_
  obtain ⟨a, rfl, q0⟩ := asRef_of q0
  obtain ⟨ds, e1, _⟩ := atL_of q0
  obtain ⟨vs, hv, _⟩ := r1.sim.ob _ _ e1
  cases im_ref i1
  refine ⟨.inl ⟨rfl, vs, SqL.of hv⟩, ha σ δ H1 S1 _ _ r1 q fun xs es H2 S2 i2 r2 u2 q2 => ?_⟩
  exact hm _ _ xs es H2 S2 Q R (.ref a) i2 r2.sim q2 fun v d' H' S' i3 s3 u3 q3 => k v d' H' S' i3 (r2.go s3 u3) (u1.trans (u2.trans u3)) q3
theorem put_lst {S : Sto} {H : Hp} {a : Addr} {xs xs' : List V} {ds ds' : List D} (s : Sim G S H) (e : S a = some (.lst ds)) (h : H a = some (.lst xs)) (i : ImAll G H xs' ds') : Sim G (sup S a (.lst ds')) (upd H a (.lst xs')) ∧ Up S (sup S a (.lst ds')) H (upd H a (.lst xs')) ∧ Tu H (upd H a (.lst xs')) := by
  have t : Tu H (upd H a (.lst xs')) := fun b ys hb => by rw [upd_ne (fun y => by rw [y, h] at hb; cases hb)]; exact hb
  obtain ⟨s', u⟩ := s.put (o := .lst ds') e (by simp) (ho := .lst xs') rfl ⟨xs', upd_same, i.go t⟩
  exact ⟨s', u, t⟩
theorem sm_append : SM G rAppend dAppend := by
  intro x d xs ds H S Q R hx hxs s h k
  unfold dAppend at h
  split at h
  · obtain ⟨v, rfl, i⟩ := ia1 hxs
    cases im_ref hx
    obtain ⟨es, e1, l, q⟩ := atL_of h
    obtain ⟨vs, hv, iv⟩ := s.ob _ _ e1
    obtain ⟨s3, u3, t3⟩ := put_lst s e1 hv (iv.snoc i)
    exact ⟨_, vs, v, rfl, rfl, hv, Nat.lt_of_lt_of_le (by rw [iv.length]; exact l) (le_line (Nat.le_refl _)), k _ _ _ _ .non s3 u3 q⟩
  · exact h.elim
theorem ImAll.erase {H : Hp} {vs : List V} {ds : List D} (h : ImAll G H vs ds) : ∀ j, ImAll G H (vs.eraseIdx j) (ds.eraseIdx j) := by
  induction vs generalizing ds with
  | nil => intro j; cases h; exact .nil
  | cons v vs ih =>
    intro j
    cases h with
    | cons h1 h2 =>
      cases j with
      | zero => exact h2
      | succ j => exact .cons h1 (ih h2 j)
theorem sm_popAt : SM G rPopAt dPopAt := by
  intro x d xs ds H S Q R hx hxs s h k
  unfold dPopAt at h
  split at h
  · obtain ⟨v, rfl, i⟩ := ia1 hxs
    cases im_ref hx
    cases im_int i
    obtain ⟨es, e1, b1, b2, q⟩ := atL_of h
    obtain ⟨vs, hv, iv⟩ := s.ob _ _ e1
    split at q
    case h_2 => exact q.elim
    rename_i j hj
    split at q
    case h_2 => exact q.elim
    rename_i e he
    obtain ⟨w, hw, iw⟩ := iv.getD he
    obtain ⟨s3, u3, t3⟩ := put_lst s e1 hv (iv.erase j)
    obtain ⟨z1, z2, z3, z4⟩ := ixN_seq hj
    exact ⟨_, vs, _, j, w, rfl, rfl, hv, by omega, by omega, by rw [iv.length]; exact z1, hw, k _ _ _ _ (iw.go t3) s3 u3 q⟩
  · exact h.elim
theorem sm_index : SM G (rIndexD G.K) dIndex := by
  intro x d xs ds H S Q R hx hxs s h k
  unfold dIndex at h
  split at h
  · obtain ⟨v, rfl, i⟩ := ia1 hxs
    cases im_ref hx
    rename_i a y
    obtain ⟨es, e1, j, c1, c2, ⟨z, hz, hzy⟩, hno, q⟩ := atL_of h
    obtain ⟨vs, hv, iv⟩ := s.ob _ _ e1
    obtain ⟨a1, a2, a3⟩ := dp_of 60 y v c1 i
    obtain ⟨b1, b2, b3⟩ := dps_of 60 es vs c2 iv
    refine ⟨a, v, py y, pys es, j, py z, rfl, rfl, .lst (SqL.of hv) b1, a1, shaped_of (by rw [PyData.canLay0]; exact b2) (by rw [PyData.depth]; omega), shaped_of a2 (by omega), ?_, hzy, fun m z' hm hz' => ?_, k _ _ H S (.int _) s .refl q⟩
    · rw [pys_map, List.getElem?_map, hz]; rfl
    · rw [pys_map, List.getElem?_map] at hz'
      cases hq : es[m]? with
      | none => rw [hq] at hz'; cases hz'
      | some w =>
        rw [hq] at hz'
        cases hz'
        exact hno m w hm hq
  · exact h.elim
end
end Sd

set_option Elab.async false
set_option linter.all false
set_option maxRecDepth 100000
set_option maxHeartbeats 4000000
namespace Sd
open PySem PySem.Spec PyProof.Rows L2 GxR

/-! ### dicts -/
def valD {κ : Type} [DecidableEq κ] (kvs : List (κ × D)) (k : κ) : Option D := (kvs.find? fun kv => decide (kv.1 = k)).map (·.2)
def putKD {κ : Type} [DecidableEq κ] (kvs : List (κ × D)) (k : κ) (v : D) : List (κ × D) := if (kvs.any fun kv => decide (kv.1 = k)) = true then kvs.map fun kv => if kv.1 = k then (kv.1, v) else kv else kvs ++ [(k, v)]
def dropKD {κ : Type} [DecidableEq κ] (kvs : List (κ × D)) (k : κ) : List (κ × D) := kvs.filter fun kv => decide (kv.1 ≠ k)
def keyD : D → Option Key
  | .int i => some (.inl i)
  | .str x => some (.inr x)
  | _ => none
def keysD : List D → Option (List Key)
  | [] => some []
  | d :: ds => (keyD d).bind fun k => (keysD ds).map fun ks => k :: ks
def keyT : D → Option (List Key)
  | .tup ds => keysD ds
  | _ => none
/-- what the dict at a has at y -/
def dget (S : Sto) (a : Addr) (y : D) (k : Option D → Prop) : Prop := match S a with
  | some (.dK kvs) => (match keyD y with | some x => k (valD kvs x) | none => False)
  | some (.fK kvs) => (match keyD y with | some x => k (valD kvs x) | none => False)
  | some (.dT kvs) => (match keyT y with | some x => k (valD kvs x) | none => False)
  | some (.fT kvs) => (match keyT y with | some x => k (valD kvs x) | none => False)
  | _ => False
def dput (S : Sto) (a : Addr) (y v : D) (k : Sto → Prop) : Prop := match S a with
  | some (.dK kvs) => (match keyD y with | some x => kvs.length < 1000000 ∧ k (sup S a (.dK (putKD kvs x v))) | none => False)
  | some (.dT kvs) => (match keyT y with | some x => kvs.length < 1000000 ∧ k (sup S a (.dT (putKD kvs x v))) | none => False)
  | _ => False
def eDGet (fd fy : DE) : DE := fun δ S Q => fd δ S fun x S1 => fy δ S1 fun y S2 => asRef x fun a => dget S2 a y fun o => match o with | some v => Q v S2 | none => False
def isDict (S : Sto) (a : Addr) : Bool := match S a with | some (.dK _) => true | some (.fK _) => true | some (.dT _) => true | some (.fT _) => true | _ => false
def eDGet1 (fd fy : DE) : DE := fun δ S Q => fd δ S fun x S1 => asRef x fun a => isDict S1 a = true ∧ fy δ S1 fun y S2 => dget S2 a y fun o => Q (o.getD .non) S2
def eDGet2 (fd fy fx : DE) : DE := fun δ S Q => fd δ S fun x S1 => asRef x fun a => isDict S1 a = true ∧ fy δ S1 fun y S2 => fx δ S2 fun z S3 => dget S3 a y fun o => Q (o.getD z) S3
def eDIn (fy fd : DE) : DE := fun δ S Q => fy δ S fun y S1 => fd δ S1 fun x S2 => asRef x fun a => dget S2 a y fun o => Q (.bl o.isSome) S2
def eDNotIn (fy fd : DE) : DE := fun δ S Q => fy δ S fun y S1 => fd δ S1 fun x S2 => asRef x fun a => dget S2 a y fun o => Q (.bl (!o.isSome)) S2
def sDPutD (fd fy fv : DE) : DS := fun D δ S => fv δ S fun v S1 => fd δ S1 fun x S2 => fy δ S2 fun y S3 => asRef x fun a => dput S3 a y v fun S4 => D.nx δ S4
def sDDelD (fd fy : DE) : DS := fun D δ S => fd δ S fun x S1 => fy δ S1 fun y S2 => asRef x fun a => match S2 a with
  | some (.dK kvs) => (match keyD y with | some k => (valD kvs k).isSome = true ∧ D.nx δ (sup S2 a (.dK (dropKD kvs k))) | none => False)
  | _ => False
section
variable {G : Gm} {N : En} {H : Hp} {S : Sto}
theorem kv_val {κ : Type} [DecidableEq κ] {r : List (κ × V)} {s : List (κ × D)} (h : KvAll G H r s) (k : κ) : (∃ v d, valV r k = some v ∧ valD s k = some d ∧ Im G H v d) ∨ (valV r k = none ∧ valD s k = none) := by
  induction h with
  | nil => exact .inr ⟨rfl, rfl⟩
  | @cons k' v d r s hi _ ih =>
    unfold valV valD at ih ⊢
    by_cases e : k' = k
    · exact .inl ⟨v, d, by simp [List.find?_cons, e], by simp [List.find?_cons, e], hi⟩
    · simpa [List.find?_cons, e] using ih
theorem kv_any {κ : Type} [DecidableEq κ] {r : List (κ × V)} {s : List (κ × D)} (h : KvAll G H r s) (k : κ) : (r.any fun kv => decide (kv.1 = k)) = s.any fun kv => decide (kv.1 = k) := by
  induction h with
  | nil => rfl
  | cons _ _ ih => simp [ih]
theorem kv_put {κ : Type} [DecidableEq κ] {r : List (κ × V)} {s : List (κ × D)} (h : KvAll G H r s) (k : κ) {v : V} {d : D} (i : Im G H v d) : KvAll G H (putK r k v) (putKD s k d) := by
  unfold putK putKD
  rw [kv_any h k]
  split
  · induction h with
    | nil => exact .nil
    | @cons k' v' d' r s hi _ ih =>
      rename_i hh
      rw [List.map_cons, List.map_cons]
      have rest : KvAll G H (r.map fun kv => if kv.1 = k then (kv.1, v) else kv) (s.map fun kv => if kv.1 = k then (kv.1, d) else kv) := by
        clear ih hh hi
        rename_i t
        induction t with
        | nil => exact .nil
        | @cons k2 v2 d2 r2 s2 h2 _ ih2 =>
          rw [List.map_cons, List.map_cons]
          by_cases e : k2 = k
          · simp only [if_pos e]; exact .cons i ih2
          · simp only [if_neg e]; exact .cons h2 ih2
      by_cases e : k' = k
      · simp only [if_pos e]; exact .cons i rest
      · simp only [if_neg e]; exact .cons hi rest
  · have app : ∀ {r : List (κ × V)} {s : List (κ × D)}, KvAll G H r s → KvAll G H (r ++ [(k, v)]) (s ++ [(k, d)]) := by
      intro r s t
      induction t with
      | nil => exact .cons i .nil
      | cons h2 _ ih2 => exact .cons h2 ih2
    exact app h
theorem kv_drop {κ : Type} [DecidableEq κ] {r : List (κ × V)} {s : List (κ × D)} (h : KvAll G H r s) (k : κ) : KvAll G H (dropK r k) (dropKD s k) := by
  unfold dropK dropKD
  induction h with
  | nil => exact .nil
  | @cons k' v' d' r s hi _ ih =>
    by_cases e : k' = k
    · simpa [List.filter_cons, e] using ih
    · simpa [List.filter_cons, e] using KvAll.cons hi ih
theorem key_im {y : D} {v : V} {k : Key} (h : keyD y = some k) (i : Im G H v y) : v = kV k := by
  cases y <;> simp only [keyD] at h <;> first | cases h | skip
  · cases im_int i; rfl
  · obtain ⟨rfl, _⟩ := im_str i; rfl
theorem keys_im : ∀ {ds : List D} {vs : List V} {ks : List Key}, keysD ds = some ks → ImAll G H vs ds → vs = ks.map kV
  | [], _, _, h, i => by cases i; simp only [keysD] at h; cases h; rfl
  | d :: ds, _, ks, h, i => by
    cases i with
    | cons i1 i2 =>
      simp only [keysD] at h
      cases e : keyD d with
      | none => rw [e] at h; cases h
      | some k =>
        rw [e] at h
        cases e2 : keysD ds with
        | none => rw [e2] at h; cases h
        | some ks' =>
          rw [e2] at h
          cases h
          rw [key_im e i1, keys_im e2 i2]; rfl
theorem keyT_im {y : D} {v : V} {ks : List Key} (h : keyT y = some ks) (i : Im G H v y) : ∃ b, v = .ref b ∧ H b = some (.tup (ks.map kV)) := by
  cases y <;> simp only [keyT] at h <;> first | cases h | skip
  obtain ⟨b, xs, rfl, e, ia⟩ := im_tup i
  exact ⟨b, rfl, by rw [e, keys_im h ia]⟩
/-- a look-up -/
theorem dget_of {a : Addr} {y : D} {v : V} {k : Option D → Prop} (s : Sim G S H) (i : Im G H v y) (h : dget S a y k) : ∃ (ov : Option V) (od : Option D), DGet H a v ov ∧ k od ∧ ((∃ w d, ov = some w ∧ od = some d ∧ Im G H w d) ∨ (ov = none ∧ od = none)) := by
  have fin : ∀ {κ : Type} [DecidableEq κ] {r : List (κ × V)} {s : List (κ × D)} (x : κ), KvAll G H r s → DGet H a v (valV r x) → k (valD s x) → ∃ (ov : Option V) (od : Option D), DGet H a v ov ∧ k od ∧ ((∃ w d, ov = some w ∧ od = some d ∧ Im G H w d) ∨ (ov = none ∧ od = none)) := by
    intro κ _ r s x kv g q
    refine ⟨_, _, g, q, ?_⟩
    rcases kv_val kv x with ⟨w, d, e1, e2, iw⟩ | ⟨e1, e2⟩
    · exact .inl ⟨w, d, e1, e2, iw⟩
    · exact .inr ⟨e1, e2⟩
  unfold dget at h
  split at h
  · rename_i kvs hs
    obtain ⟨ks, hk, kv⟩ := s.ob _ _ hs
    split at h
    · rename_i x hx
      cases key_im hx i
      exact fin x kv (.inl ⟨ks, x, .inl hk, rfl, rfl⟩) h
    · exact h.elim
  · rename_i kvs hs
    obtain ⟨o, ks, hk, kv⟩ := s.ob _ _ hs
    split at h
    · rename_i x hx
      cases key_im hx i
      exact fin x kv (.inl ⟨ks, x, .inr ⟨o, hk⟩, rfl, rfl⟩) h
    · exact h.elim
  · rename_i kvs hs
    obtain ⟨ks, hk, kv⟩ := s.ob _ _ hs
    split at h
    · rename_i x hx
      obtain ⟨b, rfl, hb⟩ := keyT_im hx i
      exact fin x kv (.inr ⟨ks, x, b, .inl hk, rfl, hb, rfl⟩) h
    · exact h.elim
  · rename_i kvs hs
    obtain ⟨o, ks, hk, kv⟩ := s.ob _ _ hs
    split at h
    · rename_i x hx
      obtain ⟨b, rfl, hb⟩ := keyT_im hx i
      exact fin x kv (.inr ⟨ks, x, b, .inr ⟨o, hk⟩, rfl, hb, rfl⟩) h
    · exact h.elim
  · exact h.elim
theorem isD_of {a : Addr} (s : Sim G S H) (h : isDict S a = true) : IsD H a := by
  unfold isDict at h
  split at h
  · rename_i kvs hs; obtain ⟨ks, hk, _⟩ := s.ob _ _ hs; exact .inl ⟨ks, .inl hk⟩
  · rename_i kvs hs; obtain ⟨o, ks, hk, _⟩ := s.ob _ _ hs; exact .inl ⟨ks, .inr ⟨o, hk⟩⟩
  · rename_i kvs hs; obtain ⟨ks, hk, _⟩ := s.ob _ _ hs; exact .inr ⟨ks, .inl hk⟩
  · rename_i kvs hs; obtain ⟨o, ks, hk, _⟩ := s.ob _ _ hs; exact .inr ⟨ks, .inr ⟨o, hk⟩⟩
  · cases h
variable {td ty tx : TE} {fd fy fx : DE}
theorem se_dget (hd : SE G N td fd) (hy : SE G N ty fy) : SE G N (tDGet td ty) (eDGet fd fy) := by
  intro σ δ H S Q R rl h k
  refine hd σ δ H S _ _ rl h fun x d H1 S1 i1 r1 u1 q1 => ?_
  refine hy σ δ H1 S1 _ _ r1 q1 fun y e H2 S2 i2 r2 u2 q2 => ?_
  obtain ⟨a, rfl, q2'⟩ := asRef_of q2
  obtain ⟨ov, od, g, q3, ⟨w, d, rfl, rfl, iw⟩ | ⟨rfl, rfl⟩⟩ := dget_of r2.sim i2 q2'
  · exact ⟨a, w, im_ref (i1.go (u2.tu r1.sim)), g, k w d H2 S2 iw r2 (u1.trans u2) q3⟩
  · exact q3.elim
theorem se_dget1 (hd : SE G N td fd) (hy : SE G N ty fy) : SE G N (tDGet1 td ty) (eDGet1 fd fy) := by
  intro σ δ H S Q R rl h k
  refine hd σ δ H S _ _ rl h fun x d H1 S1 i1 r1 u1 q1 => ?_
  obtain ⟨a, rfl, z, q1'⟩ := asRef_of q1
  refine ⟨a, im_ref i1, isD_of r1.sim z, hy σ δ H1 S1 _ _ r1 q1' fun y e H2 S2 i2 r2 u2 q2 => ?_⟩
  obtain ⟨ov, od, g, q3, ⟨w, d, rfl, rfl, iw⟩ | ⟨rfl, rfl⟩⟩ := dget_of r2.sim i2 q2
  · exact ⟨_, g, k w d H2 S2 iw r2 (u1.trans u2) q3⟩
  · exact ⟨_, g, k .non .non H2 S2 .non r2 (u1.trans u2) q3⟩
theorem se_dget2 (hd : SE G N td fd) (hy : SE G N ty fy) (hx : SE G N tx fx) : SE G N (tDGet2 td ty tx) (eDGet2 fd fy fx) := by
  intro σ δ H S Q R rl h k
  refine hd σ δ H S _ _ rl h fun x d H1 S1 i1 r1 u1 q1 => ?_
  obtain ⟨a, rfl, z, q1'⟩ := asRef_of q1
  refine ⟨a, im_ref i1, isD_of r1.sim z, hy σ δ H1 S1 _ _ r1 q1' fun y e H2 S2 i2 r2 u2 q2 => ?_⟩
  refine hx σ δ H2 S2 _ _ r2 q2 fun z' d3 H3 S3 i3 r3 u3 q3 => ?_
  obtain ⟨ov, od, g, q4, ⟨w, d, rfl, rfl, iw⟩ | ⟨rfl, rfl⟩⟩ := dget_of r3.sim (i2.go (u3.tu r2.sim)) q3
  · exact ⟨_, g, k w d H3 S3 iw r3 (u1.trans (u2.trans u3)) q4⟩
  · exact ⟨_, g, k z' d3 H3 S3 i3 r3 (u1.trans (u2.trans u3)) q4⟩
theorem se_din (hy : SE G N ty fy) (hd : SE G N td fd) : SE G N (tDIn ty td) (eDIn fy fd) := by
  intro σ δ H S Q R rl h k
  refine hy σ δ H S _ _ rl h fun y e H1 S1 i1 r1 u1 q1 => ?_
  refine hd σ δ H1 S1 _ _ r1 q1 fun x d H2 S2 i2 r2 u2 q2 => ?_
  obtain ⟨a, rfl, q2'⟩ := asRef_of q2
  obtain ⟨ov, od, g, q3, ⟨w, d, rfl, rfl, iw⟩ | ⟨rfl, rfl⟩⟩ := dget_of r2.sim (i1.go (u2.tu r1.sim)) q2'
  · exact ⟨a, _, im_ref i2, g, k _ _ H2 S2 (.bl _) r2 (u1.trans u2) q3⟩
  · exact ⟨a, _, im_ref i2, g, k _ _ H2 S2 (.bl _) r2 (u1.trans u2) q3⟩
theorem se_dnotin (hy : SE G N ty fy) (hd : SE G N td fd) : SE G N (tDNotIn ty td) (eDNotIn fy fd) := by
  intro σ δ H S Q R rl h k
  refine hy σ δ H S _ _ rl h fun y e H1 S1 i1 r1 u1 q1 => ?_
  refine hd σ δ H1 S1 _ _ r1 q1 fun x d H2 S2 i2 r2 u2 q2 => ?_
  obtain ⟨a, rfl, q2'⟩ := asRef_of q2
  obtain ⟨ov, od, g, q3, ⟨w, d, rfl, rfl, iw⟩ | ⟨rfl, rfl⟩⟩ := dget_of r2.sim (i1.go (u2.tu r1.sim)) q2'
  · exact ⟨a, _, im_ref i2, g, k _ _ H2 S2 (.bl _) r2 (u1.trans u2) q3⟩
  · exact ⟨a, _, im_ref i2, g, k _ _ H2 S2 (.bl _) r2 (u1.trans u2) q3⟩
theorem put_dK {a : Addr} {ks ks' : List (Key × V)} {kvs kvs' : List (Key × D)} (s : Sim G S H) (e : S a = some (.dK kvs)) (h : H a = some (.dK ks)) (i : KvAll G H ks' kvs') : Sim G (sup S a (.dK kvs')) (upd H a (.dK ks')) ∧ Up S (sup S a (.dK kvs')) H (upd H a (.dK ks')) := by
  have t : Tu H (upd H a (.dK ks')) := fun b ys hb => by rw [upd_ne (fun y => by rw [y, h] at hb; cases hb)]; exact hb
  exact s.put (o := .dK kvs') e (by simp) (ho := .dK ks') rfl ⟨ks', upd_same, i.go t⟩
theorem put_dT {a : Addr} {ks ks' : List (List Key × V)} {kvs kvs' : List (List Key × D)} (s : Sim G S H) (e : S a = some (.dT kvs)) (h : H a = some (.dT ks)) (i : KvAll G H ks' kvs') : Sim G (sup S a (.dT kvs')) (upd H a (.dT ks')) ∧ Up S (sup S a (.dT kvs')) H (upd H a (.dT ks')) := by
  have t : Tu H (upd H a (.dT ks')) := fun b ys hb => by rw [upd_ne (fun y => by rw [y, h] at hb; cases hb)]; exact hb
  exact s.put (o := .dT kvs') e (by simp) (ho := .dT ks') rfl ⟨ks', upd_same, i.go t⟩
theorem dput_of {a : Addr} {y z : D} {v w : V} {k : Sto → Prop} (s : Sim G S H) (i : Im G H v y) (iw : Im G H w z) (h : dput S a y z k) : ∃ H' S', DPut H a v w H' ∧ Sim G S' H' ∧ Up S S' H H' ∧ k S' := by
  unfold dput at h
  split at h
  · rename_i kvs hs
    obtain ⟨ks, hk, kv⟩ := s.ob _ _ hs
    split at h
    · rename_i x hx
      cases key_im hx i
      obtain ⟨s2, u2⟩ := put_dK s hs hk (kv_put kv x iw)
      exact ⟨_, _, .k hk (by rw [kv.length]; exact Nat.lt_of_lt_of_le h.1 (le_line (Nat.le_refl _))), s2, u2, h.2⟩
    · exact h.elim
  · rename_i kvs hs
    obtain ⟨ks, hk, kv⟩ := s.ob _ _ hs
    split at h
    · rename_i x hx
      obtain ⟨b, rfl, hb⟩ := keyT_im hx i
      obtain ⟨s2, u2⟩ := put_dT s hs hk (kv_put kv x iw)
      exact ⟨_, _, .t hk hb (by rw [kv.length]; exact Nat.lt_of_lt_of_le h.1 (le_line (Nat.le_refl _))), s2, u2, h.2⟩
    · exact h.elim
  · exact h.elim
theorem ss_dput {tv : TE} {fv : DE} (hd : SE G N td fd) (hy : SE G N ty fy) (hv : SE G N tv fv) : SS G N (sDPut td ty tv) (sDPutD fd fy fv) := by
  intro σ δ H S D E r h k
  refine hv σ δ H S _ _ r h fun v z H1 S1 i1 r1 u1 q1 => ?_
  refine hd σ δ H1 S1 _ _ r1 q1 fun x d H2 S2 i2 r2 u2 q2 => ?_
  refine hy σ δ H2 S2 _ _ r2 q2 fun y e H3 S3 i3 r3 u3 q3 => ?_
  obtain ⟨a, rfl, q3'⟩ := asRef_of q3
  obtain ⟨H4, S4, p4, s4, u4, q4⟩ := dput_of r3.sim i3 ((i1.go (u2.tu r1.sim)).go (u3.tu r2.sim)) q3'
  exact ⟨a, H4, im_ref (i2.go (u3.tu r2.sim)), p4, k.nx σ δ H4 S4 (r3.go s4 u4) (u1.trans (u2.trans (u3.trans u4))) q4⟩
theorem ss_ddel (hd : SE G N td fd) (hy : SE G N ty fy) : SS G N (sDDel td ty) (sDDelD fd fy) := by
  intro σ δ H S D E r h k
  refine hd σ δ H S _ _ r h fun x d H1 S1 i1 r1 u1 q1 => ?_
  refine hy σ δ H1 S1 _ _ r1 q1 fun y e H2 S2 i2 r2 u2 q2 => ?_
  obtain ⟨a, rfl, q3⟩ := asRef_of q2
  split at q3
  · rename_i kvs hs
    obtain ⟨ks, hk, kv⟩ := r2.sim.ob _ _ hs
    split at q3
    · rename_i x hx
      cases key_im hx i2
      obtain ⟨s3, u3⟩ := put_dK r2.sim hs hk (kv_drop kv x)
      refine ⟨a, ks, x, im_ref (i1.go (u2.tu r1.sim)), hk, rfl, ?_, k.nx σ δ _ _ (r2.go s3 u3) (u1.trans (u2.trans u3)) q3.2⟩
      rcases kv_val kv x with ⟨w, d, e1, e2, iw⟩ | ⟨e1, e2⟩
      · rw [e1]; rfl
      · rw [e2] at q3; cases q3.1
    · exact q3.elim
  · exact q3.elim
end

/-! ### defs -/
/-- the fields of an error -/
def XR (G : Gm) (H : Hp) : Option Addr → List (Str × D) → Prop
  | none, fs => fs = []
  | some d, fs => fs ≠ [] ∧ ∃ gs, H d = some (.xd gs) ∧ KvAll G H gs fs
/-- what E must hold -/
def XOk (G : Gm) (N : En) (Ed : XD) (E : XK) : Prop := ∀ C od fs H' S', Sim G S' H' → Up N.S S' N.H H' → XR G H' od fs → Ed C fs S' → E (.ref C) od H'
/-- a def's promise, by data -/
def spD (K : PySem.W.Frag) (tabs : List Addr) (F : WF) : Sp := fun vs H Q E => ∃ (scr : Addr) (ns : List Int) (ds : List D) (S : Sto) (Qd : DK) (Ed : XD), ImAll ⟨K, tabs, scr, ns⟩ H vs ds ∧ Sim ⟨K, tabs, scr, ns⟩ S H ∧ F ds S Qd Ed ∧
  (∀ v d H' S', Im ⟨K, tabs, scr, ns⟩ H' v d → Sim ⟨K, tabs, scr, ns⟩ S' H' → Up S S' H H' → Qd d S' → Q v H') ∧ XOk ⟨K, tabs, scr, ns⟩ ⟨S, H⟩ Ed E
def xF : XD := fun _ _ _ => False
def eCa (F : WF) (Ed : XD) (fa : DA) : DE := fun δ S Q => fa δ S fun xs S1 => F xs S1 Q Ed
def eMe (C : Addr) (nm : List Str) (F : WF) (Ed : XD) (fo : DE) (fa : DA) : DE := fun δ S Q => fo δ S fun x S1 => (asRef x fun a => atO S1 a C nm fun _ => True) ∧ fa δ S1 fun xs S2 => F (x :: xs) S2 Q Ed
def eMa (C : Addr) (nm : List Str) (F : WF) (Ed : XD) (fa : DA) : DE := fun δ S Q => fa δ S fun xs S1 => ∀ p, S1 p = none → F (.ref p :: xs) (sup S1 p (.ins C nm [])) (fun v S2 => v = .non ∧ Q (.ref p) S2) Ed
section
variable {K : PySem.W.Frag} {tabs : List Addr} {scr : Addr} {ns : List Int} {N : En} {tl : TA} {fl : DA} {F : WF} {Ed : XD} {E : XK}
theorem xok_F {G : Gm} {E : XK} : XOk G N xF E := fun _ _ _ _ _ _ _ _ z => z.elim
theorem use_sp {vs : List V} {ds : List D} {S : Sto} {H : Hp} {Qd : DK} {Q : VK} (i : ImAll ⟨K, tabs, scr, ns⟩ H vs ds) (s : Sim ⟨K, tabs, scr, ns⟩ S H) (u : Up N.S S N.H H) (h : F ds S Qd Ed)
    (q : ∀ v d H' S', Im ⟨K, tabs, scr, ns⟩ H' v d → Sim ⟨K, tabs, scr, ns⟩ S' H' → Up S S' H H' → Qd d S' → Q v H') (x : XOk ⟨K, tabs, scr, ns⟩ N Ed E) : spD K tabs F vs H Q E :=
  ⟨scr, ns, ds, S, Qd, Ed, i, s, h, q, fun C od fs H' S' s' u' xr e => x C od fs H' S' s' (u.trans u') xr e⟩
theorem se_ca (hx : XOk ⟨K, tabs, scr, ns⟩ N Ed E) (ha : SA ⟨K, tabs, scr, ns⟩ N tl fl) : SE ⟨K, tabs, scr, ns⟩ N (Ow.tCa (spD K tabs F) E tl) (eCa F Ed fl) := by
  intro σ δ H S Q R rl h k
  refine ha σ δ H S _ _ rl h fun vs ds H1 S1 i1 r1 u1 q => ?_
  exact use_sp i1 r1.sim r1.up q (fun v d H' S' i s u q' => k v d H' S' i (r1.go s u) (u1.trans u) q') hx
theorem zip_no {nm : List Str} {m : Str} (h : m ∉ nm) : ∀ {ds : List D}, (nm.zip ds).lookup m = none := by
  intro ds
  induction nm generalizing ds with
  | nil => rfl
  | cons n nm ih =>
    cases ds with
    | nil => rfl
    | cons d ds =>
      rw [List.mem_cons, not_or] at h
      rw [List.zip_cons_cons, List.lookup_cons, beq_eq_false_iff_ne.mpr h.1]
      exact ih h.2
theorem se_me {C : Addr} {m : Str} {nm : List Str} {to : TE} {fo : DE} (hm : m ∉ nm) (hx : XOk ⟨K, tabs, scr, ns⟩ N Ed E) (ho : SE ⟨K, tabs, scr, ns⟩ N to fo) (ha : SA ⟨K, tabs, scr, ns⟩ N tl fl) : SE ⟨K, tabs, scr, ns⟩ N (Ow.tMe C m (spD K tabs F) E to tl) (eMe C nm F Ed fo fl) := by
  intro σ δ H S Q R rl h k
  refine ho σ δ H S _ _ rl h fun x d H1 S1 i1 r1 u1 ⟨q0, q⟩ => ?_
  obtain ⟨a, rfl, q0⟩ := asRef_of q0
  obtain ⟨fs, e1, _⟩ := atO_of q0
  obtain ⟨dx, gs, hg, kv, _⟩ := r1.sim.ob _ _ e1
  refine ⟨a, dx, gs, im_ref i1, hg, kv_none kv (zip_no hm), ha σ δ H1 S1 _ _ r1 q fun vs ds H2 S2 i2 r2 u2 q2 => ?_⟩
  exact use_sp (.cons (i1.go (u2.tu r1.sim)) i2) r2.sim r2.up q2 (fun v d H' S' i s u q' => k v d H' S' i (r2.go s u) (u1.trans (u2.trans u)) q') hx
theorem se_ma {C : Addr} {nm : List Str} (hn : nm.length ≤ 999) (hx : XOk ⟨K, tabs, scr, ns⟩ N Ed E) (ha : SA ⟨K, tabs, scr, ns⟩ N tl fl) : SE ⟨K, tabs, scr, ns⟩ N (Ow.tMa C (spD K tabs F) E tl) (eMa C nm F Ed fl) := by
  intro σ δ H S Q R rl h k
  refine ha σ δ H S _ _ rl h fun vs ds H1 S1 i1 r1 u1 q x dx hx1 hdx hne => ?_
  have e1 := Ext.lay (o := HO.own x) hdx
  have s2 := r1.sim.ext e1
  have hx2 : upd H1 dx (.own x) x = none := by rw [upd_ne (Ne.symm hne)]; exact hx1
  obtain ⟨s3, u3⟩ := s2.lay (p := x) (o := .ins C nm []) (ho := .ins C dx []) hx2 ⟨dx, [], upd_same, by rw [List.zip_nil_right]; exact .nil, Nat.zero_le _, hn⟩
  have u4 := (Up.of_ext (S := S1) e1).trans u3
  refine use_sp (.cons (.ref x) (i1.go (u4.tu r1.sim))) s3 (r1.up.trans u4) (q x (r1.sim.free hx1)) (fun v d H' S' i s u ⟨ed, q'⟩ => ?_) hx
  subst ed
  exact ⟨im_non i, k (.ref x) (.ref x) H' S' (.ref x) ((r1.go s3 u4).go s u) (u1.trans (u4.trans u)) q'⟩
/-- raise of an own error without fields -/
def sRaise (C : Addr) (Ed : XD) : DS := fun _ _ S => Ed C [] S
theorem ss_raise {G : Gm} {C : Addr} (hx : XOk G N Ed E) : SS G N (fun _ _ H => E (.ref C) none H) (sRaise C Ed) := fun σ δ H S D E' r h k => hx C none [] H S r.sim r.up rfl h
end
section
variable {P : Program} {w : World} {K : PySem.W.Frag} {mg : Str → Option Value} {base : Heap} {tabs : List Addr}
def dstart (N : List Str) (ds : List D) : DV := ds.map some ++ List.replicate (N.length - ds.length) none
theorem sl_start {G : Gm} {H : Hp} {N : List Str} {vs : List V} {ds : List D} (i : ImAll G H vs ds) : Sl G H (L2.start N vs) (dstart N ds) := by
  have hl := i.length
  refine ⟨by simp [L2.start, dstart, hl], fun j d hj => ?_⟩
  unfold dstart at hj
  unfold L2.start
  by_cases y : j < ds.length
  · rw [List.getElem?_append_left (by simpa using y)] at hj
    rw [List.getElem?_append_left (by simpa [hl] using y)]
    rw [List.getElem?_map] at hj ⊢
    cases e : ds[j]? with
    | none => rw [e] at hj; cases hj
    | some d' =>
      rw [e] at hj
      cases hj
      obtain ⟨v, hv, iv⟩ := i.getD e
      exact ⟨v, by rw [hv]; rfl, iv⟩
  · rw [List.getElem?_append_right (by simpa using y)] at hj
    rw [List.getElem?_replicate] at hj
    split at hj <;> cases hj
/-- a def by data: its body's word is the promise -/
theorem def_ok {x qual : Str} {st : Stmt} {f : Addr} {fd : FuncData} {N ps : List Str} {k : Nat} {F : WF} (Fm : Fun K x qual st f fd) (S : FnScope N ps (defScope st)) (len : ∀ ds S Q E, F ds S Q E → ds.length = ps.length)
    (body : ∀ (scr : Addr) (ns : List Int) (Ne : En) (Ed : XD) (E : XK) (cdv : Value) (A : Around) (outer : List Env) (s : Shared) (H : Hp), Room k (A.deeper (envOfC qual (defScope st) s.heap.objs.size f cdv)) → XOk ⟨K, tabs, scr, ns⟩ Ne Ed E →
      ∃ t fb, PSs (cxOf (L2.CX P w) P w K mg base N qual (defScope st) f cdv A outer s H E) (defBody st) t ∧ SS ⟨K, tabs, scr, ns⟩ Ne t fb ∧ ∀ ds S Qd, F ds S Qd Ed → fb { nx := fun _ S' => Qd .non S', rt := Qd } (dstart N ds) S) :
    FnOk P w K mg base (L2.CX P w) (k + 1) f fd ps (spD K tabs F) := by
  refine Fm.okX S (fun vs H Q E h => ?_) (fun cdv A outer s H vs Q E hr h => ?_)
  · obtain ⟨scr, ns, ds, S, Qd, Ed, i, _, hF, _⟩ := h
    rw [i.length]; exact len _ _ _ _ hF
  · obtain ⟨scr, ns, ds, S0, Qd, Ed, i, sm, hF, hq, hx⟩ := h
    obtain ⟨t, fb, hp, hs, hf⟩ := body scr ns ⟨S0, H⟩ Ed E cdv A outer s H hr hx
    refine ⟨t, hp, hs _ _ H S0 _ _ ⟨sl_start i, sm, .refl⟩ (hf ds S0 Qd hF) ⟨fun σ δ H' S' r u q => hq .non .non H' S' .non r.sim u q, fun _ _ _ _ _ _ z => z.elim, fun _ _ _ _ _ _ z => z.elim, fun v d H' S' iv s' u q => hq v d H' S' iv s' u q⟩⟩
end
end Sd

set_option Elab.async false
set_option linter.all false
set_option maxRecDepth 100000
set_option maxHeartbeats 4000000
namespace Sd
open PySem PySem.Spec PyProof.Rows L2 GxR
instance {x : Str} : Decidable (okS x) := inferInstanceAs (Decidable (_ ∧ _))
theorem m2_get {X : Cx} {o e f : Expr} {apos cpos : Pos} (base : attributeBase o "get" X.env (eval o X.env) = eval o X.env := by rfl)
    (few : ((backTo cpos (starEach [e, f] X.env)).all (fun x => !x.1) && (backToKw cpos (keywordEach [] X.env)).all (fun x => x.1.isSome)
    && decide (([e, f] : List Expr).length + ([] : List Keyword).length + (if ([] : List Keyword).isEmpty then 0 else 1) < 30)) = true := by rfl)
    (line : (apos.endLine == cpos.line) = true := by rfl) (trees : backTo cpos (starEach [e, f] X.env) = [(false, eval e X.env), (false, eval f X.env)] := by rfl) : M2 X o "get" apos e f cpos := ⟨base, few, line, trees⟩
theorem m1_get {X : Cx} {o e : Expr} {apos cpos : Pos} (base : attributeBase o "get" X.env (eval o X.env) = eval o X.env := by rfl)
    (few : ((backTo cpos (starEach [e] X.env)).all (fun x => !x.1) && (backToKw cpos (keywordEach [] X.env)).all (fun x => x.1.isSome)
    && decide (([e] : List Expr).length + ([] : List Keyword).length + (if ([] : List Keyword).isEmpty then 0 else 1) < 30)) = true := by rfl)
    (line : (apos.endLine == cpos.line) = true := by rfl) (trees : backTo cpos (starEach [e] X.env) = [(false, eval e X.env)] := by rfl) : M1 X o "get" apos e cpos := ⟨base, few, line, trees⟩
def dIAdd : B2 := fun x y S Q => (dI (fun _ _ => True) fun i j => .int (i + j)) x y S Q
def dISub : B2 := fun x y S Q => (dI (fun _ _ => True) fun i j => .int (i - j)) x y S Q
/-- scalars -/
def dV : D → V
  | .int i => .int i
  | .str x => .str x
  | .bl b => .bl b
  | _ => .non
def scD : D → Bool
  | .int _ => true | .bl _ => true | .non => true
  | .str x => decide (x.length ≤ 1000000) && PyData.strOk x
  | _ => false
/-- a tuple of scalars of the written part -/
structure CtOk (K : PySem.W.Frag) (c : Addr) (ds : List D) : Prop where
  ex : ∃ (o : Obj) (its : Array Value) (n : Nat), K.lookup c = some o ∧ o.cls = .type "tuple" ∧ o.dict = none ∧ o.data = .seq its n ∧ its.size ≤ sizeLine ∧ Vals (ds.map dV) its.toList
  sc : ds.all scD = true
theorem sc_im {G : Gm} {H : Hp} {d : D} (h : scD d = true) : Im G H (dV d) d := by
  cases d with
  | str x =>
    refine .str x ?_
    have h : (decide (x.length ≤ 1000000) && PyData.strOk x) = true := h
    simpa [okS] using h
  | non => exact .non
  | bl b => exact .bl b
  | int i => exact .int i
  | _ => cases h
theorem scs_im {G : Gm} {H : Hp} : ∀ {ds : List D}, ds.all scD = true → ImAll G H (ds.map dV) ds
  | [], _ => .nil
  | d :: ds, h => by
    rw [List.all_cons, Bool.and_eq_true] at h
    exact .cons (sc_im h.1) (scs_im h.2)
theorem CtOk.im {K : PySem.W.Frag} {c : Addr} {ds : List D} (h : CtOk K c ds) {tabs : List Addr} {scr : Addr} {ns : List Int} {H : Hp} : Im ⟨K, tabs, scr, ns⟩ H (.ref c) (.ctup ds) := by
  obtain ⟨o, its, n, h1, h2, h3, h4, h5, h6⟩ := h.ex
  exact .ctup (fun _ => .inr ⟨o, its, n, h1, h2, h4, h5, h6⟩) h1 h2 h3 (scs_im h.sc)

section
variable {P : Program} {w : World} {K : PySem.W.Frag} {mg : Str → Option Value} {base : Heap}
open Ow in
/-- a def whose code object is known, with its table -/
structure FunT (K : PySem.W.Frag) (base : Heap) (mg : Str → Option Value) (x qual : Str) (st : Stmt) (f : Addr) (fd : FuncData) (P : Addr) : Prop where
  ex : ∃ (oc : Value) (od : Option Addr) (kV doc pm : Value) (an : Option Addr) (c : Addr) (ct : Value) (osl : Array (Option Value)),
    fd = PySem.W.fnOf x qual (defArgs st) (defBody st) (defScope st) .none kV doc pm an (.ref c) ct ∧ K.lookup f = some ⟨oc, od, .func fd, osl⟩ ∧ PySem.W.codeIn K (.ref c) qual = true ∧ TabB base mg c P
  kp : PySem.W.keepIn K (.ref f) = true
open Ow in
theorem FunT.okX {x qual : Str} {st : Stmt} {f : Addr} {fd : FuncData} {N ps : List Str} {k : Nat} {sp : Sp} {Pt : Addr} (F : FunT K base mg x qual st f fd Pt) (S : FnScope N ps (defScope st)) (len : ∀ vs H Q E, sp vs H Q E → vs.length = ps.length)
    (hbody : ∀ (c : Addr) (A : Around) (outer : List Env) (s : Shared) (H : Hp) (vs : List V) (Q : VK) (E : XK), TabB base mg c Pt → Room k (A.deeper (envOfC qual (defScope st) s.heap.objs.size f (.ref c))) → sp vs H Q E →
      ∃ t, PSs (cxOf (L2.CX P w) P w K mg base N qual (defScope st) f (.ref c) A outer s H E) (defBody st) t ∧ t { nx := fun _ H' => Q .non H', rt := Q } (start N vs) H) : FnOk P w K mg base (L2.CX P w) (k + 1) f fd ps sp := by
  obtain ⟨oc, od, kV, doc, pm, an, c, ct, osl, rfl, lk, hcd, tb⟩ := F.ex
  exact fn_of lk hcd S len fun A outer s H vs Q E hr hsp => hbody c A outer s H vs Q E tb hr hsp

end
theorem def_okT {P : Program} {w : World} {K : PySem.W.Frag} {mg : Str → Option Value} {base : Heap} {tabs : List Addr} {x qual : Str} {st : Stmt} {f Pt : Addr} {fd : FuncData} {N ps : List Str} {k : Nat} {F : WF} (Fm : FunT K base mg x qual st f fd Pt) (S : FnScope N ps (defScope st)) (len : ∀ ds S Q E, F ds S Q E → ds.length = ps.length)
    (body : ∀ (scr : Addr) (ns : List Int) (Ne : En) (Ed : XD) (E : XK) (c : Addr) (A : Around) (outer : List Env) (s : Shared) (H : Hp), TabB base mg c Pt → Room k (A.deeper (envOfC qual (defScope st) s.heap.objs.size f (.ref c))) → XOk ⟨K, tabs, scr, ns⟩ Ne Ed E →
      ∃ t fb, PSs (cxOf (L2.CX P w) P w K mg base N qual (defScope st) f (.ref c) A outer s H E) (defBody st) t ∧ SS ⟨K, tabs, scr, ns⟩ Ne t fb ∧ ∀ ds S Qd, F ds S Qd Ed → fb { nx := fun _ S' => Qd .non S', rt := Qd } (dstart N ds) S) :
    FnOk P w K mg base (L2.CX P w) (k + 1) f fd ps (spD K tabs F) := by
  refine Fm.okX S (fun vs H Q E h => ?_) (fun c A outer s H vs Q E TB hr h => ?_)
  · obtain ⟨scr, ns, ds, S, Qd, Ed, i, _, hF, _⟩ := h
    rw [i.length]; exact len _ _ _ _ hF
  · obtain ⟨scr, ns, ds, S0, Qd, Ed, i, sm, hF, hq, hx⟩ := h
    obtain ⟨t, fb, hp, hs, hf⟩ := body scr ns ⟨S0, H⟩ Ed E c A outer s H TB hr hx
    refine ⟨t, hp, hs _ _ H S0 _ _ ⟨sl_start i, sm, .refl⟩ (hf ds S0 Qd hF) ⟨fun σ δ H' S' r u q => hq .non .non H' S' .non r.sim u q, fun _ _ _ _ _ _ z => z.elim, fun _ _ _ _ _ _ z => z.elim, fun v d H' S' iv s' u q => hq v d H' S' iv s' u q⟩⟩
/-! ### join -/
def strsD : List D → Option (List Str)
  | [] => some []
  | .str x :: ds => (strsD ds).map fun xs => x :: xs
  | _ :: _ => none
def dJoin (x y : D) (S : Sto) (Q : DK) : Prop := match x, y with
  | .str a, .ref p => atL S p fun ds => match strsD ds with | none => False | some ys => (ys.map (·.length)).sum + ys.length * a.length ≤ 1000000 ∧ (okS (Txt.join a ys) → Q (.str (Txt.join a ys)) S)
  | _, _ => False
def eJoin (fo fa : DE) : DE := fun δ S Q => fo δ S fun x S1 => (∃ a, x = .str a) ∧ fa δ S1 fun y S2 => dJoin x y S2 Q
theorem strs_of : ∀ {ds : List D} {ys : List Str}, strsD ds = some ys → ds = ys.map D.str
  | [], _, h => by cases h; rfl
  | d :: ds, ys, h => by
    cases d <;> first | (cases h; done) | skip
    rename_i x
    rw [strsD] at h
    cases e : strsD ds with
    | none => rw [e] at h; cases h
    | some zs =>
      rw [e] at h
      cases h
      rw [strs_of e]; rfl
theorem strs_map : ∀ ys : List Str, strsD (ys.map D.str) = some ys
  | [] => rfl
  | y :: ys => by rw [List.map_cons, strsD, strs_map ys]; rfl
theorem im_strs {G : Gm} {H : Hp} : ∀ {ys : List Str} {vs : List V}, ImAll G H vs (ys.map D.str) → vs = ys.map V.str ∧ ∀ y ∈ ys, okS y
  | [], _, h => by cases h; exact ⟨rfl, fun _ z => by cases z⟩
  | y :: ys, _, h => by
    cases h with
    | cons h1 h2 =>
      obtain ⟨rfl, o⟩ := im_str h1
      obtain ⟨rfl, o2⟩ := im_strs h2
      exact ⟨rfl, fun z hz => by
        rcases List.mem_cons.mp hz with rfl | hz
        · exact o
        · exact o2 z hz⟩
theorem okS_join {a : Str} (ha : okS a) : ∀ {ys : List Str}, (∀ y ∈ ys, okS y) → (ys.map (·.length)).sum + ys.length * a.length ≤ 1000000 → okS (Txt.join a ys) := by
  intro ys h l
  have key : ∀ ys : List Str, (∀ y ∈ ys, okS y) → (Str.join a ys).length ≤ (ys.map (·.length)).sum + ys.length * a.length ∧ PyData.strOk (Str.join a ys) = true := by
    intro ys
    induction ys with
    | nil => intro _; rw [Str.join.eq_1]; exact ⟨Nat.zero_le _, by simp [PyData.strOk, Str.empty]⟩
    | cons y ys ih =>
      intro h
      have h1 := h y List.mem_cons_self
      cases ys with
      | nil =>
        rw [Str.join.eq_2]
        exact ⟨by simp, h1.2⟩
      | cons z zs =>
        have h2 := ih fun w hw => h w (List.mem_cons_of_mem _ hw)
        rw [Str.join.eq_3 (a : Str) y (z :: zs) (by intro e; cases e)]
        refine ⟨?_, ?_⟩
        · rw [Ow.len_app, Ow.len_app]
          have e : (y :: z :: zs).length * a.length = (z :: zs).length * a.length + a.length := by rw [List.length_cons, Nat.succ_mul]
          rw [List.map_cons, List.sum_cons, e]
          have := h2.1
          omega
        · have e : ∀ u v : Str, PyData.strOk u = true → PyData.strOk v = true → PyData.strOk (u ++ v) = true := fun u v hu hv => by
            show (u.cps ++ v.cps).all _ = true
            rw [Array.all_append]
            unfold PyData.strOk at hu hv
            simp [hu, hv]
          exact e _ _ (e _ _ h1.2 ha.2) h2.2
  obtain ⟨k1, k2⟩ := key ys h
  rw [show Txt.join a ys = Str.join a ys from TL.join_eq _ _]
  exact ⟨Nat.le_trans k1 l, k2⟩
theorem se_join {G : Gm} {N : En} {to ta : TE} {fo fa : DE} (ho : SE G N to fo) (ha : SE G N ta fa) : SE G N (tM1 (fun x xs H Q => ∃ a p, ∃ ys : List Str, x = .str a ∧ xs = [.ref p] ∧ (SqL G.K H p (ys.map V.str) ∨ SqT G.K H p (ys.map V.str)) ∧ (ys.map (·.length)).sum + ys.length * a.length ≤ 16777216 ∧ Q (.str (Txt.join a ys)) H) to ta) (eJoin fo fa) := by
  intro σ δ H S Q R rl h k
  refine ho σ δ H S _ _ rl h fun x d H1 S1 i1 r1 u1 ⟨⟨s, ex⟩, q1⟩ => ?_
  subst ex
  obtain ⟨rfl, os⟩ := im_str i1
  refine ⟨⟨s, rfl⟩, ha σ δ H1 S1 _ _ r1 q1 fun y e H2 S2 i2 r2 u2 q2 => ?_⟩
  cases e <;> first | exact q2.elim | skip
  rename_i p
  obtain ⟨ds, e1, q⟩ := atL_of (show atL S2 p fun ds => match strsD ds with | none => False | some ys => (ys.map (·.length)).sum + ys.length * s.length ≤ 1000000 ∧ (okS (Txt.join s ys) → Q (.str (Txt.join s ys)) S2) from q2)
  split at q
  case h_1 => exact q.elim
  rename_i ys hys
  cases strs_of hys
  obtain ⟨l, q⟩ := q
  obtain ⟨vs, hv, iv⟩ := r2.sim.ob _ _ e1
  obtain ⟨rfl, oy⟩ := im_strs iv
  cases im_ref i2
  have oj := okS_join os oy l
  exact ⟨s, p, ys, rfl, rfl, .inl (SqL.of hv), Nat.le_trans l (by decide), k _ _ H2 S2 (.str _ oj) r2 (u1.trans u2) (q oj)⟩
/-! ### the box: what it draws is any -/
def wBox : WF := fun ds S Q _ => match ds with | [.scr, .int _] => ∀ b c, S b = none → S c = none → c ≠ b → Q (.ref b) (sup (sup S c .cells) b (.box c)) | _ => False
def wLoad : WF := fun ds S Q _ => match ds with | [.ref b] => (∃ c, S b = some (.box c)) ∧ ∀ i, Q (.int i) S | _ => False
def wDraw : WF := fun ds S Q _ => match ds with | [.ref b, .int m] => (∃ c, S b = some (.box c)) ∧ 0 < m ∧ m < 1000000000000000000 ∧ ∀ i, 0 ≤ i → i < m → Q (.int i) S | _ => False
end Sd

set_option Elab.async false
set_option linter.all false
set_option maxRecDepth 100000
set_option maxHeartbeats 4000000
namespace Sd
open PySem PySem.Spec PyProof.Rows L2 GxR
/-! ### data -/
theorem dat_i {n : Nat} {i : Int} : dat n (.int i) = true := by cases n <;> simp [dat]
theorem dat_s {n : Nat} {x : Str} : dat n (.str x) = true := by cases n <;> simp [dat]
theorem dat_b {n : Nat} {b : Bool} : dat n (.bl b) = true := by cases n <;> simp [dat]
theorem dat_n {n : Nat} : dat n .non = true := by cases n <;> simp [dat]
theorem dats_c {n : Nat} {d : D} {ds : List D} : dats n (d :: ds) = (dat n d && dats n ds) := by rw [dats]
theorem dats_e {n : Nat} : dats n [] = true := by rw [dats]
theorem dat_t {n : Nat} {ds : List D} : dat (n + 1) (.tup ds) = (decide (ds.length ≤ 1000000) && dats n ds) := by rw [dat]
theorem unC_i {i : Int} : unC (.int i) = .int i := rfl
theorem unC_s {i : Str} : unC (.str i) = .str i := rfl
theorem unC_b {i : Bool} : unC (.bl i) = .bl i := rfl
theorem unC_n : unC .non = .non := rfl
theorem unC_t {ds : List D} : unC (.tup ds) = .tup ds := rfl
theorem unC_c {ds : List D} : unC (.ctup ds) = .tup ds := rfl
/-- two ways that go on alike -/
theorem ways {c : Bool} {C : List D → Sto → Prop} {P : List D → Sto → Prop} {ys : List D} {S : Sto} {A : Prop} (h2 : ∀ ds S, C ds S → P ds S) (h1 : (∀ ds S, C ds S → P ds S) → A) (hc : C ys S) : (c = true → A) ∧ (c = false → P ys S) := ⟨fun _ => h1 h2, fun _ => h2 _ _ hc⟩
theorem eqD_ii {i j : Int} : eqD (.int i) (.int j) = decide (i = j) := by
  show (i == j) = _
  by_cases h : i = j <;> simp [h]
theorem eqD_ss {i j : Str} : eqD (.str i) (.str j) = decide (i = j) := by
  show (i == j) = _
  by_cases h : i = j <;> simp [h]
theorem eqD_bb {i j : Bool} : eqD (.bl i) (.bl j) = decide (i = j) := by cases i <;> cases j <;> rfl
theorem eqD_nn : eqD .non .non = true := rfl
theorem eqD_is {i : Int} {j : Str} : eqD (.int i) (.str j) = false := rfl
theorem eqD_si {i : Int} {j : Str} : eqD (.str j) (.int i) = false := rfl
theorem eqD_tt {xs ys : List D} : eqD (.tup xs) (.tup ys) = PyData.eqvAll (pys xs) (pys ys) := rfl
theorem eqvAll_c {x y : D} {xs ys : List D} : PyData.eqvAll (pys (x :: xs)) (pys (y :: ys)) = (eqD x y && PyData.eqvAll (pys xs) (pys ys)) := rfl
theorem eqvAll_n : PyData.eqvAll (pys []) (pys []) = true := rfl
/-! ### look-ups, where it is known what stands -/
theorem atL_eq {S : Sto} {a : Addr} {k : List D → Prop} {ds : List D} (h : S a = some (.lst ds)) : atL S a k = k ds := by unfold atL; rw [h]
theorem atO_eq {S : Sto} {a C : Addr} {nm : List Str} {k : List D → Prop} {ds : List D} (h : S a = some (.ins C nm ds)) : atO S a C nm k = k ds := by unfold atO; rw [h]; simp
theorem dget_T {S : Sto} {a : Addr} {y : D} {k : Option D → Prop} {kvs : List (List Key × D)} {x : List Key} (h : S a = some (.dT kvs)) (e : keyT y = some x) : dget S a y k = k (valD kvs x) := by unfold dget; rw [h]; simp only [e]
theorem dget_K {S : Sto} {a : Addr} {y : D} {k : Option D → Prop} {kvs : List (Key × D)} {x : Key} (h : S a = some (.dK kvs)) (e : keyD y = some x) : dget S a y k = k (valD kvs x) := by unfold dget; rw [h]; simp only [e]
theorem dput_T {S : Sto} {a : Addr} {y v : D} {k : Sto → Prop} {kvs : List (List Key × D)} {x : List Key} (h : S a = some (.dT kvs)) (e : keyT y = some x) (l : kvs.length < 1000000) : dput S a y v k = k (sup S a (.dT (putKD kvs x v))) := by unfold dput; rw [h]; simp only [e, l, true_and]
theorem dput_K {S : Sto} {a : Addr} {y v : D} {k : Sto → Prop} {kvs : List (Key × D)} {x : Key} (h : S a = some (.dK kvs)) (e : keyD y = some x) (l : kvs.length < 1000000) : dput S a y v k = k (sup S a (.dK (putKD kvs x v))) := by unfold dput; rw [h]; simp only [e, l, true_and]
theorem isDict_T {S : Sto} {a : Addr} {kvs : List (List Key × D)} (h : S a = some (.dT kvs)) : (isDict S a = true) = True := by unfold isDict; rw [h]; simp
theorem isDict_K {S : Sto} {a : Addr} {kvs : List (Key × D)} (h : S a = some (.dK kvs)) : (isDict S a = true) = True := by unfold isDict; rw [h]; simp
/-! ### loops by data -/
section
variable {ok : Sto → Prop} {i : Nat} {te : DE} {δ : DV} {S : Sto}
theorem allD_eq {p : D → Bool} {Q : Bool → Sto → Prop} (hok : ok S) : ∀ {items : List D}, (∀ x ∈ items, ∀ R : DK, te (δ.set i (some x)) S R = R (.bl (p x)) S) → allD ok (xName i) te δ items S Q = Q (items.all p) S
  | [], _ => by simp [allD, hok]
  | x :: xs, h => by
    rw [allD]
    simp only [xName]
    rw [h x List.mem_cons_self]
    have ih := allD_eq (Q := Q) hok (items := xs) fun y hy => h y (List.mem_cons_of_mem _ hy)
    simp only [asB, br, hok, true_and, ih, List.all_cons]
    cases p x <;> simp
theorem lcD_map {f : D → D} {Q : List D → Sto → Prop} (hok : ok S) : ∀ {items acc : List D}, acc.length + items.length ≤ 1000000 → (∀ x ∈ items, ∀ R : DK, te (δ.set i (some x)) S R = R (f x) S) → lcD ok (xName i) tYes' te δ items acc S Q = Q (acc ++ items.map f) S
  | [], acc, _, _ => by simp [lcD, hok]
  | x :: xs, acc, l, h => by
    rw [lcD]
    simp only [List.length_cons] at l
    simp only [xName, tYes', br, hok, true_and]
    rw [h x List.mem_cons_self]
    have ih := lcD_map (Q := Q) hok (items := xs) (acc := acc ++ [f x]) (by simp; omega) fun y hy => h y (List.mem_cons_of_mem _ hy)
    rw [ih]
    simp
    omega
theorem lcD_filter {f : D → D} {p : D → Bool} {tt : DT} {Q : List D → Sto → Prop} (hok : ok S) : ∀ {items acc : List D}, acc.length + items.length ≤ 1000000 → (∀ x ∈ items, ∀ R : DK, te (δ.set i (some x)) S R = R (f x) S) → (∀ x ∈ items, ∀ R : Bool → Sto → Prop, tt (δ.set i (some x)) S R = R (p x) S) → lcD ok (xName i) tt te δ items acc S Q = Q (acc ++ (items.filter p).map f) S
  | [], acc, _, _, _ => by simp [lcD, hok]
  | x :: xs, acc, l, h, h2 => by
    rw [lcD]
    simp only [List.length_cons] at l
    simp only [xName, br, hok, true_and]
    rw [h2 x List.mem_cons_self, h x List.mem_cons_self]
    have ih := lcD_filter (Q := Q) hok (items := xs) (acc := acc ++ [f x]) (by simp; omega) (fun y hy => h y (List.mem_cons_of_mem _ hy)) fun y hy => h2 y (List.mem_cons_of_mem _ hy)
    have ih2 := lcD_filter (Q := Q) hok (items := xs) (acc := acc) (by omega) (fun y hy => h y (List.mem_cons_of_mem _ hy)) fun y hy => h2 y (List.mem_cons_of_mem _ hy)
    rw [ih, ih2]
    cases hp : p x
    · simp [hp]
    · simp [hp]; omega
/-- a comprehension with a condition; the store goes on by J -/
theorem lcD_J {f : D → D} {p : D → Bool} {tt : DT} {J : Sto → Prop} {Q : List D → Sto → Prop} {items : List D} (hp : ∀ x ∈ items, ∀ S, J S → ok S ∧ ∀ R : Bool → Sto → Prop, (∀ S', J S' → R (p x) S') → tt (δ.set i (some x)) S R)
    (hf : ∀ x ∈ items, p x = true → ∀ S, J S → ∀ R : DK, (∀ S', J S' → R (f x) S') → te (δ.set i (some x)) S R) (hend : ∀ S, J S → ok S) (hl : items.length ≤ 1000000)
    (q : ∀ S', J S' → Q ((items.filter p).map f) S') (hJ : J S) : lcD ok (xName i) tt te δ items [] S Q := by
  have gen : ∀ (rest done : List D) (S : Sto), items = done ++ rest → J S → lcD ok (xName i) tt te δ rest ((done.filter p).map f) S Q := by
    intro rest
    induction rest with
    | nil =>
      intro done S e hJ
      rw [List.append_nil] at e
      rw [← e]
      exact ⟨hend S hJ, q S hJ⟩
    | cons x xs ih =>
      intro done S e hJ
      have hx : x ∈ items := by rw [e]; simp
      obtain ⟨h1, h2⟩ := hp x hx S hJ
      refine ⟨h1, h2 _ fun S' hJ' => ?_⟩
      have e2 : items = (done ++ [x]) ++ xs := by rw [e]; simp
      refine ⟨fun hb => hf x hx hb S' hJ' _ fun S2 hJ2 => ⟨?_, ?_⟩, fun hb => ?_⟩
      · have h3 : (done.filter p).length ≤ done.length := List.length_filter_le _ _
        have h4 : items.length = done.length + (xs.length + 1) := by rw [e]; simp
        rw [List.length_map]
        omega
      · have := ih (done ++ [x]) S2 e2 hJ2
        rw [List.filter_append, List.map_append] at this
        simpa [List.filter_cons, hb] using this
      · have := ih (done ++ [x]) S' e2 hJ'
        rw [List.filter_append, List.map_append] at this
        simpa [List.filter_cons, hb] using this
  exact gen items [] S rfl hJ
/-- elements that are drawn: any of a kind; the store goes on by J -/
theorem lcD_any {P : D → Prop} {J : Sto → Prop} {Q : List D → Sto → Prop} {items : List D} (h : ∀ x ∈ items, ∀ S, J S → ok S ∧ ∀ R : DK, (∀ y S', J S' → P y → R y S') → te (δ.set i (some x)) S R) (hend : ∀ S, J S → ok S)
    (q : ∀ ys S', ys.length = items.length → (∀ y ∈ ys, P y) → J S' → Q ys S') (hl : items.length ≤ 1000000) (hJ : J S) : lcD ok (xName i) tYes' te δ items [] S Q := by
  have gen : ∀ (rest done acc : List D) (S : Sto), items = done ++ rest → acc.length = done.length → (∀ y ∈ acc, P y) → J S → lcD ok (xName i) tYes' te δ rest acc S Q := by
    intro rest
    induction rest with
    | nil =>
      intro done acc S e l hp hJ
      rw [List.append_nil] at e
      exact ⟨hend S hJ, q acc S (by rw [l, e]) hp hJ⟩
    | cons x xs ih =>
      intro done acc S e l hp hJ
      have hx : x ∈ items := by rw [e]; simp
      obtain ⟨h1, h2⟩ := h x hx S hJ
      refine ⟨h1, ?_⟩
      show (true = true → _) ∧ (true = false → _)
      refine ⟨fun _ => h2 _ fun y S' hJ' hy => ⟨?_, ih (done ++ [x]) (acc ++ [y]) S' (by rw [e]; simp) (by simp [l]) (fun z hz => ?_) hJ'⟩, fun z => by cases z⟩
      · have : items.length = done.length + (xs.length + 1) := by rw [e]; simp
        omega
      · rcases List.mem_append.mp hz with hz | hz
        · exact hp z hz
        · rw [List.mem_singleton.mp hz]; exact hy
  exact gen items [] [] S rfl rfl (fun _ z => by cases z) hJ
/-- .. with a count: elements of a kind, the store by J -/
theorem lcD_ix {P : D → Prop} {J : Nat → Sto → Prop} {Q : List D → Sto → Prop} {items : List D} (h : ∀ (k : Nat) x, items[k]? = some x → ∀ S, J k S → ok S ∧ ∀ R : DK, (∀ y S', J (k + 1) S' → P y → R y S') → te (δ.set i (some x)) S R) (hend : ∀ k S, J k S → ok S)
    (q : ∀ ys S', ys.length = items.length → (∀ y ∈ ys, P y) → J items.length S' → Q ys S') (hl : items.length ≤ 1000000) (hJ : J 0 S) : lcD ok (xName i) tYes' te δ items [] S Q := by
  have gen : ∀ (rest done acc : List D) (S : Sto), items = done ++ rest → acc.length = done.length → (∀ y ∈ acc, P y) → J done.length S → lcD ok (xName i) tYes' te δ rest acc S Q := by
    intro rest
    induction rest with
    | nil =>
      intro done acc S e l hp hJ
      rw [List.append_nil] at e
      subst e
      exact ⟨hend _ S hJ, q acc S l hp hJ⟩
    | cons x xs ih =>
      intro done acc S e l hp hJ
      have hx : items[done.length]? = some x := by rw [e]; simp
      obtain ⟨h1, h2⟩ := h _ x hx S hJ
      refine ⟨h1, ?_⟩
      show (true = true → _) ∧ (true = false → _)
      refine ⟨fun _ => h2 _ fun y S' hJ' hy => ⟨?_, ih (done ++ [x]) (acc ++ [y]) S' (by rw [e]; simp) (by simp [l]) (fun z hz => ?_) (by simpa using hJ')⟩, fun z => by cases z⟩
      · have : items.length = done.length + (xs.length + 1) := by rw [e]; simp
        omega
      · rcases List.mem_append.mp hz with hz | hz
        · exact hp z hz
        · rw [List.mem_singleton.mp hz]; exact hy
  exact gen items [] [] S rfl rfl (fun _ z => by cases z) hJ
end
theorem forD_inv {ok : Sto → Prop} {g : DG} {tb : DS} {D : DN} {items : List Sd.D} (I : DV → Sto → Prop)
    (hs : ∀ x ∈ items, ∀ (Nx : DV → Sto → Prop) δ S, I δ S → (∀ δ' S', I δ' S' → Nx δ' S') → ok S ∧ g x δ S fun δ' S' => tb { D with nx := Nx, ct := Nx, bk := D.nx } δ' S')
    (he : ∀ δ S, I δ S → ok S ∧ D.nx δ S) {δ : DV} {S : Sto} (h : I δ S) : forD ok g tb items D δ S := by
  induction items generalizing δ S with
  | nil => exact he δ S h
  | cons x xs ih =>
    exact hs x List.mem_cons_self _ δ S h fun δ' S' h' => ih (fun y hy => hs y (List.mem_cons_of_mem _ hy)) h'
/-- .. with the items that are past -/
theorem forD_ix {ok : Sto → Prop} {g : DG} {tb : DS} {D : DN} {items : List Sd.D} (I : Nat → DV → Sto → Prop)
    (hs : ∀ (k : Nat) x, items[k]? = some x → ∀ (Nx : DV → Sto → Prop) δ S, I k δ S → (∀ δ' S', I (k + 1) δ' S' → Nx δ' S') → ok S ∧ g x δ S fun δ' S' => tb { D with nx := Nx, ct := Nx, bk := D.nx } δ' S')
    (he : ∀ δ S, I items.length δ S → ok S ∧ D.nx δ S) {δ : DV} {S : Sto} (h : I 0 δ S) : forD ok g tb items D δ S := by
  have gen : ∀ (rest done : List Sd.D) (δ : DV) (S : Sto), items = done ++ rest → I done.length δ S → forD ok g tb rest D δ S := by
    intro rest
    induction rest with
    | nil =>
      intro done δ S e h
      rw [List.append_nil] at e
      rw [← e] at h
      exact he δ S h
    | cons x xs ih =>
      intro done δ S e h
      refine hs done.length x (by rw [e]; simp) _ δ S h fun δ' S' h' => ?_
      exact ih (done ++ [x]) δ' S' (by rw [e]; simp) (by simpa using h')
  exact gen items [] δ S rfl h
/-- a while by a measure -/
theorem whN_by {c : DT} {tb : DS} {D : DN} (I : DV → Sto → Prop) (μ : DV → Sto → Nat)
    (hs : ∀ (Nx : DV → Sto → Prop) δ S, I δ S → (∀ δ' S', I δ' S' → μ δ' S' < μ δ S → Nx δ' S') → c δ S fun b S1 => br b (tb { D with nx := Nx, ct := Nx, bk := D.nx } δ S1) (D.nx δ S1)) {δ : DV} {S : Sto} (h : I δ S) : sWhile c tb D δ S := by
  have gen : ∀ n δ S, I δ S → μ δ S < n → whN c tb n D δ S := by
    intro n
    induction n with
    | zero => intro δ S _ z; exact absurd z (Nat.not_lt_zero _)
    | succ n ih => intro δ S h z; exact hs _ δ S h fun δ' S' h' l => ih δ' S' h' (by omega)
  exact ⟨_, gen (μ δ S + 1) δ S h (Nat.lt_succ_self _)⟩
end Sd

set_option Elab.async false
set_option linter.all false
set_option maxRecDepth 100000
set_option maxHeartbeats 4000000
namespace Sd
open PySem PySem.Spec PyProof.Rows L2 GxR
/-! ### a function that the kernel does not look into -/
noncomputable def shut (F : WF) : WF := Classical.choose (⟨F, rfl⟩ : ∃ G : WF, G = F)
theorem shut_eq (F : WF) : shut F = F := Classical.choose_spec (⟨F, rfl⟩ : ∃ G : WF, G = F)
theorem shut_of {F : WF} {ds : List D} {S : Sto} {Q : DK} {Ed : XD} (h : shut F ds S Q Ed) : F ds S Q Ed := by rw [shut_eq] at h; exact h
/-! ### places and cuts of data -/
theorem atI_c0 {α : Type} {x : α} {xs : List α} : atI (x :: xs) 0 = some x := atI_nat (j := 0) rfl
theorem atI_c1 {α : Type} {x y : α} {xs : List α} : atI (x :: y :: xs) 1 = some y := atI_nat (j := 1) rfl
theorem atI_c2 {α : Type} {x y z : α} {xs : List α} : atI (x :: y :: z :: xs) 2 = some z := atI_nat (j := 2) rfl
theorem atI_c3 {α : Type} {x y z u : α} {xs : List α} : atI (x :: y :: z :: u :: xs) 3 = some u := atI_nat (j := 3) rfl
theorem atI_c4 {α : Type} {x y z u v : α} {xs : List α} : atI (x :: y :: z :: u :: v :: xs) 4 = some v := atI_nat (j := 4) rfl
theorem atI_c5 {α : Type} {x y z u v w : α} {xs : List α} : atI (x :: y :: z :: u :: v :: w :: xs) 5 = some w := atI_nat (j := 5) rfl
theorem cut_take {xs : List D} {k : Nat} : cutD xs none (some (k : Int)) = xs.take k := by
  unfold cutD HT.sIx
  simp only [show ¬ ((k : Int) < 0) by omega, if_false, Int.toNat_natCast, List.drop_zero, Nat.sub_zero]
  by_cases h : k ≤ xs.length
  · rw [Nat.min_eq_left h]
  · rw [Nat.min_eq_right (by omega), List.take_length, List.take_of_length_le (by omega)]
theorem cut_drop {xs : List D} {k : Nat} : cutD xs (some (k : Int)) none = xs.drop k := by
  unfold cutD HT.sIx
  simp only [show ¬ ((k : Int) < 0) by omega, if_false, Int.toNat_natCast]
  by_cases h : k ≤ xs.length
  · rw [Nat.min_eq_left h, List.take_of_length_le (by simp)]
  · rw [Nat.min_eq_right (by omega)]
    simp [List.drop_eq_nil_of_le (show xs.length ≤ k by omega)]
theorem cut_t1 {xs : List D} : cutD xs none (some 1) = xs.take 1 := cut_take (k := 1)
theorem cut_t2 {xs : List D} : cutD xs none (some 2) = xs.take 2 := cut_take (k := 2)
theorem cut_t3 {xs : List D} : cutD xs none (some 3) = xs.take 3 := cut_take (k := 3)
theorem cut_t4 {xs : List D} : cutD xs none (some 4) = xs.take 4 := cut_take (k := 4)
theorem cut_t5 {xs : List D} : cutD xs none (some 5) = xs.take 5 := cut_take (k := 5)
theorem cut_d1 {xs : List D} : cutD xs (some 1) none = xs.drop 1 := cut_drop (k := 1)
theorem cut_d2 {xs : List D} : cutD xs (some 2) none = xs.drop 2 := cut_drop (k := 2)
theorem cut_d3 {xs : List D} : cutD xs (some 3) none = xs.drop 3 := cut_drop (k := 3)
theorem tk1 {α : Type} {x : α} {xs : List α} : (x :: xs).take 1 = [x] := rfl
theorem tk2 {α : Type} {x y : α} {xs : List α} : (x :: y :: xs).take 2 = [x, y] := rfl
theorem tk5 {α : Type} {x y z u v : α} {xs : List α} : (x :: y :: z :: u :: v :: xs).take 5 = [x, y, z, u, v] := rfl
theorem dp1 {α : Type} {x : α} {xs : List α} : (x :: xs).drop 1 = xs := rfl
theorem dp2 {α : Type} {x y : α} {xs : List α} : (x :: y :: xs).drop 2 = xs := rfl
/-- rows of whole numbers -/
def iD (l : List Int) : D := .tup (l.map .int)
theorem atI_ints {l : List Int} {i : Int} (h0 : 0 ≤ i) (h1 : i < l.length) : atI (l.map D.int) i = some (.int (l.getD i.toNat 0)) := by
  have e : i = ((i.toNat : Nat) : Int) := by omega
  have hl : i.toNat < l.length := by omega
  have k : atI (l.map D.int) ((i.toNat : Nat) : Int) = some (.int (l.getD i.toNat 0)) := by
    refine atI_nat ?_
    rw [List.getElem?_map, List.getD_eq_getElem?_getD, List.getElem?_eq_getElem hl]
    rfl
  rw [← e] at k
  exact k
theorem atI_intsN {l : List Int} {i : Nat} (h1 : i < l.length) : atI (l.map D.int) (i : Int) = some (.int (l.getD i 0)) := by
  have := atI_ints (l := l) (i := (i : Int)) (by omega) (by omega)
  simpa using this
theorem dIx_t {ds : List D} {i : Int} {S : Sto} {Q : DK} : dIx (.tup ds) (.int i) S Q = match atI ds i with | some d => Q d S | none => False := rfl
theorem dIx_c {ds : List D} {i : Int} {S : Sto} {Q : DK} : dIx (.ctup ds) (.int i) S Q = match atI ds i with | some d => Q d S | none => False := rfl
theorem dIx_s {z : Str} {i : Int} {S : Sto} {Q : DK} : dIx (.str z) (.int i) S Q = match atI z.cps.toList i with | some c => Q (.str ⟨#[c]⟩) S | none => False := rfl
theorem dIx_r {a : Addr} {i : Int} {S : Sto} {Q : DK} : dIx (.ref a) (.int i) S Q = atL S a fun ds => match atI ds i with | some d => Q d S | none => False := rfl
theorem dIx_iD {l : List Int} {i : Int} {S : Sto} {Q : DK} : dIx (iD l) (.int i) S Q = match atI (l.map D.int) i with | some d => Q d S | none => False := rfl
theorem dLen_s {x : Str} {S : Sto} {Q : DK} : dLen [.str x] S Q = Q (.int x.length) S := rfl
theorem dLen_t {ds : List D} {S : Sto} {Q : DK} : dLen [.tup ds] S Q = Q (.int ds.length) S := rfl
theorem dLen_c {ds : List D} {S : Sto} {Q : DK} : dLen [.ctup ds] S Q = Q (.int ds.length) S := rfl
theorem dLen_r {a : Addr} {S : Sto} {Q : DK} : dLen [.ref a] S Q = atL S a fun ds => Q (.int ds.length) S := rfl
theorem dLen_iD {l : List Int} {S : Sto} {Q : DK} : dLen [iD l] S Q = Q (.int l.length) S := by show Q (.int (l.map D.int).length) S = _; rw [List.length_map]
theorem set_cut {α : Type} {l : List α} {i : Nat} {x : α} (h : i < l.length) : l.take i ++ x :: l.drop (i + 1) = l.set i x := by
  rw [List.set_eq_take_append_cons_drop, if_pos h]
/-! ### is True, is not True, of bools -/
def dIsB (neg : Bool) : B2 := fun x y S Q => match x, y with
  | .bl p, .bl q => Q (.bl (if neg then !decide (p = q) else decide (p = q))) S
  | _, _ => False
theorem s2_isB {G : Gm} : S2 G (fun x y H Q => ∃ a b, x = .bl a ∧ y = .bl b ∧ Q (.bl (decide (a = b))) H) (dIsB false) := by
  intro x y d e H S Q R hx hy s h k
  unfold dIsB at h
  split at h
  · cases im_bl hx; cases im_bl hy
    exact ⟨_, _, rfl, rfl, k _ _ H S (.bl _) s .refl h⟩
  · exact h.elim
theorem s2_notB {G : Gm} : S2 G (fun x y H Q => ∃ a b, x = .bl a ∧ y = .bl b ∧ Q (.bl (!decide (a = b))) H) (dIsB true) := by
  intro x y d e H S Q R hx hy s h k
  unfold dIsB at h
  split at h
  · cases im_bl hx; cases im_bl hy
    exact ⟨_, _, rfl, rfl, k _ _ H S (.bl _) s .refl h⟩
  · exact h.elim
/-! ### written dicts: texts to scalars or defs -/
def dV2 : D → V
  | .int i => .int i
  | .str x => .str x
  | .bl b => .bl b
  | .ref a => .ref a
  | _ => .non
def scR : D → Bool
  | .ref _ => true
  | d => scD d
theorem scR_im {G : Gm} {H : Hp} {d : D} (h : scR d = true) : Im G H (dV2 d) d := by
  cases d with
  | str x =>
    refine .str x ?_
    have h : (decide (x.length ≤ 1000000) && PyData.strOk x) = true := h
    simpa [okS] using h
  | non => exact .non
  | bl b => exact .bl b
  | int i => exact .int i
  | ref a => exact .ref a
  | _ => cases h
abbrev KTb := List (Str × Option D)
structure KdOk (K : PySem.W.Frag) (w : World) (d : Addr) (tb : KTb) : Prop where
  ex : ∃ es n, KDict K w d es n
  row : ∀ p ∈ tb, ∃ r, PySem.W.nsIn K d p.1 = some r ∧ ((p.2 = none ∧ r = none) ∨ ∃ v u, p.2 = some v ∧ r = some u ∧ scR v = true ∧ RelV (dV2 v) u)
def kLook : KTb → Str → Option (Option D)
  | [], _ => none
  | p :: r, z => if decide (p.1 = z) = true then some p.2 else kLook r z
theorem kLook_c {p : Str × Option D} {r : KTb} {z : Str} : kLook (p :: r) z = if decide (p.1 = z) = true then some p.2 else kLook r z := rfl
theorem look_mem {tb : KTb} {z : Str} {o : Option D} (h : kLook tb z = some o) : (z, o) ∈ tb := by
  induction tb with
  | nil => cases h
  | cons p r ih =>
    rw [kLook_c] at h
    split at h
    · rename_i hk
      cases h
      have : p.1 = z := of_decide_eq_true hk
      subst this
      exact List.mem_cons_self
    · exact List.mem_cons_of_mem _ (ih h)
def eKIx (tb : KTb) (fy : DE) : DE := fun δ S Q => fy δ S fun y S1 => match y with
  | .str z => (match kLook tb z with | some (some v) => Q v S1 | _ => False)
  | _ => False
def eKIn (neg : Bool) (tb : KTb) (fy : DE) : DE := fun δ S Q => fy δ S fun y S1 => match y with
  | .str z => (match kLook tb z with | some o => Q (.bl (if neg then !o.isSome else o.isSome)) S1 | _ => False)
  | _ => False
section
variable {G : Gm} {N : En} {w : World} {d : Addr} {tb : KTb} {ty : TE} {fy : DE}
theorem se_kix (k : KdOk G.K w d tb) (hy : SE G N ty fy) : SE G N (tOp (rIxD G.K w) (tC (.ref d)) ty) (eKIx tb fy) := by
  intro σ δ H S Q R rl h kk
  refine hy σ δ H S _ _ rl h fun y e H1 S1 i1 r1 u1 q1 => ?_
  cases e <;> first | exact q1.elim | skip
  rename_i z
  obtain ⟨rfl, _⟩ := im_str i1
  dsimp only at q1
  split at q1
  · rename_i v hv
    obtain ⟨r, h1, h2⟩ := k.row _ (look_mem hv)
    rcases h2 with ⟨h2, _⟩ | ⟨v', u, h2, rfl, h3, h4⟩
    · cases h2
    · cases h2
      obtain ⟨es, n, hd⟩ := k.ex
      exact ⟨d, z, dV2 v, rfl, rfl, ⟨es, n, u, hd.at_, hd.lit, h1, h4⟩, kk _ v H1 S1 (scR_im h3) r1 u1 q1⟩
  · exact q1.elim
theorem se_knotin (k : KdOk G.K w d tb) (hy : SE G N ty fy) : SE G N (tOp (fun x y H Q => ∃ (z : Str) (r : Option Value), x = .str z ∧ y = .ref d ∧ PySem.W.nsIn G.K d z = some r ∧ Q (.bl (!r.isSome)) H) ty (tC (.ref d))) (eKIn true tb fy) := by
  intro σ δ H S Q R rl h kk
  refine hy σ δ H S _ _ rl h fun y e H1 S1 i1 r1 u1 q1 => ?_
  cases e <;> first | exact q1.elim | skip
  rename_i z
  obtain ⟨rfl, _⟩ := im_str i1
  dsimp only at q1
  split at q1
  · rename_i o hv
    obtain ⟨r, h1, h2⟩ := k.row _ (look_mem hv)
    refine ⟨z, r, rfl, rfl, h1, ?_⟩
    rcases h2 with ⟨h2, rfl⟩ | ⟨v', u, h2, rfl, h3, h4⟩
    · cases h2
      exact kk _ _ H1 S1 (.bl _) r1 u1 q1
    · cases h2
      exact kk _ _ H1 S1 (.bl _) r1 u1 q1
  · exact q1.elim
theorem se_kin (k : KdOk G.K w d tb) (hy : SE G N ty fy) : SE G N (tOp (fun x y H Q => ∃ (z : Str) (r : Option Value), x = .str z ∧ y = .ref d ∧ PySem.W.nsIn G.K d z = some r ∧ Q (.bl (r.isSome)) H) ty (tC (.ref d))) (eKIn false tb fy) := by
  intro σ δ H S Q R rl h kk
  refine hy σ δ H S _ _ rl h fun y e H1 S1 i1 r1 u1 q1 => ?_
  cases e <;> first | exact q1.elim | skip
  rename_i z
  obtain ⟨rfl, _⟩ := im_str i1
  dsimp only at q1
  split at q1
  · rename_i o hv
    obtain ⟨r, h1, h2⟩ := k.row _ (look_mem hv)
    refine ⟨z, r, rfl, rfl, h1, ?_⟩
    rcases h2 with ⟨h2, rfl⟩ | ⟨v', u, h2, rfl, h3, h4⟩
    · cases h2
      exact kk _ _ H1 S1 (.bl _) r1 u1 q1
    · cases h2
      exact kk _ _ H1 S1 (.bl _) r1 u1 q1
  · exact q1.elim
end
theorem op_knotin {X : Cx} {d : Addr} {tb : KTb} (k : KdOk X.K X.w d tb) : OpR X (compareOp .NotIn) (fun x y H Q => ∃ (z : Str) (r : Option Value), x = .str z ∧ y = .ref d ∧ PySem.W.nsIn X.K d z = some r ∧ Q (.bl (!r.isSome)) H) := by
  obtain ⟨es, n, h⟩ := k.ex
  exact op_notIn_kd h
theorem op_kin {X : Cx} {d : Addr} {tb : KTb} (k : KdOk X.K X.w d tb) : OpR X (compareOp .In) (fun x y H Q => ∃ (z : Str) (r : Option Value), x = .str z ∧ y = .ref d ∧ PySem.W.nsIn X.K d z = some r ∧ Q (.bl r.isSome) H) := by
  obtain ⟨es, n, h⟩ := k.ex
  exact op_in_kd h
/-! ### a call of a value that is one of some defs -/
structure CvOk (P : Program) (w : World) (K : PySem.W.Frag) (mg : Str → Option Value) (base : Heap) (j : Nat) (f : Addr) (sp : Sp) : Prop where
  ex : ∃ k fd ps, k ≤ j ∧ FnOk P w K mg base (L2.CX P w) k f fd ps sp ∧ PySem.W.keepIn K (.ref f) = true ∧ Binds K fd ps []
theorem CvOk.of {P : Program} {w : World} {K : PySem.W.Frag} {mg : Str → Option Value} {base : Heap} {k j : Nat} {x : Str} {f : Addr} {sp : Sp} (c : Ow.Ca P w K mg base k x sp) (h : mg x = some (.ref f)) (hk : k ≤ j) : CvOk P w K mg base j f sp := by
  obtain ⟨f', fd, ps, F, hm, kp, b⟩ := c.ex
  rw [h] at hm
  cases hm
  exact ⟨k, fd, ps, hk, F, kp, b⟩
def tCV (i : Nat) (fs : List (Addr × Sp)) (t : TA) : TE := fun σ H Q => ∃ f sp, (f, sp) ∈ fs ∧ σ[i]? = some (some (.ref f)) ∧ t σ H fun vs H1 => sp vs H1 Q L2.E0
theorem pe_cvs {X : Cx} {j : Nat} {x : Str} {p pos : Pos} {e : Expr} {es : List Expr} {t : TA} {i : Nat} {fs : List (Addr × Sp)} (h : ∀ p ∈ fs, CvOk X.prog X.w X.K X.mg X.base j p.1 p.2) (hr : Room j X.A) (hN : X.N[i]? = some x) (hv : Vis X.env.scope x) (ha : PA X (e :: es) t)
    (h1 : (x == ("__debug__" : Str)) = false := by decide) (h2 : (x == ("__classdict__" : Str)) = false := by decide) (he : starEach (e :: es) X.env = (false, eval e X.env) :: starEach es X.env := by rfl) (hpl : (backTo pos (starEach es X.env)).any (·.1) = false := by rfl) :
    PE X (.Call (.Name x p) (e :: es) [] pos) (tCV i fs t) := by
  refine ⟨fun pins s σ H Q I ⟨f, sp, hm, hs, q⟩ => ?_⟩
  obtain ⟨k, fd, ps, hk, F, kp, b⟩ := (h _ hm).ex
  have c : C8.CalAt X.prog X.w X.K X.mg X.base k f (fun vs H Q _ => sp vs H Q L2.E0) := by
    refine ⟨fd, ps, ⟨fun vs H Q E z => F.len vs H Q L2.E0 z, fun A outer s H args us vs Q E hr e0 b v z => ?_⟩, kp, b⟩
    refine PySem.codeAny_mono (F.run A outer s H args us vs Q L2.E0 hr e0 b v z) fun r s' y => ?_
    cases r with
    | ok a => cases a <;> exact y
    | error e => obtain ⟨_, _, _, _, _, _, _, _, _, _, _, _, z⟩ := y; exact z
  exact (C8.pe_cv c c hr hk hk hN hv ha h1 h2 he hpl).run pins s σ H Q I (.inl ⟨hs, q⟩)
def eCV (i : Nat) (fs : List (Addr × WF)) (fa : DA) : DE := fun δ S Q => ∃ f F, (f, F) ∈ fs ∧ δ[i]? = some (some (.ref f)) ∧ fa δ S fun xs S1 => F xs S1 Q xF
theorem se_cv {K : PySem.W.Frag} {tabs : List Addr} {scr : Addr} {ns : List Int} {N : En} {i : Nat} {fs : List (Addr × WF)} {tl : TA} {fl : DA} (ha : SA ⟨K, tabs, scr, ns⟩ N tl fl) :
    SE ⟨K, tabs, scr, ns⟩ N (tCV i (fs.map fun p => (p.1, spD K tabs p.2)) tl) (eCV i fs fl) := by
  rintro σ δ H S Q R rl ⟨f, F, hm, hi, h⟩ k
  obtain ⟨v, h1, h2⟩ := rl.sl.at_ i _ hi
  rw [im_ref h2] at h1
  refine ⟨f, spD K tabs F, List.mem_map.mpr ⟨_, hm, rfl⟩, h1, ?_⟩
  refine ha σ δ H S _ _ rl h fun vs ds H1 S1 i1 r1 u1 q => ?_
  exact use_sp i1 r1.sim r1.up q (fun v d H' S' i s u q' => k v d H' S' i (r1.go s u) (u1.trans u) q') xok_F
theorem cv_nil {P : Program} {w : World} {K : PySem.W.Frag} {mg : Str → Option Value} {base : Heap} {j : Nat} {tabs : List Addr} : ∀ p ∈ ([] : List (Addr × WF)).map fun p => (p.1, spD K tabs p.2), CvOk P w K mg base j p.1 p.2 := fun _ h => by cases h
theorem cv_cons {P : Program} {w : World} {K : PySem.W.Frag} {mg : Str → Option Value} {base : Heap} {j : Nat} {tabs : List Addr} {f : Addr} {F : WF} {fs : List (Addr × WF)} (h : CvOk P w K mg base j f (spD K tabs F))
    (r : ∀ p ∈ fs.map fun p => (p.1, spD K tabs p.2), CvOk P w K mg base j p.1 p.2) : ∀ p ∈ ((f, F) :: fs).map fun p => (p.1, spD K tabs p.2), CvOk P w K mg base j p.1 p.2 := by
  intro p hp
  rw [List.map_cons] at hp
  rcases List.mem_cons.mp hp with rfl | hp
  · exact h
  · exact r p hp
/-! ### reversed(range(..)) -/
def downto (lo : Int) (n : Nat) : List D := (List.range n).map fun i => .int (lo + ((n - 1 - i : Nat) : Int))
def iRev1 (a : DE) : DI := fun δ S Q => a δ S fun x S1 => match x with | .int j => -(2 ^ 62) ≤ j ∧ j < 2 ^ 62 ∧ Q ⟨downto 0 j.toNat, fun _ => True⟩ S1 | _ => False
def iRev2 (a b : DE) : DI := fun δ S Q => a δ S fun x S1 => b δ S1 fun y S2 => match x, y with | .int i, .int j => -(2 ^ 62) ≤ i ∧ i < 2 ^ 62 ∧ -(2 ^ 62) ≤ j ∧ j < 2 ^ 62 ∧ Q ⟨downto i (j - i).toNat, fun _ => True⟩ S2 | _, _ => False
section
variable {G : Gm} {N : En} {ta tb : TE} {fa fb : DE}
theorem jok_rev {lo hi : Int} {n : Nat} {S : Sto} {H : Hp} (hh : hi = lo + (n : Int) - 1) : JOk G (Itc hi (-1) n) ⟨downto lo n, fun _ => True⟩ S H := by
  intro S2 H2 s2 u2 _ i hi'
  have hl : (downto lo n).length = n := by simp [downto]
  simp only [hl] at hi' ⊢
  refine ⟨fun y => y, fun y => by show n ≤ i; omega, fun x H' y w => ?_⟩
  obtain ⟨rfl, rfl⟩ := w
  refine ⟨.int (hi + (i : Int) * -1), ?_, .int _, s2, .refl, .refl⟩
  unfold downto
  rw [List.getElem?_map, List.getElem?_range y]
  simp only [Option.map_some]
  congr 2
  omega
theorem si_rev1 (ha : SE G N ta fa) : SI G N (iRevR (tRg1 ta)) (iRev1 fa) := by
  intro σ δ H S Q R r h k
  refine ha σ δ H S _ _ r h fun v d H1 S1 i1 r1 u1 q1 => ?_
  cases d <;> first | exact q1.elim | skip
  rename_i j
  obtain ⟨c1, c2, q⟩ := q1
  cases im_int i1
  refine ⟨j, rfl, by decide, by decide, c1, c2, ?_⟩
  rw [show (j - 0).toNat = j.toNat by rw [Int.sub_zero]]
  exact k _ _ H1 S1 (jok_rev rfl) r1 u1 q
theorem si_rev2 (ha : SE G N ta fa) (hb : SE G N tb fb) : SI G N (iRevR (tRg2 ta tb)) (iRev2 fa fb) := by
  intro σ δ H S Q R r h k
  refine ha σ δ H S _ _ r h fun v d H1 S1 i1 r1 u1 q1 => ?_
  refine hb σ δ H1 S1 _ _ r1 q1 fun v2 d2 H2 S2 i2 r2 u2 q2 => ?_
  cases d <;> first | exact q2.elim | skip
  cases d2 <;> first | exact q2.elim | skip
  rename_i i j
  obtain ⟨c1, c2, c3, c4, q⟩ := q2
  cases im_int i2
  cases im_int (i1.go (u2.tu r1.sim))
  exact ⟨i, j, rfl, rfl, c1, c2, c3, c4, k _ _ H2 S2 (jok_rev rfl) r2 (u1.trans u2) q⟩
end

/-! ### data, stores, picks -/
theorem dats_mem : ∀ {n : Nat} {ds : List D}, dats n ds = true → ∀ d ∈ ds, dat n d = true
  | _, [], _, _, z => by cases z
  | n, d :: ds, h, e, he => by
    rw [dats, Bool.and_eq_true] at h
    rcases List.mem_cons.mp he with rfl | he
    · exact h.1
    · exact dats_mem h.2 e he
theorem dat_up : ∀ {n : Nat} {d : D}, dat n d = true → dat (n + 1) d = true := by
  have key : ∀ (n : Nat), (∀ d, dat n d = true → dat (n + 1) d = true) ∧ ∀ ds, dats n ds = true → dats (n + 1) ds = true := by
    intro n
    induction n with
    | zero =>
      have h1 : ∀ d, dat 0 d = true → dat 1 d = true := fun d h => by cases d <;> simp_all [dat]
      refine ⟨h1, fun ds h => ?_⟩
      induction ds with
      | nil => simp [dats]
      | cons d ds ih =>
        rw [dats, Bool.and_eq_true] at h ⊢
        exact ⟨h1 d h.1, ih h.2⟩
    | succ n ih =>
      have h1 : ∀ d, dat (n + 1) d = true → dat (n + 2) d = true := fun d h => by
        cases d with
        | tup ds => rw [dat, Bool.and_eq_true] at h ⊢; exact ⟨h.1, ih.2 ds h.2⟩
        | _ => simp_all [dat]
      refine ⟨h1, fun ds h => ?_⟩
      induction ds with
      | nil => simp [dats]
      | cons d ds ih =>
        rw [dats, Bool.and_eq_true] at h ⊢
        exact ⟨h1 d h.1, ih h.2⟩
  intro n d h
  exact (key n).1 d h
theorem dat_tup {n : Nat} {ds : List D} (h : dat (n + 1) (.tup ds) = true) : ds.length ≤ 1000000 ∧ ∀ d ∈ ds, dat n d = true := by
  rw [dat, Bool.and_eq_true] at h
  exact ⟨by simpa using h.1, fun d hd => dats_mem h.2 d hd⟩
theorem dat_tup' {n : Nat} {ds : List D} (h1 : ds.length ≤ 1000000) (h2 : ∀ d ∈ ds, dat n d = true) : dat (n + 1) (.tup ds) = true := by
  rw [dat, Bool.and_eq_true]
  refine ⟨by simpa using h1, ?_⟩
  clear h1
  induction ds with
  | nil => simp [dats]
  | cons d ds ih => rw [dats, Bool.and_eq_true]; exact ⟨h2 d List.mem_cons_self, ih fun e he => h2 e (List.mem_cons_of_mem _ he)⟩
theorem atI_getElem {α : Type} {xs : List α} {j : Nat} (h : j < xs.length) : atI xs ((j : Nat) : Int) = some xs[j] := atI_nat (List.getElem?_eq_getElem h)
theorem upto_get {n k : Nat} {x : D} (h : (upto 0 n)[k]? = some x) : k < n ∧ x = .int (k : Nat) := by
  obtain ⟨h1, h2⟩ := List.getElem?_eq_some_iff.mp h
  have hn : k < n := by simpa [upto] using h1
  refine ⟨hn, ?_⟩
  rw [← h2]
  simp [upto]
theorem upto_len {lo : Int} {n : Nat} : (upto lo n).length = n := by simp [upto]
theorem upto_mem {n : Nat} {x : D} (h : x ∈ upto 0 n) : ∃ k : Nat, k < n ∧ x = .int (k : Nat) := by
  obtain ⟨k, hk, rfl⟩ := List.mem_map.mp h
  exact ⟨k, by simpa using hk, by simp⟩
/-- what stood stands as it was -/
def Se (S S' : Sto) : Prop := ∀ x o, S x = some o → S' x = some o
theorem Se.refl {S : Sto} : Se S S := fun _ _ h => h
theorem Se.trans {S S1 S2 : Sto} (h : Se S S1) (k : Se S1 S2) : Se S S2 := fun x o e => k x o (h x o e)
theorem Se.new {S S' : Sto} {p : Addr} {o : O} (h : Se S S') (hp : S' p = none) : Se S (sup S' p o) := fun x u e => by rw [sup_ne (sne (h x u e) hp)]; exact h x u e
theorem pickI {ds : List D} {i : Int} {K : D → Prop} (h0 : 0 ≤ i) (h1 : i < ds.length) (h : ∀ d ∈ ds, K d) : (match atI ds i with | some d => K d | none => False) := by
  have e : i = ((i.toNat : Nat) : Int) := by omega
  have hl : i.toNat < ds.length := by omega
  rw [e, atI_getElem hl]
  exact h _ (List.getElem_mem _)
/-- a display that is read at a place right away -/
theorem pickL {S : Sto} {p : Addr} {ds : List D} {i : Int} {K : D → Prop} (h0 : 0 ≤ i) (h1 : i < ds.length) (h : ∀ d ∈ ds, K d) : atL (sup S p (.lst ds)) p fun ds => (match atI ds i with | some d => K d | none => False) := by
  rw [atL_eq sup_same]
  exact pickI h0 h1 h
theorem pickA {α : Type} {xs : List α} {i : Int} {K : α → Prop} (h0 : 0 ≤ i) (h1 : i < xs.length) (h : ∀ c ∈ xs, K c) : (match atI xs i with | some d => K d | none => False) := by
  have e : i = ((i.toNat : Nat) : Int) := by omega
  have hl : i.toNat < xs.length := by omega
  rw [e, atI_getElem hl]
  exact h _ (List.getElem_mem _)
theorem atI_some {α : Type} {xs : List α} {i : Int} (h0 : 0 ≤ i) (h1 : i < xs.length) : ∃ c, atI xs i = some c ∧ c ∈ xs := by
  have e : i = ((i.toNat : Nat) : Int) := by omega
  have hl : i.toNat < xs.length := by omega
  refine ⟨xs[i.toNat], ?_, List.getElem_mem _⟩
  have := atI_getElem hl
  rw [← e] at this
  exact this
theorem dat_mono {n m : Nat} {d : D} (h : n ≤ m) (hd : dat n d = true) : dat m d = true := by
  induction m with
  | zero =>
    have : n = 0 := by omega
    subst this
    exact hd
  | succ m ih =>
    by_cases e : n = m + 1
    · subst e; exact hd
    · exact dat_up (ih (by omega))

theorem rows_of {P : Int → Prop} {ys : List D} (h : ∀ y ∈ ys, ∃ x, y = .int x ∧ P x) : ∃ l : List Int, ys = l.map .int ∧ ∀ x ∈ l, P x := by
  induction ys with
  | nil => exact ⟨[], rfl, fun _ z => by cases z⟩
  | cons y ys ih =>
    obtain ⟨l, rfl, h1⟩ := ih fun z hz => h z (List.mem_cons_of_mem _ hz)
    obtain ⟨x, rfl, hx⟩ := h y List.mem_cons_self
    exact ⟨x :: l, rfl, fun w hw => by
      rcases List.mem_cons.mp hw with rfl | hw
      · exact hx
      · exact h1 w hw⟩
theorem map_of {α : Type} {f : α → D} {P : α → Prop} {ys : List D} (h : ∀ y ∈ ys, ∃ x, y = f x ∧ P x) : ∃ l : List α, ys = l.map f ∧ ∀ x ∈ l, P x := by
  induction ys with
  | nil => exact ⟨[], rfl, fun _ z => by cases z⟩
  | cons y ys ih =>
    obtain ⟨l, rfl, h1⟩ := ih fun z hz => h z (List.mem_cons_of_mem _ hz)
    obtain ⟨x, rfl, hx⟩ := h y List.mem_cons_self
    exact ⟨x :: l, rfl, fun w hw => by
      rcases List.mem_cons.mp hw with rfl | hw
      · exact hx
      · exact h1 w hw⟩
theorem Se.box {S S' : Sto} {b c : Addr} (h : Se S S') (hb : S b = some (.box c)) : S' b = some (.box c) := h _ _ hb
theorem Se.one {S : Sto} {p : Addr} {o : O} (hp : S p = none) : Se S (sup S p o) := Se.refl.new hp
theorem dat_ints {l : List Int} (h : l.length ≤ 1000000) : dat 1 (iD l) = true := dat_tup' (by simpa using h) fun d hd => by
  obtain ⟨x, _, rfl⟩ := List.mem_map.mp hd
  exact dat_i
end Sd

set_option Elab.async false
set_option linter.all false
set_option maxRecDepth 100000
set_option maxHeartbeats 4000000
namespace Sd
open PySem PySem.Spec PyProof.Rows L2 GxR
/-! ### try .. except -/
def XOkS (G : Gm) (N : En) (Wd : DV → XD) (W : WX) : Prop := ∀ σ δ C od fs H' S', Rel G N σ δ S' H' → XR G H' od fs → Wd δ C fs S' → W (.ref C) od σ H'
def eCaS (F : WF) (Wd : DV → XD) (fa : DA) : DE := fun δ S Q => fa δ S fun xs S1 => F xs S1 Q (Wd δ)
def eMeS (C : Addr) (nm : List Str) (F : WF) (Wd : DV → XD) (fo : DE) (fa : DA) : DE := fun δ S Q => fo δ S fun x S1 => (asRef x fun a => atO S1 a C nm fun _ => True) ∧ fa δ S1 fun xs S2 => F (x :: xs) S2 Q (Wd δ)
section
variable {K : PySem.W.Frag} {tabs : List Addr} {scr : Addr} {ns : List Int} {N : En} {tl : TA} {fl : DA} {F : WF} {Wd : DV → XD} {W : WX}
theorem se_caS (hx : XOkS ⟨K, tabs, scr, ns⟩ N Wd W) (ha : SA ⟨K, tabs, scr, ns⟩ N tl fl) : SE ⟨K, tabs, scr, ns⟩ N (Ow.tCaS (spD K tabs F) (WE W) tl) (eCaS F Wd fl) := by
  intro σ δ H S Q R rl h k
  refine ha σ δ H S _ _ rl h fun vs ds H1 S1 i1 r1 u1 q => ?_
  exact ⟨scr, ns, ds, S1, Q, Wd δ, i1, r1.sim, q, fun v d H' S' i s u q' => k v d H' S' i (r1.go s u) (u1.trans u) q', fun C od fs H' S' s' u' xr e => hx σ δ C od fs H' S' (r1.go s' u') xr e⟩
theorem se_meS {C : Addr} {m : Str} {nm : List Str} {to : TE} {fo : DE} (hm : m ∉ nm) (hx : XOkS ⟨K, tabs, scr, ns⟩ N Wd W) (ho : SE ⟨K, tabs, scr, ns⟩ N to fo) (ha : SA ⟨K, tabs, scr, ns⟩ N tl fl) : SE ⟨K, tabs, scr, ns⟩ N (Ow.tMeS C m (spD K tabs F) (WE W) to tl) (eMeS C nm F Wd fo fl) := by
  intro σ δ H S Q R rl h k
  refine ho σ δ H S _ _ rl h fun x d H1 S1 i1 r1 u1 ⟨q0, q⟩ => ?_
  obtain ⟨a, rfl, q0⟩ := asRef_of q0
  obtain ⟨fs, e1, _⟩ := atO_of q0
  obtain ⟨dx, gs, hg, kv, _⟩ := r1.sim.ob _ _ e1
  refine ⟨a, dx, gs, im_ref i1, hg, kv_none kv (zip_no hm), ha σ δ H1 S1 _ _ r1 q fun vs ds H2 S2 i2 r2 u2 q2 => ?_⟩
  exact ⟨scr, ns, .ref a :: ds, S2, Q, Wd δ, .cons (i1.go (u2.tu r1.sim)) i2, r2.sim, q2, fun v d H' S' i s u q' => k v d H' S' i (r2.go s u) (u1.trans (u2.trans u)) q', fun C od fs H' S' s' u' xr e => hx σ δ C od fs H' S' (r2.go s' u') xr e⟩
end
def sTry (fb : (DV → XD) → DS) (xs : List Addr) (fs : DS) : DS := fun D δ S => fb (fun δ' C gs S' => C ∈ xs ∧ gs = [] ∧ fs D δ' S') D δ S
section
variable {G : Gm} {N : En} {c : Value} {tb : WX → TS} {ts : Addr → Value → Option Addr → TS} {W0 : WX} {fb : (DV → XD) → DS} {fs : DS} {xs : List Addr}
theorem EOk.here {S : Sto} {H : Hp} {D : DN} {E : Ends} {σ : L2.St} {δ : DV} (k : EOk G N S H D E) (r : Rel G N σ δ S H) : EOk G ⟨S, H⟩ S H D E :=
  ⟨fun σ δ H' S' r' u q => k.nx σ δ H' S' ⟨r'.sl, r'.sim, r.up.trans u⟩ u q, fun σ δ H' S' r' u q => k.bk σ δ H' S' ⟨r'.sl, r'.sim, r.up.trans u⟩ u q, fun σ δ H' S' r' u q => k.ct σ δ H' S' ⟨r'.sl, r'.sim, r.up.trans u⟩ u q, fun v d H' S' i s u q => k.rt v d H' S' i s (r.up.trans u) q⟩
theorem ss_try (hb : ∀ N' W Wd, XOkS G N' Wd W → SS G N' (tb W) (fb Wd)) (hs : ∀ N' a0 C, C ∈ xs → SS G N' (ts a0 (.ref C) none) fs) (hex : ∀ C ∈ xs, PySem.W.exmOne G.K (.ref C) c = some true) :
    SS G N (fun D σ H => tb (wOnly G.K c ts W0 D) D σ H) (sTry fb xs fs) := by
  intro σ δ H S D E r h k
  have k2 := k.here r
  refine hb ⟨S, H⟩ _ _ ?_ σ δ H S D E ⟨r.sl, r.sim, .refl⟩ h k2
  intro σ' δ' C od gs H' S' r' xr ⟨hC, hg, hf⟩
  subst hg
  have ho : od = none := by
    cases od with
    | none => rfl
    | some d => exact absurd rfl xr.1
  subst ho
  exact ⟨true, hex C hC, fun _ a0 ha => hs ⟨S, H⟩ a0 C hC σ' δ' H' S' D E r' hf (k2.go r'.up), fun z => by cases z⟩
theorem Rel.unset {σ : L2.St} {δ : DV} {S : Sto} {H : Hp} (r : Rel G N σ δ S H) (i : Nat) : Rel G N (σ.set i none) (δ.set i none) S H := by
  refine ⟨⟨by rw [List.length_set, List.length_set]; exact r.sl.len, fun j e hj => ?_⟩, r.sim, r.up⟩
  rw [List.getElem?_set] at hj ⊢
  by_cases y : i = j
  · rw [if_pos y] at hj
    split at hj <;> cases hj
  · rw [if_neg y] at hj ⊢
    exact r.sl.at_ j e hj
def sTryAs (i : Nat) (fb : (DV → XD) → DS) (xs : List Addr) (fs : Addr → DS) : DS := fun D δ S => fb (fun δ' C gs S' => C ∈ xs ∧ gs = [] ∧ ∀ a0, S' a0 = none → fs a0 { nx := fun δ S => D.nx (δ.set i none) S, rt := D.rt, bk := fun δ S => D.bk (δ.set i none) S, ct := fun δ S => D.ct (δ.set i none) S } (δ'.set i (some (.ref a0))) S') D δ S
theorem ss_tryAs {i : Nat} {fs : Addr → DS} (hb : ∀ N' W Wd, XOkS G N' Wd W → SS G N' (tb W) (fb Wd)) (hs : ∀ N' a0 C, C ∈ xs → SS G N' (ts a0 (.ref C) none) (fs a0)) (hex : ∀ C ∈ xs, PySem.W.exmOne G.K (.ref C) c = some true) :
    SS G N (fun D σ H => tb (wAs G.K c i ts W0 D) D σ H) (sTryAs i fb xs fs) := by
  intro σ δ H S D E r h k
  have k2 := k.here r
  refine hb ⟨S, H⟩ _ _ ?_ σ δ H S D E ⟨r.sl, r.sim, .refl⟩ h k2
  intro σ' δ' C od gs H' S' r' xr ⟨hC, hg, hf⟩
  subst hg
  have ho : od = none := by
    cases od with
    | none => rfl
    | some d => exact absurd rfl xr.1
  subst ho
  refine ⟨true, hex C hC, fun _ a0 ha => ?_, fun z => by cases z⟩
  have k3 := k2.go r'.up
  exact hs ⟨S, H⟩ a0 C hC _ _ H' S' _ _ (r'.set i (.ref a0)) (hf a0 (r'.sim.free ha)) ⟨fun σ δ H2 S2 r2 u q => k3.nx _ _ H2 S2 (r2.unset i) u q, fun σ δ H2 S2 r2 u q => k3.bk _ _ H2 S2 (r2.unset i) u q, fun σ δ H2 S2 r2 u q => k3.ct _ _ H2 S2 (r2.unset i) u q, k3.rt⟩
def rIsA (K : PySem.W.Frag) (cls : Value) (d : Option Addr) (a : Addr) : List V → Hp → VK → Prop := fun xs H Q => ∃ D, cls = .ref D ∧ d = none ∧ ExcC K D ∧ rIsE K D a xs H Q
theorem call_isA {X : Cx} {a : Addr} {oe : Obj} {cls : Value} {d : Option Addr} {pn : List (Addr × Obj)} (hz : Zc cls d oe) (hf : ∃ vs, oe.data = .fields vs) : CallR (X.suite a ((a, oe) :: pn)) (.builtin "isinstance") (rIsA X.K cls d a) := by
  intro pins s σ H xs us Q I r h
  obtain ⟨D, rfl, rfl, C, h⟩ := h
  exact call_isE C hz hf pins s σ H xs us Q I r h
/-- isinstance(e, w) of the error that is handled -/
def eIsE (i : Nat) (a0 : Addr) : DE := fun δ S Q => δ[i]? = some (some (.ref a0)) ∧ Q (.bl true) S
theorem se_isE {i : Nat} {a0 C w : Addr} (hc : ExcC G.K C) (hk : PySem.W.kitOne G.K (.ref C) (.ref w) = some true) : SE G N (tCB (rIsA G.K (.ref C) none a0) (tCons (tVar i) (tCons (tC (.ref w)) tNil))) (eIsE i a0) := by
  rintro σ δ H S Q R rl ⟨h, q⟩ k
  obtain ⟨v, h1, h2⟩ := rl.sl.at_ i _ h
  rw [im_ref h2] at h1
  exact ⟨_, h1, C, rfl, rfl, hc, .ref w, .ref w, true, rfl, fun u z => z, hk, k _ _ H S (.bl true) rl .refl q⟩
end
end Sd

set_option Elab.async false
set_option linter.all false
set_option maxRecDepth 100000
set_option maxHeartbeats 4000000
namespace Ow
open PySem PySem.Spec PyProof.Rows L2
/-! ### a list's index that is a truth -/
def bI (b : Bool) : Int := if b then 1 else 0
theorem bI0 (b : Bool) : 0 ≤ bI b := by cases b <;> decide
theorem bI2 (b : Bool) : bI b < 2 := by cases b <;> decide
theorem sub_truth {M : Model} {A : Around} {E : Value → Shared → Prop} {s : Shared} {b : Bool} {Q : Option Int → Shared → Prop} (q : Q (some (bI b)) s) : wpAny M A (Builtin.List.listSubscript? (.bool b)) Q E s := by
  have hf : Builtin.List.listFitsIndex (bI b) = true := by cases b <;> decide
  have hn : ∀ α (x y : Sem α), (if (!Builtin.List.listFitsIndex (bI b)) = true then x else y) = y := by intro α x y; rw [hf]; rfl
  unfold Builtin.List.listSubscript?
  refine wpAny_bind (wpAny_specialOf (T := "bool") rfl PySem.F.slot_bool_index.lookup ?_)
  show wpAny M A (asIndex (.bool b) >>= _) Q E s
  refine wpAny_bind (wpAny_of_eq (a := bI b) (by unfold bI; rfl) ?_)
  show wpAny M A (if (!Builtin.List.listFitsIndex (bI b)) = true then _ else _) Q E s
  rw [hn]
  exact wpAny_pure q
theorem item_truth {prog : Program} {w : World} {A : Around} {E : Value → Shared → Prop} {s : Shared} {l : Addr} {its : Array Value} {b : Bool} {v : Value} {Q : Value → Shared → Prop} (hl : s.heap.IsList l its) (hv : its[(bI b).toNat]? = some v) (q : Q v s) :
    wpAny (model prog w) A (getItem (.ref l) (.bool b)) Q E s := by
  obtain ⟨o, ho, hc, ne, hd⟩ := id hl
  have hj : (bI b).toNat < its.size := by
    by_cases z : (bI b).toNat < its.size
    · exact z
    · rw [Array.getElem?_eq_none (by omega)] at hv
      cases hv
  unfold getItem
  try with_reducible refine wpAny_holding ?_
  first | refine wpAny_bind (wpAny_pure ?_) | skip
  refine wpAny_bind (wpAny_sequenceKey hl.typeIs (by decide) (wpAny_bind (wpAny_callSpecial?_slot (name := Str.ofString "__getitem__") hl.typeIs slot_list_getitem (wpAny_call_entry slot_list_getitem hl.typeIs entry_list_getitem ?_ (args_list_getitem _ _)))))
  show wpAny _ _ (Builtin.List.listSubscript? (.bool b) >>= _) _ _ s
  refine wpAny_bind (sub_truth ?_)
  obtain ⟨j, e⟩ := Int.eq_ofNat_of_zero_le (bI0 b)
  rw [e] at hv ⊢
  have hw : its[j]? = some v := hv
  show wpAny _ _ ((seqItemAt l j >>= fun r => pure (r.map (j, ·))) >>= _) _ _ s
  refine wpAny_bind (wpAny_bind (wpAny_seqItemAt ho hd (wpAny_pure ?_)))
  rw [hw]
  first | exact wpAny_bind (wpAny_pure (wpAny_pure ⟨v, rfl, wpAny_pure q⟩)) | exact wpAny_pure ⟨v, rfl, wpAny_pure q⟩
def rIxB (K : PySem.W.Frag) : R2 := fun x y H Q => ∃ p xs b v, x = .ref p ∧ y = .bl b ∧ SqL K H p xs ∧ atI xs (bI b) = some v ∧ Q v H
theorem ix_truth {X : Cx} : IxR X (rIxB X.K) := by
  intro value slice pins s σ H x y v u Q I rx ry ⟨p, xs, b, z, hx, hy, hq, he, q⟩ hs
  subst hx hy
  cases rx
  obtain rfl : u = Value.bool b := ry
  obtain ⟨its, r, pl, _⟩ := I.list hq
  obtain ⟨j, h1, h2, h3, h4, h5⟩ := atI_get he
  rw [seqIndex_of (bI0 b) h5] at h1
  obtain ⟨w, ew, rw'⟩ := r.get h2
  rw [← Option.some.inj h1] at ew
  exact subscriptTail_builtinR (x := w) pl.isList.typeIs slot_list_getitem.lookup (item_truth (Q := fun r s' => r = w ∧ EP X pins σ Q r s') pl.isList (by simpa using ew) ⟨rfl, z, H, I, rw', q⟩) hs
/-! ### a class that is called within a try -/
def tMaS (C : Addr) (sp : Sp) (E : L2.St → XK) (t : TA) : TE := fun σ H Q => t σ H fun vs H1 => ∀ x dx, H1 x = none → H1 dx = none → dx ≠ x → sp (.ref x :: vs) (upd (upd H1 dx (.own x)) x (.ins C dx [])) (fun v H2 => v = .non ∧ Q (.ref x) H2) (E σ)
section
variable {X : Cx} {k j : Nat} {x : Str} {C f : Addr} {fd : FuncData} {ps : List Str} {sp : Sp} {p pos : Pos} {e : Expr} {es : List Expr} {t : TA} {E : L2.St → XK}
theorem make_at {pins : List (Addr × Obj)} {σ : L2.St} {H : Hp} {s : Shared} {Q : VK} {us : List Value} {vs : List V} (M : Mk X.K C f) (F : FnOk X.prog X.w X.K X.mg X.base (L2.CX X.prog X.w) k f fd ps sp) (hr : Room (k + 1) X.A) (hb : Binds X.K fd ps []) (hx : PassesAt (L2.CX X.prog X.w) X σ (E σ)) (I : Inv X pins σ H s) (r : Vals vs us)
    (h : ∀ x dx, H x = none → H dx = none → dx ≠ x → sp (.ref x :: vs) (upd (upd H dx (.own x)) x (.ins C dx [])) (fun v H2 => v = .non ∧ Q (.ref x) H2) (E σ)) : wpAny (model X.prog X.w) X.A (call (.ref C) us) (EP X pins σ Q) X.xe s := by
  have hq := h (s.heap.objs.size + 1) s.heap.objs.size (I.hok.fresh (by omega)) (I.hok.fresh (by omega)) (Nat.ne_of_lt (Nat.lt_succ_self _))
  have J := Inv.made (C := C) I
  have rr : Vals (V.ref (s.heap.objs.size + 1) :: vs) (Value.ref (s.heap.objs.size + 1) :: us) := .cons rfl r
  have hl : (Value.ref (s.heap.objs.size + 1) :: us).length = ps.length := rr.length.symm.trans (F.len _ _ _ _ hq)
  have b := hb _ (Value.ref (s.heap.objs.size + 1) :: us) J.kIn (by rw [List.append_nil]; exact hl)
  rw [List.append_nil] at b
  refine wpAny_call (make_map (f := f) I.kIn M.makes M.init (beq_iff_eq.mp M.fn) (codeAny_mono (F.run _ X.stack _ _ ⟨Value.ref (s.heap.objs.size + 1) :: us, []⟩ (Value.ref (s.heap.objs.size + 1) :: us) _ _ (E σ) (hr.make C us []) (J.env0.make C us []) b rr hq) ?_))
  rintro (er | fl) s' hh
  · exact hx pins _ _ er s' J hh
  · cases fl with
    | ret u =>
      obtain ⟨v, H', I3, rv, ev, q3⟩ := J.after hh
      subst ev
      exact ⟨rv, V.ref (s.heap.objs.size + 1), H', I3, rfl, q3⟩
    | next => exact False.elim hh
    | brk => exact False.elim hh
    | cont => exact False.elim hh
theorem pe_maS (c : Ma X.prog X.w X.K X.mg X.base k x C sp) (hr : Room j X.A) (hk : k + 1 ≤ j) (hg : Gl X x) (hx : ∀ σ, PassesAt (L2.CX X.prog X.w) X σ (E σ)) (ha : PA X (e :: es) t) (hdb : (x == ("__debug__" : Str)) = false := by decide)
    (he : starEach (e :: es) X.env = (false, eval e X.env) :: starEach es X.env := by rfl) (hpl : (backTo pos (starEach es X.env)).any (·.1) = false := by rfl) : PE X (.Call (.Name x p) (e :: es) [] pos) (tMaS C sp E t) := by
  obtain ⟨f, fd, ps, M, F, hm, b⟩ := c.ex
  exact ⟨fun pins s σ H Q I h => wpAny_Call_Name_kw (ld_glob I hg hm (PySem.W.callWith_K (h₀ := X.base) I.ok.mod.kin M.kp (thn (ha.run pos pins s σ H _ I h) fun us s1 ⟨vs, H1, I1, r, q⟩ => ⟨I1.kIn, make_at M F (hr.mono hk) b (hx σ) I1 r q⟩) he hpl) hdb)⟩
theorem pe_maX {E : XK} (c : Ma X.prog X.w X.K X.mg X.base k x C sp) (hr : Room j X.A) (hk : k + 1 ≤ j) (hg : Gl X x) (hx : Passes (L2.CX X.prog X.w) X E) (ha : PA X (e :: es) t) (hdb : (x == ("__debug__" : Str)) = false := by decide)
    (he : starEach (e :: es) X.env = (false, eval e X.env) :: starEach es X.env := by rfl) (hpl : (backTo pos (starEach es X.env)).any (·.1) = false := by rfl) : PE X (.Call (.Name x p) (e :: es) [] pos) (tMa C sp E t) := by
  obtain ⟨f, fd, ps, M, F, hm, b⟩ := c.ex
  refine ⟨fun pins s σ H Q I h => (pe_make M F (hr.mono hk) hg hm b .nil hx ha hdb he hpl).run pins s σ H Q I ?_⟩
  have z : tMake C sp [] E t σ H Q = tMa C sp E t σ H Q := by unfold tMake tMa; simp only [List.append_nil]
  exact z ▸ h
end
end Ow
namespace Sd
open PySem PySem.Spec PyProof.Rows L2 GxR
def eMaS (C : Addr) (nm : List Str) (F : WF) (Wd : DV → XD) (fa : DA) : DE := fun δ S Q => fa δ S fun xs S1 => ∀ p, S1 p = none → F (.ref p :: xs) (sup S1 p (.ins C nm [])) (fun v S2 => v = .non ∧ Q (.ref p) S2) (Wd δ)
section
variable {K : PySem.W.Frag} {tabs : List Addr} {scr : Addr} {ns : List Int} {N : En} {tl : TA} {fl : DA} {F : WF} {Wd : DV → XD} {W : WX}
theorem se_maS {C : Addr} {nm : List Str} (hn : nm.length ≤ 999) (hx : XOkS ⟨K, tabs, scr, ns⟩ N Wd W) (ha : SA ⟨K, tabs, scr, ns⟩ N tl fl) : SE ⟨K, tabs, scr, ns⟩ N (Ow.tMaS C (spD K tabs F) (WE W) tl) (eMaS C nm F Wd fl) := by
  intro σ δ H S Q R rl h k
  refine ha σ δ H S _ _ rl h fun vs ds H1 S1 i1 r1 u1 q x dx hx1 hdx hne => ?_
  have e1 := Ext.lay (o := HO.own x) hdx
  have s2 := r1.sim.ext e1
  have hx2 : upd H1 dx (.own x) x = none := by rw [upd_ne (Ne.symm hne)]; exact hx1
  obtain ⟨s3, u3⟩ := s2.lay (p := x) (o := .ins C nm []) (ho := .ins C dx []) hx2 ⟨dx, [], upd_same, by rw [List.zip_nil_right]; exact .nil, Nat.zero_le _, hn⟩
  have u4 := (Up.of_ext (S := S1) e1).trans u3
  have r4 := r1.go s3 u4
  refine ⟨scr, ns, .ref x :: ds, _, _, Wd δ, .cons (.ref x) (i1.go (u4.tu r1.sim)), s3, q x (r1.sim.free hx1), fun v d H' S' i s u ⟨ed, q'⟩ => ?_, fun C od fs H' S' s' u' xr e => hx σ δ C od fs H' S' (r4.go s' u') xr e⟩
  subst ed
  exact ⟨im_non i, k (.ref x) (.ref x) H' S' (.ref x) (r4.go s u) (u1.trans (u4.trans u)) q'⟩
end
def dIxB : B2 := fun x y S Q => match y with
  | .bl b => (match x with
    | .ref a => atL S a fun ds => (match atI ds (Ow.bI b) with | some d => Q d S | none => False)
    | _ => False)
  | _ => False
theorem dIxB_r {a : Addr} {b : Bool} {S : Sto} {Q : DK} : dIxB (.ref a) (.bl b) S Q = atL S a fun ds => match atI ds (Ow.bI b) with | some d => Q d S | none => False := rfl
theorem s2_ixB {G : Gm} : S2 G (Ow.rIxB G.K) dIxB := by
  intro x y d e H S Q R hx hy s h k
  unfold dIxB at h
  split at h
  · cases im_bl hy
    split at h
    · cases im_ref hx
      obtain ⟨ds, e1, q⟩ := atL_of h
      obtain ⟨vs, hv, i1⟩ := s.ob _ _ e1
      split at q
      · rename_i c hc
        obtain ⟨v, hv2, iv⟩ := at_im i1 hc
        exact ⟨_, vs, _, v, rfl, rfl, SqL.of hv, hv2, k v c H S iv s .refl q⟩
      · exact q.elim
    · exact h.elim
  · exact h.elim
end Sd

set_option Elab.async false
set_option linter.all false
set_option maxRecDepth 100000
set_option maxHeartbeats 4000000
namespace Ow
open PySem PySem.Spec PyProof.Rows L2
/-! ### zip of a text and a tuple -/
def ItzX (K : PySem.W.Frag) (x : Str) (b : Addr) : It :=
  ⟨fun i H => i < x.cps.size ∧ ∃ ys, SqT K H b ys ∧ i < ys.length,
    fun i H v H' => ∃ T c y, v = .ref T ∧ H T = none ∧ H' = upd H T (.tup [.str ⟨#[c]⟩, y]) ∧ x.cps[i]? = some c ∧ ∀ ys, SqT K H b ys → ys[i]? = some y,
    fun i H => ∃ ys, SqT K H b ys ∧ i = min x.cps.size ys.length⟩
/-- the cells of the zip at its turn i -/
def zxSt (z TI TO i1 i2 b : Addr) (x : Str) (t : Tok) (i : Nat) (h : Heap) : Prop := IsZip h z TI TO .none ∧ IsTupOf2 h TI (.ref i1) (.ref i2) ∧ (∃ a1 a2, IsTupOf2 h TO a1 a2) ∧ h.IsStrIter i1 (strIterType x) x t i ∧ h.IsTupleIter i2 b i
theorem turn_zipX {P : Program} {w : World} {K : PySem.W.Frag} {elts : List Expr} {kk : Nat} {tpos : Pos} {z TI TO i1 i2 b : Addr} {x : Str} {t : Tok} (Sp : ZipSep2 z TI TO i1 i2 [i1] [i2, b]) (hb2 : b ≠ i2) :
    Turn P w K (.Tuple elts kk tpos) (ItzX K x b) [z, TI, TO, i1, i2] z (zxSt z TI TO i1 i2 b x t) where
  mem := by simp
  obj := fun i h ⟨hz, hTI, ⟨_, _, hTO⟩, ⟨o1, e1, _, d1⟩, ⟨o2, e2, _, d2⟩⟩ c hc => by
    simp only [List.mem_cons, List.not_mem_nil, or_false] at hc
    rcases hc with q | q | q | q | q <;> rw [q]
    · exact ⟨_, hz, fun v q => nomatch q⟩
    · exact ⟨_, hTI, fun v q => nomatch q⟩
    · exact ⟨_, hTO, fun v q => nomatch q⟩
    · exact ⟨o1, e1, fun v q => by rw [d1] at q; cases q⟩
    · exact ⟨o2, e2, fun v q => by rw [d2] at q; cases q⟩
  keep := fun i h h' ⟨hz, hTI, ⟨u, v, hTO⟩, ⟨o1, e1, r1⟩, h2⟩ k => ⟨k z (by simp) _ hz, k TI (by simp) _ hTI, ⟨u, v, k TO (by simp) _ hTO⟩, ⟨o1, k i1 (by simp) o1 e1, r1⟩, h2.at fun o q => k i2 (by simp) o q⟩
  item := by
    rintro X rfl rfl rfl hc i pins s σ H E I hf ⟨hz, hTI, hTO, h1, h2⟩ ⟨hi, ys, hq, hi2⟩
    obtain ⟨its, rv, p, _⟩ := I.tuple hq
    have hh : X.A.in1.handled = none := I.ok.hd hc
    have hs : its.toArray.size = ys.length := by rw [List.size_toArray, rv.length]
    have G := GoesN.zip2 (elts := elts) (x1 := kk) (pos := tpos) Sp (Draws.text (prog := X.prog) (w := X.w) (A := X.A.in1) hh i1 x t) (Draws.tuple (prog := X.prog) (w := X.w) (A := X.A.in1) hh i2 b hb2 its.toArray)
    refine G.goes i s _ E (by omega) ⟨hz, hTI, hTO, h1, h2, p⟩ fun v h' tk ⟨T, x0, y0, ev, hT, ⟨c, u, hcx, ex⟩, hy, hTt⟩ st hk htk => ?_
    subst ev ex
    obtain ⟨y, hy2, ry⟩ : ∃ y, ys[i]? = some y ∧ L2.RelV y y0 := by
      obtain ⟨y, hy2⟩ : ∃ y, ys[i]? = some y := ⟨ys[i], List.getElem?_eq_getElem hi2⟩
      obtain ⟨u2, hu2, ru2⟩ := rv.get hy2
      have : its[i]? = some y0 := by simpa using hy
      rw [this] at hu2
      cases hu2
      exact ⟨y, hy2, ru2⟩
    obtain ⟨oT, eT, cT, nT, dT⟩ := id hTt
    have new : ObjOk X.prog X.w (upd H T (.tup [.str ⟨#[c]⟩, y])) h' T (.tup [.str ⟨#[c]⟩, y]) := ⟨by show 2 ≤ sizeLine; decide, [.str ⟨#[c]⟩ u, y0], .cons ⟨u, rfl⟩ (.cons ry .nil), hTt⟩
    have I1 : Inv X pins σ (upd H T (.tup [.str ⟨#[c]⟩, y])) { s with heap := h', toks := tk } :=
      I.turnedNew (t' := tk) (ch := [z, TI, TO, i1, i2]) (fun a o hb q => hk a o (fun m => hb (by simp only [List.mem_cons, List.not_mem_nil, or_false] at m ⊢; rcases m with m | m | m | m <;> simp [m])) q) hf hT new
    refine ⟨.ref T, _, I1, rfl, ⟨T, c, y, rfl, I.hok.fresh hT, rfl, hcx, fun l hl => by rw [I.tuple_inj hl hq]; exact hy2⟩, ⟨st.1, st.2.1, st.2.2.1, st.2.2.2.1, st.2.2.2.2.1⟩, fun a ha => ?_⟩
    obtain ⟨o1, e1, _⟩ := h1
    obtain ⟨o2, e2, _⟩ := h2
    obtain ⟨_, _, hTO'⟩ := hTO
    have hlt : a < s.heap.objs.size := by
      have ha' := ha
      simp only [List.mem_cons, List.not_mem_nil, or_false] at ha'
      rcases ha' with q | q | q | q | q <;> rw [q]
      · exact Heap.lt_size hz
      · exact Heap.lt_size hTI
      · exact Heap.lt_size hTO'
      · exact Heap.lt_size e1
      · exact Heap.lt_size e2
    rw [upd_ne (Nat.ne_of_lt (Nat.lt_of_lt_of_le hlt hT))]
    exact (hf a ha).1
  done := by
    rintro X rfl rfl rfl hc i pins s σ H E I hf ⟨hz, hTI, hTO, h1, h2⟩ ⟨ys, hq, hi⟩
    obtain ⟨its, rv, p, _⟩ := I.tuple hq
    have hh : X.A.in1.handled = none := I.ok.hd hc
    have hs : its.toArray.size = ys.length := by rw [List.size_toArray, rv.length]
    have G := GoesN.zip2 (elts := elts) (x1 := kk) (pos := tpos) Sp (Draws.text (prog := X.prog) (w := X.w) (A := X.A.in1) hh i1 x t) (Draws.tuple (prog := X.prog) (w := X.w) (A := X.A.in1) hh i2 b hb2 its.toArray)
    have hi : i = min x.cps.size its.toArray.size := by omega
    rw [hi] at h1 h2
    exact G.stops s _ E ⟨hz, hTI, hTO, h1, h2, p⟩ fun h' tk hk htk => I.turnedL (t' := tk) (ch := [z, TI, TO, i1, i2]) (fun a o hb q => hk a o (fun m => hb (by simp only [List.mem_cons, List.not_mem_nil, or_false] at m ⊢; rcases m with m | m | m | m <;> simp [m])) q) hf
  self := fun A i s Q E st h => wpAny_pyIter_zip st.1 h
def iZipX (K : PySem.W.Frag) (ta : TA) : TI := fun σ H R => ta σ H fun vs H1 => ∃ x b ys, vs = [.str x, .ref b] ∧ SqT K H1 b ys ∧ R (ItzX K x b) H1
theorem pi_zipX {X : Cx} {e e2 : Expr} {ta : TA} {p pos tpos : Pos} {elts : List Expr} {kk : Nat} (hg : Gl X "zip") (hm : X.mg "zip" = none) (ha : PA X [e, e2] ta) (hs : starEach [e, e2] X.env = (false, eval e X.env) :: starEach [e2] X.env := by rfl) (hpl : (backTo pos (starEach [e2] X.env)).any (·.1) = false := by rfl) :
    PI X (.Tuple elts kk tpos) (.Call (.Name "zip" p) [e, e2] [] pos) (iZipX X.K ta) := by
  refine ⟨fun pins s σ H R I h => Call_ (ld_blt I hg hm PyProof.Rows.boot_zip (PyProof.Rows.callWith_type1 (thn (ha.run pos pins s σ H _ I h) fun us s1 ⟨vs, H1, I1, r1, x, b, ys, ex, hq, q⟩ => ?_) hs hpl))⟩
  subst ex
  cases r1 with
  | cons r rr =>
    cases rr with
    | cons r' rr =>
      cases rr
      obtain ⟨t, rfl⟩ := r
      cases r'
      obtain ⟨its, rv, p1, _⟩ := I1.tuple hq
      obtain ⟨ob, eb, _⟩ := id p1
      have hlt := Heap.lt_size eb
      refine zip_begins2 (begins_text x t) (begins_tuple b its.toArray) trivial p1 fun h' hz hTI hTO h1 h2 hsz hk => wpAny_pyIter_zip hz ?_
      have I2 : Inv X pins σ H1 { s1 with heap := h' } := I1.kept (t' := s1.toks) hk
      refine ⟨s1.heap.objs.size + 4, [s1.heap.objs.size + 4, s1.heap.objs.size + 2, s1.heap.objs.size + 3, s1.heap.objs.size, s1.heap.objs.size + 1], _, ItzX X.K x b, H1, rfl, I2, turn_zipX (x := x) (t := t) (zip_sep2 (fp1 := []) (fp2 := [b]) (by simp) (by simpa using hlt)) (Nat.ne_of_lt (Nat.lt_succ_of_lt hlt)), ⟨hz, hTI, ⟨_, _, hTO⟩, ⟨_, h1, rfl, rfl⟩, ⟨_, h2, rfl, rfl⟩⟩, fun c hcm => ?_, q⟩
      have hle : s1.heap.objs.size ≤ c := by
        simp only [List.mem_cons, List.not_mem_nil, or_false] at hcm
        rcases hcm with m | m | m | m | m <;> rw [m] <;> first | exact Nat.le_refl _ | exact Nat.le_add_right _ _
      exact I1.fpOk hle (I1.hok.fresh hle)
end Ow
namespace Sd
open PySem PySem.Spec PyProof.Rows L2 GxR
def zipX (z : Str) (ds : List D) : List D := List.zipWith (fun a b => D.tup [a, b]) (signs z) ds
def iZX (fa : DA) : DI := fun δ S Q => fa δ S fun xs S1 => match xs with | [.str z, .tup ds] => Q ⟨zipX z ds, fun _ => True⟩ S1 | _ => False
section
variable {G : Gm} {N : En}
theorem jok_zipX {z : Str} {b : Addr} {ys : List V} {ds : List D} {S : Sto} {H : Hp} (s : Sim G S H) (o : okS z) (e1 : H b = some (.tup ys)) (i1 : ImAll G H ys ds) : JOk G (Ow.ItzX G.K z b) ⟨zipX z ds, fun _ => True⟩ S H := by
  intro S2 H2 s2 u2 _ i hi
  have hl := i1.length
  have t := u2.tu s
  have e2 : SqT G.K H2 b ys := SqT.of (t _ _ e1)
  have hz : (zipX z ds).length = min z.cps.size ds.length := by simp [zipX, signs]
  have hsz : z.cps.size = z.cps.toList.length := by simp
  simp only [hz] at hi ⊢
  refine ⟨fun y => ⟨by omega, ys, e2, by omega⟩, fun y => ⟨ys, e2, by rw [hl]; exact y⟩, fun x H' y w => ?_⟩
  obtain ⟨T, c, v, rfl, hT, rfl, hc, hv⟩ := w
  obtain ⟨d, hd, id⟩ := i1.get (hv ys e2)
  have hc' : z.cps.toList[i]? = some c := by simpa using hc
  have im1 : ImAll G H2 [.str ⟨#[c]⟩, v] [.str ⟨#[c]⟩, d] := .cons (.str _ (okS_sign o (List.mem_of_getElem? hc'))) (.cons (id.go t) .nil)
  obtain ⟨a1, a2, a3⟩ := new_tup s2 hT im1
  refine ⟨.tup [.str ⟨#[c]⟩, d], ?_, a1, a2, a3, Ext.lay hT⟩
  have hs : (signs z)[i]? = some (.str ⟨#[c]⟩) := by simp [signs, hc']
  simp only [zipX, List.getElem?_zipWith, hs, hd]
theorem si_zipX {tl : TA} {fl : DA} (ha : SA G N tl fl) : SI G N (Ow.iZipX G.K tl) (iZX fl) := by
  intro σ δ H S Q R r h k
  refine ha σ δ H S _ _ r h fun vs ds H1 S1 i1 r1 u1 q1 => ?_
  split at q1
  · rename_i z es
    match i1 with
    | .cons ix (.cons iy .nil) =>
      obtain ⟨rfl, o⟩ := im_str ix
      obtain ⟨b, ys, rfl, e1, j1⟩ := im_tup iy
      exact ⟨z, b, ys, rfl, SqT.of e1, k _ _ H1 S1 (jok_zipX r1.sim o e1 j1) r1 u1 q1⟩
  · exact q1.elim
end
end Sd
namespace Sd
open PySem PySem.Spec PyProof.Rows L2 GxR
/-- a written text, split at another -/
def eSplit (ps : List Str) : DE := fun _ S Q => ∀ p, S p = none → Q (.ref p) (sup S p (.lst (ps.map D.str)))
theorem se_split {G : Gm} {N : En} {a b : Str} {ps : List Str} (h : Txt.split a b = ps) (hb : (b.length == 0) = false) (ha : a.length ≤ 1000000) (ho : (ps.all fun x => decide (x.length ≤ 1000000) && PyData.strOk x) = true) :
    SE G N (tM1 (fun x xs H Q => ∃ a b, x = .str a ∧ xs = [.str b] ∧ (b.length == 0) = false ∧ a.length + 2 ≤ sizeLine ∧ rNewStrs (Txt.split a b) H Q) (tC (.str a)) (tC (.str b))) (eSplit ps) := by
  intro σ δ H S Q R rl q k
  refine ⟨⟨a, rfl⟩, a, b, rfl, rfl, hb, Nat.le_trans (Nat.add_le_add_right ha 2) (by decide), fun p hp => ?_⟩
  rw [h]
  have im : ∀ l : List Str, (l.all fun x => decide (x.length ≤ 1000000) && PyData.strOk x) = true → ImAll G H (l.map V.str) (l.map D.str) := by
    intro l
    induction l with
    | nil => intro _; exact .nil
    | cons x l ih =>
      intro hl
      rw [List.all_cons, Bool.and_eq_true, Bool.and_eq_true] at hl
      exact .cons (.str x ⟨of_decide_eq_true hl.1.1, hl.1.2⟩) (ih hl.2)
  obtain ⟨a1, a2, a3⟩ := new_lst rl.sim hp (im ps ho)
  exact k _ _ _ _ (.ref p) (rl.go a2 a3) a3 (q p a1)
end Sd

set_option Elab.async false
set_option linter.all false
set_option maxRecDepth 100000
set_option maxHeartbeats 4000000
namespace Sd
open PySem PySem.Spec PyProof.Rows L2 GxR
/-! ### cuts -/
theorem cut_m1 {x : D} {xs : List D} : cutD (x :: xs) none (some (-1)) = (x :: xs).take xs.length := by
  unfold cutD HT.sIx
  simp only [show ((-1 : Int) < 0) by decide, if_true, List.length_cons, List.drop_zero, Nat.sub_zero]
  congr 1
  omega
theorem cut_repl {xs : List D} {k : Nat} {v : D} (h : k < xs.length) : cutD xs none (some (k : Int)) ++ [v] ++ cutD xs (some ((k : Int) + 1)) none = xs.set k v := by
  rw [show ((k : Nat) : Int) + 1 = ((k + 1 : Nat) : Int) by omega, cut_take, cut_drop, List.set_eq_take_append_cons_drop, if_pos h]
  simp
theorem cut_len1 {xs : List D} {k : Nat} : (cutD xs none (some (k : Int))).length ≤ xs.length := by
  rw [cut_take, List.length_take]
  omega
theorem cut_len2 {xs : List D} {k : Nat} : (cutD xs (some ((k : Int) + 1)) none).length ≤ xs.length := by
  rw [show ((k : Nat) : Int) + 1 = ((k + 1 : Nat) : Int) by omega, cut_drop, List.length_drop]
  omega
/-- a tuple of data times a number, folded -/
theorem dMul_t {xs : List D} {k : Int} {S : Sto} {Q : DK} : dMul (.tup xs) (.int k) S Q = (xs ≠ [] ∧ -(2 ^ 62) ≤ k ∧ k ≤ 4000 ∧ xs.length ≤ 200 ∧ Q (.tup (List.replicate k.toNat xs).flatten) S) := rfl
theorem rep1 {x : D} {n : Nat} : (List.replicate n [x]).flatten = List.replicate n x := by
  induction n with
  | zero => rfl
  | succ n ih => rw [List.replicate_succ, List.flatten_cons, ih]; rfl
theorem seq_go {t u : DS} {D : DN} {δ : DV} {S : Sto} (h : t { D with nx := NX u D } δ S) : sSeq t u D δ S := h
theorem asg_go {e : DE} {g : DG} {D : DN} {δ : DV} {S : Sto} (h : e δ S fun x S1 => g x δ S1 D.nx) : sAsg e g D δ S := h
/-! ### what an expression gives, the store grows -/
def Gv (e : DE) (δ : DV) (S : Sto) (P : D → Prop) : Prop := ∀ S1, Se S S1 → ∀ R : DK, (∀ d S2, Se S S2 → P d → R d S2) → e δ S1 R
def GvA (a : DA) (δ : DV) (S : Sto) (P : List D → Prop) : Prop := ∀ S1, Se S S1 → ∀ R : List D → Sto → Prop, (∀ ds S2, Se S S2 → P ds → R ds S2) → a δ S1 R
section
variable {e : DE} {al : DA} {δ : DV} {S : Sto} {P : D → Prop} {Ps : List D → Prop}
theorem gv_nil : GvA aNil δ S (· = []) := fun S1 h R k => k [] S1 h rfl
theorem gv_cons (h : Gv e δ S P) (k : GvA al δ S Ps) : GvA (aCons e al) δ S fun l => ∃ d ds, l = d :: ds ∧ P d ∧ Ps ds := fun S1 h1 R q =>
  h S1 h1 _ fun d S2 h2 hp => k S2 h2 _ fun ds S3 h3 hps => q _ S3 h3 ⟨d, ds, rfl, hp, hps⟩
theorem eLst_gv {Q : DK} (h : GvA al δ S Ps) (l : ∀ ds, Ps ds → ds.length ≤ 1000000) (q : ∀ ds S1 p, Se S S1 → S1 p = none → Ps ds → Q (.ref p) (sup S1 p (.lst ds))) : eLst al δ S Q :=
  h S .refl _ fun ds S1 h1 hp => ⟨l ds hp, fun p hn => q ds S1 p h1 hn hp⟩
/-- a written list at a place that is drawn -/
theorem gv_pick {ds : List D} {i : DE} {m : Int} (h : GvA al δ S (· = ds)) (l : ds.length ≤ 1000000) (hi : ∀ S1, Se S S1 → ∀ R : DK, (∀ j : Int, 0 ≤ j → j < m → R (.int j) S1) → i δ S1 R) (hm : m ≤ ds.length) (hp : ∀ d ∈ ds, P d) : Gv (eOp dIx (eLst al) i) δ S P := by
  intro S1 h1 R q
  refine h S1 h1 _ fun es S2 h2 he => ⟨by rw [he]; exact l, fun p hn => ?_⟩
  subst he
  have h3 := h2.new (o := .lst es) hn
  refine hi _ h3 _ fun j j0 j1 => ?_
  exact pickL j0 (by omega) fun d hd => q d _ h3 (hp d hd)
theorem ixLst_gv {Q : DK} {i : DE} {k : Int} (h : GvA al δ S Ps) (l : ∀ ds, Ps ds → ds.length ≤ 1000000) (hi : ∀ S1, Se S S1 → ∀ R : DK, R (.int k) S1 → i δ S1 R)
    (q : ∀ ds S1, Se S S1 → Ps ds → ∃ d, atI ds k = some d ∧ Q d S1) : eOp dIx (eLst al) i δ S Q := by
  refine eLst_gv h l fun ds S1 p h1 hn hp => ?_
  have h3 := h1.new (o := .lst ds) hn
  refine hi _ h3 _ ?_
  obtain ⟨d, hd, qd⟩ := q ds _ h3 hp
  show atL _ _ _
  rw [atL_eq sup_same, hd]
  exact qd
end
end Sd

set_option Elab.async false
set_option linter.all false
set_option maxRecDepth 100000
set_option maxHeartbeats 4000000
namespace Sd
open PySem PySem.Spec PyProof.Rows L2 GxR
def top (i : Nat) : Stmt := PySem.Challenge.pw_onewatcher_k10_forms.main.body.getD i (.Pass ⟨0, 0, 0, 0⟩)
abbrev s_is_number : Stmt := (top 2)
abbrev N_is_number : List Str := ["value", "most"]
theorem sc_is_number : FnScope N_is_number ["value", "most"] (defScope s_is_number) := ⟨rfl, rfl, rfl, by decide +kernel, rfl, by decide +kernel, by decide +kernel⟩
abbrev s_is_word : Stmt := (top 3)
abbrev N_is_word : List Str := ["value"]
theorem sc_is_word : FnScope N_is_word ["value"] (defScope s_is_word) := ⟨rfl, rfl, rfl, by decide +kernel, rfl, by decide +kernel, by decide +kernel⟩
abbrev s__is_operand : Stmt := (top 14)
abbrev N__is_operand : List Str := ["kind", "value"]
theorem sc__is_operand : FnScope N__is_operand ["kind", "value"] (defScope s__is_operand) := ⟨rfl, rfl, rfl, by decide +kernel, rfl, by decide +kernel, by decide +kernel⟩
abbrev s_is_instruction : Stmt := (top 15)
abbrev N_is_instruction : List Str := ["value", "name", "kinds", "kind", "operand"]
theorem sc_is_instruction : FnScope N_is_instruction ["value"] (defScope s_is_instruction) := ⟨rfl, rfl, rfl, by decide +kernel, rfl, by decide +kernel, by decide +kernel⟩
abbrev s_is_program : Stmt := (top 16)
abbrev N_is_program : List Str := ["value", "element"]
theorem sc_is_program : FnScope N_is_program ["value"] (defScope s_is_program) := ⟨rfl, rfl, rfl, by decide +kernel, rfl, by decide +kernel, by decide +kernel⟩
abbrev s__is_row_of_words : Stmt := (top 17)
abbrev N__is_row_of_words : List Str := ["value", "least", "most", "element"]
theorem sc__is_row_of_words : FnScope N__is_row_of_words ["value", "least", "most"] (defScope s__is_row_of_words) := ⟨rfl, rfl, rfl, by decide +kernel, rfl, by decide +kernel, by decide +kernel⟩
abbrev s_is_input : Stmt := (top 18)
abbrev N_is_input : List Str := ["value"]
theorem sc_is_input : FnScope N_is_input ["value"] (defScope s_is_input) := ⟨rfl, rfl, rfl, by decide +kernel, rfl, by decide +kernel, by decide +kernel⟩
abbrev s_is_state : Stmt := (top 19)
abbrev N_is_state : List Str := ["value", "place", "registers", "memory", "position", "written", "status"]
theorem sc_is_state : FnScope N_is_state ["value"] (defScope s_is_state) := ⟨rfl, rfl, rfl, by decide +kernel, rfl, by decide +kernel, by decide +kernel⟩
abbrev s_first_state : Stmt := (top 20)
abbrev N_first_state : List Str := []
theorem sc_first_state : FnScope N_first_state [] (defScope s_first_state) := ⟨rfl, rfl, rfl, by decide +kernel, rfl, by decide +kernel, by decide +kernel⟩
abbrev s__law_same : Stmt := (top 22)
abbrev N__law_same : List Str := ["a", "b", "k"]
theorem sc__law_same : FnScope N__law_same ["a", "b"] (defScope s__law_same) := ⟨rfl, rfl, rfl, by decide +kernel, rfl, by decide +kernel, by decide +kernel⟩
abbrev s__law_box : Stmt := (top 23)
abbrev N__law_box : List Str := ["script", "nodes"]
theorem sc__law_box : FnScope N__law_box ["script", "nodes"] (defScope s__law_box) := ⟨rfl, rfl, rfl, by decide +kernel, rfl, by decide +kernel, by decide +kernel⟩
abbrev s__law_load : Stmt := (top 24)
abbrev N__law_load : List Str := ["box", "cells", "cell", "size", "first", "second"]
theorem sc__law_load : FnScope N__law_load ["box"] (defScope s__law_load) := ⟨rfl, rfl, rfl, by decide +kernel, rfl, by decide +kernel, by decide +kernel⟩
abbrev s__law_draw : Stmt := (top 25)
abbrev N__law_draw : List Str := ["box", "many", "digit"]
theorem sc__law_draw : FnScope N__law_draw ["box", "many"] (defScope s__law_draw) := ⟨rfl, rfl, rfl, by decide +kernel, rfl, by decide +kernel, by decide +kernel⟩
abbrev s__law_word : Stmt := (top 26)
abbrev N__law_word : List Str := ["box", "kind"]
theorem sc__law_word : FnScope N__law_word ["box"] (defScope s__law_word) := ⟨rfl, rfl, rfl, by decide +kernel, rfl, by decide +kernel, by decide +kernel⟩
abbrev s__law_code : Stmt := (top 27)
abbrev N__law_code : List Str := ["box", "length", "r", "s", "t", "place", "three", "kind"]
theorem sc__law_code : FnScope N__law_code ["box", "length"] (defScope s__law_code) := ⟨rfl, rfl, rfl, by decide +kernel, rfl, by decide +kernel, by decide +kernel⟩
abbrev s__law_program : Stmt := (top 28)
abbrev N__law_program : List Str := ["box", "most", "length", "k"]
theorem sc__law_program : FnScope N__law_program ["box", "most"] (defScope s__law_program) := ⟨rfl, rfl, rfl, by decide +kernel, rfl, by decide +kernel, by decide +kernel⟩
abbrev s__law_input : Stmt := (top 29)
abbrev N__law_input : List Str := ["box", "most", "k"]
theorem sc__law_input : FnScope N__law_input ["box", "most"] (defScope s__law_input) := ⟨rfl, rfl, rfl, by decide +kernel, rfl, by decide +kernel, by decide +kernel⟩
abbrev s__law_state : Stmt := (top 30)
abbrev N__law_state : List Str := ["box", "words", "memory", "k", "registers", "written", "status"]
theorem sc__law_state : FnScope N__law_state ["box", "words"] (defScope s__law_state) := ⟨rfl, rfl, rfl, by decide +kernel, rfl, by decide +kernel, by decide +kernel⟩
abbrev s__law_spoilt : Stmt := (top 31)
abbrev N__law_spoilt : List Str := ["box", "code", "kind", "at", "wrong"]
theorem sc__law_spoilt : FnScope N__law_spoilt ["box", "code"] (defScope s__law_spoilt) := ⟨rfl, rfl, rfl, by decide +kernel, rfl, by decide +kernel, by decide +kernel⟩
abbrev s__law_bad_state : Stmt := (top 32)
abbrev N__law_bad_state : List Str := ["box", "state", "at", "place", "registers", "memory", "position", "written", "status", "wrong"]
theorem sc__law_bad_state : FnScope N__law_bad_state ["box", "state"] (defScope s__law_bad_state) := ⟨rfl, rfl, rfl, by decide +kernel, rfl, by decide +kernel, by decide +kernel⟩
abbrev s_law : Stmt := (top 33)
abbrev N_law : List Str := ["script", "box", "names", "program", "words", "state", "turn", "at", "code", "bad", "wrong"]
theorem sc_law : FnScope N_law ["script"] (defScope s_law) := ⟨rfl, rfl, rfl, by decide +kernel, rfl, by decide +kernel, by decide +kernel⟩
/-- the addresses of classes, errors, tables, constants -/
structure Ad where
  P_is_instruction : Addr
  P_is_program : Addr
  P__is_row_of_words : Addr
  c_NAMES : Addr
  c_OPERANDS : Addr
def tb_OPERANDS (a : Ad) : KTb := ("set", some (.str "rw")) :: ("copy", some (.str "rr")) :: ("add", some (.str "rrr")) :: ("sub", some (.str "rrr")) :: ("mul", some (.str "rrr")) :: ("div", some (.str "rrr")) :: ("mod", some (.str "rrr")) :: ("less", some (.str "rrr")) :: ("same", some (.str "rrr")) :: ("load", some (.str "rr")) :: ("store", some (.str "rr")) :: ("jump", some (.str "p")) :: ("zero", some (.str "rp")) :: ("read", some (.str "r")) :: ("left", some (.str "r")) :: ("write", some (.str "r")) :: ("stop", some (.str "")) :: ("sets", none) :: ("copys", none) :: ("adds", none) :: ("subs", none) :: ("muls", none) :: ("divs", none) :: ("mods", none) :: ("lesss", none) :: ("sames", none) :: ("loads", none) :: ("stores", none) :: ("jumps", none) :: ("zeros", none) :: ("reads", none) :: ("lefts", none) :: ("writes", none) :: ("stops", none) :: []
def tabs (a : Ad) : List Addr := [a.P_is_instruction, a.P_is_program, a.P__is_row_of_words]
structure TX (K : PySem.W.Frag) (mg : Str → Option Value) (w : World) (a : Ad) : Prop where
  b_triv : True
  b_all : mg "all" = none
  b_bool : mg "bool" = none
  b_int : mg "int" = none
  b_isinstance : mg "isinstance" = none
  b_len : mg "len" = none
  b_list : mg "list" = none
  b_range : mg "range" = none
  b_str : mg "str" = none
  b_tuple : mg "tuple" = none
  b_zip : mg "zip" = none
  g_WORD : ∃ u, mg "WORD" = some u ∧ RelV (.int 4294967296) u
  g_MEMORY : ∃ u, mg "MEMORY" = some u ∧ RelV (.int 64) u
  g_MAX_PROGRAM : ∃ u, mg "MAX_PROGRAM" = some u ∧ RelV (.int 64) u
  g_MAX_INPUT : ∃ u, mg "MAX_INPUT" = some u ∧ RelV (.int 64) u
  g_NAMES : ∃ u, mg "NAMES" = some u ∧ RelV (.ref a.c_NAMES) u
  k_NAMES : CtOk K a.c_NAMES [.str "set", .str "copy", .str "add", .str "sub", .str "mul", .str "div", .str "mod", .str "less", .str "same", .str "load", .str "store", .str "jump", .str "zero", .str "read", .str "left", .str "write", .str "stop"]
  g_REGISTERS : ∃ u, mg "REGISTERS" = some u ∧ RelV (.int 4) u
  g_MAX_WRITTEN : ∃ u, mg "MAX_WRITTEN" = some u ∧ RelV (.int 2048) u
  g_RUNNING : ∃ u, mg "RUNNING" = some u ∧ RelV (.int 0) u
  g_FAULTY : ∃ u, mg "FAULTY" = some u ∧ RelV (.int 2) u
  g_OPERANDS : ∃ u, mg "OPERANDS" = some u ∧ RelV (.ref a.c_OPERANDS) u
  kd_OPERANDS : KdOk K w a.c_OPERANDS (tb_OPERANDS a)
end Sd

set_option Elab.async false
set_option linter.all false
set_option maxRecDepth 100000
set_option maxHeartbeats 4000000
namespace Ow
open PySem PySem.Spec PyProof.Rows L2 GxR
/-! ### the walk, in words of this file -/
local macro_rules | `(tactic| walk_at "nin") => `(tactic| first | exact List.not_mem_nil | assumption | (simp only [List.mem_cons, List.mem_singleton, List.not_mem_nil, or_false, not_or]; (repeat' constructor) <;> walk_at "ne"))
local macro_rules | `(tactic| walk_at "ne") => `(tactic| first | assumption | (apply Ne.symm; assumption) | (apply ne_of_none; (walk_at "hp"); assumption) | (apply Ne.symm; apply ne_of_none; (walk_at "hp"); assumption) | (apply ne_of; (walk_at "hp"); (walk_at "hp"); (intro hz; cases hz; done)))
local macro_rules | `(tactic| walk_at "hp") => `(tactic| first | assumption | (apply Fr.lst; assumption; (walk_at "hp"); (exact rfl); (walk_at "nin")))
local macro_rules | `(tactic| walk_at "sqL") => `(tactic| first | assumption | (apply SqL.of; walk_at "hp") | (apply Fr.seqL; assumption; (walk_at "nin"); (walk_at "sqL")))
local macro_rules | `(tactic| walk_at "sqT") => `(tactic| first | assumption | (apply SqT.of; walk_at "hp") | (apply Fr.seqT; assumption; walk_at "sqT"))
local macro_rules | `(tactic| walk_at "ht") => `(tactic| first | assumption | (apply Fr.tup; assumption; walk_at "ht"))
local macro_rules | `(tactic| walk_at "im") => `(tactic| first | assumption | exact Im.int _ | exact Im.str _ (by first | assumption | decide | omega) | exact Im.bl _ | exact Im.non | (apply Im.tup; (walk_at "ht"); (walk_at "ima")) | (apply Im.go; rotate_left; assumption; walk_at "im"))
local macro_rules | `(tactic| walk_at "ima") => `(tactic| first | assumption | exact ImAll.nil | (apply ImAll.cons; (walk_at "im"); (walk_at "ima")) | (apply ImAll.go; rotate_left; assumption; walk_at "ima"))
local macro_rules | `(tactic| walk_at "fr") => `(tactic| first | assumption | exact Fr.refl | (apply Fr.snoc; rotate_left; assumption; (walk_at "sub"); (walk_at "fr")))
local macro_rules | `(tactic| walk_at "sub") => `(tactic| first | exact sub_nil | exact fun _ hz => Or.inl hz | assumption | (apply sub_cons; (first | (left; assumption) | (left; simp; done) | (right; walk_at "fre")); (walk_at "sub")))
local macro_rules | `(tactic| walk_at "fre") => `(tactic| first | assumption | (apply Fr.free; assumption; walk_at "fre"))
local macro_rules | `(tactic| walk_at "len") => `(tactic| first | decide | (simp only [List.length_cons, List.length_nil]; decide) | exact Nat.le_trans (by assumption) (by decide) | exact Nat.lt_of_le_of_lt (by assumption) (by decide) | (show _ ≤ sizeLine; decide) | omega)
local macro_rules | `(tactic| walk_at "ar") => `(tactic| first | assumption | (apply cdivW_of <;> omega) | omega | decide | (constructor <;> first | omega | decide) | (left; constructor <;> first | omega | decide) | (right; constructor <;> first | omega | decide))
local macro_rules | `(tactic| walk_at "lk") => `(tactic| first | rfl | assumption)
set_option hygiene false in
local macro_rules | `(tactic| walk_at "rd1") => `(tactic| first
  | with_reducible refine rd_var rfl ?_
  | with_reducible refine rd_c ?_
  | with_reducible refine rd_op ?_
  | with_reducible refine rd_seq ?_
  | with_reducible refine rd_asg ?_
  | with_reducible refine rd_name ?_
  | with_reducible refine rd_cons ?_
  | with_reducible refine rd_nil ?_
  | with_reducible refine rd_k ?_
  | with_reducible refine rd_test ?_
  | with_reducible refine rd_tB ?_
  | with_reducible refine rd_ifS ?_
  | with_reducible refine rd_iteT ?_
  | with_reducible refine rd_iteF ?_
  | with_reducible refine rd_addI ?_
  | with_reducible refine rd_I0 ?_
  | with_reducible refine rd_leI ?_
  | with_reducible refine rd_leS ?_
  | with_reducible refine rd_ltI ?_
  | with_reducible refine rd_geI ?_
  | with_reducible refine rd_gtI ?_
  | with_reducible refine rd_eqI ?_
  | with_reducible refine rd_eqS ?_
  | with_reducible refine rd_eqB ?_
  | with_reducible refine rd_neI ?_
  | with_reducible refine rd_neS ?_
  | with_reducible refine rd_ret ?_
  | with_reducible refine rd_retN ?_
  | with_reducible refine rd_drop ?_
  | with_reducible refine rd_next ?_
  | with_reducible refine rd_ca ?_
  | with_reducible refine rd_cb ?_
  | with_reducible refine rd_me ?_
  | ((with_reducible refine' rd_me2 ?h1 ?h2 ?_); (case h1 => walk_at "hp"); (case h2 => walk_at "lk"))
  | with_reducible refine rd_ma ?_
  | with_reducible refine rd_meS ?_
  | with_reducible refine rd_caS ?_
  | with_reducible refine rd_chain ?_
  | with_reducible refine rd_andV ?_
  | with_reducible refine rd_orV ?_
  | with_reducible refine rd_notV ?_
  | with_reducible refine rd_not ?_
  | with_reducible refine rd_nof ?_
  | with_reducible refine rd_if ?_
  | with_reducible refine rd_tand ?_
  | with_reducible refine rd_tor ?_
  | with_reducible refine rd_tnot ?_
  | ((with_reducible refine' rd_isi (b := true) ?h1 ?h2 ?_); (case h1 => walk_at "im"); (case h2 => rfl))
  | ((with_reducible refine' rd_isi (b := false) ?h1 ?h2 ?_); (case h1 => walk_at "im"); (case h2 => rfl))
  | with_reducible refine rd_int ?_
  | with_reducible refine rd_fld ?_
  | ((with_reducible refine' rd_fld2 ?h1 ?h2 ?h3 ?h4 ?_); (case h1 => walk_at "hp"); (case h2 => walk_at "cls"); (case h3 => walk_at "nat"); (case h4 => walk_at "lk"))
  | with_reducible refine rd_bm ?_
  | with_reducible refine rd_bm0 ?_
  | ((with_reducible refine' rd_tyL ?h1 ?_); (case h1 => walk_at "sqL"))
  | ((with_reducible refine' rd_ixL ?h1 ?h2 ?_); (case h1 => walk_at "sqL"); (case h2 => walk_at "atI"))
  | ((with_reducible refine' rd_ixT ?h1 ?h2 ?_); (case h1 => walk_at "sqT"); (case h2 => walk_at "atI"))
  | ((with_reducible refine' rd_lenS ?h1 ?_); (case h1 => walk_at "len"))
  | ((with_reducible refine' rd_lenL ?h1 ?_); (case h1 => walk_at "sqL"))
  | ((with_reducible refine' rd_lenT ?h1 ?_); (case h1 => walk_at "sqT"))
  | ((with_reducible refine' rv_mulI ?h1 ?_); (case h1 => walk_at "ar"))
  | ((with_reducible refine' rv_mulS ?h1 ?_); (case h1 => decide))
  | ((with_reducible refine' rv_mulT ?h1 ?h2 ?_); (case h1 => walk_at "sqT"); (case h2 => (refine ⟨by simp, by decide, by decide, by simp⟩)); intro p Hn hn0 hn1 hnf)
  | with_reducible refine rd_nn ?_
  | with_reducible refine rd_for ?_
  | with_reducible refine rd_lc ?_
  | with_reducible refine rd_rng1 ?_
  | ((with_reducible refine' rd_rng1b ?h1 ?_); (case h1 => walk_at "ar"))
  | with_reducible refine rd_subI ?_
  | ((with_reducible refine' rd_I ?h1 ?_); (case h1 => walk_at "ar"))
  | with_reducible refine rd_un ?_
  | with_reducible refine rd_neg ?_
  | with_reducible refine rd_gsub ?_
  | with_reducible refine rd_tup ?_
  | with_reducible refine rd_lst ?_
  | ((with_reducible refine' rd_dT ?_); intro p Hn hn0 hn1 hnf)
  | ((with_reducible refine' rd_kMa ?_); intro p dx Hn hn0 hn2 hn1 hnf)
  | with_reducible refine rd_allG ?_
  | with_reducible refine rd_iStr ?_
  | with_reducible refine rd_iStr2 ?_
  | with_reducible refine rd_iTup ?_
  | ((with_reducible refine' rd_iTup2 ?h1 ?_); (case h1 => walk_at "sqT"))
  | ((with_reducible refine' rd_kTup ?h1 ?_); (case h1 => walk_at "len"); intro p Hn hn0 hn1 hnf)
  | ((with_reducible refine' rd_kLst ?h1 ?_); (case h1 => walk_at "len"); intro p Hn hn0 hn1 hnf)
  | ((with_reducible refine' rd_listL ?h1 ?_); (case h1 => walk_at "sqL"); intro p Hn hn0 hn1 hnf)
  | ((with_reducible refine' rd_listT ?h1 ?_); (case h1 => walk_at "sqT"); intro p Hn hn0 hn1 hnf)
  | ((with_reducible refine' rd_tupL ?h1 ?_); (case h1 => walk_at "sqL"); intro p Hn hn0 hn1 hnf)
  | ((with_reducible refine' rd_app ?h1 ?h2 ?_); (case h1 => walk_at "hp"); (case h2 => walk_at "len"); intro Hn hn1 hnf)
  | ((with_reducible refine' rd_pop0 ?h1 ?_); (case h1 => walk_at "hp"); intro Hn hn1 hnf)
  | ((with_reducible refine' rd_setL ?h1 ?h2 ?_); (case h1 => walk_at "hp"); (case h2 => walk_at "ixN"); intro Hn hn1 hnf)
  | with_reducible refine rd_sfld ?_
  | ((with_reducible refine' rd_sfld2 ?h1 ?h2 ?h3 ?h4 ?_); (case h1 => walk_at "hp"); (case h2 => walk_at "cls"); (case h3 => walk_at "nat"); (case h4 => walk_at "lf"); intro Hn hn1 hnf)
  | with_reducible refine rd_sfaug ?_
  | ((with_reducible refine' rd_sfaug2 ?h1 ?h2 ?h3 ?h4 ?_); (case h1 => walk_at "hp"); (case h2 => walk_at "cls"); (case h3 => walk_at "nat"); (case h4 => walk_at "lk"))
  | with_reducible refine rd_inadd ?_
  | ((with_reducible refine' rd_sfaug3 ?h1 ?h2 ?_); (case h1 => walk_at "hp"); (case h2 => walk_at "lf"); intro Hn hn1 hnf)
  | walk_at "sp")
local macro_rules | `(tactic| walk_at "tab") => `(tactic| first | assumption | (apply Fr.tab; assumption; walk_at "tab"))
local macro_rules | `(tactic| walk_at "lf") => `(tactic| first | decide | exact Nat.le_of_ble_eq_true (by rfl) | (simp; done))
local macro_rules | `(tactic| walk_at "atI") => `(tactic| first | rfl | assumption)
local macro_rules | `(tactic| walk_at "ixN") => `(tactic| first | rfl | assumption)
local macro_rules | `(tactic| walk_at "rd") => `(tactic| repeat (walk_at "rd1"))
set_option hygiene false in
local macro_rules | `(tactic| walk_at "ite") => `(tactic| first
  | with_reducible refine rd_ite (fun hc => ?_) (fun hc => ?_)
  | with_reducible refine rd_iteN (fun hc => ?_) (fun hc => ?_)
  | with_reducible refine rd_iteNB (fun hc => ?_) (fun hc => ?_)
  | with_reducible refine rd_iteB (fun hc => ?_) (fun hc => ?_))

local macro_rules | `(tactic| walk_at "cls") => `(tactic| assumption)
local macro_rules | `(tactic| walk_at "nat") => `(tactic| assumption)

structure TxtL (K : PySem.W.Frag) (mg : Str → Option Value) : Prop where
  b_isinstance : mg "isinstance" = none
  b_int : mg "int" = none
  b_bool : mg "bool" = none
  b_str : mg "str" = none
  b_tuple : mg "tuple" = none
  b_list : mg "list" = none
  b_len : mg "len" = none
  b_range : mg "range" = none
section
variable {P : Program} {w : World} {K : PySem.W.Frag} {mg : Str → Option Value} {base : Heap}
/-! ### the box -/
structure Bx (H : Hp) (b c : Addr) (nd : V) : Prop where
  bc : c ≠ b
  ex : ∃ (ns : List Int) (v1 v2 : Int), H b = some (.lst [.ref c, .int v1, .int v2, nd]) ∧ H c = some (.lst (ns.map V.int))
theorem Bx.go {H H' : Hp} {b c : Addr} {nd : V} {ch : List Addr} (h : Bx H b c nd) (f : Fr ch H H') (hb : b ∉ ch) (hc : c ∉ ch) : Bx H' b c nd := by
  obtain ⟨ns, v1, v2, h1, h2⟩ := h.ex
  exact ⟨h.bc, ns, v1, v2, f.lst h1 rfl hb, f.lst h2 rfl hc⟩
def spBox (K : PySem.W.Frag) : Sp := fun vs H Q _ => ∃ (s : Addr) (ns : List Int) (nd : V), vs = [.ref s, nd] ∧ SqL K H s (ns.map V.int) ∧ ∀ b c H', H b = none → H c = none → Fr [] H H' → Bx H' b c nd → Q (.ref b) H'
theorem ok_box {f : Addr} {fd : FuncData} (F : Fun K "_law_box" "_law_box" Sd.s__law_box f fd) (T : TxtL K mg) : FnOk P w K mg base (L2.CX P w) 1 f fd ["script", "nodes"] (spBox K) := by
  refine F.okX Sd.sc__law_box (fun vs H Q E h => ?_) (fun cdv A outer s H vs Q E hr h => ?_)
  · obtain ⟨s, ns, nd, rfl, _⟩ := h
    rfl
  · obtain ⟨s', ns, nd, rfl, hs, k⟩ := h
    refine ⟨_, (pss_one (ps_ret (pe_lst (pa_cons (pe_callTy listU (by rfl) T.b_list (by decide +kernel) (pa_cons (pv 0) pa_nil)) (pa_cons pe_int (pa_cons (pe_op opU_add pe_int (pe_callB lenU (by rfl) T.b_len PySem.boot_len (pa_cons (pv 0) pa_nil))) (pa_cons (pv 1) pa_nil))))))), ?_⟩
    walk_at "rd"
    rename_i c H1 c0 hc hf
    have n1 : c ≠ p := ne_of_none hc hn0
    exact k p c Hn (hf.free hn0) c0 (hf.snoc hnf sub_nil) ⟨n1, ns, _, _, hn1, hnf.lst hc rfl (by simp)⟩
def spLoad : Sp := fun vs H Q _ => ∃ b c nd, vs = [.ref b] ∧ Bx H b c nd ∧ ∀ i H', Fr [b, c] H H' → Bx H' b c nd → Q (.int i) H'
theorem ok_load {f : Addr} {fd : FuncData} (F : Fun K "_law_load" "_law_load" Sd.s__law_load f fd) (T : TxtL K mg) : FnOk P w K mg base (L2.CX P w) 1 f fd ["box"] spLoad := by
  refine F.okX Sd.sc__law_load (fun vs H Q E h => ?_) (fun cdv A outer s H vs Q E hr h => ?_)
  · obtain ⟨b, c, nd, rfl, _⟩ := h
    rfl
  · obtain ⟨b, c, nd, rfl, hB, k⟩ := h
    obtain ⟨ns, v1, v2, hb, hcc⟩ := hB.ex
    have bc := hB.bc
    refine ⟨_, (pss_cons (ps_asg (pe_ix ixU (pv 0) pe_int (fun _ _ => rfl)) (pg_name (i := 1) Sd.sc__law_load.nd rfl (by first | exact Or.inl rfl | exact Or.inr rfl))) (pss_cons (ps_if (pt_cmpR opU_gt (pe_callB lenU (by rfl) T.b_len PySem.boot_len (pa_cons (pv 1) pa_nil)) pe_int (nomark _)) (pss_cons (ps_asg (pe_callTy intU (by rfl) T.b_int (by decide +kernel) (pa_cons (pe_bm PySem.F.plainAttrs_list PySem.F.slot_list_pop PySem.F.type_list_pop mt_popAt (pv 1) (pa_cons pe_int pa_nil)) pa_nil)) (pg_name (i := 2) Sd.sc__law_load.nd rfl (by first | exact Or.inl rfl | exact Or.inr rfl))) (pss_cons (ps_asg (pe_ifExp (pt_cmpR opU_ge (pv 2) pe_int (nomark _)) (pe_op opV_mul pe_int (pv 2)) (pe_op op_sub (pe_op opV_mul (pe_un un_neg pe_int) (pv 2)) pe_int)) (pg_name (i := 3) Sd.sc__law_load.nd rfl (by first | exact Or.inl rfl | exact Or.inr rfl))) (pss_cons (ps_if (pt_cmpR opU_ge (pv 3) pe_int (nomark _)) (pss_one (ps_ret (pv 3))) pss_nil) (pss_one (ps_asg (pe_op op_mod (pe_callTy intU (by rfl) T.b_int (by decide +kernel) (pa_cons (pe_op opU_add (pe_op opU_add (pe_op opV_mul (pe_ix ixU (pv 0) pe_int (fun _ _ => rfl)) pe_int) (pe_op opV_mul (pv 3) pe_int)) pe_int) pa_nil)) pe_int) (pg_sub (pv 0) pe_int set_list)))))) pss_nil) (pss_cons (ps_asg (pe_op op_mod (pe_callTy intU (by rfl) T.b_int (by decide +kernel) (pa_cons (pe_op opU_add (pe_op opV_mul (pe_ix ixU (pv 0) pe_int (fun _ _ => rfl)) pe_int) pe_int) pa_nil)) pe_int) (pg_name (i := 4) Sd.sc__law_load.nd rfl (by first | exact Or.inl rfl | exact Or.inr rfl))) (pss_cons (ps_asg (pe_op op_mod (pe_callTy intU (by rfl) T.b_int (by decide +kernel) (pa_cons (pe_op opU_add (pe_op opV_mul (pv 4) pe_int) pe_int) pa_nil)) pe_int) (pg_name (i := 5) Sd.sc__law_load.nd rfl (by first | exact Or.inl rfl | exact Or.inr rfl))) (pss_cons (ps_asg (pe_op op_mod (pe_callTy intU (by rfl) T.b_int (by decide +kernel) (pa_cons (pe_op opU_add (pe_op opV_mul (pv 5) pe_int) pe_int) pa_nil)) pe_int) (pg_sub (pv 0) pe_int set_list)) (pss_one (ps_ret (pe_op opU_add (pe_op opU_add (pe_op opV_mul (pv 4) pe_int) (pe_op opV_mul (pv 5) pe_int)) (pe_ix ixU (pv 0) pe_int (fun _ _ => rfl)))))))))), ?_⟩
    cases ns with
    | nil =>
      walk_at "rd"
      walk_at "ite"
      · exact absurd hc (by decide)
      · walk_at "rd"
        exact k _ Hn (hnf.wide (by simp)) ⟨bc, [], _, _, hn1, hnf.lst hcc rfl (by simp [bc])⟩
    | cons n ns =>
      rw [List.map_cons] at hcc
      walk_at "rd"
      walk_at "ite"
      · walk_at "rd"
        have hb1 := hnf.lst hb rfl (by simp [Ne.symm bc])
        have f1 : Fr [b, c] H Hn := hnf.wide (by simp)
        have hc1 := hn1
        clear hn1 hnf
        walk_at "ite"
        all_goals walk_at "rd"
        all_goals walk_at "ite"
        all_goals walk_at "rd"
        all_goals first
          | exact k _ _ f1 ⟨bc, ns, _, _, hb1, hc1⟩
          | exact k _ Hn ((f1.snoc (by assumption) fun _ z => .inl (by simp at z; simp [z])).snoc hnf fun _ z => .inl (by simp at z; simp [z])) ⟨bc, ns, _, _, hn1, hnf.lst (Fr.lst (by assumption) hc1 rfl (by simp [bc])) rfl (by simp [bc])⟩
      · exact absurd (by simp) hc
theorem use_load {H : Hp} {Q : VK} {E : XK} {b c : Addr} {nd : V} (h : Bx H b c nd) (q : ∀ i H', Fr [b, c] H H' → Bx H' b c nd → Q (.int i) H') : spLoad [.ref b] H Q E := ⟨b, c, nd, rfl, h, q⟩
def spDraw : Sp := fun vs H Q _ => ∃ b c nd m, vs = [.ref b, .int m] ∧ Bx H b c nd ∧ 0 < m ∧ m < 1000000000000000000 ∧ ∀ i H', Fr [b, c] H H' → Bx H' b c nd → 0 ≤ i → i < m → Q (.int i) H'
theorem use_draw {H : Hp} {Q : VK} {E : XK} {b c : Addr} {nd : V} {m : Int} (h : Bx H b c nd) (hm : 0 < m ∧ m < 1000000000000000000) (q : ∀ i H', Fr [b, c] H H' → Bx H' b c nd → 0 ≤ i → i < m → Q (.int i) H') : spDraw [.ref b, .int m] H Q E := ⟨b, c, nd, m, rfl, h, hm.1, hm.2, q⟩
set_option hygiene false in
local macro_rules | `(tactic| walk_at "sp") => `(tactic| ((with_reducible refine' use_load ?h1 ?_); (case h1 => walk_at "bx"); intro i Hn hnf hbx))
local macro_rules | `(tactic| walk_at "bx") => `(tactic| first | assumption | (apply Bx.go; assumption; assumption; (walk_at "nin"); (walk_at "nin")))
theorem ok_draw {f : Addr} {fd : FuncData} (F : Fun K "_law_draw" "_law_draw" Sd.s__law_draw f fd) (T : TxtL K mg) (G__law_load : Ca P w K mg base 1 "_law_load" spLoad) : FnOk P w K mg base (L2.CX P w) 2 f fd ["box", "many"] spDraw := by
  refine F.okX Sd.sc__law_draw (fun vs H Q E h => ?_) (fun cdv A outer s H vs Q E hr h => ?_)
  · obtain ⟨b, c, nd, m, rfl, _⟩ := h
    rfl
  · obtain ⟨b, c, nd, m, rfl, hB, h0, h1, k⟩ := h
    obtain ⟨ns, v1, v2, hb, hcc⟩ := hB.ex
    have bc := hB.bc
    refine ⟨_, (pss_cons (ps_if (pt_cmpR opU_lt (pe_ix ixU (pv 0) pe_int (fun _ _ => rfl)) (pv 1) (nomark _)) (pss_one (ps_asg (pe_ca G__law_load hr (by first | decide | omega) (by rfl) (pa_cons (pv 0) pa_nil)) (pg_sub (pv 0) pe_int set_list))) pss_nil) (pss_cons (ps_asg (pe_op op_mod (pe_callTy intU (by rfl) T.b_int (by decide +kernel) (pa_cons (pe_ix ixU (pv 0) pe_int (fun _ _ => rfl)) pa_nil)) (pv 1)) (pg_name (i := 2) Sd.sc__law_draw.nd rfl (by first | exact Or.inl rfl | exact Or.inr rfl))) (pss_cons (ps_asg (pe_op op_fdivW (pe_ix ixU (pv 0) pe_int (fun _ _ => rfl)) (pv 1)) (pg_sub (pv 0) pe_int set_list)) (pss_one (ps_ret (pv 2)))))), ?_⟩
    walk_at "rd"
    walk_at "ite"
    · walk_at "rd"
      obtain ⟨ns2, w1, w2, hb2, hc2⟩ := hbx.ex
      clear hb hcc
      have f0 := hnf
      have g0 := Int.emod_nonneg i (show m ≠ 0 by omega)
      have g1 := Int.emod_lt_of_pos i h0
      walk_at "rd"
      rename_i H1 hf1 H2 hb3 f2
      have hc3 := hnf.lst (f2.lst hc2 rfl (by simp [bc])) rfl (by simp [bc])
      exact k _ Hn ((f0.snoc f2 fun _ z => .inl (by simp at z; simp [z])).snoc hnf fun _ z => .inl (by simp at z; simp [z])) ⟨bc, _, _, _, hn1, hc3⟩ g0 g1
    · have g0 := Int.emod_nonneg v1 (show m ≠ 0 by omega)
      have g1 := Int.emod_lt_of_pos v1 h0
      walk_at "rd"
      exact k _ Hn (hnf.wide (by simp)) ⟨bc, _, _, _, hn1, hnf.lst hcc rfl (by simp [bc])⟩ g0 g1
end
end Ow

namespace Sd
open PySem PySem.Spec PyProof.Rows L2 GxR
section
variable {P : Program} {w : World} {K : PySem.W.Frag} {mg : Str → Option Value} {base : Heap} {a : Ad}
def F__law_box (a : Ad) : WF := wBox
def F__law_load (a : Ad) : WF := wLoad
def F__law_draw (a : Ad) : WF := wDraw
theorem TX.low (T : TX K mg w a) : Ow.TxtL K mg := ⟨T.b_isinstance, T.b_int, T.b_bool, T.b_str, T.b_tuple, T.b_list, T.b_len, T.b_range⟩
theorem box_fr {G : Gm} {S : Sto} {H H' : Hp} {b c : Addr} {nd : V} (s : Sim G S H) (hb : S b = some (.box c)) (f : Ow.Fr [b, c] H H') (B : Ow.Bx H' b c nd) : Sim G S H' ∧ Up S S H H' := by
  obtain ⟨v1, v2, nd0, h1, h2, h3⟩ := s.ob _ _ hb
  obtain ⟨ns0, h4⟩ := s.ob _ _ h2
  obtain ⟨ns, w1, w2, g1, g2⟩ := B.ex
  have t : Tu H H' := f.tup
  refine ⟨⟨fun x o h => ?_, fun P hP => f.tab P (s.tab P hP), ?_⟩, ⟨fun x o h n z => ?_, fun x h _ => h, fun x z => ?_⟩⟩
  · by_cases e1 : x = b
    · subst e1
      rw [hb] at h
      cases h
      exact ⟨w1, w2, nd, g1, h2, h3⟩
    · by_cases e2 : x = c
      · subst e2
        rw [h2] at h
        cases h
        exact ⟨ns, g2⟩
      · exact (s.ob x o h).go (fun u hu n => f.keep x u hu n (by simp [e1, e2])) t fun _ z => z
  · rcases s.scr with ⟨k1, k2⟩ | k
    · have n1 : G.scr ≠ b := Ne.symm (sne hb k1)
      have n2 : G.scr ≠ c := Ne.symm (sne h2 k1)
      refine .inl ⟨k1, ?_⟩
      rcases k2 with k2 | ⟨o, k2⟩
      · exact .inl (f.keep _ _ k2 rfl (by simp [n1, n2]))
      · exact .inr ⟨o, f.keep _ _ k2 rfl (by simp [n1, n2])⟩
    · exact .inr k
  · exact f.keep x o h (by cases o <;> first | rfl | exact n) (by simp [Ne.symm (sne hb z), Ne.symm (sne h2 z)])
  · cases q : H x with
    | none => exact absurd q z
    | some o =>
      obtain ⟨o', e⟩ := f.there x o q
      rw [e]; simp
theorem bx_of {G : Gm} {S : Sto} {H : Hp} {b c : Addr} (s : Sim G S H) (hb : S b = some (.box c)) : ∃ nd, Ow.Bx H b c nd := by
  obtain ⟨v1, v2, nd, h1, h2, h3⟩ := s.ob _ _ hb
  obtain ⟨ns0, h4⟩ := s.ob _ _ h2
  exact ⟨nd, h3, ns0, v1, v2, h1, h4⟩
theorem ok__law_draw {f : Addr} {fd : FuncData} (Fm : Fun K "_law_draw" "_law_draw" s__law_draw f fd) (T : TX K mg w a) (G__law_load : Ow.Ca P w K mg base 1 "_law_load" Ow.spLoad) : FnOk P w K mg base (L2.CX P w) 2 f fd ["box", "many"] (spD K (tabs a) (F__law_draw a)) := by
  refine (Ow.ok_draw Fm T.low G__law_load).imp fun vs H Q E h => ?_
  obtain ⟨scr, ns, ds, S, Qd, Ed, i, s, hF, hq, _⟩ := h
  unfold F__law_draw wDraw at hF
  split at hF
  · obtain ⟨v, v2, rfl, i1, i2⟩ := ia2 i
    cases im_ref i1
    cases im_int i2
    obtain ⟨⟨c, hb⟩, m0, m1, k⟩ := hF
    obtain ⟨nd, B⟩ := bx_of s hb
    refine ⟨_, c, nd, _, rfl, B, m0, m1, fun j H' f B' j0 j1 => ?_⟩
    obtain ⟨s', u'⟩ := box_fr s hb f B'
    exact hq _ _ H' S (.int j) s' u' (k j j0 j1)
  · exact hF.elim
theorem ok__law_box {f : Addr} {fd : FuncData} (Fm : Fun K "_law_box" "_law_box" s__law_box f fd) (T : TX K mg w a) : FnOk P w K mg base (L2.CX P w) 1 f fd ["script", "nodes"] (spD K (tabs a) (F__law_box a)) := by
  refine (Ow.ok_box Fm T.low).imp fun vs H Q E h => ?_
  obtain ⟨scr, ns, ds, S, Qd, Ed, i, s, hF, hq, _⟩ := h
  unfold F__law_box wBox at hF
  split at hF
  · obtain ⟨v, v2, rfl, i1, i2⟩ := ia2 i
    have hs : SqL K H scr (ns.map V.int) := by
      rcases s.scr with ⟨_, k⟩ | k
      · exact .inl k
      · exact k H
    cases i1
    cases im_int i2
    refine ⟨scr, ns, _, rfl, hs, fun b c H' nb nc f B => ?_⟩
    have sb := s.free nb
    have sc := s.free nc
    have bc := B.bc
    obtain ⟨ns', w1, w2, g1, g2⟩ := B.ex
    refine hq _ _ H' _ (.ref b) ⟨fun x o h => ?_, fun P hP => f.tab P (s.tab P hP), ?_⟩ ⟨fun x o h n z => ?_, fun x h z => ?_, fun x z => ?_⟩ (hF b c sb sc bc)
    · by_cases e1 : x = b
      · subst e1
        rw [sup_same] at h
        cases h
        exact ⟨w1, w2, _, g1, by rw [sup_ne bc]; exact sup_same, bc⟩
      · rw [sup_ne e1] at h
        by_cases e2 : x = c
        · subst e2
          rw [sup_same] at h
          cases h
          exact ⟨ns', g2⟩
        · rw [sup_ne e2] at h
          refine (s.ob x o h).go (fun u hu n => f.keep x u hu n (by simp)) f.tup fun d z => ?_
          rw [sup_ne (sne z sb), sup_ne (sne z sc)]; exact z
    · rcases s.scr with ⟨k1, k2⟩ | k
      · have n1 : scr ≠ b := by rcases k2 with k2 | ⟨o, k2⟩ <;> exact ne_of_none k2 nb
        have n2 : scr ≠ c := by rcases k2 with k2 | ⟨o, k2⟩ <;> exact ne_of_none k2 nc
        refine .inl ⟨by show (sup (sup S c .cells) b (.box c)) scr = none; rw [sup_ne n1, sup_ne n2]; exact k1, ?_⟩
        rcases k2 with k2 | ⟨o, k2⟩
        · exact .inl (f.keep _ _ k2 rfl (by simp))
        · exact .inr ⟨o, f.keep _ _ k2 rfl (by simp)⟩
      · exact .inr k
    · exact f.keep x o h (by cases o <;> first | rfl | exact n) (by simp)
    · rw [sup_ne (fun y => z (by rw [y]; exact nb)), sup_ne (fun y => z (by rw [y]; exact nc))]; exact h
    · cases q : H x with
      | none => exact absurd q z
      | some o =>
        obtain ⟨o', e⟩ := f.there x o q
        rw [e]; simp
  · exact hF.elim
end
end Sd

set_option Elab.async false
set_option linter.all false
set_option maxRecDepth 100000
set_option maxHeartbeats 4000000
namespace Sd
open PySem PySem.Spec PyProof.Rows L2 GxR
section
variable {P : Program} {w : World} {K : PySem.W.Frag} {mg : Str → Option Value} {base : Heap} {a : Ad}
noncomputable def B_is_number (a : Ad) (Ed : XD) : DS :=
  (sRet (eAnd (eCB dIsi (aCons (eVar 0) (aCons (eC (.ty "int")) aNil))) (eAnd (eNot (eCB dIsi (aCons (eVar 0) (aCons (eC (.ty "bool")) aNil)))) (eChain dLe dLe (eC (.int 0)) (eVar 0) (eVar 1)))))
noncomputable def F_is_number (a : Ad) : WF := shut fun ds S Q Ed => ds.length = 2 ∧ B_is_number a Ed { nx := fun _ S' => Q .non S', rt := Q } (dstart N_is_number ds) S
theorem ok_is_number {f : Addr} {fd : FuncData} (Fm : Fun K "is_number" "is_number" s_is_number f fd) (T : TX K mg w a)  : FnOk P w K mg base (L2.CX P w) 1 f fd ["value", "most"] (spD K (tabs a) (F_is_number a)) := by
  refine def_ok (k := 0) Fm sc_is_number (fun ds S Q E h => (shut_of h).1) fun scr ns Ne Ed E cdv A outer s H hr hx => ?_
  exact ⟨_, B_is_number a Ed, (pss_one (ps_ret (pe_and (pe_callB (show CallR _ _ (rIsi K) from call_isi) (by rfl) T.b_isinstance (by decide +kernel) (pa_cons (pv 0) (pa_cons (pe_bltn (by rfl) T.b_int (by decide +kernel) (show RelV (.ty "int") _ from rfl)) pa_nil))) (pe_and (pe_not (pe_callB (show CallR _ _ (rIsi K) from call_isi) (by rfl) T.b_isinstance (by decide +kernel) (pa_cons (pv 0) (pa_cons (pe_bltn (by rfl) T.b_bool (by decide +kernel) (show RelV (.ty "bool") _ from rfl)) pa_nil)))) (pe_one (pe_chain Ow.opU_le Ow.opU_le pe_int (pv 0) (pv 1))))))), (ss_ret (se_and (se_cb sl_isi (sa_cons se_var (sa_cons se_ty sa_nil))) (se_and (se_not (se_cb sl_isi (sa_cons se_var (sa_cons se_ty sa_nil)))) (se_chain s2_le s2_le se_int se_var se_var)))), fun ds S Qd h => (shut_of h).2⟩
noncomputable def B_is_word (a : Ad) (Ed : XD) : DS :=
  (sRet (eCa (F_is_number a) Ed (aCons (eVar 0) (aCons (eOp dSub (eC (.int 4294967296)) (eC (.int 1))) aNil))))
noncomputable def F_is_word (a : Ad) : WF := shut fun ds S Q Ed => ds.length = 1 ∧ B_is_word a Ed { nx := fun _ S' => Q .non S', rt := Q } (dstart N_is_word ds) S
theorem ok_is_word {f : Addr} {fd : FuncData} (Fm : Fun K "is_word" "is_word" s_is_word f fd) (T : TX K mg w a) (G_is_number : Ow.Ca P w K mg base 1 "is_number" (spD K (tabs a) (F_is_number a))) : FnOk P w K mg base (L2.CX P w) 2 f fd ["value"] (spD K (tabs a) (F_is_word a)) := by
  refine def_ok (k := 1) Fm sc_is_word (fun ds S Q E h => (shut_of h).1) fun scr ns Ne Ed E cdv A outer s H hr hx => ?_
  have hpx : Passes (L2.CX P w) (cxOf (L2.CX P w) P w K mg base N_is_word "is_word" (defScope s_is_word) f cdv A outer s H E) E := passes_call (takes_of rfl rfl rfl rfl) (fun _ _ _ _ z => z)
  exact ⟨_, B_is_word a Ed, (pss_one (ps_ret (Ow.pe_caX G_is_number hr (by first | decide | omega) (by rfl) hpx (pa_cons (pv 0) (pa_cons (pe_op op_sub (Ow.pe_gi (by rfl) T.g_WORD) pe_int) pa_nil))))), (ss_ret (se_ca hx (sa_cons se_var (sa_cons (se_op s2_sub se_int se_int) sa_nil)))), fun ds S Qd h => (shut_of h).2⟩
noncomputable def B__is_operand (a : Ad) (Ed : XD) : DS :=
  (sSeq (sIf (tV (eOp dEq (eVar 0) (eC (.str "r"))))
  (sRet (eCa (F_is_number a) Ed (aCons (eVar 1) (aCons (eOp dSub (eC (.int 4)) (eC (.int 1))) aNil))))
  sNext)
  (sSeq (sIf (tV (eOp dEq (eVar 0) (eC (.str "p"))))
  (sRet (eCa (F_is_number a) Ed (aCons (eVar 1) (aCons (eC (.int 64)) aNil))))
  sNext)
  (sRet (eCa (F_is_word a) Ed (aCons (eVar 1) aNil)))))
noncomputable def F__is_operand (a : Ad) : WF := shut fun ds S Q Ed => ds.length = 2 ∧ B__is_operand a Ed { nx := fun _ S' => Q .non S', rt := Q } (dstart N__is_operand ds) S
theorem ok__is_operand {f : Addr} {fd : FuncData} (Fm : Fun K "_is_operand" "_is_operand" s__is_operand f fd) (T : TX K mg w a) (G_is_number : Ow.Ca P w K mg base 1 "is_number" (spD K (tabs a) (F_is_number a))) (G_is_word : Ow.Ca P w K mg base 2 "is_word" (spD K (tabs a) (F_is_word a))) : FnOk P w K mg base (L2.CX P w) 3 f fd ["kind", "value"] (spD K (tabs a) (F__is_operand a)) := by
  refine def_ok (k := 2) Fm sc__is_operand (fun ds S Q E h => (shut_of h).1) fun scr ns Ne Ed E cdv A outer s H hr hx => ?_
  have hpx : Passes (L2.CX P w) (cxOf (L2.CX P w) P w K mg base N__is_operand "_is_operand" (defScope s__is_operand) f cdv A outer s H E) E := passes_call (takes_of rfl rfl rfl rfl) (fun _ _ _ _ z => z)
  exact ⟨_, B__is_operand a Ed, (pss_cons (ps_if (pt_cmpR (show OpR _ _ (Ow.rEqU K) from Ow.opU_eq hr.units) (pv 0) pe_str (nomark _)) (pss_one (ps_ret (Ow.pe_caX G_is_number hr (by first | decide | omega) (by rfl) hpx (pa_cons (pv 1) (pa_cons (pe_op op_sub (Ow.pe_gi (by rfl) T.g_REGISTERS) pe_int) pa_nil))))) pss_nil) (pss_cons (ps_if (pt_cmpR (show OpR _ _ (Ow.rEqU K) from Ow.opU_eq hr.units) (pv 0) pe_str (nomark _)) (pss_one (ps_ret (Ow.pe_caX G_is_number hr (by first | decide | omega) (by rfl) hpx (pa_cons (pv 1) (pa_cons (Ow.pe_gi (by rfl) T.g_MAX_PROGRAM) pa_nil))))) pss_nil) (pss_one (ps_ret (Ow.pe_caX G_is_word hr (by first | decide | omega) (by rfl) hpx (pa_cons (pv 1) pa_nil)))))), (ss_seq (ss_if (st_test (se_op s2_eq se_var (se_str (by decide +kernel)))) (ss_ret (se_ca hx (sa_cons se_var (sa_cons (se_op s2_sub se_int se_int) sa_nil)))) ss_next) (ss_seq (ss_if (st_test (se_op s2_eq se_var (se_str (by decide +kernel)))) (ss_ret (se_ca hx (sa_cons se_var (sa_cons se_int sa_nil)))) ss_next) (ss_ret (se_ca hx (sa_cons se_var sa_nil))))), fun ds S Qd h => (shut_of h).2⟩
noncomputable def B_is_instruction (a : Ad) (Ed : XD) : DS :=
  (sSeq (sIf (tOr' (tNot' (tV (eCB dIsi (aCons (eVar 0) (aCons (eC (.ty "tuple")) aNil))))) (tV (eOp dEq (eCB dLen (aCons (eVar 0) aNil)) (eC (.int 0)))))
  (sRet (eC (.bl false)))
  sNext)
  (sSeq (sAsg (eOp dIx (eVar 0) (eC (.int 0))) (xName 1))
  (sSeq (sIf (tOr' (tNot' (tV (eCB dIsi (aCons (eVar 1) (aCons (eC (.ty "str")) aNil))))) (tV (eKIn true (tb_OPERANDS a) (eVar 1))))
  (sRet (eC (.bl false)))
  sNext)
  (sSeq (sAsg (eKIx (tb_OPERANDS a) (eVar 1)) (xName 2))
  (sSeq (sIf (tV (eOp dNe (eCB dLen (aCons (eVar 0) aNil)) (eOp dAdd (eCB dLen (aCons (eVar 2) aNil)) (eC (.int 1)))))
  (sRet (eC (.bl false)))
  sNext)
  (sRet (eAll (iZX (aCons (eVar 2) (aCons (eSl (eVar 0) (oSome (eC (.int 1))) oNone) aNil))) (xTup 2 (xCons (xName 3) (xCons (xName 4) xNil))) (eCa (F__is_operand a) xF (aCons (eVar 3) (aCons (eVar 4) aNil))) [3, 4])))))))
noncomputable def F_is_instruction (a : Ad) : WF := shut fun ds S Q Ed => ds.length = 1 ∧ B_is_instruction a Ed { nx := fun _ S' => Q .non S', rt := Q } (dstart N_is_instruction ds) S
theorem ok_is_instruction {f : Addr} {fd : FuncData} (Fm : FunT K base mg "is_instruction" "is_instruction" s_is_instruction f fd a.P_is_instruction) (T : TX K mg w a) (G__is_operand : Ow.Ca P w K mg base 3 "_is_operand" (spD K (tabs a) (F__is_operand a))) : FnOk P w K mg base (L2.CX P w) 5 f fd ["value"] (spD K (tabs a) (F_is_instruction a)) := by
  refine def_okT (k := 4) Fm sc_is_instruction (fun ds S Q E h => (shut_of h).1) fun scr ns Ne Ed E cdv A outer s H TB hr hx => ?_
  have hP : a.P_is_instruction ∈ (⟨K, tabs a, scr, ns⟩ : Gm).tabs := by simp [tabs]
  exact ⟨_, B_is_instruction a Ed, (pss_cons (ps_if (PW.pt (pw_or (pt_not (pt_val (pe_callB (show CallR _ _ (rIsi K) from call_isi) (by rfl) T.b_isinstance (by decide +kernel) (pa_cons (pv 0) (pa_cons (pe_bltn (by rfl) T.b_tuple (by decide +kernel) (show RelV (.ty "tuple") _ from rfl)) pa_nil))))) (pw_or1 (pt_cmpR (show OpR _ _ (Ow.rEqU K) from Ow.opU_eq hr.units) (pe_callB (show CallR _ _ (Ow.rLenU K) from Ow.lenU) (by rfl) T.b_len PySem.boot_len (pa_cons (pv 0) pa_nil)) pe_int (nomark _))))) (pss_one (ps_ret pe_bl)) pss_nil) (pss_cons (ps_asg (pe_ix (show IxR _ (rIx K) from Ow.ixU) (pv 0) pe_int (fun _ _ => rfl)) (pg_name (i := 1) sc_is_instruction.nd rfl (by first | exact Or.inl rfl | exact Or.inr rfl))) (pss_cons (ps_if (PW.pt (pw_or (pt_not (pt_val (pe_callB (show CallR _ _ (rIsi K) from call_isi) (by rfl) T.b_isinstance (by decide +kernel) (pa_cons (pv 1) (pa_cons (pe_bltn (by rfl) T.b_str (by decide +kernel) (show RelV (.ty "str") _ from rfl)) pa_nil))))) (pw_or1 (pt_cmpR (op_knotin T.kd_OPERANDS) (pv 1) (Ow.pe_gi (by rfl) (show ∃ u, mg "OPERANDS" = some u ∧ RelV (.ref a.c_OPERANDS) u from T.g_OPERANDS)) (by rfl))))) (pss_one (ps_ret pe_bl)) pss_nil) (pss_cons (ps_asg (pe_ix (show IxR _ (rIxD K w) from ix_kdict) (Ow.pe_gi (by rfl) (show ∃ u, mg "OPERANDS" = some u ∧ RelV (.ref a.c_OPERANDS) u from T.g_OPERANDS)) (pv 1) (fun _ _ => rfl)) (pg_name (i := 2) sc_is_instruction.nd rfl (by first | exact Or.inl rfl | exact Or.inr rfl))) (pss_cons (ps_if (pt_cmpR (show OpR _ _ (Ow.rNeU K) from Ow.opU_ne hr.units) (pe_callB (show CallR _ _ (Ow.rLenU K) from Ow.lenU) (by rfl) T.b_len PySem.boot_len (pa_cons (pv 0) pa_nil)) (pe_op (show OpR _ _ (Ow.rAddU K) from Ow.opU_add) (pe_callB (show CallR _ _ (Ow.rLenU K) from Ow.lenU) (by rfl) T.b_len PySem.boot_len (pa_cons (pv 2) pa_nil)) pe_int) (nomark _)) (pss_one (ps_ret pe_bl)) pss_nil) (pss_one (ps_ret (Ow.pe_allG (k := 3) (own := [("kind", 3), ("operand", 4)]) hr (by rfl) T.b_all (by decide +kernel) TB rfl sc_is_instruction.nd (blkOk_by (own := [("kind", 3), ("operand", 4)]) (N := N_is_instruction) (sc := defScope s_is_instruction) (by decide +kernel)) Ow.gxOk_by (Ow.pi_zipX (by rfl) T.b_zip (pa_cons (pv 2) (pa_cons (pe_slice (show SlR _ (Ow.rSlU K) from Ow.slU) (pv 0) (po_some pe_int) po_none) pa_nil))) (fun _ _ _ _ _ _ _ _ hr1 => (pg_tup (by rfl) (pgs_cons (pg_name (i := 3) sc_is_instruction.nd rfl (by first | exact Or.inl rfl | exact Or.inr rfl)) (pgs_cons (pg_name (i := 4) sc_is_instruction.nd rfl (by first | exact Or.inl rfl | exact Or.inr rfl)) pgs_nil)))) (fun _ _ _ _ _ _ _ _ hr1 => (Ow.pe_ca G__is_operand hr1 (by first | decide | omega) (by rfl) (pa_cons (pv 3) (pa_cons (pv 4) pa_nil)))) (fun _ => rfl))))))))), (ss_seq (ss_if (st_or (st_not (st_tB (se_cb sl_isi (sa_cons se_var (sa_cons se_ty sa_nil))))) (st_test (se_op s2_eq (se_cb sl_len (sa_cons se_var sa_nil)) se_int))) (ss_ret se_bl) ss_next) (ss_seq (ss_asg (se_op s2_ix se_var se_int) sg_name) (ss_seq (ss_if (st_or (st_not (st_tB (se_cb sl_isi (sa_cons se_var (sa_cons se_ty sa_nil))))) (st_test (se_knotin T.kd_OPERANDS se_var))) (ss_ret se_bl) ss_next) (ss_seq (ss_asg (se_kix T.kd_OPERANDS se_var) sg_name) (ss_seq (ss_if (st_test (se_op s2_ne (se_cb sl_len (sa_cons se_var sa_nil)) (se_op s2_add (se_cb sl_len (sa_cons se_var sa_nil)) se_int))) (ss_ret se_bl) ss_next) (ss_ret (se_all hP (si_zipX (sa_cons se_var (sa_cons (se_sl se_var (so_some se_int) so_none) sa_nil))) (sg_tup (sgs_cons sg_name (sgs_cons sg_name sgs_nil))) (se_ca xok_F (sa_cons se_var (sa_cons se_var sa_nil))) (by decide)))))))), fun ds S Qd h => (shut_of h).2⟩
noncomputable def B_is_program (a : Ad) (Ed : XD) : DS :=
  (sSeq (sIf (tOr' (tNot' (tV (eCB dIsi (aCons (eVar 0) (aCons (eC (.ty "tuple")) aNil))))) (tNot' (tV (eChain dLe dLe (eC (.int 1)) (eCB dLen (aCons (eVar 0) aNil)) (eC (.int 64))))))
  (sRet (eC (.bl false)))
  sNext)
  (sRet (eAll (iT (eVar 0)) (xName 1) (eCa (F_is_instruction a) xF (aCons (eVar 1) aNil)) [1])))
noncomputable def F_is_program (a : Ad) : WF := shut fun ds S Q Ed => ds.length = 1 ∧ B_is_program a Ed { nx := fun _ S' => Q .non S', rt := Q } (dstart N_is_program ds) S
theorem ok_is_program {f : Addr} {fd : FuncData} (Fm : FunT K base mg "is_program" "is_program" s_is_program f fd a.P_is_program) (T : TX K mg w a) (G_is_instruction : Ow.Ca P w K mg base 5 "is_instruction" (spD K (tabs a) (F_is_instruction a))) : FnOk P w K mg base (L2.CX P w) 7 f fd ["value"] (spD K (tabs a) (F_is_program a)) := by
  refine def_okT (k := 6) Fm sc_is_program (fun ds S Q E h => (shut_of h).1) fun scr ns Ne Ed E cdv A outer s H TB hr hx => ?_
  have hP : a.P_is_program ∈ (⟨K, tabs a, scr, ns⟩ : Gm).tabs := by simp [tabs]
  exact ⟨_, B_is_program a Ed, (pss_cons (ps_if (PW.pt (pw_or (pt_not (pt_val (pe_callB (show CallR _ _ (rIsi K) from call_isi) (by rfl) T.b_isinstance (by decide +kernel) (pa_cons (pv 0) (pa_cons (pe_bltn (by rfl) T.b_tuple (by decide +kernel) (show RelV (.ty "tuple") _ from rfl)) pa_nil))))) (pw_or1 (pt_not (pt_chain Ow.opU_le Ow.opU_le pe_int (pe_callB (show CallR _ _ (Ow.rLenU K) from Ow.lenU) (by rfl) T.b_len PySem.boot_len (pa_cons (pv 0) pa_nil)) (Ow.pe_gi (by rfl) T.g_MAX_PROGRAM)))))) (pss_one (ps_ret pe_bl)) pss_nil) (pss_one (ps_ret (Ow.pe_allG (k := 5) (own := [("element", 1)]) hr (by rfl) T.b_all (by decide +kernel) TB rfl sc_is_program.nd (blkOk_by (own := [("element", 1)]) (N := N_is_program) (sc := defScope s_is_program) (by decide +kernel)) Ow.gxOk_by (pi_tup (pv 0)) (fun _ _ _ _ _ _ _ _ hr1 => (pg_name (i := 1) sc_is_program.nd rfl (by first | exact Or.inl rfl | exact Or.inr rfl))) (fun _ _ _ _ _ _ _ _ hr1 => (Ow.pe_ca G_is_instruction hr1 (by first | decide | omega) (by rfl) (pa_cons (pv 1) pa_nil))) (fun _ => rfl))))), (ss_seq (ss_if (st_or (st_not (st_tB (se_cb sl_isi (sa_cons se_var (sa_cons se_ty sa_nil))))) (st_not (st_test (se_chain s2_le s2_le se_int (se_cb sl_len (sa_cons se_var sa_nil)) se_int)))) (ss_ret se_bl) ss_next) (ss_ret (se_all hP (si_tup se_var) sg_name (se_ca xok_F (sa_cons se_var sa_nil)) (by decide)))), fun ds S Qd h => (shut_of h).2⟩
noncomputable def B__is_row_of_words (a : Ad) (Ed : XD) : DS :=
  (sSeq (sIf (tOr' (tNot' (tV (eCB dIsi (aCons (eVar 0) (aCons (eC (.ty "tuple")) aNil))))) (tNot' (tV (eChain dLe dLe (eVar 1) (eCB dLen (aCons (eVar 0) aNil)) (eVar 2)))))
  (sRet (eC (.bl false)))
  sNext)
  (sRet (eAll (iT (eVar 0)) (xName 3) (eCa (F_is_word a) xF (aCons (eVar 3) aNil)) [3])))
noncomputable def F__is_row_of_words (a : Ad) : WF := shut fun ds S Q Ed => ds.length = 3 ∧ B__is_row_of_words a Ed { nx := fun _ S' => Q .non S', rt := Q } (dstart N__is_row_of_words ds) S
theorem ok__is_row_of_words {f : Addr} {fd : FuncData} (Fm : FunT K base mg "_is_row_of_words" "_is_row_of_words" s__is_row_of_words f fd a.P__is_row_of_words) (T : TX K mg w a) (G_is_word : Ow.Ca P w K mg base 2 "is_word" (spD K (tabs a) (F_is_word a))) : FnOk P w K mg base (L2.CX P w) 4 f fd ["value", "least", "most"] (spD K (tabs a) (F__is_row_of_words a)) := by
  refine def_okT (k := 3) Fm sc__is_row_of_words (fun ds S Q E h => (shut_of h).1) fun scr ns Ne Ed E cdv A outer s H TB hr hx => ?_
  have hP : a.P__is_row_of_words ∈ (⟨K, tabs a, scr, ns⟩ : Gm).tabs := by simp [tabs]
  exact ⟨_, B__is_row_of_words a Ed, (pss_cons (ps_if (PW.pt (pw_or (pt_not (pt_val (pe_callB (show CallR _ _ (rIsi K) from call_isi) (by rfl) T.b_isinstance (by decide +kernel) (pa_cons (pv 0) (pa_cons (pe_bltn (by rfl) T.b_tuple (by decide +kernel) (show RelV (.ty "tuple") _ from rfl)) pa_nil))))) (pw_or1 (pt_not (pt_chain Ow.opU_le Ow.opU_le (pv 1) (pe_callB (show CallR _ _ (Ow.rLenU K) from Ow.lenU) (by rfl) T.b_len PySem.boot_len (pa_cons (pv 0) pa_nil)) (pv 2)))))) (pss_one (ps_ret pe_bl)) pss_nil) (pss_one (ps_ret (Ow.pe_allG (k := 2) (own := [("element", 3)]) hr (by rfl) T.b_all (by decide +kernel) TB rfl sc__is_row_of_words.nd (blkOk_by (own := [("element", 3)]) (N := N__is_row_of_words) (sc := defScope s__is_row_of_words) (by decide +kernel)) Ow.gxOk_by (pi_tup (pv 0)) (fun _ _ _ _ _ _ _ _ hr1 => (pg_name (i := 3) sc__is_row_of_words.nd rfl (by first | exact Or.inl rfl | exact Or.inr rfl))) (fun _ _ _ _ _ _ _ _ hr1 => (Ow.pe_ca G_is_word hr1 (by first | decide | omega) (by rfl) (pa_cons (pv 3) pa_nil))) (fun _ => rfl))))), (ss_seq (ss_if (st_or (st_not (st_tB (se_cb sl_isi (sa_cons se_var (sa_cons se_ty sa_nil))))) (st_not (st_test (se_chain s2_le s2_le se_var (se_cb sl_len (sa_cons se_var sa_nil)) se_var)))) (ss_ret se_bl) ss_next) (ss_ret (se_all hP (si_tup se_var) sg_name (se_ca xok_F (sa_cons se_var sa_nil)) (by decide)))), fun ds S Qd h => (shut_of h).2⟩
noncomputable def B_is_input (a : Ad) (Ed : XD) : DS :=
  (sRet (eCa (F__is_row_of_words a) Ed (aCons (eVar 0) (aCons (eC (.int 0)) (aCons (eC (.int 64)) aNil)))))
noncomputable def F_is_input (a : Ad) : WF := shut fun ds S Q Ed => ds.length = 1 ∧ B_is_input a Ed { nx := fun _ S' => Q .non S', rt := Q } (dstart N_is_input ds) S
theorem ok_is_input {f : Addr} {fd : FuncData} (Fm : Fun K "is_input" "is_input" s_is_input f fd) (T : TX K mg w a) (G__is_row_of_words : Ow.Ca P w K mg base 4 "_is_row_of_words" (spD K (tabs a) (F__is_row_of_words a))) : FnOk P w K mg base (L2.CX P w) 5 f fd ["value"] (spD K (tabs a) (F_is_input a)) := by
  refine def_ok (k := 4) Fm sc_is_input (fun ds S Q E h => (shut_of h).1) fun scr ns Ne Ed E cdv A outer s H hr hx => ?_
  have hpx : Passes (L2.CX P w) (cxOf (L2.CX P w) P w K mg base N_is_input "is_input" (defScope s_is_input) f cdv A outer s H E) E := passes_call (takes_of rfl rfl rfl rfl) (fun _ _ _ _ z => z)
  exact ⟨_, B_is_input a Ed, (pss_one (ps_ret (Ow.pe_caX G__is_row_of_words hr (by first | decide | omega) (by rfl) hpx (pa_cons (pv 0) (pa_cons pe_int (pa_cons (Ow.pe_gi (by rfl) T.g_MAX_INPUT) pa_nil)))))), (ss_ret (se_ca hx (sa_cons se_var (sa_cons se_int (sa_cons se_int sa_nil))))), fun ds S Qd h => (shut_of h).2⟩
noncomputable def B_is_state (a : Ad) (Ed : XD) : DS :=
  (sSeq (sIf (tOr' (tNot' (tV (eCB dIsi (aCons (eVar 0) (aCons (eC (.ty "tuple")) aNil))))) (tV (eOp dNe (eCB dLen (aCons (eVar 0) aNil)) (eC (.int 6)))))
  (sRet (eC (.bl false)))
  sNext)
  (sSeq (sAsg (eVar 0) (xTup 6 (xCons (xName 1) (xCons (xName 2) (xCons (xName 3) (xCons (xName 4) (xCons (xName 5) (xCons (xName 6) xNil))))))))
  (sRet (eAnd (eCa (F_is_number a) Ed (aCons (eVar 1) (aCons (eC (.int 64)) aNil))) (eAnd (eCa (F__is_row_of_words a) Ed (aCons (eVar 2) (aCons (eC (.int 4)) (aCons (eC (.int 4)) aNil)))) (eAnd (eCa (F__is_row_of_words a) Ed (aCons (eVar 3) (aCons (eC (.int 64)) (aCons (eC (.int 64)) aNil)))) (eAnd (eCa (F_is_number a) Ed (aCons (eVar 4) (aCons (eC (.int 64)) aNil))) (eAnd (eCa (F__is_row_of_words a) Ed (aCons (eVar 5) (aCons (eC (.int 0)) (aCons (eC (.int 2048)) aNil)))) (eCa (F_is_number a) Ed (aCons (eVar 6) (aCons (eC (.int 2)) aNil)))))))))))
noncomputable def F_is_state (a : Ad) : WF := shut fun ds S Q Ed => ds.length = 1 ∧ B_is_state a Ed { nx := fun _ S' => Q .non S', rt := Q } (dstart N_is_state ds) S
theorem ok_is_state {f : Addr} {fd : FuncData} (Fm : Fun K "is_state" "is_state" s_is_state f fd) (T : TX K mg w a) (G_is_number : Ow.Ca P w K mg base 1 "is_number" (spD K (tabs a) (F_is_number a))) (G__is_row_of_words : Ow.Ca P w K mg base 4 "_is_row_of_words" (spD K (tabs a) (F__is_row_of_words a))) : FnOk P w K mg base (L2.CX P w) 5 f fd ["value"] (spD K (tabs a) (F_is_state a)) := by
  refine def_ok (k := 4) Fm sc_is_state (fun ds S Q E h => (shut_of h).1) fun scr ns Ne Ed E cdv A outer s H hr hx => ?_
  have hpx : Passes (L2.CX P w) (cxOf (L2.CX P w) P w K mg base N_is_state "is_state" (defScope s_is_state) f cdv A outer s H E) E := passes_call (takes_of rfl rfl rfl rfl) (fun _ _ _ _ z => z)
  exact ⟨_, B_is_state a Ed, (pss_cons (ps_if (PW.pt (pw_or (pt_not (pt_val (pe_callB (show CallR _ _ (rIsi K) from call_isi) (by rfl) T.b_isinstance (by decide +kernel) (pa_cons (pv 0) (pa_cons (pe_bltn (by rfl) T.b_tuple (by decide +kernel) (show RelV (.ty "tuple") _ from rfl)) pa_nil))))) (pw_or1 (pt_cmpR (show OpR _ _ (Ow.rNeU K) from Ow.opU_ne hr.units) (pe_callB (show CallR _ _ (Ow.rLenU K) from Ow.lenU) (by rfl) T.b_len PySem.boot_len (pa_cons (pv 0) pa_nil)) pe_int (nomark _))))) (pss_one (ps_ret pe_bl)) pss_nil) (pss_cons (ps_asg (pv 0) (pg_tup (by rfl) (pgs_cons (pg_name (i := 1) sc_is_state.nd rfl (by first | exact Or.inl rfl | exact Or.inr rfl)) (pgs_cons (pg_name (i := 2) sc_is_state.nd rfl (by first | exact Or.inl rfl | exact Or.inr rfl)) (pgs_cons (pg_name (i := 3) sc_is_state.nd rfl (by first | exact Or.inl rfl | exact Or.inr rfl)) (pgs_cons (pg_name (i := 4) sc_is_state.nd rfl (by first | exact Or.inl rfl | exact Or.inr rfl)) (pgs_cons (pg_name (i := 5) sc_is_state.nd rfl (by first | exact Or.inl rfl | exact Or.inr rfl)) (pgs_cons (pg_name (i := 6) sc_is_state.nd rfl (by first | exact Or.inl rfl | exact Or.inr rfl)) pgs_nil)))))))) (pss_one (ps_ret (pe_and (Ow.pe_caX G_is_number hr (by first | decide | omega) (by rfl) hpx (pa_cons (pv 1) (pa_cons (Ow.pe_gi (by rfl) T.g_MAX_PROGRAM) pa_nil))) (pe_and (Ow.pe_caX G__is_row_of_words hr (by first | decide | omega) (by rfl) hpx (pa_cons (pv 2) (pa_cons (Ow.pe_gi (by rfl) T.g_REGISTERS) (pa_cons (Ow.pe_gi (by rfl) T.g_REGISTERS) pa_nil)))) (pe_and (Ow.pe_caX G__is_row_of_words hr (by first | decide | omega) (by rfl) hpx (pa_cons (pv 3) (pa_cons (Ow.pe_gi (by rfl) T.g_MEMORY) (pa_cons (Ow.pe_gi (by rfl) T.g_MEMORY) pa_nil)))) (pe_and (Ow.pe_caX G_is_number hr (by first | decide | omega) (by rfl) hpx (pa_cons (pv 4) (pa_cons (Ow.pe_gi (by rfl) T.g_MAX_INPUT) pa_nil))) (pe_and (Ow.pe_caX G__is_row_of_words hr (by first | decide | omega) (by rfl) hpx (pa_cons (pv 5) (pa_cons pe_int (pa_cons (Ow.pe_gi (by rfl) T.g_MAX_WRITTEN) pa_nil)))) (pe_one (Ow.pe_caX G_is_number hr (by first | decide | omega) (by rfl) hpx (pa_cons (pv 6) (pa_cons (Ow.pe_gi (by rfl) T.g_FAULTY) pa_nil))))))))))))), (ss_seq (ss_if (st_or (st_not (st_tB (se_cb sl_isi (sa_cons se_var (sa_cons se_ty sa_nil))))) (st_test (se_op s2_ne (se_cb sl_len (sa_cons se_var sa_nil)) se_int))) (ss_ret se_bl) ss_next) (ss_seq (ss_asg se_var (sg_tup (sgs_cons sg_name (sgs_cons sg_name (sgs_cons sg_name (sgs_cons sg_name (sgs_cons sg_name (sgs_cons sg_name sgs_nil)))))))) (ss_ret (se_and (se_ca hx (sa_cons se_var (sa_cons se_int sa_nil))) (se_and (se_ca hx (sa_cons se_var (sa_cons se_int (sa_cons se_int sa_nil)))) (se_and (se_ca hx (sa_cons se_var (sa_cons se_int (sa_cons se_int sa_nil)))) (se_and (se_ca hx (sa_cons se_var (sa_cons se_int sa_nil))) (se_and (se_ca hx (sa_cons se_var (sa_cons se_int (sa_cons se_int sa_nil)))) (se_ca hx (sa_cons se_var (sa_cons se_int sa_nil))))))))))), fun ds S Qd h => (shut_of h).2⟩
noncomputable def B_first_state (a : Ad) (Ed : XD) : DS :=
  (sRet (eTup (aCons (eC (.int 0)) (aCons (eOp dMul (eTup (aCons (eC (.int 0)) aNil)) (eC (.int 4))) (aCons (eOp dMul (eTup (aCons (eC (.int 0)) aNil)) (eC (.int 64))) (aCons (eC (.int 0)) (aCons (eTup aNil) (aCons (eC (.int 0)) aNil))))))))
noncomputable def F_first_state (a : Ad) : WF := shut fun ds S Q Ed => ds.length = 0 ∧ B_first_state a Ed { nx := fun _ S' => Q .non S', rt := Q } (dstart N_first_state ds) S
theorem ok_first_state {f : Addr} {fd : FuncData} (Fm : Fun K "first_state" "first_state" s_first_state f fd) (T : TX K mg w a)  : FnOk P w K mg base (L2.CX P w) 1 f fd [] (spD K (tabs a) (F_first_state a)) := by
  refine def_ok (k := 0) Fm sc_first_state (fun ds S Q E h => (shut_of h).1) fun scr ns Ne Ed E cdv A outer s H hr hx => ?_
  exact ⟨_, B_first_state a Ed, (pss_one (ps_ret (pe_tup (pa_cons pe_int (pa_cons (pe_op (show OpR _ _ (rMulW K) from opW_mul) (pe_tup (pa_cons pe_int pa_nil)) (Ow.pe_gi (by rfl) T.g_REGISTERS)) (pa_cons (pe_op (show OpR _ _ (rMulW K) from opW_mul) (pe_tup (pa_cons pe_int pa_nil)) (Ow.pe_gi (by rfl) T.g_MEMORY)) (pa_cons pe_int (pa_cons (pe_tup pa_nil) (pa_cons (Ow.pe_gi (by rfl) T.g_RUNNING) pa_nil))))))))), (ss_ret (se_tup (sa_cons se_int (sa_cons (se_op s2_mul (se_tup (sa_cons se_int sa_nil)) se_int) (sa_cons (se_op s2_mul (se_tup (sa_cons se_int sa_nil)) se_int) (sa_cons se_int (sa_cons (se_tup sa_nil) (sa_cons se_int sa_nil)))))))), fun ds S Qd h => (shut_of h).2⟩
noncomputable def B__law_same (a : Ad) (Fr : WF) (Ed : XD) : DS :=
  (sSeq (sIf (tAnd' (tV (eCB dIsi (aCons (eVar 0) (aCons (eC (.ty "tuple")) aNil)))) (tV (eCB dIsi (aCons (eVar 1) (aCons (eC (.ty "tuple")) aNil)))))
  (sSeq (sIf (tV (eOp dNe (eCB dLen (aCons (eVar 0) aNil)) (eCB dLen (aCons (eVar 1) aNil))))
  (sRet (eC (.bl false)))
  sNext)
  (sSeq (sFor (iR1 (aCons (eCB dLen (aCons (eVar 0) aNil)) aNil)) (xName 2)
  (sIf (tNot' (tV (eCa Fr Ed (aCons (eOp dIx (eVar 0) (eVar 2)) (aCons (eOp dIx (eVar 1) (eVar 2)) aNil)))))
  (sRet (eC (.bl false)))
  sNext))
  (sRet (eC (.bl true)))))
  sNext)
  (sSeq (sIf (tOr' (tV (eCB dIsi (aCons (eVar 0) (aCons (eC (.ty "bool")) aNil)))) (tV (eCB dIsi (aCons (eVar 1) (aCons (eC (.ty "bool")) aNil)))))
  (sRet (eAnd (eCB dIsi (aCons (eVar 0) (aCons (eC (.ty "bool")) aNil))) (eAnd (eCB dIsi (aCons (eVar 1) (aCons (eC (.ty "bool")) aNil))) (eOp dEq (eVar 0) (eVar 1)))))
  sNext)
  (sSeq (sIf (tAnd' (tV (eCB dIsi (aCons (eVar 0) (aCons (eC (.ty "int")) aNil)))) (tV (eCB dIsi (aCons (eVar 1) (aCons (eC (.ty "int")) aNil)))))
  (sRet (eOp dEq (eVar 0) (eVar 1)))
  sNext)
  (sSeq (sIf (tAnd' (tV (eCB dIsi (aCons (eVar 0) (aCons (eC (.ty "str")) aNil)))) (tV (eCB dIsi (aCons (eVar 1) (aCons (eC (.ty "str")) aNil)))))
  (sRet (eOp dEq (eVar 0) (eVar 1)))
  sNext)
  (sRet (eAnd (eOp (dIsN false) (eVar 0) (eC .non)) (eOp (dIsN false) (eVar 1) (eC .non))))))))
noncomputable def F__law_same (a : Ad) : Nat → WF
  | 0 => fun _ _ _ _ => False
  | n + 1 => shut fun ds S Q Ed => ds.length = 2 ∧ B__law_same a (F__law_same a n) Ed { nx := fun _ S' => Q .non S', rt := Q } (dstart N__law_same ds) S
theorem ok__law_same {f : Addr} {fd : FuncData} (Fm : Fun K "_law_same" "_law_same" s__law_same f fd) (T : TX K mg w a) (hm : mg "_law_same" = some (.ref f)) (kp : PySem.W.keepIn K (.ref f) = true) (hb : Binds K fd ["a", "b"] [])  : ∀ n, FnOk P w K mg base (L2.CX P w) (1 + n) f fd ["a", "b"] (spD K (tabs a) (F__law_same a n)) := by
  intro n
  induction n with
  | zero => exact ⟨fun _ _ _ _ h => by obtain ⟨_, _, _, _, _, _, _, _, z, _⟩ := h; exact z.elim, fun _ _ _ _ _ _ _ _ _ _ _ _ _ h => by obtain ⟨_, _, _, _, _, _, _, _, z, _⟩ := h; exact z.elim⟩
  | succ n ih =>
    have G__law_same : Ow.Ca P w K mg base (1 + n) "_law_same" (spD K (tabs a) (F__law_same a n)) := ⟨f, fd, _, ih, hm, kp, hb⟩
    refine def_ok (k := 1 + n) Fm sc__law_same (fun ds S Q E h => (shut_of h).1) fun scr ns Ne Ed E cdv A outer s H hr hx => ?_
    have hpx : Passes (L2.CX P w) (cxOf (L2.CX P w) P w K mg base N__law_same "_law_same" (defScope s__law_same) f cdv A outer s H E) E := passes_call (takes_of rfl rfl rfl rfl) (fun _ _ _ _ z => z)
    exact ⟨_, B__law_same a (F__law_same a n) Ed, (pss_cons (ps_if (PW.pt (pw_and (pt_val (pe_callB (show CallR _ _ (rIsi K) from call_isi) (by rfl) T.b_isinstance (by decide +kernel) (pa_cons (pv 0) (pa_cons (pe_bltn (by rfl) T.b_tuple (by decide +kernel) (show RelV (.ty "tuple") _ from rfl)) pa_nil)))) (pw_and1 (pt_val (pe_callB (show CallR _ _ (rIsi K) from call_isi) (by rfl) T.b_isinstance (by decide +kernel) (pa_cons (pv 1) (pa_cons (pe_bltn (by rfl) T.b_tuple (by decide +kernel) (show RelV (.ty "tuple") _ from rfl)) pa_nil))))))) (pss_cons (ps_if (pt_cmpR (show OpR _ _ (Ow.rNeU K) from Ow.opU_ne hr.units) (pe_callB (show CallR _ _ (Ow.rLenU K) from Ow.lenU) (by rfl) T.b_len PySem.boot_len (pa_cons (pv 0) pa_nil)) (pe_callB (show CallR _ _ (Ow.rLenU K) from Ow.lenU) (by rfl) T.b_len PySem.boot_len (pa_cons (pv 1) pa_nil)) (nomark _)) (pss_one (ps_ret pe_bl)) pss_nil) (pss_cons (ps_for (passes_of rfl) rfl (pi_range1 (by rfl) T.b_range (pa_cons (pe_callB (show CallR _ _ (Ow.rLenU K) from Ow.lenU) (by rfl) T.b_len PySem.boot_len (pa_cons (pv 0) pa_nil)) pa_nil)) (pg_name (i := 2) sc__law_same.nd rfl (by first | exact Or.inl rfl | exact Or.inr rfl)) (pss_one (ps_if (pt_not (pt_val (Ow.pe_caX G__law_same hr (by first | decide | omega) (by rfl) hpx (pa_cons (pe_ix (show IxR _ (rIx K) from Ow.ixU) (pv 0) (pv 2) (fun _ _ => rfl)) (pa_cons (pe_ix (show IxR _ (rIx K) from Ow.ixU) (pv 1) (pv 2) (fun _ _ => rfl)) pa_nil))))) (pss_one (ps_ret pe_bl)) pss_nil))) (pss_one (ps_ret pe_bl)))) pss_nil) (pss_cons (ps_if (PW.pt (pw_or (pt_val (pe_callB (show CallR _ _ (rIsi K) from call_isi) (by rfl) T.b_isinstance (by decide +kernel) (pa_cons (pv 0) (pa_cons (pe_bltn (by rfl) T.b_bool (by decide +kernel) (show RelV (.ty "bool") _ from rfl)) pa_nil)))) (pw_or1 (pt_val (pe_callB (show CallR _ _ (rIsi K) from call_isi) (by rfl) T.b_isinstance (by decide +kernel) (pa_cons (pv 1) (pa_cons (pe_bltn (by rfl) T.b_bool (by decide +kernel) (show RelV (.ty "bool") _ from rfl)) pa_nil))))))) (pss_one (ps_ret (pe_and (pe_callB (show CallR _ _ (rIsi K) from call_isi) (by rfl) T.b_isinstance (by decide +kernel) (pa_cons (pv 0) (pa_cons (pe_bltn (by rfl) T.b_bool (by decide +kernel) (show RelV (.ty "bool") _ from rfl)) pa_nil))) (pe_and (pe_callB (show CallR _ _ (rIsi K) from call_isi) (by rfl) T.b_isinstance (by decide +kernel) (pa_cons (pv 1) (pa_cons (pe_bltn (by rfl) T.b_bool (by decide +kernel) (show RelV (.ty "bool") _ from rfl)) pa_nil))) (pe_one (pe_cmpR (show OpR _ _ (Ow.rEqU K) from Ow.opU_eq hr.units) (pv 0) (pv 1) (nomark _))))))) pss_nil) (pss_cons (ps_if (PW.pt (pw_and (pt_val (pe_callB (show CallR _ _ (rIsi K) from call_isi) (by rfl) T.b_isinstance (by decide +kernel) (pa_cons (pv 0) (pa_cons (pe_bltn (by rfl) T.b_int (by decide +kernel) (show RelV (.ty "int") _ from rfl)) pa_nil)))) (pw_and1 (pt_val (pe_callB (show CallR _ _ (rIsi K) from call_isi) (by rfl) T.b_isinstance (by decide +kernel) (pa_cons (pv 1) (pa_cons (pe_bltn (by rfl) T.b_int (by decide +kernel) (show RelV (.ty "int") _ from rfl)) pa_nil))))))) (pss_one (ps_ret (pe_cmpR (show OpR _ _ (Ow.rEqU K) from Ow.opU_eq hr.units) (pv 0) (pv 1) (nomark _)))) pss_nil) (pss_cons (ps_if (PW.pt (pw_and (pt_val (pe_callB (show CallR _ _ (rIsi K) from call_isi) (by rfl) T.b_isinstance (by decide +kernel) (pa_cons (pv 0) (pa_cons (pe_bltn (by rfl) T.b_str (by decide +kernel) (show RelV (.ty "str") _ from rfl)) pa_nil)))) (pw_and1 (pt_val (pe_callB (show CallR _ _ (rIsi K) from call_isi) (by rfl) T.b_isinstance (by decide +kernel) (pa_cons (pv 1) (pa_cons (pe_bltn (by rfl) T.b_str (by decide +kernel) (show RelV (.ty "str") _ from rfl)) pa_nil))))))) (pss_one (ps_ret (pe_cmpR (show OpR _ _ (Ow.rEqU K) from Ow.opU_eq hr.units) (pv 0) (pv 1) (nomark _)))) pss_nil) (pss_one (ps_ret (pe_and (pe_cmpR op_isN (pv 0) pe_non (nomark _)) (pe_one (pe_cmpR op_isN (pv 1) pe_non (nomark _)))))))))), (ss_seq (ss_if (st_and (st_tB (se_cb sl_isi (sa_cons se_var (sa_cons se_ty sa_nil)))) (st_tB (se_cb sl_isi (sa_cons se_var (sa_cons se_ty sa_nil))))) (ss_seq (ss_if (st_test (se_op s2_ne (se_cb sl_len (sa_cons se_var sa_nil)) (se_cb sl_len (sa_cons se_var sa_nil)))) (ss_ret se_bl) ss_next) (ss_seq (ss_for (si_r1 (sa_cons (se_cb sl_len (sa_cons se_var sa_nil)) sa_nil)) sg_name (ss_if (st_not (st_tB (se_ca hx (sa_cons (se_op s2_ix se_var se_var) (sa_cons (se_op s2_ix se_var se_var) sa_nil))))) (ss_ret se_bl) ss_next)) (ss_ret se_bl))) ss_next) (ss_seq (ss_if (st_or (st_tB (se_cb sl_isi (sa_cons se_var (sa_cons se_ty sa_nil)))) (st_tB (se_cb sl_isi (sa_cons se_var (sa_cons se_ty sa_nil))))) (ss_ret (se_and (se_cb sl_isi (sa_cons se_var (sa_cons se_ty sa_nil))) (se_and (se_cb sl_isi (sa_cons se_var (sa_cons se_ty sa_nil))) (se_op s2_eq se_var se_var)))) ss_next) (ss_seq (ss_if (st_and (st_tB (se_cb sl_isi (sa_cons se_var (sa_cons se_ty sa_nil)))) (st_tB (se_cb sl_isi (sa_cons se_var (sa_cons se_ty sa_nil))))) (ss_ret (se_op s2_eq se_var se_var)) ss_next) (ss_seq (ss_if (st_and (st_tB (se_cb sl_isi (sa_cons se_var (sa_cons se_ty sa_nil)))) (st_tB (se_cb sl_isi (sa_cons se_var (sa_cons se_ty sa_nil))))) (ss_ret (se_op s2_eq se_var se_var)) ss_next) (ss_ret (se_and (se_op s2_isN se_var se_non) (se_op s2_isN se_var se_non))))))), fun ds S Qd h => (shut_of h).2⟩
noncomputable def B__law_word (a : Ad) (Ed : XD) : DS :=
  (sSeq (sAsg (eCa (F__law_draw a) Ed (aCons (eVar 0) (aCons (eC (.int 4)) aNil))) (xName 1))
  (sSeq (sIf (tV (eOp dEq (eVar 1) (eC (.int 0))))
  (sRet (eOp dIx (eLst (aCons (eC (.int 0)) (aCons (eC (.int 1)) (aCons (eC (.int 2)) (aCons (eC (.int 63)) (aCons (eC (.int 64)) (aCons (eC (.int 4294967295)) (aCons (eC (.int 4294967294)) (aCons (eC (.int 2147483648)) aNil))))))))) (eCa (F__law_draw a) Ed (aCons (eVar 0) (aCons (eC (.int 8)) aNil)))))
  sNext)
  (sSeq (sIf (tV (eOp dEq (eVar 1) (eC (.int 1))))
  (sRet (eCa (F__law_draw a) Ed (aCons (eVar 0) (aCons (eC (.int 4294967296)) aNil))))
  sNext)
  (sRet (eCa (F__law_draw a) Ed (aCons (eVar 0) (aCons (eC (.int 70)) aNil)))))))
noncomputable def F__law_word (a : Ad) : WF := shut fun ds S Q Ed => ds.length = 1 ∧ B__law_word a Ed { nx := fun _ S' => Q .non S', rt := Q } (dstart N__law_word ds) S
theorem ok__law_word {f : Addr} {fd : FuncData} (Fm : Fun K "_law_word" "_law_word" s__law_word f fd) (T : TX K mg w a) (G__law_draw : Ow.Ca P w K mg base 2 "_law_draw" (spD K (tabs a) (F__law_draw a))) : FnOk P w K mg base (L2.CX P w) 3 f fd ["box"] (spD K (tabs a) (F__law_word a)) := by
  refine def_ok (k := 2) Fm sc__law_word (fun ds S Q E h => (shut_of h).1) fun scr ns Ne Ed E cdv A outer s H hr hx => ?_
  have hpx : Passes (L2.CX P w) (cxOf (L2.CX P w) P w K mg base N__law_word "_law_word" (defScope s__law_word) f cdv A outer s H E) E := passes_call (takes_of rfl rfl rfl rfl) (fun _ _ _ _ z => z)
  exact ⟨_, B__law_word a Ed, (pss_cons (ps_asg (Ow.pe_caX G__law_draw hr (by first | decide | omega) (by rfl) hpx (pa_cons (pv 0) (pa_cons pe_int pa_nil))) (pg_name (i := 1) sc__law_word.nd rfl (by first | exact Or.inl rfl | exact Or.inr rfl))) (pss_cons (ps_if (pt_cmpR (show OpR _ _ (Ow.rEqU K) from Ow.opU_eq hr.units) (pv 1) pe_int (nomark _)) (pss_one (ps_ret (pe_ix (show IxR _ (rIx K) from Ow.ixU) (pe_lst (pa_cons pe_int (pa_cons pe_int (pa_cons pe_int (pa_cons pe_int (pa_cons pe_int (pa_cons pe_int (pa_cons pe_int (pa_cons pe_int pa_nil))))))))) (Ow.pe_caX G__law_draw hr (by first | decide | omega) (by rfl) hpx (pa_cons (pv 0) (pa_cons pe_int pa_nil))) (fun _ _ => rfl)))) pss_nil) (pss_cons (ps_if (pt_cmpR (show OpR _ _ (Ow.rEqU K) from Ow.opU_eq hr.units) (pv 1) pe_int (nomark _)) (pss_one (ps_ret (Ow.pe_caX G__law_draw hr (by first | decide | omega) (by rfl) hpx (pa_cons (pv 0) (pa_cons pe_int pa_nil))))) pss_nil) (pss_one (ps_ret (Ow.pe_caX G__law_draw hr (by first | decide | omega) (by rfl) hpx (pa_cons (pv 0) (pa_cons pe_int pa_nil)))))))), (ss_seq (ss_asg (se_ca hx (sa_cons se_var (sa_cons se_int sa_nil))) sg_name) (ss_seq (ss_if (st_test (se_op s2_eq se_var se_int)) (ss_ret (se_op s2_ix (se_lst (sa_cons se_int (sa_cons se_int (sa_cons se_int (sa_cons se_int (sa_cons se_int (sa_cons se_int (sa_cons se_int (sa_cons se_int sa_nil))))))))) (se_ca hx (sa_cons se_var (sa_cons se_int sa_nil))))) ss_next) (ss_seq (ss_if (st_test (se_op s2_eq se_var se_int)) (ss_ret (se_ca hx (sa_cons se_var (sa_cons se_int sa_nil)))) ss_next) (ss_ret (se_ca hx (sa_cons se_var (sa_cons se_int sa_nil))))))), fun ds S Qd h => (shut_of h).2⟩
noncomputable def B__law_code (a : Ad) (Ed : XD) : DS :=
  (sSeq (sAsg (eCa (F__law_draw a) Ed (aCons (eVar 0) (aCons (eC (.int 4)) aNil))) (xName 2))
  (sSeq (sAsg (eCa (F__law_draw a) Ed (aCons (eVar 0) (aCons (eC (.int 4)) aNil))) (xName 3))
  (sSeq (sAsg (eCa (F__law_draw a) Ed (aCons (eVar 0) (aCons (eC (.int 4)) aNil))) (xName 4))
  (sSeq (sAsg (eCa (F__law_draw a) Ed (aCons (eVar 0) (aCons (eOp dAdd (eVar 1) (eC (.int 1))) aNil))) (xName 5))
  (sSeq (sIf (tV (eOp dEq (eCa (F__law_draw a) Ed (aCons (eVar 0) (aCons (eC (.int 12)) aNil))) (eC (.int 0))))
  (sAsg (eCa (F__law_draw a) Ed (aCons (eVar 0) (aCons (eC (.int 65)) aNil))) (xName 5))
  sNext)
  (sSeq (sAsg (eLst (aCons (eC (.str "add")) (aCons (eC (.str "sub")) (aCons (eC (.str "mul")) (aCons (eC (.str "div")) (aCons (eC (.str "mod")) (aCons (eC (.str "less")) (aCons (eC (.str "same")) aNil)))))))) (xName 6))
  (sSeq (sAsg (eCa (F__law_draw a) Ed (aCons (eVar 0) (aCons (eC (.int 20)) aNil))) (xName 7))
  (sSeq (sIf (tV (eOp dLt (eVar 7) (eC (.int 7))))
  (sRet (eTup (aCons (eOp dIx (eVar 6) (eVar 7)) (aCons (eVar 2) (aCons (eVar 3) (aCons (eVar 4) aNil))))))
  sNext)
  (sRet (eOp dIx (eLst (aCons (eTup (aCons (eC (.str "set")) (aCons (eVar 2) (aCons (eCa (F__law_word a) Ed (aCons (eVar 0) aNil)) aNil)))) (aCons (eTup (aCons (eC (.str "set")) (aCons (eVar 2) (aCons (eCa (F__law_draw a) Ed (aCons (eVar 0) (aCons (eC (.int 64)) aNil))) aNil)))) (aCons (eTup (aCons (eC (.str "copy")) (aCons (eVar 2) (aCons (eVar 3) aNil)))) (aCons (eTup (aCons (eC (.str "load")) (aCons (eVar 2) (aCons (eVar 3) aNil)))) (aCons (eTup (aCons (eC (.str "store")) (aCons (eVar 2) (aCons (eVar 3) aNil)))) (aCons (eTup (aCons (eC (.str "jump")) (aCons (eVar 5) aNil))) (aCons (eTup (aCons (eC (.str "zero")) (aCons (eVar 2) (aCons (eVar 5) aNil)))) (aCons (eTup (aCons (eC (.str "read")) (aCons (eVar 2) aNil))) (aCons (eTup (aCons (eC (.str "left")) (aCons (eVar 2) aNil))) (aCons (eTup (aCons (eC (.str "write")) (aCons (eVar 2) aNil))) (aCons (eTup (aCons (eC (.str "stop")) aNil)) (aCons (eTup (aCons (eC (.str "store")) (aCons (eVar 2) (aCons (eVar 3) aNil)))) (aCons (eTup (aCons (eC (.str "read")) (aCons (eVar 2) aNil))) aNil)))))))))))))) (eOp dSub (eVar 7) (eC (.int 7)))))))))))))
noncomputable def F__law_code (a : Ad) : WF := shut fun ds S Q Ed => ds.length = 2 ∧ B__law_code a Ed { nx := fun _ S' => Q .non S', rt := Q } (dstart N__law_code ds) S
theorem ok__law_code {f : Addr} {fd : FuncData} (Fm : Fun K "_law_code" "_law_code" s__law_code f fd) (T : TX K mg w a) (G__law_draw : Ow.Ca P w K mg base 2 "_law_draw" (spD K (tabs a) (F__law_draw a))) (G__law_word : Ow.Ca P w K mg base 3 "_law_word" (spD K (tabs a) (F__law_word a))) : FnOk P w K mg base (L2.CX P w) 4 f fd ["box", "length"] (spD K (tabs a) (F__law_code a)) := by
  refine def_ok (k := 3) Fm sc__law_code (fun ds S Q E h => (shut_of h).1) fun scr ns Ne Ed E cdv A outer s H hr hx => ?_
  have hpx : Passes (L2.CX P w) (cxOf (L2.CX P w) P w K mg base N__law_code "_law_code" (defScope s__law_code) f cdv A outer s H E) E := passes_call (takes_of rfl rfl rfl rfl) (fun _ _ _ _ z => z)
  exact ⟨_, B__law_code a Ed, (pss_cons (ps_asg (Ow.pe_caX G__law_draw hr (by first | decide | omega) (by rfl) hpx (pa_cons (pv 0) (pa_cons pe_int pa_nil))) (pg_name (i := 2) sc__law_code.nd rfl (by first | exact Or.inl rfl | exact Or.inr rfl))) (pss_cons (ps_asg (Ow.pe_caX G__law_draw hr (by first | decide | omega) (by rfl) hpx (pa_cons (pv 0) (pa_cons pe_int pa_nil))) (pg_name (i := 3) sc__law_code.nd rfl (by first | exact Or.inl rfl | exact Or.inr rfl))) (pss_cons (ps_asg (Ow.pe_caX G__law_draw hr (by first | decide | omega) (by rfl) hpx (pa_cons (pv 0) (pa_cons pe_int pa_nil))) (pg_name (i := 4) sc__law_code.nd rfl (by first | exact Or.inl rfl | exact Or.inr rfl))) (pss_cons (ps_asg (Ow.pe_caX G__law_draw hr (by first | decide | omega) (by rfl) hpx (pa_cons (pv 0) (pa_cons (pe_op (show OpR _ _ (Ow.rAddU K) from Ow.opU_add) (pv 1) pe_int) pa_nil))) (pg_name (i := 5) sc__law_code.nd rfl (by first | exact Or.inl rfl | exact Or.inr rfl))) (pss_cons (ps_if (pt_cmpR (show OpR _ _ (Ow.rEqU K) from Ow.opU_eq hr.units) (Ow.pe_caX G__law_draw hr (by first | decide | omega) (by rfl) hpx (pa_cons (pv 0) (pa_cons pe_int pa_nil))) pe_int (nomark _)) (pss_one (ps_asg (Ow.pe_caX G__law_draw hr (by first | decide | omega) (by rfl) hpx (pa_cons (pv 0) (pa_cons pe_int pa_nil))) (pg_name (i := 5) sc__law_code.nd rfl (by first | exact Or.inl rfl | exact Or.inr rfl)))) pss_nil) (pss_cons (ps_asg (pe_lst (pa_cons pe_str (pa_cons pe_str (pa_cons pe_str (pa_cons pe_str (pa_cons pe_str (pa_cons pe_str (pa_cons pe_str pa_nil)))))))) (pg_name (i := 6) sc__law_code.nd rfl (by first | exact Or.inl rfl | exact Or.inr rfl))) (pss_cons (ps_asg (Ow.pe_caX G__law_draw hr (by first | decide | omega) (by rfl) hpx (pa_cons (pv 0) (pa_cons pe_int pa_nil))) (pg_name (i := 7) sc__law_code.nd rfl (by first | exact Or.inl rfl | exact Or.inr rfl))) (pss_cons (ps_if (pt_cmpR opV_lt (pv 7) pe_int (nomark _)) (pss_one (ps_ret (pe_tup (pa_cons (pe_ix (show IxR _ (rIx K) from Ow.ixU) (pv 6) (pv 7) (fun _ _ => rfl)) (pa_cons (pv 2) (pa_cons (pv 3) (pa_cons (pv 4) pa_nil))))))) pss_nil) (pss_one (ps_ret (pe_ix (show IxR _ (rIx K) from Ow.ixU) (pe_lst (pa_cons (pe_tup (pa_cons pe_str (pa_cons (pv 2) (pa_cons (Ow.pe_caX G__law_word hr (by first | decide | omega) (by rfl) hpx (pa_cons (pv 0) pa_nil)) pa_nil)))) (pa_cons (pe_tup (pa_cons pe_str (pa_cons (pv 2) (pa_cons (Ow.pe_caX G__law_draw hr (by first | decide | omega) (by rfl) hpx (pa_cons (pv 0) (pa_cons pe_int pa_nil))) pa_nil)))) (pa_cons (pe_tup (pa_cons pe_str (pa_cons (pv 2) (pa_cons (pv 3) pa_nil)))) (pa_cons (pe_tup (pa_cons pe_str (pa_cons (pv 2) (pa_cons (pv 3) pa_nil)))) (pa_cons (pe_tup (pa_cons pe_str (pa_cons (pv 2) (pa_cons (pv 3) pa_nil)))) (pa_cons (pe_tup (pa_cons pe_str (pa_cons (pv 5) pa_nil))) (pa_cons (pe_tup (pa_cons pe_str (pa_cons (pv 2) (pa_cons (pv 5) pa_nil)))) (pa_cons (pe_tup (pa_cons pe_str (pa_cons (pv 2) pa_nil))) (pa_cons (pe_tup (pa_cons pe_str (pa_cons (pv 2) pa_nil))) (pa_cons (pe_tup (pa_cons pe_str (pa_cons (pv 2) pa_nil))) (pa_cons (pe_tup (pa_cons pe_str pa_nil)) (pa_cons (pe_tup (pa_cons pe_str (pa_cons (pv 2) (pa_cons (pv 3) pa_nil)))) (pa_cons (pe_tup (pa_cons pe_str (pa_cons (pv 2) pa_nil))) pa_nil)))))))))))))) (pe_op op_sub (pv 7) pe_int) (fun _ _ => rfl)))))))))))), (ss_seq (ss_asg (se_ca hx (sa_cons se_var (sa_cons se_int sa_nil))) sg_name) (ss_seq (ss_asg (se_ca hx (sa_cons se_var (sa_cons se_int sa_nil))) sg_name) (ss_seq (ss_asg (se_ca hx (sa_cons se_var (sa_cons se_int sa_nil))) sg_name) (ss_seq (ss_asg (se_ca hx (sa_cons se_var (sa_cons (se_op s2_add se_var se_int) sa_nil))) sg_name) (ss_seq (ss_if (st_test (se_op s2_eq (se_ca hx (sa_cons se_var (sa_cons se_int sa_nil))) se_int)) (ss_asg (se_ca hx (sa_cons se_var (sa_cons se_int sa_nil))) sg_name) ss_next) (ss_seq (ss_asg (se_lst (sa_cons (se_str (by decide +kernel)) (sa_cons (se_str (by decide +kernel)) (sa_cons (se_str (by decide +kernel)) (sa_cons (se_str (by decide +kernel)) (sa_cons (se_str (by decide +kernel)) (sa_cons (se_str (by decide +kernel)) (sa_cons (se_str (by decide +kernel)) sa_nil)))))))) sg_name) (ss_seq (ss_asg (se_ca hx (sa_cons se_var (sa_cons se_int sa_nil))) sg_name) (ss_seq (ss_if (st_test (se_op s2_lt se_var se_int)) (ss_ret (se_tup (sa_cons (se_op s2_ix se_var se_var) (sa_cons se_var (sa_cons se_var (sa_cons se_var sa_nil)))))) ss_next) (ss_ret (se_op s2_ix (se_lst (sa_cons (se_tup (sa_cons (se_str (by decide +kernel)) (sa_cons se_var (sa_cons (se_ca hx (sa_cons se_var sa_nil)) sa_nil)))) (sa_cons (se_tup (sa_cons (se_str (by decide +kernel)) (sa_cons se_var (sa_cons (se_ca hx (sa_cons se_var (sa_cons se_int sa_nil))) sa_nil)))) (sa_cons (se_tup (sa_cons (se_str (by decide +kernel)) (sa_cons se_var (sa_cons se_var sa_nil)))) (sa_cons (se_tup (sa_cons (se_str (by decide +kernel)) (sa_cons se_var (sa_cons se_var sa_nil)))) (sa_cons (se_tup (sa_cons (se_str (by decide +kernel)) (sa_cons se_var (sa_cons se_var sa_nil)))) (sa_cons (se_tup (sa_cons (se_str (by decide +kernel)) (sa_cons se_var sa_nil))) (sa_cons (se_tup (sa_cons (se_str (by decide +kernel)) (sa_cons se_var (sa_cons se_var sa_nil)))) (sa_cons (se_tup (sa_cons (se_str (by decide +kernel)) (sa_cons se_var sa_nil))) (sa_cons (se_tup (sa_cons (se_str (by decide +kernel)) (sa_cons se_var sa_nil))) (sa_cons (se_tup (sa_cons (se_str (by decide +kernel)) (sa_cons se_var sa_nil))) (sa_cons (se_tup (sa_cons (se_str (by decide +kernel)) sa_nil)) (sa_cons (se_tup (sa_cons (se_str (by decide +kernel)) (sa_cons se_var (sa_cons se_var sa_nil)))) (sa_cons (se_tup (sa_cons (se_str (by decide +kernel)) (sa_cons se_var sa_nil))) sa_nil)))))))))))))) (se_op s2_sub se_var se_int))))))))))), fun ds S Qd h => (shut_of h).2⟩
noncomputable def B__law_program (a : Ad) (Ed : XD) : DS :=
  (sSeq (sAsg (eOp dAdd (eC (.int 1)) (eCa (F__law_draw a) Ed (aCons (eVar 0) (aCons (eVar 1) aNil)))) (xName 2))
  (sRet (eCB dTuple (aCons (eLc (iR1 (aCons (eVar 2) aNil)) (xName 3) tYes' (eCa (F__law_code a) xF (aCons (eVar 0) (aCons (eVar 2) aNil))) [3]) aNil))))
noncomputable def F__law_program (a : Ad) : WF := shut fun ds S Q Ed => ds.length = 2 ∧ B__law_program a Ed { nx := fun _ S' => Q .non S', rt := Q } (dstart N__law_program ds) S
theorem ok__law_program {f : Addr} {fd : FuncData} (Fm : Fun K "_law_program" "_law_program" s__law_program f fd) (T : TX K mg w a) (G__law_draw : Ow.Ca P w K mg base 2 "_law_draw" (spD K (tabs a) (F__law_draw a))) (G__law_code : Ow.Ca P w K mg base 4 "_law_code" (spD K (tabs a) (F__law_code a))) : FnOk P w K mg base (L2.CX P w) 5 f fd ["box", "most"] (spD K (tabs a) (F__law_program a)) := by
  refine def_ok (k := 4) Fm sc__law_program (fun ds S Q E h => (shut_of h).1) fun scr ns Ne Ed E cdv A outer s H hr hx => ?_
  have hpx : Passes (L2.CX P w) (cxOf (L2.CX P w) P w K mg base N__law_program "_law_program" (defScope s__law_program) f cdv A outer s H E) E := passes_call (takes_of rfl rfl rfl rfl) (fun _ _ _ _ z => z)
  exact ⟨_, B__law_program a Ed, (pss_cons (ps_asg (pe_op (show OpR _ _ (Ow.rAddU K) from Ow.opU_add) pe_int (Ow.pe_caX G__law_draw hr (by first | decide | omega) (by rfl) hpx (pa_cons (pv 0) (pa_cons (pv 1) pa_nil)))) (pg_name (i := 2) sc__law_program.nd rfl (by first | exact Or.inl rfl | exact Or.inr rfl))) (pss_one (ps_ret (pe_callTy (show CallR _ _ (Ow.rTupleU K) from Ow.tupleU) (by rfl) T.b_tuple (by decide +kernel) (pa_cons (pe_lc (own := [("k", 3)]) (by rfl) sc__law_program.nd (pi_range1 (by rfl) T.b_range (pa_cons (pv 2) pa_nil)) (blkOk_by (own := [("k", 3)]) (N := N__law_program) (sc := defScope s__law_program) (by decide +kernel)) (fun _ _ _ _ _ => (pg_name (i := 3) sc__law_program.nd rfl (by first | exact Or.inl rfl | exact Or.inr rfl))) (fun _ _ _ _ _ => pts_nil) (fun _ _ _ _ _ => (Ow.pe_ca G__law_code hr (by first | decide | omega) (by rfl) (pa_cons (pv 0) (pa_cons (pv 2) pa_nil))))) pa_nil))))), (ss_seq (ss_asg (se_op s2_add se_int (se_ca hx (sa_cons se_var (sa_cons se_var sa_nil)))) sg_name) (ss_ret (se_cb sl_tuple (sa_cons (se_lc (si_r1 (sa_cons se_var sa_nil)) sg_name st_yes (se_ca xok_F (sa_cons se_var (sa_cons se_var sa_nil))) (by decide)) sa_nil)))), fun ds S Qd h => (shut_of h).2⟩
noncomputable def B__law_input (a : Ad) (Ed : XD) : DS :=
  (sRet (eCB dTuple (aCons (eLc (iR1 (aCons (eCa (F__law_draw a) Ed (aCons (eVar 0) (aCons (eOp dAdd (eVar 1) (eC (.int 1))) aNil))) aNil)) (xName 2) tYes' (eCa (F__law_word a) xF (aCons (eVar 0) aNil)) [2]) aNil)))
noncomputable def F__law_input (a : Ad) : WF := shut fun ds S Q Ed => ds.length = 2 ∧ B__law_input a Ed { nx := fun _ S' => Q .non S', rt := Q } (dstart N__law_input ds) S
theorem ok__law_input {f : Addr} {fd : FuncData} (Fm : Fun K "_law_input" "_law_input" s__law_input f fd) (T : TX K mg w a) (G__law_draw : Ow.Ca P w K mg base 2 "_law_draw" (spD K (tabs a) (F__law_draw a))) (G__law_word : Ow.Ca P w K mg base 3 "_law_word" (spD K (tabs a) (F__law_word a))) : FnOk P w K mg base (L2.CX P w) 4 f fd ["box", "most"] (spD K (tabs a) (F__law_input a)) := by
  refine def_ok (k := 3) Fm sc__law_input (fun ds S Q E h => (shut_of h).1) fun scr ns Ne Ed E cdv A outer s H hr hx => ?_
  have hpx : Passes (L2.CX P w) (cxOf (L2.CX P w) P w K mg base N__law_input "_law_input" (defScope s__law_input) f cdv A outer s H E) E := passes_call (takes_of rfl rfl rfl rfl) (fun _ _ _ _ z => z)
  exact ⟨_, B__law_input a Ed, (pss_one (ps_ret (pe_callTy (show CallR _ _ (Ow.rTupleU K) from Ow.tupleU) (by rfl) T.b_tuple (by decide +kernel) (pa_cons (pe_lc (own := [("k", 2)]) (by rfl) sc__law_input.nd (pi_range1 (by rfl) T.b_range (pa_cons (Ow.pe_caX G__law_draw hr (by first | decide | omega) (by rfl) hpx (pa_cons (pv 0) (pa_cons (pe_op (show OpR _ _ (Ow.rAddU K) from Ow.opU_add) (pv 1) pe_int) pa_nil))) pa_nil)) (blkOk_by (own := [("k", 2)]) (N := N__law_input) (sc := defScope s__law_input) (by decide +kernel)) (fun _ _ _ _ _ => (pg_name (i := 2) sc__law_input.nd rfl (by first | exact Or.inl rfl | exact Or.inr rfl))) (fun _ _ _ _ _ => pts_nil) (fun _ _ _ _ _ => (Ow.pe_ca G__law_word hr (by first | decide | omega) (by rfl) (pa_cons (pv 0) pa_nil)))) pa_nil)))), (ss_ret (se_cb sl_tuple (sa_cons (se_lc (si_r1 (sa_cons (se_ca hx (sa_cons se_var (sa_cons (se_op s2_add se_var se_int) sa_nil))) sa_nil)) sg_name st_yes (se_ca xok_F (sa_cons se_var sa_nil)) (by decide)) sa_nil))), fun ds S Qd h => (shut_of h).2⟩
noncomputable def B__law_state (a : Ad) (Ed : XD) : DS :=
  (sSeq (sAsg (eOp dMul (eLst (aCons (eC (.int 0)) aNil)) (eC (.int 64))) (xName 2))
  (sSeq (sFor (iR1 (aCons (eCa (F__law_draw a) Ed (aCons (eVar 0) (aCons (eC (.int 6)) aNil))) aNil)) (xName 3)
  (sAsg (eCa (F__law_word a) Ed (aCons (eVar 0) aNil)) (xSub (eVar 2) (eCa (F__law_draw a) Ed (aCons (eVar 0) (aCons (eC (.int 64)) aNil))))))
  (sSeq (sAsg (eCB dTuple (aCons (eLc (iR1 (aCons (eC (.int 4)) aNil)) (xName 3) tYes' (eCa (F__law_word a) xF (aCons (eVar 0) aNil)) [3]) aNil)) (xName 4))
  (sSeq (sAsg (eCB dTuple (aCons (eLc (iR1 (aCons (eCa (F__law_draw a) Ed (aCons (eVar 0) (aCons (eC (.int 3)) aNil))) aNil)) (xName 3) tYes' (eCa (F__law_word a) xF (aCons (eVar 0) aNil)) [3]) aNil)) (xName 5))
  (sSeq (sAsg (eOp dIx (eLst (aCons (eC (.int 0)) (aCons (eC (.int 0)) (aCons (eC (.int 0)) (aCons (eC (.int 0)) (aCons (eC (.int 1)) (aCons (eC (.int 2)) aNil))))))) (eCa (F__law_draw a) Ed (aCons (eVar 0) (aCons (eC (.int 6)) aNil)))) (xName 6))
  (sRet (eTup (aCons (eCa (F__law_draw a) Ed (aCons (eVar 0) (aCons (eC (.int 8)) aNil))) (aCons (eVar 4) (aCons (eCB dTuple (aCons (eVar 2) aNil)) (aCons (eCa (F__law_draw a) Ed (aCons (eVar 0) (aCons (eOp dAdd (eCB dLen (aCons (eVar 1) aNil)) (eC (.int 1))) aNil))) (aCons (eVar 5) (aCons (eVar 6) aNil)))))))))))))
noncomputable def F__law_state (a : Ad) : WF := shut fun ds S Q Ed => ds.length = 2 ∧ B__law_state a Ed { nx := fun _ S' => Q .non S', rt := Q } (dstart N__law_state ds) S
theorem ok__law_state {f : Addr} {fd : FuncData} (Fm : Fun K "_law_state" "_law_state" s__law_state f fd) (T : TX K mg w a) (G__law_draw : Ow.Ca P w K mg base 2 "_law_draw" (spD K (tabs a) (F__law_draw a))) (G__law_word : Ow.Ca P w K mg base 3 "_law_word" (spD K (tabs a) (F__law_word a))) : FnOk P w K mg base (L2.CX P w) 4 f fd ["box", "words"] (spD K (tabs a) (F__law_state a)) := by
  refine def_ok (k := 3) Fm sc__law_state (fun ds S Q E h => (shut_of h).1) fun scr ns Ne Ed E cdv A outer s H hr hx => ?_
  have hpx : Passes (L2.CX P w) (cxOf (L2.CX P w) P w K mg base N__law_state "_law_state" (defScope s__law_state) f cdv A outer s H E) E := passes_call (takes_of rfl rfl rfl rfl) (fun _ _ _ _ z => z)
  exact ⟨_, B__law_state a Ed, (pss_cons (ps_asg (pe_op (show OpR _ _ (rMulW K) from opW_mul) (pe_lst (pa_cons pe_int pa_nil)) pe_int) (pg_name (i := 2) sc__law_state.nd rfl (by first | exact Or.inl rfl | exact Or.inr rfl))) (pss_cons (ps_for (passes_of rfl) rfl (pi_range1 (by rfl) T.b_range (pa_cons (Ow.pe_caX G__law_draw hr (by first | decide | omega) (by rfl) hpx (pa_cons (pv 0) (pa_cons pe_int pa_nil))) pa_nil)) (pg_name (i := 3) sc__law_state.nd rfl (by first | exact Or.inl rfl | exact Or.inr rfl)) (pss_one (ps_asg (Ow.pe_caX G__law_word hr (by first | decide | omega) (by rfl) hpx (pa_cons (pv 0) pa_nil)) (pg_sub (pv 2) (Ow.pe_caX G__law_draw hr (by first | decide | omega) (by rfl) hpx (pa_cons (pv 0) (pa_cons pe_int pa_nil))) set_list)))) (pss_cons (ps_asg (pe_callTy (show CallR _ _ (Ow.rTupleU K) from Ow.tupleU) (by rfl) T.b_tuple (by decide +kernel) (pa_cons (pe_lc (own := [("k", 3)]) (by rfl) sc__law_state.nd (pi_range1 (by rfl) T.b_range (pa_cons pe_int pa_nil)) (blkOk_by (own := [("k", 3)]) (N := N__law_state) (sc := defScope s__law_state) (by decide +kernel)) (fun _ _ _ _ _ => (pg_name (i := 3) sc__law_state.nd rfl (by first | exact Or.inl rfl | exact Or.inr rfl))) (fun _ _ _ _ _ => pts_nil) (fun _ _ _ _ _ => (Ow.pe_ca G__law_word hr (by first | decide | omega) (by rfl) (pa_cons (pv 0) pa_nil)))) pa_nil)) (pg_name (i := 4) sc__law_state.nd rfl (by first | exact Or.inl rfl | exact Or.inr rfl))) (pss_cons (ps_asg (pe_callTy (show CallR _ _ (Ow.rTupleU K) from Ow.tupleU) (by rfl) T.b_tuple (by decide +kernel) (pa_cons (pe_lc (own := [("k", 3)]) (by rfl) sc__law_state.nd (pi_range1 (by rfl) T.b_range (pa_cons (Ow.pe_caX G__law_draw hr (by first | decide | omega) (by rfl) hpx (pa_cons (pv 0) (pa_cons pe_int pa_nil))) pa_nil)) (blkOk_by (own := [("k", 3)]) (N := N__law_state) (sc := defScope s__law_state) (by decide +kernel)) (fun _ _ _ _ _ => (pg_name (i := 3) sc__law_state.nd rfl (by first | exact Or.inl rfl | exact Or.inr rfl))) (fun _ _ _ _ _ => pts_nil) (fun _ _ _ _ _ => (Ow.pe_ca G__law_word hr (by first | decide | omega) (by rfl) (pa_cons (pv 0) pa_nil)))) pa_nil)) (pg_name (i := 5) sc__law_state.nd rfl (by first | exact Or.inl rfl | exact Or.inr rfl))) (pss_cons (ps_asg (pe_ix (show IxR _ (rIx K) from Ow.ixU) (pe_lst (pa_cons pe_int (pa_cons pe_int (pa_cons pe_int (pa_cons pe_int (pa_cons pe_int (pa_cons pe_int pa_nil))))))) (Ow.pe_caX G__law_draw hr (by first | decide | omega) (by rfl) hpx (pa_cons (pv 0) (pa_cons pe_int pa_nil))) (fun _ _ => rfl)) (pg_name (i := 6) sc__law_state.nd rfl (by first | exact Or.inl rfl | exact Or.inr rfl))) (pss_one (ps_ret (pe_tup (pa_cons (Ow.pe_caX G__law_draw hr (by first | decide | omega) (by rfl) hpx (pa_cons (pv 0) (pa_cons pe_int pa_nil))) (pa_cons (pv 4) (pa_cons (pe_callTy (show CallR _ _ (Ow.rTupleU K) from Ow.tupleU) (by rfl) T.b_tuple (by decide +kernel) (pa_cons (pv 2) pa_nil)) (pa_cons (Ow.pe_caX G__law_draw hr (by first | decide | omega) (by rfl) hpx (pa_cons (pv 0) (pa_cons (pe_op (show OpR _ _ (Ow.rAddU K) from Ow.opU_add) (pe_callB (show CallR _ _ (Ow.rLenU K) from Ow.lenU) (by rfl) T.b_len PySem.boot_len (pa_cons (pv 1) pa_nil)) pe_int) pa_nil))) (pa_cons (pv 5) (pa_cons (pv 6) pa_nil)))))))))))))), (ss_seq (ss_asg (se_op s2_mul (se_lst (sa_cons se_int sa_nil)) se_int) sg_name) (ss_seq (ss_for (si_r1 (sa_cons (se_ca hx (sa_cons se_var (sa_cons se_int sa_nil))) sa_nil)) sg_name (ss_asg (se_ca hx (sa_cons se_var sa_nil)) (sg_sub se_var (se_ca hx (sa_cons se_var (sa_cons se_int sa_nil)))))) (ss_seq (ss_asg (se_cb sl_tuple (sa_cons (se_lc (si_r1 (sa_cons se_int sa_nil)) sg_name st_yes (se_ca xok_F (sa_cons se_var sa_nil)) (by decide)) sa_nil)) sg_name) (ss_seq (ss_asg (se_cb sl_tuple (sa_cons (se_lc (si_r1 (sa_cons (se_ca hx (sa_cons se_var (sa_cons se_int sa_nil))) sa_nil)) sg_name st_yes (se_ca xok_F (sa_cons se_var sa_nil)) (by decide)) sa_nil)) sg_name) (ss_seq (ss_asg (se_op s2_ix (se_lst (sa_cons se_int (sa_cons se_int (sa_cons se_int (sa_cons se_int (sa_cons se_int (sa_cons se_int sa_nil))))))) (se_ca hx (sa_cons se_var (sa_cons se_int sa_nil)))) sg_name) (ss_ret (se_tup (sa_cons (se_ca hx (sa_cons se_var (sa_cons se_int sa_nil))) (sa_cons se_var (sa_cons (se_cb sl_tuple (sa_cons se_var sa_nil)) (sa_cons (se_ca hx (sa_cons se_var (sa_cons (se_op s2_add (se_cb sl_len (sa_cons se_var sa_nil)) se_int) sa_nil))) (sa_cons se_var (sa_cons se_var sa_nil))))))))))))), fun ds S Qd h => (shut_of h).2⟩
noncomputable def B__law_spoilt (a : Ad) (Ed : XD) : DS :=
  (sSeq (sAsg (eCa (F__law_draw a) Ed (aCons (eVar 0) (aCons (eC (.int 6)) aNil))) (xName 2))
  (sSeq (sIf (tV (eOp dEq (eVar 2) (eC (.int 0))))
  (sRet (eOp dAdd (eTup (aCons (eOp dAdd (eOp dIx (eVar 1) (eC (.int 0))) (eC (.str "s"))) aNil)) (eSl (eVar 1) (oSome (eC (.int 1))) oNone)))
  sNext)
  (sSeq (sIf (tAnd' (tV (eOp dEq (eVar 2) (eC (.int 1)))) (tV (eOp dGt (eCB dLen (aCons (eVar 1) aNil)) (eC (.int 1)))))
  (sRet (eSl (eVar 1) oNone (oSome (eUn dNeg (eC (.int 1))))))
  sNext)
  (sSeq (sIf (tOr' (tV (eOp dEq (eVar 2) (eC (.int 2)))) (tV (eOp dEq (eCB dLen (aCons (eVar 1) aNil)) (eC (.int 1)))))
  (sRet (eOp dAdd (eVar 1) (eTup (aCons (eC (.int 0)) aNil))))
  sNext)
  (sSeq (sAsg (eOp dAdd (eC (.int 1)) (eCa (F__law_draw a) Ed (aCons (eVar 0) (aCons (eOp dSub (eCB dLen (aCons (eVar 1) aNil)) (eC (.int 1))) aNil)))) (xName 3))
  (sSeq (sAsg (eOp dIx (eLst (aCons (eUn dNeg (eC (.int 1))) (aCons (eC (.bl true)) (aCons (eC (.str "0")) (aCons (eC (.int 4)) (aCons (eC .non) (aCons (eC (.int 4)) aNil))))))) (eCa (F__law_draw a) Ed (aCons (eVar 0) (aCons (eC (.int 6)) aNil)))) (xName 4))
  (sSeq (sIf (tAnd' (tV (eOp dEq (eOp dIx (eVar 1) (eC (.int 0))) (eC (.str "set")))) (tV (eOp dEq (eVar 3) (eC (.int 2)))))
  (sAsg (eOp dIx (eLst (aCons (eUn dNeg (eC (.int 1))) (aCons (eC (.bl true)) (aCons (eC (.str "0")) (aCons (eC (.int 4294967296)) aNil))))) (eCa (F__law_draw a) Ed (aCons (eVar 0) (aCons (eC (.int 4)) aNil)))) (xName 4))
  sNext)
  (sSeq (sIf (tOr' (tV (eOp dEq (eOp dIx (eVar 1) (eC (.int 0))) (eC (.str "jump")))) (tAnd' (tV (eOp dEq (eOp dIx (eVar 1) (eC (.int 0))) (eC (.str "zero")))) (tV (eOp dEq (eVar 3) (eC (.int 2))))))
  (sAsg (eOp dIx (eLst (aCons (eUn dNeg (eC (.int 1))) (aCons (eC (.bl true)) (aCons (eC (.str "0")) (aCons (eC (.int 65)) aNil))))) (eCa (F__law_draw a) Ed (aCons (eVar 0) (aCons (eC (.int 4)) aNil)))) (xName 4))
  sNext)
  (sRet (eOp dAdd (eOp dAdd (eSl (eVar 1) oNone (oSome (eVar 3))) (eTup (aCons (eVar 4) aNil))) (eSl (eVar 1) (oSome (eOp dAdd (eVar 3) (eC (.int 1)))) oNone)))))))))))
noncomputable def F__law_spoilt (a : Ad) : WF := shut fun ds S Q Ed => ds.length = 2 ∧ B__law_spoilt a Ed { nx := fun _ S' => Q .non S', rt := Q } (dstart N__law_spoilt ds) S
theorem ok__law_spoilt {f : Addr} {fd : FuncData} (Fm : Fun K "_law_spoilt" "_law_spoilt" s__law_spoilt f fd) (T : TX K mg w a) (G__law_draw : Ow.Ca P w K mg base 2 "_law_draw" (spD K (tabs a) (F__law_draw a))) : FnOk P w K mg base (L2.CX P w) 3 f fd ["box", "code"] (spD K (tabs a) (F__law_spoilt a)) := by
  refine def_ok (k := 2) Fm sc__law_spoilt (fun ds S Q E h => (shut_of h).1) fun scr ns Ne Ed E cdv A outer s H hr hx => ?_
  have hpx : Passes (L2.CX P w) (cxOf (L2.CX P w) P w K mg base N__law_spoilt "_law_spoilt" (defScope s__law_spoilt) f cdv A outer s H E) E := passes_call (takes_of rfl rfl rfl rfl) (fun _ _ _ _ z => z)
  exact ⟨_, B__law_spoilt a Ed, (pss_cons (ps_asg (Ow.pe_caX G__law_draw hr (by first | decide | omega) (by rfl) hpx (pa_cons (pv 0) (pa_cons pe_int pa_nil))) (pg_name (i := 2) sc__law_spoilt.nd rfl (by first | exact Or.inl rfl | exact Or.inr rfl))) (pss_cons (ps_if (pt_cmpR (show OpR _ _ (Ow.rEqU K) from Ow.opU_eq hr.units) (pv 2) pe_int (nomark _)) (pss_one (ps_ret (pe_op (show OpR _ _ (Ow.rAddU K) from Ow.opU_add) (pe_tup (pa_cons (pe_op (show OpR _ _ (Ow.rAddU K) from Ow.opU_add) (pe_ix (show IxR _ (rIx K) from Ow.ixU) (pv 1) pe_int (fun _ _ => rfl)) pe_str) pa_nil)) (pe_slice (show SlR _ (Ow.rSlU K) from Ow.slU) (pv 1) (po_some pe_int) po_none)))) pss_nil) (pss_cons (ps_if (PW.pt (pw_and (pt_cmpR (show OpR _ _ (Ow.rEqU K) from Ow.opU_eq hr.units) (pv 2) pe_int (nomark _)) (pw_and1 (pt_cmpR opV_gt (pe_callB (show CallR _ _ (Ow.rLenU K) from Ow.lenU) (by rfl) T.b_len PySem.boot_len (pa_cons (pv 1) pa_nil)) pe_int (nomark _))))) (pss_one (ps_ret (pe_slice (show SlR _ (Ow.rSlU K) from Ow.slU) (pv 1) po_none (po_some (pe_un un_neg pe_int))))) pss_nil) (pss_cons (ps_if (PW.pt (pw_or (pt_cmpR (show OpR _ _ (Ow.rEqU K) from Ow.opU_eq hr.units) (pv 2) pe_int (nomark _)) (pw_or1 (pt_cmpR (show OpR _ _ (Ow.rEqU K) from Ow.opU_eq hr.units) (pe_callB (show CallR _ _ (Ow.rLenU K) from Ow.lenU) (by rfl) T.b_len PySem.boot_len (pa_cons (pv 1) pa_nil)) pe_int (nomark _))))) (pss_one (ps_ret (pe_op (show OpR _ _ (Ow.rAddU K) from Ow.opU_add) (pv 1) (pe_tup (pa_cons pe_int pa_nil))))) pss_nil) (pss_cons (ps_asg (pe_op (show OpR _ _ (Ow.rAddU K) from Ow.opU_add) pe_int (Ow.pe_caX G__law_draw hr (by first | decide | omega) (by rfl) hpx (pa_cons (pv 0) (pa_cons (pe_op op_sub (pe_callB (show CallR _ _ (Ow.rLenU K) from Ow.lenU) (by rfl) T.b_len PySem.boot_len (pa_cons (pv 1) pa_nil)) pe_int) pa_nil)))) (pg_name (i := 3) sc__law_spoilt.nd rfl (by first | exact Or.inl rfl | exact Or.inr rfl))) (pss_cons (ps_asg (pe_ix (show IxR _ (rIx K) from Ow.ixU) (pe_lst (pa_cons (pe_un un_neg pe_int) (pa_cons pe_bl (pa_cons pe_str (pa_cons pe_int (pa_cons pe_non (pa_cons pe_int pa_nil))))))) (Ow.pe_caX G__law_draw hr (by first | decide | omega) (by rfl) hpx (pa_cons (pv 0) (pa_cons pe_int pa_nil))) (fun _ _ => rfl)) (pg_name (i := 4) sc__law_spoilt.nd rfl (by first | exact Or.inl rfl | exact Or.inr rfl))) (pss_cons (ps_if (PW.pt (pw_and (pt_cmpR (show OpR _ _ (Ow.rEqU K) from Ow.opU_eq hr.units) (pe_ix (show IxR _ (rIx K) from Ow.ixU) (pv 1) pe_int (fun _ _ => rfl)) pe_str (nomark _)) (pw_and1 (pt_cmpR (show OpR _ _ (Ow.rEqU K) from Ow.opU_eq hr.units) (pv 3) pe_int (nomark _))))) (pss_one (ps_asg (pe_ix (show IxR _ (rIx K) from Ow.ixU) (pe_lst (pa_cons (pe_un un_neg pe_int) (pa_cons pe_bl (pa_cons pe_str (pa_cons pe_int pa_nil))))) (Ow.pe_caX G__law_draw hr (by first | decide | omega) (by rfl) hpx (pa_cons (pv 0) (pa_cons pe_int pa_nil))) (fun _ _ => rfl)) (pg_name (i := 4) sc__law_spoilt.nd rfl (by first | exact Or.inl rfl | exact Or.inr rfl)))) pss_nil) (pss_cons (ps_if (PW.pt (pw_or (pt_cmpR (show OpR _ _ (Ow.rEqU K) from Ow.opU_eq hr.units) (pe_ix (show IxR _ (rIx K) from Ow.ixU) (pv 1) pe_int (fun _ _ => rfl)) pe_str (nomark _)) (pw_or1 (PW.pt (pw_and (pt_cmpR (show OpR _ _ (Ow.rEqU K) from Ow.opU_eq hr.units) (pe_ix (show IxR _ (rIx K) from Ow.ixU) (pv 1) pe_int (fun _ _ => rfl)) pe_str (nomark _)) (pw_and1 (pt_cmpR (show OpR _ _ (Ow.rEqU K) from Ow.opU_eq hr.units) (pv 3) pe_int (nomark _)))))))) (pss_one (ps_asg (pe_ix (show IxR _ (rIx K) from Ow.ixU) (pe_lst (pa_cons (pe_un un_neg pe_int) (pa_cons pe_bl (pa_cons pe_str (pa_cons pe_int pa_nil))))) (Ow.pe_caX G__law_draw hr (by first | decide | omega) (by rfl) hpx (pa_cons (pv 0) (pa_cons pe_int pa_nil))) (fun _ _ => rfl)) (pg_name (i := 4) sc__law_spoilt.nd rfl (by first | exact Or.inl rfl | exact Or.inr rfl)))) pss_nil) (pss_one (ps_ret (pe_op (show OpR _ _ (Ow.rAddU K) from Ow.opU_add) (pe_op (show OpR _ _ (Ow.rAddU K) from Ow.opU_add) (pe_slice (show SlR _ (Ow.rSlU K) from Ow.slU) (pv 1) po_none (po_some (pv 3))) (pe_tup (pa_cons (pv 4) pa_nil))) (pe_slice (show SlR _ (Ow.rSlU K) from Ow.slU) (pv 1) (po_some (pe_op (show OpR _ _ (Ow.rAddU K) from Ow.opU_add) (pv 3) pe_int)) po_none)))))))))))), (ss_seq (ss_asg (se_ca hx (sa_cons se_var (sa_cons se_int sa_nil))) sg_name) (ss_seq (ss_if (st_test (se_op s2_eq se_var se_int)) (ss_ret (se_op s2_add (se_tup (sa_cons (se_op s2_add (se_op s2_ix se_var se_int) (se_str (by decide +kernel))) sa_nil)) (se_sl se_var (so_some se_int) so_none))) ss_next) (ss_seq (ss_if (st_and (st_test (se_op s2_eq se_var se_int)) (st_test (se_op s2_gt (se_cb sl_len (sa_cons se_var sa_nil)) se_int))) (ss_ret (se_sl se_var so_none (so_some (se_un s1_neg se_int)))) ss_next) (ss_seq (ss_if (st_or (st_test (se_op s2_eq se_var se_int)) (st_test (se_op s2_eq (se_cb sl_len (sa_cons se_var sa_nil)) se_int))) (ss_ret (se_op s2_add se_var (se_tup (sa_cons se_int sa_nil)))) ss_next) (ss_seq (ss_asg (se_op s2_add se_int (se_ca hx (sa_cons se_var (sa_cons (se_op s2_sub (se_cb sl_len (sa_cons se_var sa_nil)) se_int) sa_nil)))) sg_name) (ss_seq (ss_asg (se_op s2_ix (se_lst (sa_cons (se_un s1_neg se_int) (sa_cons se_bl (sa_cons (se_str (by decide +kernel)) (sa_cons se_int (sa_cons se_non (sa_cons se_int sa_nil))))))) (se_ca hx (sa_cons se_var (sa_cons se_int sa_nil)))) sg_name) (ss_seq (ss_if (st_and (st_test (se_op s2_eq (se_op s2_ix se_var se_int) (se_str (by decide +kernel)))) (st_test (se_op s2_eq se_var se_int))) (ss_asg (se_op s2_ix (se_lst (sa_cons (se_un s1_neg se_int) (sa_cons se_bl (sa_cons (se_str (by decide +kernel)) (sa_cons se_int sa_nil))))) (se_ca hx (sa_cons se_var (sa_cons se_int sa_nil)))) sg_name) ss_next) (ss_seq (ss_if (st_or (st_test (se_op s2_eq (se_op s2_ix se_var se_int) (se_str (by decide +kernel)))) (st_and (st_test (se_op s2_eq (se_op s2_ix se_var se_int) (se_str (by decide +kernel)))) (st_test (se_op s2_eq se_var se_int)))) (ss_asg (se_op s2_ix (se_lst (sa_cons (se_un s1_neg se_int) (sa_cons se_bl (sa_cons (se_str (by decide +kernel)) (sa_cons se_int sa_nil))))) (se_ca hx (sa_cons se_var (sa_cons se_int sa_nil)))) sg_name) ss_next) (ss_ret (se_op s2_add (se_op s2_add (se_sl se_var so_none (so_some se_var)) (se_tup (sa_cons se_var sa_nil))) (se_sl se_var (so_some (se_op s2_add se_var se_int)) so_none))))))))))), fun ds S Qd h => (shut_of h).2⟩
noncomputable def B__law_bad_state (a : Ad) (Ed : XD) : DS :=
  (sSeq (sAsg (eCa (F__law_draw a) Ed (aCons (eVar 0) (aCons (eC (.int 6)) aNil))) (xName 2))
  (sSeq (sAsg (eVar 1) (xTup 6 (xCons (xName 3) (xCons (xName 4) (xCons (xName 5) (xCons (xName 6) (xCons (xName 7) (xCons (xName 8) xNil))))))))
  (sSeq (sAsg (eOp dIx (eLst (aCons (eOp dIx (eLst (aCons (eC (.int 65)) (aCons (eUn dNeg (eC (.int 1))) (aCons (eC (.bl true)) (aCons (eC .non) aNil))))) (eCa (F__law_draw a) Ed (aCons (eVar 0) (aCons (eC (.int 4)) aNil)))) (aCons (eOp dIx (eLst (aCons (eSl (eVar 4) oNone (oSome (eC (.int 3)))) (aCons (eOp dAdd (eVar 4) (eTup (aCons (eC (.int 0)) aNil))) (aCons (eTup (aCons (eC (.int 0)) (aCons (eC (.int 0)) (aCons (eC (.int 0)) (aCons (eC (.int 4294967296)) aNil))))) aNil)))) (eCa (F__law_draw a) Ed (aCons (eVar 0) (aCons (eC (.int 3)) aNil)))) (aCons (eOp dIx (eLst (aCons (eSl (eVar 5) oNone (oSome (eC (.int 63)))) (aCons (eOp dAdd (eVar 5) (eTup (aCons (eC (.int 0)) aNil))) (aCons (eOp dAdd (eTup (aCons (eUn dNeg (eC (.int 1))) aNil)) (eSl (eVar 5) (oSome (eC (.int 1))) oNone)) aNil)))) (eCa (F__law_draw a) Ed (aCons (eVar 0) (aCons (eC (.int 3)) aNil)))) (aCons (eOp dIx (eLst (aCons (eC (.int 65)) (aCons (eUn dNeg (eC (.int 1))) (aCons (eC (.bl false)) aNil)))) (eCa (F__law_draw a) Ed (aCons (eVar 0) (aCons (eC (.int 3)) aNil)))) (aCons (eOp dIx (eLst (aCons (eTup (aCons (eC (.int 4294967296)) aNil)) (aCons (eTup (aCons (eC (.bl true)) aNil)) (aCons (eOp dMul (eTup (aCons (eC (.int 0)) aNil)) (eC (.int 2049))) (aCons (eC (.int 0)) aNil))))) (eCa (F__law_draw a) Ed (aCons (eVar 0) (aCons (eC (.int 4)) aNil)))) (aCons (eOp dIx (eLst (aCons (eC (.int 3)) (aCons (eUn dNeg (eC (.int 1))) (aCons (eC (.bl true)) aNil)))) (eCa (F__law_draw a) Ed (aCons (eVar 0) (aCons (eC (.int 3)) aNil)))) aNil))))))) (eVar 2)) (xName 9))
  (sRet (eOp dAdd (eOp dAdd (eSl (eVar 1) oNone (oSome (eVar 2))) (eTup (aCons (eVar 9) aNil))) (eSl (eVar 1) (oSome (eOp dAdd (eVar 2) (eC (.int 1)))) oNone))))))
noncomputable def F__law_bad_state (a : Ad) : WF := shut fun ds S Q Ed => ds.length = 2 ∧ B__law_bad_state a Ed { nx := fun _ S' => Q .non S', rt := Q } (dstart N__law_bad_state ds) S
theorem ok__law_bad_state {f : Addr} {fd : FuncData} (Fm : Fun K "_law_bad_state" "_law_bad_state" s__law_bad_state f fd) (T : TX K mg w a) (G__law_draw : Ow.Ca P w K mg base 2 "_law_draw" (spD K (tabs a) (F__law_draw a))) : FnOk P w K mg base (L2.CX P w) 3 f fd ["box", "state"] (spD K (tabs a) (F__law_bad_state a)) := by
  refine def_ok (k := 2) Fm sc__law_bad_state (fun ds S Q E h => (shut_of h).1) fun scr ns Ne Ed E cdv A outer s H hr hx => ?_
  have hpx : Passes (L2.CX P w) (cxOf (L2.CX P w) P w K mg base N__law_bad_state "_law_bad_state" (defScope s__law_bad_state) f cdv A outer s H E) E := passes_call (takes_of rfl rfl rfl rfl) (fun _ _ _ _ z => z)
  exact ⟨_, B__law_bad_state a Ed, (pss_cons (ps_asg (Ow.pe_caX G__law_draw hr (by first | decide | omega) (by rfl) hpx (pa_cons (pv 0) (pa_cons pe_int pa_nil))) (pg_name (i := 2) sc__law_bad_state.nd rfl (by first | exact Or.inl rfl | exact Or.inr rfl))) (pss_cons (ps_asg (pv 1) (pg_tup (by rfl) (pgs_cons (pg_name (i := 3) sc__law_bad_state.nd rfl (by first | exact Or.inl rfl | exact Or.inr rfl)) (pgs_cons (pg_name (i := 4) sc__law_bad_state.nd rfl (by first | exact Or.inl rfl | exact Or.inr rfl)) (pgs_cons (pg_name (i := 5) sc__law_bad_state.nd rfl (by first | exact Or.inl rfl | exact Or.inr rfl)) (pgs_cons (pg_name (i := 6) sc__law_bad_state.nd rfl (by first | exact Or.inl rfl | exact Or.inr rfl)) (pgs_cons (pg_name (i := 7) sc__law_bad_state.nd rfl (by first | exact Or.inl rfl | exact Or.inr rfl)) (pgs_cons (pg_name (i := 8) sc__law_bad_state.nd rfl (by first | exact Or.inl rfl | exact Or.inr rfl)) pgs_nil)))))))) (pss_cons (ps_asg (pe_ix (show IxR _ (rIx K) from Ow.ixU) (pe_lst (pa_cons (pe_ix (show IxR _ (rIx K) from Ow.ixU) (pe_lst (pa_cons pe_int (pa_cons (pe_un un_neg pe_int) (pa_cons pe_bl (pa_cons pe_non pa_nil))))) (Ow.pe_caX G__law_draw hr (by first | decide | omega) (by rfl) hpx (pa_cons (pv 0) (pa_cons pe_int pa_nil))) (fun _ _ => rfl)) (pa_cons (pe_ix (show IxR _ (rIx K) from Ow.ixU) (pe_lst (pa_cons (pe_slice (show SlR _ (Ow.rSlU K) from Ow.slU) (pv 4) po_none (po_some pe_int)) (pa_cons (pe_op (show OpR _ _ (Ow.rAddU K) from Ow.opU_add) (pv 4) (pe_tup (pa_cons pe_int pa_nil))) (pa_cons (pe_tup (pa_cons pe_int (pa_cons pe_int (pa_cons pe_int (pa_cons pe_int pa_nil))))) pa_nil)))) (Ow.pe_caX G__law_draw hr (by first | decide | omega) (by rfl) hpx (pa_cons (pv 0) (pa_cons pe_int pa_nil))) (fun _ _ => rfl)) (pa_cons (pe_ix (show IxR _ (rIx K) from Ow.ixU) (pe_lst (pa_cons (pe_slice (show SlR _ (Ow.rSlU K) from Ow.slU) (pv 5) po_none (po_some pe_int)) (pa_cons (pe_op (show OpR _ _ (Ow.rAddU K) from Ow.opU_add) (pv 5) (pe_tup (pa_cons pe_int pa_nil))) (pa_cons (pe_op (show OpR _ _ (Ow.rAddU K) from Ow.opU_add) (pe_tup (pa_cons (pe_un un_neg pe_int) pa_nil)) (pe_slice (show SlR _ (Ow.rSlU K) from Ow.slU) (pv 5) (po_some pe_int) po_none)) pa_nil)))) (Ow.pe_caX G__law_draw hr (by first | decide | omega) (by rfl) hpx (pa_cons (pv 0) (pa_cons pe_int pa_nil))) (fun _ _ => rfl)) (pa_cons (pe_ix (show IxR _ (rIx K) from Ow.ixU) (pe_lst (pa_cons pe_int (pa_cons (pe_un un_neg pe_int) (pa_cons pe_bl pa_nil)))) (Ow.pe_caX G__law_draw hr (by first | decide | omega) (by rfl) hpx (pa_cons (pv 0) (pa_cons pe_int pa_nil))) (fun _ _ => rfl)) (pa_cons (pe_ix (show IxR _ (rIx K) from Ow.ixU) (pe_lst (pa_cons (pe_tup (pa_cons pe_int pa_nil)) (pa_cons (pe_tup (pa_cons pe_bl pa_nil)) (pa_cons (pe_op (show OpR _ _ (rMulW K) from opW_mul) (pe_tup (pa_cons pe_int pa_nil)) pe_int) (pa_cons pe_int pa_nil))))) (Ow.pe_caX G__law_draw hr (by first | decide | omega) (by rfl) hpx (pa_cons (pv 0) (pa_cons pe_int pa_nil))) (fun _ _ => rfl)) (pa_cons (pe_ix (show IxR _ (rIx K) from Ow.ixU) (pe_lst (pa_cons pe_int (pa_cons (pe_un un_neg pe_int) (pa_cons pe_bl pa_nil)))) (Ow.pe_caX G__law_draw hr (by first | decide | omega) (by rfl) hpx (pa_cons (pv 0) (pa_cons pe_int pa_nil))) (fun _ _ => rfl)) pa_nil))))))) (pv 2) (fun _ _ => rfl)) (pg_name (i := 9) sc__law_bad_state.nd rfl (by first | exact Or.inl rfl | exact Or.inr rfl))) (pss_one (ps_ret (pe_op (show OpR _ _ (Ow.rAddU K) from Ow.opU_add) (pe_op (show OpR _ _ (Ow.rAddU K) from Ow.opU_add) (pe_slice (show SlR _ (Ow.rSlU K) from Ow.slU) (pv 1) po_none (po_some (pv 2))) (pe_tup (pa_cons (pv 9) pa_nil))) (pe_slice (show SlR _ (Ow.rSlU K) from Ow.slU) (pv 1) (po_some (pe_op (show OpR _ _ (Ow.rAddU K) from Ow.opU_add) (pv 2) pe_int)) po_none))))))), (ss_seq (ss_asg (se_ca hx (sa_cons se_var (sa_cons se_int sa_nil))) sg_name) (ss_seq (ss_asg se_var (sg_tup (sgs_cons sg_name (sgs_cons sg_name (sgs_cons sg_name (sgs_cons sg_name (sgs_cons sg_name (sgs_cons sg_name sgs_nil)))))))) (ss_seq (ss_asg (se_op s2_ix (se_lst (sa_cons (se_op s2_ix (se_lst (sa_cons se_int (sa_cons (se_un s1_neg se_int) (sa_cons se_bl (sa_cons se_non sa_nil))))) (se_ca hx (sa_cons se_var (sa_cons se_int sa_nil)))) (sa_cons (se_op s2_ix (se_lst (sa_cons (se_sl se_var so_none (so_some se_int)) (sa_cons (se_op s2_add se_var (se_tup (sa_cons se_int sa_nil))) (sa_cons (se_tup (sa_cons se_int (sa_cons se_int (sa_cons se_int (sa_cons se_int sa_nil))))) sa_nil)))) (se_ca hx (sa_cons se_var (sa_cons se_int sa_nil)))) (sa_cons (se_op s2_ix (se_lst (sa_cons (se_sl se_var so_none (so_some se_int)) (sa_cons (se_op s2_add se_var (se_tup (sa_cons se_int sa_nil))) (sa_cons (se_op s2_add (se_tup (sa_cons (se_un s1_neg se_int) sa_nil)) (se_sl se_var (so_some se_int) so_none)) sa_nil)))) (se_ca hx (sa_cons se_var (sa_cons se_int sa_nil)))) (sa_cons (se_op s2_ix (se_lst (sa_cons se_int (sa_cons (se_un s1_neg se_int) (sa_cons se_bl sa_nil)))) (se_ca hx (sa_cons se_var (sa_cons se_int sa_nil)))) (sa_cons (se_op s2_ix (se_lst (sa_cons (se_tup (sa_cons se_int sa_nil)) (sa_cons (se_tup (sa_cons se_bl sa_nil)) (sa_cons (se_op s2_mul (se_tup (sa_cons se_int sa_nil)) se_int) (sa_cons se_int sa_nil))))) (se_ca hx (sa_cons se_var (sa_cons se_int sa_nil)))) (sa_cons (se_op s2_ix (se_lst (sa_cons se_int (sa_cons (se_un s1_neg se_int) (sa_cons se_bl sa_nil)))) (se_ca hx (sa_cons se_var (sa_cons se_int sa_nil)))) sa_nil))))))) se_var) sg_name) (ss_ret (se_op s2_add (se_op s2_add (se_sl se_var so_none (so_some se_var)) (se_tup (sa_cons se_var sa_nil))) (se_sl se_var (so_some (se_op s2_add se_var se_int)) so_none)))))), fun ds S Qd h => (shut_of h).2⟩
noncomputable def B_law (a : Ad) (Ed : XD) : DS :=
  (sSeq (sAsg (eCa (F__law_box a) Ed (aCons (eVar 0) (aCons (eC (.int 0)) aNil))) (xName 1))
  (sSeq (sAsg (eSplit ["set", "copy", "add", "sub", "mul", "div", "mod", "less", "same", "load", "store", "jump", "zero", "read", "left", "write", "stop"]) (xName 2))
  (sSeq (sIf (tNot' (tV (eCa (F__law_same a 8) Ed (aCons (eTup (aCons (eC (.int 64)) (aCons (eC (.int 64)) (aCons (eC (.int 64)) (aCons (eC (.ctup [.str "set", .str "copy", .str "add", .str "sub", .str "mul", .str "div", .str "mod", .str "less", .str "same", .str "load", .str "store", .str "jump", .str "zero", .str "read", .str "left", .str "write", .str "stop"])) aNil))))) (aCons (eTup (aCons (eC (.int 64)) (aCons (eC (.int 64)) (aCons (eC (.int 64)) (aCons (eCB dTuple (aCons (eVar 2) aNil)) aNil))))) aNil)))))
  (sRet (eC (.bl false)))
  sNext)
  (sSeq (sIf (tNot' (tV (eCa (F__law_same a 8) Ed (aCons (eCa (F_first_state a) xF aNil) (aCons (eTup (aCons (eC (.int 0)) (aCons (eTup (aCons (eC (.int 0)) (aCons (eC (.int 0)) (aCons (eC (.int 0)) (aCons (eC (.int 0)) aNil))))) (aCons (eOp dMul (eTup (aCons (eC (.int 0)) aNil)) (eC (.int 64))) (aCons (eC (.int 0)) (aCons (eTup aNil) (aCons (eC (.int 0)) aNil))))))) aNil)))))
  (sRet (eC (.bl false)))
  sNext)
  (sSeq (sAsg (eCa (F__law_program a) Ed (aCons (eVar 1) (aCons (eC (.int 64)) aNil))) (xName 3))
  (sSeq (sAsg (eCa (F__law_input a) Ed (aCons (eVar 1) (aCons (eC (.int 64)) aNil))) (xName 4))
  (sSeq (sAsg (eCa (F__law_state a) Ed (aCons (eVar 1) (aCons (eVar 4) aNil))) (xName 5))
  (sSeq (sAsg (eOp dAdd (eTup (aCons (eOp dIx (eLst (aCons (eC (.int 0)) (aCons (eC (.int 63)) (aCons (eC (.int 64)) aNil)))) (eCa (F__law_draw a) Ed (aCons (eVar 1) (aCons (eC (.int 3)) aNil)))) aNil)) (eSl (eVar 5) (oSome (eC (.int 1))) oNone)) (xName 5))
  (sSeq (sIf (tOr' (tV (eOp (dIsB true) (eCa (F_is_program a) Ed (aCons (eVar 3) aNil)) (eC (.bl true)))) (tOr' (tV (eOp (dIsB true) (eCa (F_is_input a) Ed (aCons (eVar 4) aNil)) (eC (.bl true)))) (tV (eOp (dIsB true) (eCa (F_is_state a) Ed (aCons (eVar 5) aNil)) (eC (.bl true))))))
  (sRet (eC (.bl false)))
  sNext)
  (sSeq (sIf (tOr' (tV (eOp (dIsB true) (eCa (F_is_state a) Ed (aCons (eCa (F__law_bad_state a) Ed (aCons (eVar 1) (aCons (eVar 5) aNil))) aNil)) (eC (.bl false)))) (tV (eOp (dIsB true) (eCa (F_is_state a) Ed (aCons (eSl (eVar 5) oNone (oSome (eC (.int 5)))) aNil)) (eC (.bl false)))))
  (sRet (eC (.bl false)))
  sNext)
  (sSeq (sFor (iR1 (aCons (eC (.int 4)) aNil)) (xName 6)
  (sSeq (sAsg (eCa (F__law_draw a) Ed (aCons (eVar 1) (aCons (eCB dLen (aCons (eVar 3) aNil)) aNil))) (xName 7))
  (sSeq (sAsg (eOp dIx (eVar 3) (eVar 7)) (xName 8))
  (sSeq (sAsg (eCa (F__law_spoilt a) Ed (aCons (eVar 1) (aCons (eVar 8) aNil))) (xName 9))
  (sSeq (sIf (tOr' (tV (eOp (dIsB true) (eCa (F_is_instruction a) Ed (aCons (eVar 8) aNil)) (eC (.bl true)))) (tV (eOp (dIsB true) (eCa (F_is_instruction a) Ed (aCons (eVar 9) aNil)) (eC (.bl false)))))
  (sRet (eC (.bl false)))
  sNext)
  (sIf (tV (eOp (dIsB true) (eCa (F_is_program a) Ed (aCons (eOp dAdd (eOp dAdd (eSl (eVar 3) oNone (oSome (eVar 7))) (eTup (aCons (eVar 9) aNil))) (eSl (eVar 3) (oSome (eOp dAdd (eVar 7) (eC (.int 1)))) oNone)) aNil)) (eC (.bl false))))
  (sRet (eC (.bl false)))
  sNext))))))
  (sSeq (sAsg (eOp dIx (eLst (aCons (eTup aNil) (aCons (eOp dAdd (eVar 3) (eOp dMul (eTup (aCons (eTup (aCons (eC (.str "stop")) aNil)) aNil)) (eOp dSub (eC (.int 65)) (eCB dLen (aCons (eVar 3) aNil))))) (aCons (eOp dIx (eVar 3) (eC (.int 0))) (aCons (eC (.int 7)) (aCons (eC .non) aNil)))))) (eCa (F__law_draw a) Ed (aCons (eVar 1) (aCons (eC (.int 5)) aNil)))) (xName 10))
  (sSeq (sIf (tV (eOp (dIsB true) (eCa (F_is_program a) Ed (aCons (eVar 10) aNil)) (eC (.bl false))))
  (sRet (eC (.bl false)))
  sNext)
  (sSeq (sAsg (eOp dIx (eLst (aCons (eOp dAdd (eVar 4) (eOp dMul (eTup (aCons (eC (.int 0)) aNil)) (eOp dSub (eC (.int 65)) (eCB dLen (aCons (eVar 4) aNil))))) (aCons (eOp dAdd (eSl (eVar 4) oNone (oSome (eC (.int 20)))) (eTup (aCons (eUn dNeg (eC (.int 1))) aNil))) (aCons (eOp dAdd (eSl (eVar 4) oNone (oSome (eC (.int 20)))) (eTup (aCons (eC (.bl true)) aNil))) (aCons (eC (.int 3)) aNil))))) (eCa (F__law_draw a) Ed (aCons (eVar 1) (aCons (eC (.int 4)) aNil)))) (xName 10))
  (sRet (eAnd (eOp (dIsB false) (eCa (F_is_input a) Ed (aCons (eVar 10) aNil)) (eC (.bl false))) (eOp (dIsB false) (eCa (F_is_input a) Ed (aCons (eTup aNil) aNil)) (eC (.bl true)))))))))))))))))))
noncomputable def F_law (a : Ad) : WF := shut fun ds S Q Ed => ds.length = 1 ∧ B_law a Ed { nx := fun _ S' => Q .non S', rt := Q } (dstart N_law ds) S
theorem ok_law {f : Addr} {fd : FuncData} (Fm : Fun K "law" "law" s_law f fd) (T : TX K mg w a) (G__law_box : Ow.Ca P w K mg base 1 "_law_box" (spD K (tabs a) (F__law_box a))) (G__law_same : Ow.Ca P w K mg base 9 "_law_same" (spD K (tabs a) (F__law_same a 8))) (G_first_state : Ow.Ca P w K mg base 1 "first_state" (spD K (tabs a) (F_first_state a))) (G__law_program : Ow.Ca P w K mg base 5 "_law_program" (spD K (tabs a) (F__law_program a))) (G__law_input : Ow.Ca P w K mg base 4 "_law_input" (spD K (tabs a) (F__law_input a))) (G__law_state : Ow.Ca P w K mg base 4 "_law_state" (spD K (tabs a) (F__law_state a))) (G__law_draw : Ow.Ca P w K mg base 2 "_law_draw" (spD K (tabs a) (F__law_draw a))) (G_is_state : Ow.Ca P w K mg base 5 "is_state" (spD K (tabs a) (F_is_state a))) (G_is_input : Ow.Ca P w K mg base 5 "is_input" (spD K (tabs a) (F_is_input a))) (G_is_program : Ow.Ca P w K mg base 7 "is_program" (spD K (tabs a) (F_is_program a))) (G__law_bad_state : Ow.Ca P w K mg base 3 "_law_bad_state" (spD K (tabs a) (F__law_bad_state a))) (G__law_spoilt : Ow.Ca P w K mg base 3 "_law_spoilt" (spD K (tabs a) (F__law_spoilt a))) (G_is_instruction : Ow.Ca P w K mg base 5 "is_instruction" (spD K (tabs a) (F_is_instruction a))) : FnOk P w K mg base (L2.CX P w) 10 f fd ["script"] (spD K (tabs a) (F_law a)) := by
  refine def_ok (k := 9) Fm sc_law (fun ds S Q E h => (shut_of h).1) fun scr ns Ne Ed E cdv A outer s H hr hx => ?_
  have hpx : Passes (L2.CX P w) (cxOf (L2.CX P w) P w K mg base N_law "law" (defScope s_law) f cdv A outer s H E) E := passes_call (takes_of rfl rfl rfl rfl) (fun _ _ _ _ z => z)
  exact ⟨_, B_law a Ed, (pss_cons (ps_asg (Ow.pe_caX G__law_box hr (by first | decide | omega) (by rfl) hpx (pa_cons (pv 0) (pa_cons pe_int pa_nil))) (pg_name (i := 1) sc_law.nd rfl (by first | exact Or.inl rfl | exact Or.inr rfl))) (pss_cons (ps_asg (pe_split pe_str pe_str) (pg_name (i := 2) sc_law.nd rfl (by first | exact Or.inl rfl | exact Or.inr rfl))) (pss_cons (ps_if (pt_not (pt_val (Ow.pe_caX G__law_same hr (by first | decide | omega) (by rfl) hpx (pa_cons (pe_tup (pa_cons (Ow.pe_gi (by rfl) T.g_MEMORY) (pa_cons (Ow.pe_gi (by rfl) T.g_MAX_PROGRAM) (pa_cons (Ow.pe_gi (by rfl) T.g_MAX_INPUT) (pa_cons (Ow.pe_gi (by rfl) (show ∃ u, mg "NAMES" = some u ∧ RelV (.ref a.c_NAMES) u from T.g_NAMES)) pa_nil))))) (pa_cons (pe_tup (pa_cons pe_int (pa_cons pe_int (pa_cons pe_int (pa_cons (pe_callTy (show CallR _ _ (Ow.rTupleU K) from Ow.tupleU) (by rfl) T.b_tuple (by decide +kernel) (pa_cons (pv 2) pa_nil)) pa_nil))))) pa_nil))))) (pss_one (ps_ret pe_bl)) pss_nil) (pss_cons (ps_if (pt_not (pt_val (Ow.pe_caX G__law_same hr (by first | decide | omega) (by rfl) hpx (pa_cons (Ow.pe_ca0 G_first_state hr (by first | decide | omega) (by rfl)) (pa_cons (pe_tup (pa_cons pe_int (pa_cons (pe_tup (pa_cons pe_int (pa_cons pe_int (pa_cons pe_int (pa_cons pe_int pa_nil))))) (pa_cons (pe_op (show OpR _ _ (rMulW K) from opW_mul) (pe_tup (pa_cons pe_int pa_nil)) pe_int) (pa_cons pe_int (pa_cons (pe_tup pa_nil) (pa_cons pe_int pa_nil))))))) pa_nil))))) (pss_one (ps_ret pe_bl)) pss_nil) (pss_cons (ps_asg (Ow.pe_caX G__law_program hr (by first | decide | omega) (by rfl) hpx (pa_cons (pv 1) (pa_cons pe_int pa_nil))) (pg_name (i := 3) sc_law.nd rfl (by first | exact Or.inl rfl | exact Or.inr rfl))) (pss_cons (ps_asg (Ow.pe_caX G__law_input hr (by first | decide | omega) (by rfl) hpx (pa_cons (pv 1) (pa_cons pe_int pa_nil))) (pg_name (i := 4) sc_law.nd rfl (by first | exact Or.inl rfl | exact Or.inr rfl))) (pss_cons (ps_asg (Ow.pe_caX G__law_state hr (by first | decide | omega) (by rfl) hpx (pa_cons (pv 1) (pa_cons (pv 4) pa_nil))) (pg_name (i := 5) sc_law.nd rfl (by first | exact Or.inl rfl | exact Or.inr rfl))) (pss_cons (ps_asg (pe_op (show OpR _ _ (Ow.rAddU K) from Ow.opU_add) (pe_tup (pa_cons (pe_ix (show IxR _ (rIx K) from Ow.ixU) (pe_lst (pa_cons pe_int (pa_cons pe_int (pa_cons pe_int pa_nil)))) (Ow.pe_caX G__law_draw hr (by first | decide | omega) (by rfl) hpx (pa_cons (pv 1) (pa_cons pe_int pa_nil))) (fun _ _ => rfl)) pa_nil)) (pe_slice (show SlR _ (Ow.rSlU K) from Ow.slU) (pv 5) (po_some pe_int) po_none)) (pg_name (i := 5) sc_law.nd rfl (by first | exact Or.inl rfl | exact Or.inr rfl))) (pss_cons (ps_if (PW.pt (pw_or (pt_cmpR op_isnot_bl (Ow.pe_caX G_is_program hr (by first | decide | omega) (by rfl) hpx (pa_cons (pv 3) pa_nil)) pe_bl (nomark _)) (pw_or (pt_cmpR op_isnot_bl (Ow.pe_caX G_is_input hr (by first | decide | omega) (by rfl) hpx (pa_cons (pv 4) pa_nil)) pe_bl (nomark _)) (pw_or1 (pt_cmpR op_isnot_bl (Ow.pe_caX G_is_state hr (by first | decide | omega) (by rfl) hpx (pa_cons (pv 5) pa_nil)) pe_bl (nomark _)))))) (pss_one (ps_ret pe_bl)) pss_nil) (pss_cons (ps_if (PW.pt (pw_or (pt_cmpR op_isnot_bl (Ow.pe_caX G_is_state hr (by first | decide | omega) (by rfl) hpx (pa_cons (Ow.pe_caX G__law_bad_state hr (by first | decide | omega) (by rfl) hpx (pa_cons (pv 1) (pa_cons (pv 5) pa_nil))) pa_nil)) pe_bl (nomark _)) (pw_or1 (pt_cmpR op_isnot_bl (Ow.pe_caX G_is_state hr (by first | decide | omega) (by rfl) hpx (pa_cons (pe_slice (show SlR _ (Ow.rSlU K) from Ow.slU) (pv 5) po_none (po_some pe_int)) pa_nil)) pe_bl (nomark _))))) (pss_one (ps_ret pe_bl)) pss_nil) (pss_cons (ps_for (passes_of rfl) rfl (pi_range1 (by rfl) T.b_range (pa_cons pe_int pa_nil)) (pg_name (i := 6) sc_law.nd rfl (by first | exact Or.inl rfl | exact Or.inr rfl)) (pss_cons (ps_asg (Ow.pe_caX G__law_draw hr (by first | decide | omega) (by rfl) hpx (pa_cons (pv 1) (pa_cons (pe_callB (show CallR _ _ (Ow.rLenU K) from Ow.lenU) (by rfl) T.b_len PySem.boot_len (pa_cons (pv 3) pa_nil)) pa_nil))) (pg_name (i := 7) sc_law.nd rfl (by first | exact Or.inl rfl | exact Or.inr rfl))) (pss_cons (ps_asg (pe_ix (show IxR _ (rIx K) from Ow.ixU) (pv 3) (pv 7) (fun _ _ => rfl)) (pg_name (i := 8) sc_law.nd rfl (by first | exact Or.inl rfl | exact Or.inr rfl))) (pss_cons (ps_asg (Ow.pe_caX G__law_spoilt hr (by first | decide | omega) (by rfl) hpx (pa_cons (pv 1) (pa_cons (pv 8) pa_nil))) (pg_name (i := 9) sc_law.nd rfl (by first | exact Or.inl rfl | exact Or.inr rfl))) (pss_cons (ps_if (PW.pt (pw_or (pt_cmpR op_isnot_bl (Ow.pe_caX G_is_instruction hr (by first | decide | omega) (by rfl) hpx (pa_cons (pv 8) pa_nil)) pe_bl (nomark _)) (pw_or1 (pt_cmpR op_isnot_bl (Ow.pe_caX G_is_instruction hr (by first | decide | omega) (by rfl) hpx (pa_cons (pv 9) pa_nil)) pe_bl (nomark _))))) (pss_one (ps_ret pe_bl)) pss_nil) (pss_one (ps_if (pt_cmpR op_isnot_bl (Ow.pe_caX G_is_program hr (by first | decide | omega) (by rfl) hpx (pa_cons (pe_op (show OpR _ _ (Ow.rAddU K) from Ow.opU_add) (pe_op (show OpR _ _ (Ow.rAddU K) from Ow.opU_add) (pe_slice (show SlR _ (Ow.rSlU K) from Ow.slU) (pv 3) po_none (po_some (pv 7))) (pe_tup (pa_cons (pv 9) pa_nil))) (pe_slice (show SlR _ (Ow.rSlU K) from Ow.slU) (pv 3) (po_some (pe_op (show OpR _ _ (Ow.rAddU K) from Ow.opU_add) (pv 7) pe_int)) po_none)) pa_nil)) pe_bl (nomark _)) (pss_one (ps_ret pe_bl)) pss_nil))))))) (pss_cons (ps_asg (pe_ix (show IxR _ (rIx K) from Ow.ixU) (pe_lst (pa_cons (pe_tup pa_nil) (pa_cons (pe_op (show OpR _ _ (Ow.rAddU K) from Ow.opU_add) (pv 3) (pe_op (show OpR _ _ (rMulW K) from opW_mul) (pe_tup (pa_cons (pe_tup (pa_cons pe_str pa_nil)) pa_nil)) (pe_op op_sub pe_int (pe_callB (show CallR _ _ (Ow.rLenU K) from Ow.lenU) (by rfl) T.b_len PySem.boot_len (pa_cons (pv 3) pa_nil))))) (pa_cons (pe_ix (show IxR _ (rIx K) from Ow.ixU) (pv 3) pe_int (fun _ _ => rfl)) (pa_cons pe_int (pa_cons pe_non pa_nil)))))) (Ow.pe_caX G__law_draw hr (by first | decide | omega) (by rfl) hpx (pa_cons (pv 1) (pa_cons pe_int pa_nil))) (fun _ _ => rfl)) (pg_name (i := 10) sc_law.nd rfl (by first | exact Or.inl rfl | exact Or.inr rfl))) (pss_cons (ps_if (pt_cmpR op_isnot_bl (Ow.pe_caX G_is_program hr (by first | decide | omega) (by rfl) hpx (pa_cons (pv 10) pa_nil)) pe_bl (nomark _)) (pss_one (ps_ret pe_bl)) pss_nil) (pss_cons (ps_asg (pe_ix (show IxR _ (rIx K) from Ow.ixU) (pe_lst (pa_cons (pe_op (show OpR _ _ (Ow.rAddU K) from Ow.opU_add) (pv 4) (pe_op (show OpR _ _ (rMulW K) from opW_mul) (pe_tup (pa_cons pe_int pa_nil)) (pe_op op_sub pe_int (pe_callB (show CallR _ _ (Ow.rLenU K) from Ow.lenU) (by rfl) T.b_len PySem.boot_len (pa_cons (pv 4) pa_nil))))) (pa_cons (pe_op (show OpR _ _ (Ow.rAddU K) from Ow.opU_add) (pe_slice (show SlR _ (Ow.rSlU K) from Ow.slU) (pv 4) po_none (po_some pe_int)) (pe_tup (pa_cons (pe_un un_neg pe_int) pa_nil))) (pa_cons (pe_op (show OpR _ _ (Ow.rAddU K) from Ow.opU_add) (pe_slice (show SlR _ (Ow.rSlU K) from Ow.slU) (pv 4) po_none (po_some pe_int)) (pe_tup (pa_cons pe_bl pa_nil))) (pa_cons pe_int pa_nil))))) (Ow.pe_caX G__law_draw hr (by first | decide | omega) (by rfl) hpx (pa_cons (pv 1) (pa_cons pe_int pa_nil))) (fun _ _ => rfl)) (pg_name (i := 10) sc_law.nd rfl (by first | exact Or.inl rfl | exact Or.inr rfl))) (pss_one (ps_ret (pe_and (pe_cmpR op_is_bl (Ow.pe_caX G_is_input hr (by first | decide | omega) (by rfl) hpx (pa_cons (pv 10) pa_nil)) pe_bl (nomark _)) (pe_one (pe_cmpR op_is_bl (Ow.pe_caX G_is_input hr (by first | decide | omega) (by rfl) hpx (pa_cons (pe_tup pa_nil) pa_nil)) pe_bl (nomark _)))))))))))))))))))), (ss_seq (ss_asg (se_ca hx (sa_cons se_var (sa_cons se_int sa_nil))) sg_name) (ss_seq (ss_asg (se_split (ps := ["set", "copy", "add", "sub", "mul", "div", "mod", "less", "same", "load", "store", "jump", "zero", "read", "left", "write", "stop"]) (by decide +kernel) (by decide +kernel) (by decide +kernel) (by decide +kernel)) sg_name) (ss_seq (ss_if (st_not (st_tB (se_ca hx (sa_cons (se_tup (sa_cons se_int (sa_cons se_int (sa_cons se_int (sa_cons (se_c (fun H => T.k_NAMES.im)) sa_nil))))) (sa_cons (se_tup (sa_cons se_int (sa_cons se_int (sa_cons se_int (sa_cons (se_cb sl_tuple (sa_cons se_var sa_nil)) sa_nil))))) sa_nil))))) (ss_ret se_bl) ss_next) (ss_seq (ss_if (st_not (st_tB (se_ca hx (sa_cons (se_ca xok_F sa_nil) (sa_cons (se_tup (sa_cons se_int (sa_cons (se_tup (sa_cons se_int (sa_cons se_int (sa_cons se_int (sa_cons se_int sa_nil))))) (sa_cons (se_op s2_mul (se_tup (sa_cons se_int sa_nil)) se_int) (sa_cons se_int (sa_cons (se_tup sa_nil) (sa_cons se_int sa_nil))))))) sa_nil))))) (ss_ret se_bl) ss_next) (ss_seq (ss_asg (se_ca hx (sa_cons se_var (sa_cons se_int sa_nil))) sg_name) (ss_seq (ss_asg (se_ca hx (sa_cons se_var (sa_cons se_int sa_nil))) sg_name) (ss_seq (ss_asg (se_ca hx (sa_cons se_var (sa_cons se_var sa_nil))) sg_name) (ss_seq (ss_asg (se_op s2_add (se_tup (sa_cons (se_op s2_ix (se_lst (sa_cons se_int (sa_cons se_int (sa_cons se_int sa_nil)))) (se_ca hx (sa_cons se_var (sa_cons se_int sa_nil)))) sa_nil)) (se_sl se_var (so_some se_int) so_none)) sg_name) (ss_seq (ss_if (st_or (st_test (se_op s2_notB (se_ca hx (sa_cons se_var sa_nil)) se_bl)) (st_or (st_test (se_op s2_notB (se_ca hx (sa_cons se_var sa_nil)) se_bl)) (st_test (se_op s2_notB (se_ca hx (sa_cons se_var sa_nil)) se_bl)))) (ss_ret se_bl) ss_next) (ss_seq (ss_if (st_or (st_test (se_op s2_notB (se_ca hx (sa_cons (se_ca hx (sa_cons se_var (sa_cons se_var sa_nil))) sa_nil)) se_bl)) (st_test (se_op s2_notB (se_ca hx (sa_cons (se_sl se_var so_none (so_some se_int)) sa_nil)) se_bl))) (ss_ret se_bl) ss_next) (ss_seq (ss_for (si_r1 (sa_cons se_int sa_nil)) sg_name (ss_seq (ss_asg (se_ca hx (sa_cons se_var (sa_cons (se_cb sl_len (sa_cons se_var sa_nil)) sa_nil))) sg_name) (ss_seq (ss_asg (se_op s2_ix se_var se_var) sg_name) (ss_seq (ss_asg (se_ca hx (sa_cons se_var (sa_cons se_var sa_nil))) sg_name) (ss_seq (ss_if (st_or (st_test (se_op s2_notB (se_ca hx (sa_cons se_var sa_nil)) se_bl)) (st_test (se_op s2_notB (se_ca hx (sa_cons se_var sa_nil)) se_bl))) (ss_ret se_bl) ss_next) (ss_if (st_test (se_op s2_notB (se_ca hx (sa_cons (se_op s2_add (se_op s2_add (se_sl se_var so_none (so_some se_var)) (se_tup (sa_cons se_var sa_nil))) (se_sl se_var (so_some (se_op s2_add se_var se_int)) so_none)) sa_nil)) se_bl)) (ss_ret se_bl) ss_next)))))) (ss_seq (ss_asg (se_op s2_ix (se_lst (sa_cons (se_tup sa_nil) (sa_cons (se_op s2_add se_var (se_op s2_mul (se_tup (sa_cons (se_tup (sa_cons (se_str (by decide +kernel)) sa_nil)) sa_nil)) (se_op s2_sub se_int (se_cb sl_len (sa_cons se_var sa_nil))))) (sa_cons (se_op s2_ix se_var se_int) (sa_cons se_int (sa_cons se_non sa_nil)))))) (se_ca hx (sa_cons se_var (sa_cons se_int sa_nil)))) sg_name) (ss_seq (ss_if (st_test (se_op s2_notB (se_ca hx (sa_cons se_var sa_nil)) se_bl)) (ss_ret se_bl) ss_next) (ss_seq (ss_asg (se_op s2_ix (se_lst (sa_cons (se_op s2_add se_var (se_op s2_mul (se_tup (sa_cons se_int sa_nil)) (se_op s2_sub se_int (se_cb sl_len (sa_cons se_var sa_nil))))) (sa_cons (se_op s2_add (se_sl se_var so_none (so_some se_int)) (se_tup (sa_cons (se_un s1_neg se_int) sa_nil))) (sa_cons (se_op s2_add (se_sl se_var so_none (so_some se_int)) (se_tup (sa_cons se_bl sa_nil))) (sa_cons se_int sa_nil))))) (se_ca hx (sa_cons se_var (sa_cons se_int sa_nil)))) sg_name) (ss_ret (se_and (se_op s2_isB (se_ca hx (sa_cons se_var sa_nil)) se_bl) (se_op s2_isB (se_ca hx (sa_cons (se_tup sa_nil) sa_nil)) se_bl))))))))))))))))), fun ds S Qd h => (shut_of h).2⟩
end
end Sd

set_option Elab.async false
set_option linter.all false
set_option maxRecDepth 100000
set_option maxHeartbeats 1000000
namespace Sd
open PySem PySem.Spec PyProof.Rows L2 GxR
local macro_rules | `(tactic| walk_at "dr") => `(tactic| try simp only [shut_eq, eVar, eC, eKIx, eKIn, dIsB, kLook_c, atI_c0, atI_c1, atI_c2, atI_c3, atI_c4, atI_c5, cut_t1, cut_t2, cut_t3, cut_t4, cut_t5, cut_d1, cut_d2, cut_d3, tk1, tk2, tk5, dp1, dp2,  eOp, eUn, asB, eAnd, eOr, eNot, eIf, eChain, tV, tAnd', tOr', tNot', aNil, aCons, eTup, eLst, eCB, eDK, eDT, dAdd, dI, dSub, dMod, dDiv, dXor, dShl, dShr, dMul, dCmp, dLe, dLt, dGe, dGt, dEq, dNe, dIn, dIsN, dIx_t, dIx_c, dIx_s, dIx_r, dIx_iD, dNeg, dLen_iD, dLen_s, dLen_t, dLen_c, dLen_r, dList, dTuple, dInt, dIsi, dAll, oNone, oSome, dSl, eSl,
  xName, xNil, xCons, xTup, xSub, sNext, sSeq, sBreak, sCont, sDrop, sRet, sRetN, sIf, sAsg, sAug, sFor, iL, iT, iS, iR1, iR2, iRev1, iRev2, tYes', eLc, eAll, dIAdd, dISub, eBM, eBM0, asRef, eDGet, eDGet1, eDGet2, eDIn, eDNotIn, sDPutD, sDDelD, eCa, eMe, eMa, eFld, sFldD, sFldAugD, setO, dAppend, dPopAt, isBl, isTr, List.length_set, List.lookup, Nat.reduceLT, Nat.reduceLeDiff, Nat.lt_irrefl, Nat.not_lt_zero, Nat.zero_le, Nat.le_refl, Nat.zero_lt_succ, Nat.lt_add_one, sRaise, eJoin, dJoin, F__law_draw, F__law_box, wDraw, wBox, br, Int.natCast_nonneg, Int.cast_ofNat_Int, Int.reduceEq, 
  dstart, List.map_cons, List.map_nil, List.length_cons, List.length_nil, List.replicate, List.cons_append, List.nil_append, List.append_nil, List.getElem?_cons_zero, List.getElem?_cons_succ, List.set_cons_zero, List.set_cons_succ, Nat.sub_self, Nat.reduceAdd, Nat.reduceSub, wipeD,
  dat_i, dat_s, dat_b, dat_n, dats_c, dats_e, eqD_ii, eqD_ss, eqD_bb, eqD_nn, eqD_is, eqD_si, isNon, unC_i, unC_s, unC_b, unC_n, unC_t, unC_c, flatD, List.all_cons, List.all_nil, List.any_cons, List.any_nil, decide_true, decide_false, List.mem_cons, tyD, isTy, tyKn, String.reduceBEq, Bool.or_true, Bool.true_or, Bool.or_false, Bool.false_or, Bool.and_true, Bool.true_and, Bool.and_false, Bool.false_and, Bool.or_self, Bool.and_self, true_and, and_true, true_implies, false_implies, forall_const, reduceCtorEq, Bool.true_eq_false, Bool.false_eq_true, if_true, if_false, ite_true, ite_false, Bool.not_true, Bool.not_false, implies_true, eq_self])
local macro_rules | `(tactic| walk_at "drn") => `(tactic| try simp only [shut_eq, eVar, eC, eKIx, eKIn, dIsB, kLook_c, atI_c0, atI_c1, atI_c2, atI_c3, atI_c4, atI_c5, cut_t1, cut_t2, cut_t3, cut_t4, cut_t5, cut_d1, cut_d2, cut_d3, tk1, tk2, tk5, dp1, dp2,  eOp, eUn, asB, eAnd, eOr, eNot, eIf, eChain, tV, tAnd', tOr', tNot', aNil, aCons, eTup, eLst, eCB, eDK, eDT, dAdd, dI, dSub, dMod, dDiv, dXor, dShl, dShr, dMul, dCmp, dLe, dLt, dGe, dGt, dEq, dNe, dIn, dIsN, dIx_t, dIx_c, dIx_s, dIx_r, dIx_iD, dNeg, dLen_iD, dLen_s, dLen_t, dLen_c, dLen_r, dList, dTuple, dInt, dIsi, dAll, oNone, oSome, dSl, eSl,
  xName, xNil, xCons, xTup, xSub, sNext, sSeq, NX_eq, sBreak, sCont, sDrop, sRet, sRetN, sIf, sAsg, sAug, sFor, iL, iT, iS, iR1, iR2, iRev1, iRev2, tYes', eLc, eAll, dIAdd, dISub, eBM, eBM0, asRef, eDGet, eDGet1, eDGet2, eDIn, eDNotIn, sDPutD, sDDelD, eCa, eMe, eMa, eFld, sFldD, sFldAugD, setO, dAppend, dPopAt, isBl, isTr, List.length_set, List.lookup, Nat.reduceLT, Nat.reduceLeDiff, Nat.lt_irrefl, Nat.not_lt_zero, Nat.zero_le, Nat.le_refl, Nat.zero_lt_succ, Nat.lt_add_one, sRaise, eJoin, dJoin, F__law_draw, F__law_box, wDraw, wBox, br, Int.natCast_nonneg, Int.cast_ofNat_Int, Int.reduceEq, 
  dstart, List.map_cons, List.map_nil, List.length_cons, List.length_nil, List.replicate, List.cons_append, List.nil_append, List.append_nil, List.getElem?_cons_zero, List.getElem?_cons_succ, List.set_cons_zero, List.set_cons_succ, Nat.sub_self, Nat.reduceAdd, Nat.reduceSub, wipeD,
  dat_i, dat_s, dat_b, dat_n, dats_c, dats_e, eqD_ii, eqD_ss, eqD_bb, eqD_nn, eqD_is, eqD_si, isNon, unC_i, unC_s, unC_b, unC_n, unC_t, unC_c, flatD, List.all_cons, List.all_nil, List.any_cons, List.any_nil, decide_true, decide_false, List.mem_cons, tyD, isTy, tyKn, String.reduceBEq, Bool.or_true, Bool.true_or, Bool.or_false, Bool.false_or, Bool.and_true, Bool.true_and, Bool.and_false, Bool.false_and, Bool.or_self, Bool.and_self, true_and, and_true, true_implies, false_implies, forall_const, reduceCtorEq, Bool.true_eq_false, Bool.false_eq_true, if_true, if_false, ite_true, ite_false, Bool.not_true, Bool.not_false, implies_true, eq_self])

theorem sd_0_0 : decide (("set" : Str) = "set") = true := by decide +kernel
theorem sd_0_1 : decide (("set" : Str) = "copy") = false := by decide +kernel
theorem sd_0_2 : decide (("set" : Str) = "add") = false := by decide +kernel
theorem sd_0_3 : decide (("set" : Str) = "sub") = false := by decide +kernel
theorem sd_0_4 : decide (("set" : Str) = "mul") = false := by decide +kernel
theorem sd_0_5 : decide (("set" : Str) = "div") = false := by decide +kernel
theorem sd_0_6 : decide (("set" : Str) = "mod") = false := by decide +kernel
theorem sd_0_7 : decide (("set" : Str) = "less") = false := by decide +kernel
theorem sd_0_8 : decide (("set" : Str) = "same") = false := by decide +kernel
theorem sd_0_9 : decide (("set" : Str) = "load") = false := by decide +kernel
theorem sd_0_10 : decide (("set" : Str) = "store") = false := by decide +kernel
theorem sd_0_11 : decide (("set" : Str) = "jump") = false := by decide +kernel
theorem sd_0_12 : decide (("set" : Str) = "zero") = false := by decide +kernel
theorem sd_0_13 : decide (("set" : Str) = "read") = false := by decide +kernel
theorem sd_0_14 : decide (("set" : Str) = "left") = false := by decide +kernel
theorem sd_0_15 : decide (("set" : Str) = "write") = false := by decide +kernel
theorem sd_0_16 : decide (("set" : Str) = "stop") = false := by decide +kernel
theorem sd_0_17 : decide (("set" : Str) = "r") = false := by decide +kernel
theorem sd_0_18 : decide (("set" : Str) = "p") = false := by decide +kernel
theorem sd_1_0 : decide (("copy" : Str) = "set") = false := by decide +kernel
theorem sd_1_1 : decide (("copy" : Str) = "copy") = true := by decide +kernel
theorem sd_1_2 : decide (("copy" : Str) = "add") = false := by decide +kernel
theorem sd_1_3 : decide (("copy" : Str) = "sub") = false := by decide +kernel
theorem sd_1_4 : decide (("copy" : Str) = "mul") = false := by decide +kernel
theorem sd_1_5 : decide (("copy" : Str) = "div") = false := by decide +kernel
theorem sd_1_6 : decide (("copy" : Str) = "mod") = false := by decide +kernel
theorem sd_1_7 : decide (("copy" : Str) = "less") = false := by decide +kernel
theorem sd_1_8 : decide (("copy" : Str) = "same") = false := by decide +kernel
theorem sd_1_9 : decide (("copy" : Str) = "load") = false := by decide +kernel
theorem sd_1_10 : decide (("copy" : Str) = "store") = false := by decide +kernel
theorem sd_1_11 : decide (("copy" : Str) = "jump") = false := by decide +kernel
theorem sd_1_12 : decide (("copy" : Str) = "zero") = false := by decide +kernel
theorem sd_1_13 : decide (("copy" : Str) = "read") = false := by decide +kernel
theorem sd_1_14 : decide (("copy" : Str) = "left") = false := by decide +kernel
theorem sd_1_15 : decide (("copy" : Str) = "write") = false := by decide +kernel
theorem sd_1_16 : decide (("copy" : Str) = "stop") = false := by decide +kernel
theorem sd_1_17 : decide (("copy" : Str) = "r") = false := by decide +kernel
theorem sd_1_18 : decide (("copy" : Str) = "p") = false := by decide +kernel
theorem sd_2_0 : decide (("add" : Str) = "set") = false := by decide +kernel
theorem sd_2_1 : decide (("add" : Str) = "copy") = false := by decide +kernel
theorem sd_2_2 : decide (("add" : Str) = "add") = true := by decide +kernel
theorem sd_2_3 : decide (("add" : Str) = "sub") = false := by decide +kernel
theorem sd_2_4 : decide (("add" : Str) = "mul") = false := by decide +kernel
theorem sd_2_5 : decide (("add" : Str) = "div") = false := by decide +kernel
theorem sd_2_6 : decide (("add" : Str) = "mod") = false := by decide +kernel
theorem sd_2_7 : decide (("add" : Str) = "less") = false := by decide +kernel
theorem sd_2_8 : decide (("add" : Str) = "same") = false := by decide +kernel
theorem sd_2_9 : decide (("add" : Str) = "load") = false := by decide +kernel
theorem sd_2_10 : decide (("add" : Str) = "store") = false := by decide +kernel
theorem sd_2_11 : decide (("add" : Str) = "jump") = false := by decide +kernel
theorem sd_2_12 : decide (("add" : Str) = "zero") = false := by decide +kernel
theorem sd_2_13 : decide (("add" : Str) = "read") = false := by decide +kernel
theorem sd_2_14 : decide (("add" : Str) = "left") = false := by decide +kernel
theorem sd_2_15 : decide (("add" : Str) = "write") = false := by decide +kernel
theorem sd_2_16 : decide (("add" : Str) = "stop") = false := by decide +kernel
theorem sd_2_17 : decide (("add" : Str) = "r") = false := by decide +kernel
theorem sd_2_18 : decide (("add" : Str) = "p") = false := by decide +kernel
theorem sd_3_0 : decide (("sub" : Str) = "set") = false := by decide +kernel
theorem sd_3_1 : decide (("sub" : Str) = "copy") = false := by decide +kernel
theorem sd_3_2 : decide (("sub" : Str) = "add") = false := by decide +kernel
theorem sd_3_3 : decide (("sub" : Str) = "sub") = true := by decide +kernel
theorem sd_3_4 : decide (("sub" : Str) = "mul") = false := by decide +kernel
theorem sd_3_5 : decide (("sub" : Str) = "div") = false := by decide +kernel
theorem sd_3_6 : decide (("sub" : Str) = "mod") = false := by decide +kernel
theorem sd_3_7 : decide (("sub" : Str) = "less") = false := by decide +kernel
theorem sd_3_8 : decide (("sub" : Str) = "same") = false := by decide +kernel
theorem sd_3_9 : decide (("sub" : Str) = "load") = false := by decide +kernel
theorem sd_3_10 : decide (("sub" : Str) = "store") = false := by decide +kernel
theorem sd_3_11 : decide (("sub" : Str) = "jump") = false := by decide +kernel
theorem sd_3_12 : decide (("sub" : Str) = "zero") = false := by decide +kernel
theorem sd_3_13 : decide (("sub" : Str) = "read") = false := by decide +kernel
theorem sd_3_14 : decide (("sub" : Str) = "left") = false := by decide +kernel
theorem sd_3_15 : decide (("sub" : Str) = "write") = false := by decide +kernel
theorem sd_3_16 : decide (("sub" : Str) = "stop") = false := by decide +kernel
theorem sd_3_17 : decide (("sub" : Str) = "r") = false := by decide +kernel
theorem sd_3_18 : decide (("sub" : Str) = "p") = false := by decide +kernel
theorem sd_4_0 : decide (("mul" : Str) = "set") = false := by decide +kernel
theorem sd_4_1 : decide (("mul" : Str) = "copy") = false := by decide +kernel
theorem sd_4_2 : decide (("mul" : Str) = "add") = false := by decide +kernel
theorem sd_4_3 : decide (("mul" : Str) = "sub") = false := by decide +kernel
theorem sd_4_4 : decide (("mul" : Str) = "mul") = true := by decide +kernel
theorem sd_4_5 : decide (("mul" : Str) = "div") = false := by decide +kernel
theorem sd_4_6 : decide (("mul" : Str) = "mod") = false := by decide +kernel
theorem sd_4_7 : decide (("mul" : Str) = "less") = false := by decide +kernel
theorem sd_4_8 : decide (("mul" : Str) = "same") = false := by decide +kernel
theorem sd_4_9 : decide (("mul" : Str) = "load") = false := by decide +kernel
theorem sd_4_10 : decide (("mul" : Str) = "store") = false := by decide +kernel
theorem sd_4_11 : decide (("mul" : Str) = "jump") = false := by decide +kernel
theorem sd_4_12 : decide (("mul" : Str) = "zero") = false := by decide +kernel
theorem sd_4_13 : decide (("mul" : Str) = "read") = false := by decide +kernel
theorem sd_4_14 : decide (("mul" : Str) = "left") = false := by decide +kernel
theorem sd_4_15 : decide (("mul" : Str) = "write") = false := by decide +kernel
theorem sd_4_16 : decide (("mul" : Str) = "stop") = false := by decide +kernel
theorem sd_4_17 : decide (("mul" : Str) = "r") = false := by decide +kernel
theorem sd_4_18 : decide (("mul" : Str) = "p") = false := by decide +kernel
theorem sd_5_0 : decide (("div" : Str) = "set") = false := by decide +kernel
theorem sd_5_1 : decide (("div" : Str) = "copy") = false := by decide +kernel
theorem sd_5_2 : decide (("div" : Str) = "add") = false := by decide +kernel
theorem sd_5_3 : decide (("div" : Str) = "sub") = false := by decide +kernel
theorem sd_5_4 : decide (("div" : Str) = "mul") = false := by decide +kernel
theorem sd_5_5 : decide (("div" : Str) = "div") = true := by decide +kernel
theorem sd_5_6 : decide (("div" : Str) = "mod") = false := by decide +kernel
theorem sd_5_7 : decide (("div" : Str) = "less") = false := by decide +kernel
theorem sd_5_8 : decide (("div" : Str) = "same") = false := by decide +kernel
theorem sd_5_9 : decide (("div" : Str) = "load") = false := by decide +kernel
theorem sd_5_10 : decide (("div" : Str) = "store") = false := by decide +kernel
theorem sd_5_11 : decide (("div" : Str) = "jump") = false := by decide +kernel
theorem sd_5_12 : decide (("div" : Str) = "zero") = false := by decide +kernel
theorem sd_5_13 : decide (("div" : Str) = "read") = false := by decide +kernel
theorem sd_5_14 : decide (("div" : Str) = "left") = false := by decide +kernel
theorem sd_5_15 : decide (("div" : Str) = "write") = false := by decide +kernel
theorem sd_5_16 : decide (("div" : Str) = "stop") = false := by decide +kernel
theorem sd_5_17 : decide (("div" : Str) = "r") = false := by decide +kernel
theorem sd_5_18 : decide (("div" : Str) = "p") = false := by decide +kernel
theorem sd_6_0 : decide (("mod" : Str) = "set") = false := by decide +kernel
theorem sd_6_1 : decide (("mod" : Str) = "copy") = false := by decide +kernel
theorem sd_6_2 : decide (("mod" : Str) = "add") = false := by decide +kernel
theorem sd_6_3 : decide (("mod" : Str) = "sub") = false := by decide +kernel
theorem sd_6_4 : decide (("mod" : Str) = "mul") = false := by decide +kernel
theorem sd_6_5 : decide (("mod" : Str) = "div") = false := by decide +kernel
theorem sd_6_6 : decide (("mod" : Str) = "mod") = true := by decide +kernel
theorem sd_6_7 : decide (("mod" : Str) = "less") = false := by decide +kernel
theorem sd_6_8 : decide (("mod" : Str) = "same") = false := by decide +kernel
theorem sd_6_9 : decide (("mod" : Str) = "load") = false := by decide +kernel
theorem sd_6_10 : decide (("mod" : Str) = "store") = false := by decide +kernel
theorem sd_6_11 : decide (("mod" : Str) = "jump") = false := by decide +kernel
theorem sd_6_12 : decide (("mod" : Str) = "zero") = false := by decide +kernel
theorem sd_6_13 : decide (("mod" : Str) = "read") = false := by decide +kernel
theorem sd_6_14 : decide (("mod" : Str) = "left") = false := by decide +kernel
theorem sd_6_15 : decide (("mod" : Str) = "write") = false := by decide +kernel
theorem sd_6_16 : decide (("mod" : Str) = "stop") = false := by decide +kernel
theorem sd_6_17 : decide (("mod" : Str) = "r") = false := by decide +kernel
theorem sd_6_18 : decide (("mod" : Str) = "p") = false := by decide +kernel
theorem sd_7_0 : decide (("less" : Str) = "set") = false := by decide +kernel
theorem sd_7_1 : decide (("less" : Str) = "copy") = false := by decide +kernel
theorem sd_7_2 : decide (("less" : Str) = "add") = false := by decide +kernel
theorem sd_7_3 : decide (("less" : Str) = "sub") = false := by decide +kernel
theorem sd_7_4 : decide (("less" : Str) = "mul") = false := by decide +kernel
theorem sd_7_5 : decide (("less" : Str) = "div") = false := by decide +kernel
theorem sd_7_6 : decide (("less" : Str) = "mod") = false := by decide +kernel
theorem sd_7_7 : decide (("less" : Str) = "less") = true := by decide +kernel
theorem sd_7_8 : decide (("less" : Str) = "same") = false := by decide +kernel
theorem sd_7_9 : decide (("less" : Str) = "load") = false := by decide +kernel
theorem sd_7_10 : decide (("less" : Str) = "store") = false := by decide +kernel
theorem sd_7_11 : decide (("less" : Str) = "jump") = false := by decide +kernel
theorem sd_7_12 : decide (("less" : Str) = "zero") = false := by decide +kernel
theorem sd_7_13 : decide (("less" : Str) = "read") = false := by decide +kernel
theorem sd_7_14 : decide (("less" : Str) = "left") = false := by decide +kernel
theorem sd_7_15 : decide (("less" : Str) = "write") = false := by decide +kernel
theorem sd_7_16 : decide (("less" : Str) = "stop") = false := by decide +kernel
theorem sd_7_17 : decide (("less" : Str) = "r") = false := by decide +kernel
theorem sd_7_18 : decide (("less" : Str) = "p") = false := by decide +kernel
theorem sd_8_0 : decide (("same" : Str) = "set") = false := by decide +kernel
theorem sd_8_1 : decide (("same" : Str) = "copy") = false := by decide +kernel
theorem sd_8_2 : decide (("same" : Str) = "add") = false := by decide +kernel
theorem sd_8_3 : decide (("same" : Str) = "sub") = false := by decide +kernel
theorem sd_8_4 : decide (("same" : Str) = "mul") = false := by decide +kernel
theorem sd_8_5 : decide (("same" : Str) = "div") = false := by decide +kernel
theorem sd_8_6 : decide (("same" : Str) = "mod") = false := by decide +kernel
theorem sd_8_7 : decide (("same" : Str) = "less") = false := by decide +kernel
theorem sd_8_8 : decide (("same" : Str) = "same") = true := by decide +kernel
theorem sd_8_9 : decide (("same" : Str) = "load") = false := by decide +kernel
theorem sd_8_10 : decide (("same" : Str) = "store") = false := by decide +kernel
theorem sd_8_11 : decide (("same" : Str) = "jump") = false := by decide +kernel
theorem sd_8_12 : decide (("same" : Str) = "zero") = false := by decide +kernel
theorem sd_8_13 : decide (("same" : Str) = "read") = false := by decide +kernel
theorem sd_8_14 : decide (("same" : Str) = "left") = false := by decide +kernel
theorem sd_8_15 : decide (("same" : Str) = "write") = false := by decide +kernel
theorem sd_8_16 : decide (("same" : Str) = "stop") = false := by decide +kernel
theorem sd_8_17 : decide (("same" : Str) = "r") = false := by decide +kernel
theorem sd_8_18 : decide (("same" : Str) = "p") = false := by decide +kernel
theorem sd_9_0 : decide (("load" : Str) = "set") = false := by decide +kernel
theorem sd_9_1 : decide (("load" : Str) = "copy") = false := by decide +kernel
theorem sd_9_2 : decide (("load" : Str) = "add") = false := by decide +kernel
theorem sd_9_3 : decide (("load" : Str) = "sub") = false := by decide +kernel
theorem sd_9_4 : decide (("load" : Str) = "mul") = false := by decide +kernel
theorem sd_9_5 : decide (("load" : Str) = "div") = false := by decide +kernel
theorem sd_9_6 : decide (("load" : Str) = "mod") = false := by decide +kernel
theorem sd_9_7 : decide (("load" : Str) = "less") = false := by decide +kernel
theorem sd_9_8 : decide (("load" : Str) = "same") = false := by decide +kernel
theorem sd_9_9 : decide (("load" : Str) = "load") = true := by decide +kernel
theorem sd_9_10 : decide (("load" : Str) = "store") = false := by decide +kernel
theorem sd_9_11 : decide (("load" : Str) = "jump") = false := by decide +kernel
theorem sd_9_12 : decide (("load" : Str) = "zero") = false := by decide +kernel
theorem sd_9_13 : decide (("load" : Str) = "read") = false := by decide +kernel
theorem sd_9_14 : decide (("load" : Str) = "left") = false := by decide +kernel
theorem sd_9_15 : decide (("load" : Str) = "write") = false := by decide +kernel
theorem sd_9_16 : decide (("load" : Str) = "stop") = false := by decide +kernel
theorem sd_9_17 : decide (("load" : Str) = "r") = false := by decide +kernel
theorem sd_9_18 : decide (("load" : Str) = "p") = false := by decide +kernel
theorem sd_10_0 : decide (("store" : Str) = "set") = false := by decide +kernel
theorem sd_10_1 : decide (("store" : Str) = "copy") = false := by decide +kernel
theorem sd_10_2 : decide (("store" : Str) = "add") = false := by decide +kernel
theorem sd_10_3 : decide (("store" : Str) = "sub") = false := by decide +kernel
theorem sd_10_4 : decide (("store" : Str) = "mul") = false := by decide +kernel
theorem sd_10_5 : decide (("store" : Str) = "div") = false := by decide +kernel
theorem sd_10_6 : decide (("store" : Str) = "mod") = false := by decide +kernel
theorem sd_10_7 : decide (("store" : Str) = "less") = false := by decide +kernel
theorem sd_10_8 : decide (("store" : Str) = "same") = false := by decide +kernel
theorem sd_10_9 : decide (("store" : Str) = "load") = false := by decide +kernel
theorem sd_10_10 : decide (("store" : Str) = "store") = true := by decide +kernel
theorem sd_10_11 : decide (("store" : Str) = "jump") = false := by decide +kernel
theorem sd_10_12 : decide (("store" : Str) = "zero") = false := by decide +kernel
theorem sd_10_13 : decide (("store" : Str) = "read") = false := by decide +kernel
theorem sd_10_14 : decide (("store" : Str) = "left") = false := by decide +kernel
theorem sd_10_15 : decide (("store" : Str) = "write") = false := by decide +kernel
theorem sd_10_16 : decide (("store" : Str) = "stop") = false := by decide +kernel
theorem sd_10_17 : decide (("store" : Str) = "r") = false := by decide +kernel
theorem sd_10_18 : decide (("store" : Str) = "p") = false := by decide +kernel
theorem sd_11_0 : decide (("jump" : Str) = "set") = false := by decide +kernel
theorem sd_11_1 : decide (("jump" : Str) = "copy") = false := by decide +kernel
theorem sd_11_2 : decide (("jump" : Str) = "add") = false := by decide +kernel
theorem sd_11_3 : decide (("jump" : Str) = "sub") = false := by decide +kernel
theorem sd_11_4 : decide (("jump" : Str) = "mul") = false := by decide +kernel
theorem sd_11_5 : decide (("jump" : Str) = "div") = false := by decide +kernel
theorem sd_11_6 : decide (("jump" : Str) = "mod") = false := by decide +kernel
theorem sd_11_7 : decide (("jump" : Str) = "less") = false := by decide +kernel
theorem sd_11_8 : decide (("jump" : Str) = "same") = false := by decide +kernel
theorem sd_11_9 : decide (("jump" : Str) = "load") = false := by decide +kernel
theorem sd_11_10 : decide (("jump" : Str) = "store") = false := by decide +kernel
theorem sd_11_11 : decide (("jump" : Str) = "jump") = true := by decide +kernel
theorem sd_11_12 : decide (("jump" : Str) = "zero") = false := by decide +kernel
theorem sd_11_13 : decide (("jump" : Str) = "read") = false := by decide +kernel
theorem sd_11_14 : decide (("jump" : Str) = "left") = false := by decide +kernel
theorem sd_11_15 : decide (("jump" : Str) = "write") = false := by decide +kernel
theorem sd_11_16 : decide (("jump" : Str) = "stop") = false := by decide +kernel
theorem sd_11_17 : decide (("jump" : Str) = "r") = false := by decide +kernel
theorem sd_11_18 : decide (("jump" : Str) = "p") = false := by decide +kernel
theorem sd_12_0 : decide (("zero" : Str) = "set") = false := by decide +kernel
theorem sd_12_1 : decide (("zero" : Str) = "copy") = false := by decide +kernel
theorem sd_12_2 : decide (("zero" : Str) = "add") = false := by decide +kernel
theorem sd_12_3 : decide (("zero" : Str) = "sub") = false := by decide +kernel
theorem sd_12_4 : decide (("zero" : Str) = "mul") = false := by decide +kernel
theorem sd_12_5 : decide (("zero" : Str) = "div") = false := by decide +kernel
theorem sd_12_6 : decide (("zero" : Str) = "mod") = false := by decide +kernel
theorem sd_12_7 : decide (("zero" : Str) = "less") = false := by decide +kernel
theorem sd_12_8 : decide (("zero" : Str) = "same") = false := by decide +kernel
theorem sd_12_9 : decide (("zero" : Str) = "load") = false := by decide +kernel
theorem sd_12_10 : decide (("zero" : Str) = "store") = false := by decide +kernel
theorem sd_12_11 : decide (("zero" : Str) = "jump") = false := by decide +kernel
theorem sd_12_12 : decide (("zero" : Str) = "zero") = true := by decide +kernel
theorem sd_12_13 : decide (("zero" : Str) = "read") = false := by decide +kernel
theorem sd_12_14 : decide (("zero" : Str) = "left") = false := by decide +kernel
theorem sd_12_15 : decide (("zero" : Str) = "write") = false := by decide +kernel
theorem sd_12_16 : decide (("zero" : Str) = "stop") = false := by decide +kernel
theorem sd_12_17 : decide (("zero" : Str) = "r") = false := by decide +kernel
theorem sd_12_18 : decide (("zero" : Str) = "p") = false := by decide +kernel
theorem sd_13_0 : decide (("read" : Str) = "set") = false := by decide +kernel
theorem sd_13_1 : decide (("read" : Str) = "copy") = false := by decide +kernel
theorem sd_13_2 : decide (("read" : Str) = "add") = false := by decide +kernel
theorem sd_13_3 : decide (("read" : Str) = "sub") = false := by decide +kernel
theorem sd_13_4 : decide (("read" : Str) = "mul") = false := by decide +kernel
theorem sd_13_5 : decide (("read" : Str) = "div") = false := by decide +kernel
theorem sd_13_6 : decide (("read" : Str) = "mod") = false := by decide +kernel
theorem sd_13_7 : decide (("read" : Str) = "less") = false := by decide +kernel
theorem sd_13_8 : decide (("read" : Str) = "same") = false := by decide +kernel
theorem sd_13_9 : decide (("read" : Str) = "load") = false := by decide +kernel
theorem sd_13_10 : decide (("read" : Str) = "store") = false := by decide +kernel
theorem sd_13_11 : decide (("read" : Str) = "jump") = false := by decide +kernel
theorem sd_13_12 : decide (("read" : Str) = "zero") = false := by decide +kernel
theorem sd_13_13 : decide (("read" : Str) = "read") = true := by decide +kernel
theorem sd_13_14 : decide (("read" : Str) = "left") = false := by decide +kernel
theorem sd_13_15 : decide (("read" : Str) = "write") = false := by decide +kernel
theorem sd_13_16 : decide (("read" : Str) = "stop") = false := by decide +kernel
theorem sd_13_17 : decide (("read" : Str) = "r") = false := by decide +kernel
theorem sd_13_18 : decide (("read" : Str) = "p") = false := by decide +kernel
theorem sd_14_0 : decide (("left" : Str) = "set") = false := by decide +kernel
theorem sd_14_1 : decide (("left" : Str) = "copy") = false := by decide +kernel
theorem sd_14_2 : decide (("left" : Str) = "add") = false := by decide +kernel
theorem sd_14_3 : decide (("left" : Str) = "sub") = false := by decide +kernel
theorem sd_14_4 : decide (("left" : Str) = "mul") = false := by decide +kernel
theorem sd_14_5 : decide (("left" : Str) = "div") = false := by decide +kernel
theorem sd_14_6 : decide (("left" : Str) = "mod") = false := by decide +kernel
theorem sd_14_7 : decide (("left" : Str) = "less") = false := by decide +kernel
theorem sd_14_8 : decide (("left" : Str) = "same") = false := by decide +kernel
theorem sd_14_9 : decide (("left" : Str) = "load") = false := by decide +kernel
theorem sd_14_10 : decide (("left" : Str) = "store") = false := by decide +kernel
theorem sd_14_11 : decide (("left" : Str) = "jump") = false := by decide +kernel
theorem sd_14_12 : decide (("left" : Str) = "zero") = false := by decide +kernel
theorem sd_14_13 : decide (("left" : Str) = "read") = false := by decide +kernel
theorem sd_14_14 : decide (("left" : Str) = "left") = true := by decide +kernel
theorem sd_14_15 : decide (("left" : Str) = "write") = false := by decide +kernel
theorem sd_14_16 : decide (("left" : Str) = "stop") = false := by decide +kernel
theorem sd_14_17 : decide (("left" : Str) = "r") = false := by decide +kernel
theorem sd_14_18 : decide (("left" : Str) = "p") = false := by decide +kernel
theorem sd_15_0 : decide (("write" : Str) = "set") = false := by decide +kernel
theorem sd_15_1 : decide (("write" : Str) = "copy") = false := by decide +kernel
theorem sd_15_2 : decide (("write" : Str) = "add") = false := by decide +kernel
theorem sd_15_3 : decide (("write" : Str) = "sub") = false := by decide +kernel
theorem sd_15_4 : decide (("write" : Str) = "mul") = false := by decide +kernel
theorem sd_15_5 : decide (("write" : Str) = "div") = false := by decide +kernel
theorem sd_15_6 : decide (("write" : Str) = "mod") = false := by decide +kernel
theorem sd_15_7 : decide (("write" : Str) = "less") = false := by decide +kernel
theorem sd_15_8 : decide (("write" : Str) = "same") = false := by decide +kernel
theorem sd_15_9 : decide (("write" : Str) = "load") = false := by decide +kernel
theorem sd_15_10 : decide (("write" : Str) = "store") = false := by decide +kernel
theorem sd_15_11 : decide (("write" : Str) = "jump") = false := by decide +kernel
theorem sd_15_12 : decide (("write" : Str) = "zero") = false := by decide +kernel
theorem sd_15_13 : decide (("write" : Str) = "read") = false := by decide +kernel
theorem sd_15_14 : decide (("write" : Str) = "left") = false := by decide +kernel
theorem sd_15_15 : decide (("write" : Str) = "write") = true := by decide +kernel
theorem sd_15_16 : decide (("write" : Str) = "stop") = false := by decide +kernel
theorem sd_15_17 : decide (("write" : Str) = "r") = false := by decide +kernel
theorem sd_15_18 : decide (("write" : Str) = "p") = false := by decide +kernel
theorem sd_16_0 : decide (("stop" : Str) = "set") = false := by decide +kernel
theorem sd_16_1 : decide (("stop" : Str) = "copy") = false := by decide +kernel
theorem sd_16_2 : decide (("stop" : Str) = "add") = false := by decide +kernel
theorem sd_16_3 : decide (("stop" : Str) = "sub") = false := by decide +kernel
theorem sd_16_4 : decide (("stop" : Str) = "mul") = false := by decide +kernel
theorem sd_16_5 : decide (("stop" : Str) = "div") = false := by decide +kernel
theorem sd_16_6 : decide (("stop" : Str) = "mod") = false := by decide +kernel
theorem sd_16_7 : decide (("stop" : Str) = "less") = false := by decide +kernel
theorem sd_16_8 : decide (("stop" : Str) = "same") = false := by decide +kernel
theorem sd_16_9 : decide (("stop" : Str) = "load") = false := by decide +kernel
theorem sd_16_10 : decide (("stop" : Str) = "store") = false := by decide +kernel
theorem sd_16_11 : decide (("stop" : Str) = "jump") = false := by decide +kernel
theorem sd_16_12 : decide (("stop" : Str) = "zero") = false := by decide +kernel
theorem sd_16_13 : decide (("stop" : Str) = "read") = false := by decide +kernel
theorem sd_16_14 : decide (("stop" : Str) = "left") = false := by decide +kernel
theorem sd_16_15 : decide (("stop" : Str) = "write") = false := by decide +kernel
theorem sd_16_16 : decide (("stop" : Str) = "stop") = true := by decide +kernel
theorem sd_16_17 : decide (("stop" : Str) = "r") = false := by decide +kernel
theorem sd_16_18 : decide (("stop" : Str) = "p") = false := by decide +kernel
theorem sd_17_0 : decide (("r" : Str) = "set") = false := by decide +kernel
theorem sd_17_1 : decide (("r" : Str) = "copy") = false := by decide +kernel
theorem sd_17_2 : decide (("r" : Str) = "add") = false := by decide +kernel
theorem sd_17_3 : decide (("r" : Str) = "sub") = false := by decide +kernel
theorem sd_17_4 : decide (("r" : Str) = "mul") = false := by decide +kernel
theorem sd_17_5 : decide (("r" : Str) = "div") = false := by decide +kernel
theorem sd_17_6 : decide (("r" : Str) = "mod") = false := by decide +kernel
theorem sd_17_7 : decide (("r" : Str) = "less") = false := by decide +kernel
theorem sd_17_8 : decide (("r" : Str) = "same") = false := by decide +kernel
theorem sd_17_9 : decide (("r" : Str) = "load") = false := by decide +kernel
theorem sd_17_10 : decide (("r" : Str) = "store") = false := by decide +kernel
theorem sd_17_11 : decide (("r" : Str) = "jump") = false := by decide +kernel
theorem sd_17_12 : decide (("r" : Str) = "zero") = false := by decide +kernel
theorem sd_17_13 : decide (("r" : Str) = "read") = false := by decide +kernel
theorem sd_17_14 : decide (("r" : Str) = "left") = false := by decide +kernel
theorem sd_17_15 : decide (("r" : Str) = "write") = false := by decide +kernel
theorem sd_17_16 : decide (("r" : Str) = "stop") = false := by decide +kernel
theorem sd_17_17 : decide (("r" : Str) = "r") = true := by decide +kernel
theorem sd_17_18 : decide (("r" : Str) = "p") = false := by decide +kernel
theorem sd_18_0 : decide (("p" : Str) = "set") = false := by decide +kernel
theorem sd_18_1 : decide (("p" : Str) = "copy") = false := by decide +kernel
theorem sd_18_2 : decide (("p" : Str) = "add") = false := by decide +kernel
theorem sd_18_3 : decide (("p" : Str) = "sub") = false := by decide +kernel
theorem sd_18_4 : decide (("p" : Str) = "mul") = false := by decide +kernel
theorem sd_18_5 : decide (("p" : Str) = "div") = false := by decide +kernel
theorem sd_18_6 : decide (("p" : Str) = "mod") = false := by decide +kernel
theorem sd_18_7 : decide (("p" : Str) = "less") = false := by decide +kernel
theorem sd_18_8 : decide (("p" : Str) = "same") = false := by decide +kernel
theorem sd_18_9 : decide (("p" : Str) = "load") = false := by decide +kernel
theorem sd_18_10 : decide (("p" : Str) = "store") = false := by decide +kernel
theorem sd_18_11 : decide (("p" : Str) = "jump") = false := by decide +kernel
theorem sd_18_12 : decide (("p" : Str) = "zero") = false := by decide +kernel
theorem sd_18_13 : decide (("p" : Str) = "read") = false := by decide +kernel
theorem sd_18_14 : decide (("p" : Str) = "left") = false := by decide +kernel
theorem sd_18_15 : decide (("p" : Str) = "write") = false := by decide +kernel
theorem sd_18_16 : decide (("p" : Str) = "stop") = false := by decide +kernel
theorem sd_18_17 : decide (("p" : Str) = "r") = false := by decide +kernel
theorem sd_18_18 : decide (("p" : Str) = "p") = true := by decide +kernel

local macro_rules | `(tactic| walk_at "sd") => `(tactic| try simp only [sd_0_0, sd_0_1, sd_0_2, sd_0_3, sd_0_4, sd_0_5, sd_0_6, sd_0_7, sd_0_8, sd_0_9, sd_0_10, sd_0_11, sd_0_12, sd_0_13, sd_0_14, sd_0_15, sd_0_16, sd_0_17, sd_0_18, sd_1_0, sd_1_1, sd_1_2, sd_1_3, sd_1_4, sd_1_5, sd_1_6, sd_1_7, sd_1_8, sd_1_9, sd_1_10, sd_1_11, sd_1_12, sd_1_13, sd_1_14, sd_1_15, sd_1_16, sd_1_17, sd_1_18, sd_2_0, sd_2_1, sd_2_2, sd_2_3, sd_2_4, sd_2_5, sd_2_6, sd_2_7, sd_2_8, sd_2_9, sd_2_10, sd_2_11, sd_2_12, sd_2_13, sd_2_14, sd_2_15, sd_2_16, sd_2_17, sd_2_18, sd_3_0, sd_3_1, sd_3_2, sd_3_3, sd_3_4, sd_3_5, sd_3_6, sd_3_7, sd_3_8, sd_3_9, sd_3_10, sd_3_11, sd_3_12, sd_3_13, sd_3_14, sd_3_15, sd_3_16, sd_3_17, sd_3_18, sd_4_0, sd_4_1, sd_4_2, sd_4_3, sd_4_4, sd_4_5, sd_4_6, sd_4_7, sd_4_8, sd_4_9, sd_4_10, sd_4_11, sd_4_12, sd_4_13, sd_4_14, sd_4_15, sd_4_16, sd_4_17, sd_4_18, sd_5_0, sd_5_1, sd_5_2, sd_5_3, sd_5_4, sd_5_5, sd_5_6, sd_5_7, sd_5_8, sd_5_9, sd_5_10, sd_5_11, sd_5_12, sd_5_13, sd_5_14, sd_5_15, sd_5_16, sd_5_17, sd_5_18, sd_6_0, sd_6_1, sd_6_2, sd_6_3, sd_6_4, sd_6_5, sd_6_6, sd_6_7, sd_6_8, sd_6_9, sd_6_10, sd_6_11, sd_6_12, sd_6_13, sd_6_14, sd_6_15, sd_6_16, sd_6_17, sd_6_18, sd_7_0, sd_7_1, sd_7_2, sd_7_3, sd_7_4, sd_7_5, sd_7_6, sd_7_7, sd_7_8, sd_7_9, sd_7_10, sd_7_11, sd_7_12, sd_7_13, sd_7_14, sd_7_15, sd_7_16, sd_7_17, sd_7_18, sd_8_0, sd_8_1, sd_8_2, sd_8_3, sd_8_4, sd_8_5, sd_8_6, sd_8_7, sd_8_8, sd_8_9, sd_8_10, sd_8_11, sd_8_12, sd_8_13, sd_8_14, sd_8_15, sd_8_16, sd_8_17, sd_8_18, sd_9_0, sd_9_1, sd_9_2, sd_9_3, sd_9_4, sd_9_5, sd_9_6, sd_9_7, sd_9_8, sd_9_9, sd_9_10, sd_9_11, sd_9_12, sd_9_13, sd_9_14, sd_9_15, sd_9_16, sd_9_17, sd_9_18, sd_10_0, sd_10_1, sd_10_2, sd_10_3, sd_10_4, sd_10_5, sd_10_6, sd_10_7, sd_10_8, sd_10_9, sd_10_10, sd_10_11, sd_10_12, sd_10_13, sd_10_14, sd_10_15, sd_10_16, sd_10_17, sd_10_18, sd_11_0, sd_11_1, sd_11_2, sd_11_3, sd_11_4, sd_11_5, sd_11_6, sd_11_7, sd_11_8, sd_11_9, sd_11_10, sd_11_11, sd_11_12, sd_11_13, sd_11_14, sd_11_15, sd_11_16, sd_11_17, sd_11_18, sd_12_0, sd_12_1, sd_12_2, sd_12_3, sd_12_4, sd_12_5, sd_12_6, sd_12_7, sd_12_8, sd_12_9, sd_12_10, sd_12_11, sd_12_12, sd_12_13, sd_12_14, sd_12_15, sd_12_16, sd_12_17, sd_12_18, sd_13_0, sd_13_1, sd_13_2, sd_13_3, sd_13_4, sd_13_5, sd_13_6, sd_13_7, sd_13_8, sd_13_9, sd_13_10, sd_13_11, sd_13_12, sd_13_13, sd_13_14, sd_13_15, sd_13_16, sd_13_17, sd_13_18, sd_14_0, sd_14_1, sd_14_2, sd_14_3, sd_14_4, sd_14_5, sd_14_6, sd_14_7, sd_14_8, sd_14_9, sd_14_10, sd_14_11, sd_14_12, sd_14_13, sd_14_14, sd_14_15, sd_14_16, sd_14_17, sd_14_18, sd_15_0, sd_15_1, sd_15_2, sd_15_3, sd_15_4, sd_15_5, sd_15_6, sd_15_7, sd_15_8, sd_15_9, sd_15_10, sd_15_11, sd_15_12, sd_15_13, sd_15_14, sd_15_15, sd_15_16, sd_15_17, sd_15_18, sd_16_0, sd_16_1, sd_16_2, sd_16_3, sd_16_4, sd_16_5, sd_16_6, sd_16_7, sd_16_8, sd_16_9, sd_16_10, sd_16_11, sd_16_12, sd_16_13, sd_16_14, sd_16_15, sd_16_16, sd_16_17, sd_16_18, sd_17_0, sd_17_1, sd_17_2, sd_17_3, sd_17_4, sd_17_5, sd_17_6, sd_17_7, sd_17_8, sd_17_9, sd_17_10, sd_17_11, sd_17_12, sd_17_13, sd_17_14, sd_17_15, sd_17_16, sd_17_17, sd_17_18, sd_18_0, sd_18_1, sd_18_2, sd_18_3, sd_18_4, sd_18_5, sd_18_6, sd_18_7, sd_18_8, sd_18_9, sd_18_10, sd_18_11, sd_18_12, sd_18_13, sd_18_14, sd_18_15, sd_18_16, sd_18_17, sd_18_18])

/-! ### the machine, by data -/
structure St where
  pl : Int
  r : List Int
  m : List Int
  po : Int
  w : List Int
  s : Int
def stD (t : St) : D := .tup [.int t.pl, iD t.r, iD t.m, .int t.po, iD t.w, .int t.s]
inductive Ins where
  | set (d : Nat) (w : Int) | copy (d s : Nat) | calc (k d x y : Nat) | load (d s : Nat) | store (s p : Nat) | jump (p : Int) | zero (s : Nat) (p : Int) | read (d : Nat) | left (d : Nat) | write (s : Nat) | stop
def nmC : Nat → Str
  | 0 => "add" | 1 => "sub" | 2 => "mul" | 3 => "div" | 4 => "mod" | 5 => "less" | _ => "same"
def insD : Ins → D
  | .set d w => .tup [.str "set", .int (d : Nat), .int w]
  | .copy d s => .tup [.str "copy", .int (d : Nat), .int (s : Nat)]
  | .calc k d x y => .tup [.str (nmC k), .int (d : Nat), .int (x : Nat), .int (y : Nat)]
  | .load d s => .tup [.str "load", .int (d : Nat), .int (s : Nat)]
  | .store s p => .tup [.str "store", .int (s : Nat), .int (p : Nat)]
  | .jump p => .tup [.str "jump", .int p]
  | .zero s p => .tup [.str "zero", .int (s : Nat), .int p]
  | .read d => .tup [.str "read", .int (d : Nat)]
  | .left d => .tup [.str "left", .int (d : Nat)]
  | .write s => .tup [.str "write", .int (s : Nat)]
  | .stop => .tup [.str "stop"]
def wordI (x : Int) : Prop := 0 ≤ x ∧ x < 4294967296
def WfI : Ins → Prop
  | .set d w => d < 4 ∧ wordI w
  | .copy d s => d < 4 ∧ s < 4
  | .calc k d x y => k < 7 ∧ d < 4 ∧ x < 4 ∧ y < 4
  | .load d s => d < 4 ∧ s < 4
  | .store s p => s < 4 ∧ p < 4
  | .jump p => 0 ≤ p ∧ p ≤ 64
  | .zero s p => s < 4 ∧ 0 ≤ p ∧ p ≤ 64
  | .read d => d < 4
  | .left d => d < 4
  | .write s => s < 4
  | .stop => True
structure WfS (n : Nat) (t : St) : Prop where
  pl : 0 ≤ t.pl
  r : t.r.length = 4
  rw : ∀ x ∈ t.r, wordI x
  m : t.m.length = 64
  mw : ∀ x ∈ t.m, wordI x
  po : 0 ≤ t.po ∧ t.po ≤ n
  w : ∀ x ∈ t.w, wordI x
def rg (t : St) (i : Nat) : Int := t.r.getD i 0
theorem getD_mem {l : List Int} {i : Nat} (h : i < l.length) : l.getD i 0 ∈ l := by
  rw [List.getD_eq_getElem?_getD, List.getElem?_eq_getElem h]
  exact List.getElem_mem h
def fillS (t : St) (d : Nat) (x : Int) : St := { t with pl := t.pl + 1, r := t.r.set d x }
def calcR : Nat → Int → Int → Option Int
  | 0, a, b => some ((a + b) % 4294967296)
  | 1, a, b => some ((a - b) % 4294967296)
  | 2, a, b => some (a * b % 4294967296)
  | 3, a, b => if b = 0 then none else some (a / b)
  | 4, a, b => if b = 0 then none else some (a % b)
  | 5, a, b => some (if a < b then 1 else 0)
  | _, a, b => some (if a = b then 1 else 0)
def endS (t : St) (s : Int) : St := { t with s := s }
def stepI (ws : List Int) (t : St) : Ins → St
  | .set d w => fillS t d w
  | .copy d s => fillS t d (rg t s)
  | .calc k d x y => match calcR k (rg t x) (rg t y) with | some v => fillS t d v | none => endS t 2
  | .load d s => if 64 ≤ rg t s then endS t 2 else fillS t d (t.m.getD (rg t s).toNat 0)
  | .store s p => if 64 ≤ rg t p then endS t 2 else { t with pl := t.pl + 1, m := t.m.set (rg t p).toNat (rg t s) }
  | .jump p => { t with pl := p }
  | .zero s p => { t with pl := if rg t s = 0 then p else t.pl + 1 }
  | .read d => if (ws.length : Int) ≤ t.po then endS t 2 else { fillS t d (ws.getD t.po.toNat 0) with po := t.po + 1 }
  | .left d => fillS t d ((ws.length : Int) - t.po)
  | .write s => { t with pl := t.pl + 1, w := t.w ++ [rg t s] }
  | .stop => endS t 1
def stepS (prog : List Ins) (ws : List Int) (t : St) : St :=
  if t.s = 0 then (if (prog.length : Int) ≤ t.pl then endS t 2 else stepI ws t (prog.getD t.pl.toNat .stop)) else t
def progD (prog : List Ins) : D := .tup (prog.map insD)

def numD (m : Int) : D → Bool
  | .int i => decide (0 ≤ i) && decide (i ≤ m)
  | _ => false
theorem w_is_number (a : Ad) {v : D} {m : Int} {S : Sto} {Q : DK} {Ed : XD} (hv : dat 60 v = true) : F_is_number a [v, .int m] S Q Ed = Q (.bl (numD m v)) S := by
  unfold F_is_number B_is_number
  cases v
  all_goals first | (simp [dat] at hv; done) | walk_at "drn"
  all_goals first | (simp [numD]; done) | skip
  rename_i i
  by_cases h : 0 ≤ i <;> simp [numD, h]
theorem w_is_word (a : Ad) {v : D} {S : Sto} {Q : DK} {Ed : XD} (hv : dat 60 v = true) : F_is_word a [v] S Q Ed = Q (.bl (numD 4294967295 v)) S := by
  unfold F_is_word B_is_word
  walk_at "drn"
  exact w_is_number a hv
def rowD (lo hi : Int) : D → Bool
  | .tup ds => decide (lo ≤ ds.length) && decide ((ds.length : Int) ≤ hi) && ds.all (numD 4294967295)
  | _ => false
theorem w__is_row_of_words (a : Ad) {v : D} {lo hi : Int} {S : Sto} {Q : DK} {Ed : XD} (hv : dat 60 v = true) : F__is_row_of_words a [v, .int lo, .int hi] S Q Ed = Q (.bl (rowD lo hi v)) S := by
  unfold F__is_row_of_words B__is_row_of_words
  cases v
  all_goals first | (simp [dat] at hv; done) | walk_at "drn"
  all_goals first | (simp [rowD]; done) | skip
  rename_i ds
  obtain ⟨hl, hd⟩ := dat_tup hv
  have key : ∀ (x : Option D) (y z : D) (R : Bool → Sto → Prop), allD (fun _ => True) (xName 3) (eCa (F_is_word a) xF (aCons (eVar 3) aNil)) [x, some y, some z, none] ds S R = R (ds.all (numD 4294967295)) S := by
    intro x y z R
    refine allD_eq trivial fun d h R => ?_
    walk_at "drn"
    rw [w_is_word a (dat_up (hd d h))]
  simp only [key]
  unfold rowD
  by_cases h1 : lo ≤ ds.length <;> by_cases h2 : (ds.length : Int) ≤ hi <;> simp [h1, h2]
def stateB : D → Bool
  | .tup [p, r, m, po, w, s] => numD 64 p && (rowD 4 4 r && (rowD 64 64 m && (numD 64 po && (rowD 0 2048 w && numD 2 s))))
  | _ => false
theorem w_is_state (a : Ad) {v : D} {S : Sto} {Q : DK} {Ed : XD} (hv : dat 60 v = true) : F_is_state a [v] S Q Ed = Q (.bl (stateB v)) S := by
  unfold F_is_state B_is_state
  cases v
  all_goals first | (simp [dat] at hv; done) | walk_at "dr"
  all_goals first | (simp [stateB]; done) | skip
  rename_i ds
  obtain ⟨hl, hd⟩ := dat_tup hv
  by_cases h6 : ds.length = 6
  · match ds, h6 with
    | [p, r, m, po, w, s], _ =>
      have dd : ∀ x ∈ [p, r, m, po, w, s], dat 60 x = true := fun x hx => dat_up (hd x hx)
      have d1 := dd p (by simp)
      have d2 := dd r (by simp)
      have d3 := dd m (by simp)
      have d4 := dd po (by simp)
      have d5 := dd w (by simp)
      have d6 := dd s (by simp)
      walk_at "drn"
      rw [w_is_number a d1]
      simp only [w__is_row_of_words a d2, w__is_row_of_words a d3, w_is_number a d4, w__is_row_of_words a d5, w_is_number a d6]
      walk_at "drn"
      rw [show stateB (.tup [p, r, m, po, w, s]) = (numD 64 p && (rowD 4 4 r && (rowD 64 64 m && (numD 64 po && (rowD 0 2048 w && numD 2 s))))) from rfl]
      cases numD 64 p <;> cases rowD 4 4 r <;> cases rowD 64 64 m <;> cases numD 64 po <;> cases rowD 0 2048 w <;> simp
  · have e : stateB (.tup ds) = false := by
      match ds, h6 with
      | [], _ => rfl
      | [_], _ => rfl
      | [_, _], _ => rfl
      | [_, _, _], _ => rfl
      | [_, _, _, _], _ => rfl
      | [_, _, _, _, _], _ => rfl
      | [_, _, _, _, _, _], z => exact absurd rfl z
      | _ :: _ :: _ :: _ :: _ :: _ :: _ :: _, _ => rfl
    rw [e]
    have h : decide ((ds.length : Int) = 6) = false := decide_eq_false (by omega)
    simp only [h]
    walk_at "drn"
theorem row_int {l : List Int} {lo hi : Int} (h1 : lo ≤ l.length) (h2 : (l.length : Int) ≤ hi) (h : ∀ x ∈ l, wordI x) : rowD lo hi (iD l) = true := by
  show (decide (lo ≤ ((l.map D.int).length : Int)) && decide (((l.map D.int).length : Int) ≤ hi) && (l.map D.int).all (numD 4294967295)) = true
  rw [List.length_map, decide_eq_true h1, decide_eq_true h2, Bool.true_and, Bool.true_and, List.all_eq_true]
  intro d hd
  obtain ⟨x, hx, rfl⟩ := List.mem_map.mp hd
  obtain ⟨h0, h1⟩ := h x hx
  simp [numD, h0]
  omega
theorem stateB_of {n : Nat} {t : St} (h : WfS n t) (hn : n ≤ 64) (hp : t.pl ≤ 64) (hw : t.w.length ≤ 2048) (hs : 0 ≤ t.s ∧ t.s ≤ 2) : stateB (stD t) = true := by
  have hpl := h.pl
  have hpo := h.po
  show (numD 64 (.int t.pl) && (rowD 4 4 (iD t.r) && (rowD 64 64 (iD t.m) && (numD 64 (.int t.po) && (rowD 0 2048 (iD t.w) && numD 2 (.int t.s)))))) = true
  rw [row_int (by rw [h.r]; decide) (by rw [h.r]; decide) h.rw, row_int (by rw [h.m]; decide) (by rw [h.m]; decide) h.mw, row_int (by omega) (by omega) h.w]
  have e : (n : Int) ≤ 64 := by omega
  simp [numD, hpl, hp, hs.1, hs.2, hpo.1]
  omega

end Sd

set_option Elab.async false
set_option linter.all false
set_option maxRecDepth 100000
set_option maxHeartbeats 1000000
namespace Sd
open PySem PySem.Spec PyProof.Rows L2 GxR
local macro_rules | `(tactic| walk_at "dr") => `(tactic| try simp only [shut_eq, eVar, eC, eKIx, eKIn, dIsB, kLook_c, atI_c0, atI_c1, atI_c2, atI_c3, atI_c4, atI_c5, cut_t1, cut_t2, cut_t3, cut_t4, cut_t5, cut_d1, cut_d2, cut_d3, tk1, tk2, tk5, dp1, dp2,  eOp, eUn, asB, eAnd, eOr, eNot, eIf, eChain, tV, tAnd', tOr', tNot', aNil, aCons, eTup, eLst, eCB, eDK, eDT, dAdd, dI, dSub, dMod, dDiv, dXor, dShl, dShr, dMul, dCmp, dLe, dLt, dGe, dGt, dEq, dNe, dIn, dIsN, dIx_t, dIx_c, dIx_s, dIx_r, dIx_iD, dNeg, dLen_iD, dLen_s, dLen_t, dLen_c, dLen_r, dList, dTuple, dInt, dIsi, dAll, oNone, oSome, dSl, eSl,
  xName, xNil, xCons, xTup, xSub, sNext, sSeq, sBreak, sCont, sDrop, sRet, sRetN, sIf, sAsg, sAug, sFor, iL, iT, iS, iR1, iR2, iRev1, iRev2, tYes', eLc, eAll, dIAdd, dISub, eBM, eBM0, asRef, eDGet, eDGet1, eDGet2, eDIn, eDNotIn, sDPutD, sDDelD, eCa, eMe, eMa, eFld, sFldD, sFldAugD, setO, dAppend, dPopAt, isBl, isTr, List.length_set, List.lookup, Nat.reduceLT, Nat.reduceLeDiff, Nat.lt_irrefl, Nat.not_lt_zero, Nat.zero_le, Nat.le_refl, Nat.zero_lt_succ, Nat.lt_add_one, sRaise, eJoin, dJoin, F__law_draw, F__law_box, wDraw, wBox, br, Int.natCast_nonneg, Int.cast_ofNat_Int, Int.reduceEq, 
  dstart, List.map_cons, List.map_nil, List.length_cons, List.length_nil, List.replicate, List.cons_append, List.nil_append, List.append_nil, List.getElem?_cons_zero, List.getElem?_cons_succ, List.set_cons_zero, List.set_cons_succ, Nat.sub_self, Nat.reduceAdd, Nat.reduceSub, wipeD,
  dat_i, dat_s, dat_b, dat_n, dats_c, dats_e, eqD_ii, eqD_ss, eqD_bb, eqD_nn, eqD_is, eqD_si, isNon, unC_i, unC_s, unC_b, unC_n, unC_t, unC_c, flatD, List.all_cons, List.all_nil, List.any_cons, List.any_nil, decide_true, decide_false, List.mem_cons, tyD, isTy, tyKn, String.reduceBEq, Bool.or_true, Bool.true_or, Bool.or_false, Bool.false_or, Bool.and_true, Bool.true_and, Bool.and_false, Bool.false_and, Bool.or_self, Bool.and_self, true_and, and_true, true_implies, false_implies, forall_const, reduceCtorEq, Bool.true_eq_false, Bool.false_eq_true, if_true, if_false, ite_true, ite_false, Bool.not_true, Bool.not_false, implies_true, eq_self])
local macro_rules | `(tactic| walk_at "drn") => `(tactic| try simp only [shut_eq, eVar, eC, eKIx, eKIn, dIsB, kLook_c, atI_c0, atI_c1, atI_c2, atI_c3, atI_c4, atI_c5, cut_t1, cut_t2, cut_t3, cut_t4, cut_t5, cut_d1, cut_d2, cut_d3, tk1, tk2, tk5, dp1, dp2,  eOp, eUn, asB, eAnd, eOr, eNot, eIf, eChain, tV, tAnd', tOr', tNot', aNil, aCons, eTup, eLst, eCB, eDK, eDT, dAdd, dI, dSub, dMod, dDiv, dXor, dShl, dShr, dMul, dCmp, dLe, dLt, dGe, dGt, dEq, dNe, dIn, dIsN, dIx_t, dIx_c, dIx_s, dIx_r, dIx_iD, dNeg, dLen_iD, dLen_s, dLen_t, dLen_c, dLen_r, dList, dTuple, dInt, dIsi, dAll, oNone, oSome, dSl, eSl,
  xName, xNil, xCons, xTup, xSub, sNext, sSeq, NX_eq, sBreak, sCont, sDrop, sRet, sRetN, sIf, sAsg, sAug, sFor, iL, iT, iS, iR1, iR2, iRev1, iRev2, tYes', eLc, eAll, dIAdd, dISub, eBM, eBM0, asRef, eDGet, eDGet1, eDGet2, eDIn, eDNotIn, sDPutD, sDDelD, eCa, eMe, eMa, eFld, sFldD, sFldAugD, setO, dAppend, dPopAt, isBl, isTr, List.length_set, List.lookup, Nat.reduceLT, Nat.reduceLeDiff, Nat.lt_irrefl, Nat.not_lt_zero, Nat.zero_le, Nat.le_refl, Nat.zero_lt_succ, Nat.lt_add_one, sRaise, eJoin, dJoin, F__law_draw, F__law_box, wDraw, wBox, br, Int.natCast_nonneg, Int.cast_ofNat_Int, Int.reduceEq, 
  dstart, List.map_cons, List.map_nil, List.length_cons, List.length_nil, List.replicate, List.cons_append, List.nil_append, List.append_nil, List.getElem?_cons_zero, List.getElem?_cons_succ, List.set_cons_zero, List.set_cons_succ, Nat.sub_self, Nat.reduceAdd, Nat.reduceSub, wipeD,
  dat_i, dat_s, dat_b, dat_n, dats_c, dats_e, eqD_ii, eqD_ss, eqD_bb, eqD_nn, eqD_is, eqD_si, isNon, unC_i, unC_s, unC_b, unC_n, unC_t, unC_c, flatD, List.all_cons, List.all_nil, List.any_cons, List.any_nil, decide_true, decide_false, List.mem_cons, tyD, isTy, tyKn, String.reduceBEq, Bool.or_true, Bool.true_or, Bool.or_false, Bool.false_or, Bool.and_true, Bool.true_and, Bool.and_false, Bool.false_and, Bool.or_self, Bool.and_self, true_and, and_true, true_implies, false_implies, forall_const, reduceCtorEq, Bool.true_eq_false, Bool.false_eq_true, if_true, if_false, ite_true, ite_false, Bool.not_true, Bool.not_false, implies_true, eq_self])

local macro_rules | `(tactic| walk_at "sd") => `(tactic| try simp only [sd_0_0, sd_0_1, sd_0_2, sd_0_3, sd_0_4, sd_0_5, sd_0_6, sd_0_7, sd_0_8, sd_0_9, sd_0_10, sd_0_11, sd_0_12, sd_0_13, sd_0_14, sd_0_15, sd_0_16, sd_0_17, sd_0_18, sd_1_0, sd_1_1, sd_1_2, sd_1_3, sd_1_4, sd_1_5, sd_1_6, sd_1_7, sd_1_8, sd_1_9, sd_1_10, sd_1_11, sd_1_12, sd_1_13, sd_1_14, sd_1_15, sd_1_16, sd_1_17, sd_1_18, sd_2_0, sd_2_1, sd_2_2, sd_2_3, sd_2_4, sd_2_5, sd_2_6, sd_2_7, sd_2_8, sd_2_9, sd_2_10, sd_2_11, sd_2_12, sd_2_13, sd_2_14, sd_2_15, sd_2_16, sd_2_17, sd_2_18, sd_3_0, sd_3_1, sd_3_2, sd_3_3, sd_3_4, sd_3_5, sd_3_6, sd_3_7, sd_3_8, sd_3_9, sd_3_10, sd_3_11, sd_3_12, sd_3_13, sd_3_14, sd_3_15, sd_3_16, sd_3_17, sd_3_18, sd_4_0, sd_4_1, sd_4_2, sd_4_3, sd_4_4, sd_4_5, sd_4_6, sd_4_7, sd_4_8, sd_4_9, sd_4_10, sd_4_11, sd_4_12, sd_4_13, sd_4_14, sd_4_15, sd_4_16, sd_4_17, sd_4_18, sd_5_0, sd_5_1, sd_5_2, sd_5_3, sd_5_4, sd_5_5, sd_5_6, sd_5_7, sd_5_8, sd_5_9, sd_5_10, sd_5_11, sd_5_12, sd_5_13, sd_5_14, sd_5_15, sd_5_16, sd_5_17, sd_5_18, sd_6_0, sd_6_1, sd_6_2, sd_6_3, sd_6_4, sd_6_5, sd_6_6, sd_6_7, sd_6_8, sd_6_9, sd_6_10, sd_6_11, sd_6_12, sd_6_13, sd_6_14, sd_6_15, sd_6_16, sd_6_17, sd_6_18, sd_7_0, sd_7_1, sd_7_2, sd_7_3, sd_7_4, sd_7_5, sd_7_6, sd_7_7, sd_7_8, sd_7_9, sd_7_10, sd_7_11, sd_7_12, sd_7_13, sd_7_14, sd_7_15, sd_7_16, sd_7_17, sd_7_18, sd_8_0, sd_8_1, sd_8_2, sd_8_3, sd_8_4, sd_8_5, sd_8_6, sd_8_7, sd_8_8, sd_8_9, sd_8_10, sd_8_11, sd_8_12, sd_8_13, sd_8_14, sd_8_15, sd_8_16, sd_8_17, sd_8_18, sd_9_0, sd_9_1, sd_9_2, sd_9_3, sd_9_4, sd_9_5, sd_9_6, sd_9_7, sd_9_8, sd_9_9, sd_9_10, sd_9_11, sd_9_12, sd_9_13, sd_9_14, sd_9_15, sd_9_16, sd_9_17, sd_9_18, sd_10_0, sd_10_1, sd_10_2, sd_10_3, sd_10_4, sd_10_5, sd_10_6, sd_10_7, sd_10_8, sd_10_9, sd_10_10, sd_10_11, sd_10_12, sd_10_13, sd_10_14, sd_10_15, sd_10_16, sd_10_17, sd_10_18, sd_11_0, sd_11_1, sd_11_2, sd_11_3, sd_11_4, sd_11_5, sd_11_6, sd_11_7, sd_11_8, sd_11_9, sd_11_10, sd_11_11, sd_11_12, sd_11_13, sd_11_14, sd_11_15, sd_11_16, sd_11_17, sd_11_18, sd_12_0, sd_12_1, sd_12_2, sd_12_3, sd_12_4, sd_12_5, sd_12_6, sd_12_7, sd_12_8, sd_12_9, sd_12_10, sd_12_11, sd_12_12, sd_12_13, sd_12_14, sd_12_15, sd_12_16, sd_12_17, sd_12_18, sd_13_0, sd_13_1, sd_13_2, sd_13_3, sd_13_4, sd_13_5, sd_13_6, sd_13_7, sd_13_8, sd_13_9, sd_13_10, sd_13_11, sd_13_12, sd_13_13, sd_13_14, sd_13_15, sd_13_16, sd_13_17, sd_13_18, sd_14_0, sd_14_1, sd_14_2, sd_14_3, sd_14_4, sd_14_5, sd_14_6, sd_14_7, sd_14_8, sd_14_9, sd_14_10, sd_14_11, sd_14_12, sd_14_13, sd_14_14, sd_14_15, sd_14_16, sd_14_17, sd_14_18, sd_15_0, sd_15_1, sd_15_2, sd_15_3, sd_15_4, sd_15_5, sd_15_6, sd_15_7, sd_15_8, sd_15_9, sd_15_10, sd_15_11, sd_15_12, sd_15_13, sd_15_14, sd_15_15, sd_15_16, sd_15_17, sd_15_18, sd_16_0, sd_16_1, sd_16_2, sd_16_3, sd_16_4, sd_16_5, sd_16_6, sd_16_7, sd_16_8, sd_16_9, sd_16_10, sd_16_11, sd_16_12, sd_16_13, sd_16_14, sd_16_15, sd_16_16, sd_16_17, sd_16_18, sd_17_0, sd_17_1, sd_17_2, sd_17_3, sd_17_4, sd_17_5, sd_17_6, sd_17_7, sd_17_8, sd_17_9, sd_17_10, sd_17_11, sd_17_12, sd_17_13, sd_17_14, sd_17_15, sd_17_16, sd_17_17, sd_17_18, sd_18_0, sd_18_1, sd_18_2, sd_18_3, sd_18_4, sd_18_5, sd_18_6, sd_18_7, sd_18_8, sd_18_9, sd_18_10, sd_18_11, sd_18_12, sd_18_13, sd_18_14, sd_18_15, sd_18_16, sd_18_17, sd_18_18])

section
variable (a : Ad) {S : Sto} {Q : DK} {Ed : XD} {b c : Addr}
theorem w__law_word (hb : S b = some (.box c)) (q : ∀ x S', Se S S' → wordI x → Q (.int x) S') : F__law_word a [.ref b] S Q Ed := by
  unfold F__law_word B__law_word
  walk_at "drn"
  refine ⟨⟨c, hb⟩, by decide, by decide, fun i i0 i1 => ⟨fun _ p hp => ⟨⟨c, (Se.one hp).box hb⟩, by decide, by decide, fun j j0 j1 => pickL j0 j1 fun d hd => ?_⟩, fun _ => ⟨fun _ => ⟨⟨c, hb⟩, by decide, by decide, fun j j0 j1 => q _ _ .refl ⟨j0, j1⟩⟩, fun _ => ⟨⟨c, hb⟩, by decide, by decide, fun j j0 j1 => q _ _ .refl ⟨j0, by omega⟩⟩⟩⟩⟩
  have : ∃ x, d = .int x ∧ wordI x := by
    simp only [List.mem_cons, List.not_mem_nil, or_false] at hd
    rcases hd with rfl | rfl | rfl | rfl | rfl | rfl | rfl | rfl <;> exact ⟨_, rfl, by constructor <;> decide⟩
  obtain ⟨x, rfl, hx⟩ := this
  exact q _ _ (Se.one hp) hx
theorem w__law_code {n : Int} (h0 : 0 ≤ n) (h1 : n ≤ 64) (hb : S b = some (.box c)) (q : ∀ i S', Se S S' → WfI i → Q (insD i) S') : F__law_code a [.ref b, .int n] S Q Ed := by
  unfold F__law_code B__law_code
  walk_at "dr"
  refine ⟨⟨c, hb⟩, by decide, by decide, fun r r0 r1 => nx_go ?_⟩
  walk_at "dr"
  refine ⟨⟨c, hb⟩, by decide, by decide, fun s s0 s1 => nx_go ?_⟩
  walk_at "dr"
  refine ⟨⟨c, hb⟩, by decide, by decide, fun t t0 t1 => nx_go ?_⟩
  walk_at "dr"
  refine ⟨⟨c, hb⟩, by omega, by omega, fun p p0 p1 => nx_go ?_⟩
  walk_at "dr"
  refine ⟨⟨c, hb⟩, by decide, by decide, fun x x0 x1 => ?_⟩
  obtain ⟨r, rfl⟩ : ∃ m : Nat, r = (m : Nat) := ⟨r.toNat, by omega⟩
  obtain ⟨s, rfl⟩ : ∃ m : Nat, s = (m : Nat) := ⟨s.toNat, by omega⟩
  obtain ⟨t, rfl⟩ : ∃ m : Nat, t = (m : Nat) := ⟨t.toNat, by omega⟩
  generalize hu : sSeq (sAsg (eLst _) (xName 6)) _ = u
  have key : ∀ p : Int, 0 ≤ p → p ≤ 64 → NX u { nx := fun _ S' => Q .non S', rt := Q } [some (.ref b), some (.int n), some (.int (r : Nat)), some (.int (s : Nat)), some (.int (t : Nat)), some (.int p), none, none] S := by
    clear p0 p1 p
    intro p p0 p1
    subst hu
    refine nx_go ?_
    walk_at "dr"
    refine fun a6 h6 => nx_go ?_
    have hb6 := (Se.one (o := .lst [.str "add", .str "sub", .str "mul", .str "div", .str "mod", .str "less", .str "same"]) h6).box hb
    walk_at "dr"
    refine ⟨⟨c, hb6⟩, by decide, by decide, fun k k0 k1 => nx_go ?_⟩
    walk_at "dr"
    refine ⟨fun hk => ?_, fun hk => nx_go ?_⟩
    · have hk : k < 7 := of_decide_eq_true hk
      obtain ⟨k, rfl⟩ : ∃ m : Nat, k = (m : Nat) := ⟨k.toNat, by omega⟩
      have e : atI [D.str "add", .str "sub", .str "mul", .str "div", .str "mod", .str "less", .str "same"] ((k : Nat) : Int) = some (.str (nmC k)) := by
        have hk : k = 0 ∨ k = 1 ∨ k = 2 ∨ k = 3 ∨ k = 4 ∨ k = 5 ∨ k = 6 := by omega
        rcases hk with rfl | rfl | rfl | rfl | rfl | rfl | rfl <;> rfl
      rw [atL_eq sup_same, e]
      walk_at "dr"
      exact q (.calc k r s t) _ (Se.one h6) ⟨by omega, by omega, by omega, by omega⟩
    · have hk : ¬ k < 7 := of_decide_eq_false hk
      walk_at "dr"
      refine w__law_word a hb6 fun v1 S1 hS1 hv1 => ?_
      have hb7 := hS1.box hb6
      refine ⟨⟨c, hb7⟩, by decide, by decide, fun v2 y0 y1 p7 hp7 => ?_⟩
      walk_at "dr"
      refine pickL (by omega) (by simp; omega) fun d hd => ?_
      have : ∃ i, d = insD i ∧ WfI i := by
        simp only [List.mem_cons, List.not_mem_nil, or_false] at hd
        rcases hd with rfl | rfl | rfl | rfl | rfl | rfl | rfl | rfl | rfl | rfl | rfl | rfl | rfl
        · exact ⟨.set r v1, rfl, by omega, hv1⟩
        · exact ⟨.set r v2, rfl, by omega, y0, by omega⟩
        · exact ⟨.copy r s, rfl, by omega, by omega⟩
        · exact ⟨.load r s, rfl, by omega, by omega⟩
        · exact ⟨.store r s, rfl, by omega, by omega⟩
        · exact ⟨.jump p, rfl, by omega, by omega⟩
        · exact ⟨.zero r p, rfl, by omega, by omega, by omega⟩
        · exact ⟨.read r, rfl, show r < 4 by omega⟩
        · exact ⟨.left r, rfl, show r < 4 by omega⟩
        · exact ⟨.write r, rfl, show r < 4 by omega⟩
        · exact ⟨.stop, rfl, trivial⟩
        · exact ⟨.store r s, rfl, by omega, by omega⟩
        · exact ⟨.read r, rfl, show r < 4 by omega⟩
      obtain ⟨i, rfl, hi⟩ := this
      exact q i _ ((Se.one h6).trans (hS1.new hp7)) hi
  refine ⟨fun _ => ⟨⟨c, hb⟩, by decide, by decide, fun p2 q0 q1 => key p2 q0 (by omega)⟩, fun _ => key p p0 (by omega)⟩
theorem w__law_program {n : Int} (h0 : 0 < n) (h1 : n ≤ 64) (hb : S b = some (.box c)) (q : ∀ prog S', Se S S' → 1 ≤ prog.length → (prog.length : Int) ≤ n → (∀ i ∈ prog, WfI i) → Q (progD prog) S') : F__law_program a [.ref b, .int n] S Q Ed := by
  unfold F__law_program B__law_program
  walk_at "dr"
  refine ⟨⟨c, hb⟩, h0, by omega, fun k k0 k1 => nx_go ?_⟩
  walk_at "dr"
  refine ⟨by omega, by omega, ?_⟩
  refine lcD_any (P := fun y => ∃ i, y = insD i ∧ WfI i) (J := Se S) ?_ (fun _ _ => trivial) ?_ (by rw [upto_len]; omega) .refl
  · intro x _ S1 hS1
    refine ⟨trivial, fun R hR => ?_⟩
    walk_at "dr"
    exact w__law_code a (by omega) (by omega) (hS1.box hb) fun i S2 hS2 hi => hR _ _ (hS1.trans hS2) ⟨i, rfl, hi⟩
  · intro ys S1 hl hy hS1 p hp
    obtain ⟨prog, rfl, hw⟩ := map_of hy
    rw [upto_len, List.length_map] at hl
    rw [atL_eq sup_same]
    exact q prog _ (hS1.new hp) (by omega) (by omega) hw
theorem words_lc {i : Nat} {δ : DV} {items : List D} {Q2 : List D → Sto → Prop} {te : DE} (hte : ∀ x ∈ items, ∀ S1, Se S S1 → ∀ R : DK, (∀ v S', Se S S' → wordI v → R (.int v) S') → te (δ.set i (some x)) S1 R) (hl : items.length ≤ 1000000)
    (q : ∀ (l : List Int) S', Se S S' → l.length = items.length → (∀ x ∈ l, wordI x) → Q2 (l.map .int) S') : lcD (fun _ => True) (xName i) tYes' te δ items [] S Q2 := by
  refine lcD_any (P := fun y => ∃ x, y = .int x ∧ wordI x) (J := Se S) (fun x hx S1 hS1 => ⟨trivial, fun R hR => hte x hx S1 hS1 R fun v S' hS' hv => hR _ _ hS' ⟨v, rfl, hv⟩⟩) (fun _ _ => trivial) (fun ys S1 hy1 hy hS1 => ?_) hl .refl
  obtain ⟨l, rfl, hw⟩ := rows_of hy
  rw [List.length_map] at hy1
  exact q l S1 hS1 hy1 hw
theorem w__law_input {n : Int} (h0 : 0 ≤ n) (h1 : n ≤ 64) (hb : S b = some (.box c)) (q : ∀ ws S', Se S S' → (ws.length : Int) ≤ n → (∀ x ∈ ws, wordI x) → Q (iD ws) S') : F__law_input a [.ref b, .int n] S Q Ed := by
  unfold F__law_input B__law_input
  walk_at "dr"
  refine ⟨⟨c, hb⟩, by omega, by omega, fun k k0 k1 => ⟨by omega, by omega, ?_⟩⟩
  refine words_lc (fun x _ S1 hS1 R hR => ?_) (by rw [upto_len]; omega) fun l S1 hS1 hl hw p hp => ?_
  · walk_at "dr"
    exact w__law_word a (hS1.box hb) fun v S2 hS2 hv => hR v S2 (hS1.trans hS2) hv
  · rw [upto_len] at hl
    rw [atL_eq sup_same]
    exact q l _ (hS1.new hp) (by omega) hw
end

section
variable (a : Ad) {S : Sto} {Q : DK} {Ed : XD} {b c : Addr}
theorem w__law_state {ws : List Int} (hws : ws.length ≤ 64) (hb : S b = some (.box c)) (q : ∀ t S', S' b = some (.box c) → WfS ws.length t → t.pl < 8 → t.w.length ≤ 2 → (t.s = 0 ∨ t.s = 1 ∨ t.s = 2) → Q (stD t) S') : F__law_state a [.ref b, iD ws] S Q Ed := by
  unfold F__law_state B__law_state
  walk_at "dr"
  refine fun p0 hp0 => ?_
  rw [atL_eq sup_same]
  refine ⟨by decide, by decide, by decide, fun pm hpm => nx_go ?_⟩
  have bm : b ≠ pm := sne ((Se.one (o := .lst [.int 0]) hp0).box hb) hpm
  have hb1 : ∀ o, sup (sup S p0 (.lst [.int 0])) pm o b = some (.box c) := fun o => by rw [sup_ne bm]; exact (Se.one hp0).box hb
  walk_at "dr"
  refine ⟨⟨c, hb1 _⟩, by decide, by decide, fun k k0 k1 => ⟨by omega, by omega, ?_⟩⟩
  refine forD_inv (fun δ S' => (∃ x3 x4 x5 x6, δ = [some (.ref b), some (iD ws), some (.ref pm), x3, x4, x5, x6]) ∧ S' b = some (.box c) ∧ ∃ m : List Int, m.length = 64 ∧ (∀ x ∈ m, wordI x) ∧ S' pm = some (.lst (m.map .int))) ?_ ?_
    ⟨⟨_, _, _, _, rfl⟩, hb1 _, List.replicate 64 0, by decide, fun x hx => by rw [(List.mem_replicate.mp hx).2]; constructor <;> decide, by rw [sup_same]; rfl⟩
  · rintro x hx Nx δ S1 ⟨⟨x3, x4, x5, x6, rfl⟩, hb2, m, hm, hw, hpm2⟩ hN
    refine ⟨trivial, ?_⟩
    walk_at "dr"
    refine w__law_word a hb2 fun v S2 hS2 hv => ?_
    refine ⟨⟨c, hS2.box hb2⟩, by decide, by decide, fun i i0 i1 => ?_⟩
    rw [atL_eq (hS2 _ _ hpm2)]
    have e : ixN (m.map D.int).length i = some i.toNat := by
      unfold ixN
      rw [List.length_map, hm, if_pos i0, if_pos (by omega)]
    rw [e]
    dsimp only
    refine hN _ _ ⟨⟨_, _, _, _, rfl⟩, by rw [sup_ne bm]; exact hS2.box hb2, m.set i.toNat v, by simp [hm], fun x hx => ?_, by rw [sup_same, List.map_set]⟩
    rcases List.mem_or_eq_of_mem_set hx with h | h
    · exact hw x h
    · rw [h]; exact hv
  · rintro δ S1 ⟨⟨x3, x4, x5, x6, rfl⟩, hb2, m, hm, hw, hpm2⟩
    refine ⟨trivial, nx_go ?_⟩
    walk_at "dr"
    refine ⟨by decide, by decide, ?_⟩
    refine words_lc (fun x _ S2 hS2 R hR => ?_) (by decide) fun r S2 hS2 hr hrw p3 hp3 => ?_
    · walk_at "dr"
      exact w__law_word a (hS2.box hb2) fun v S3 hS3 hv => hR v S3 (hS2.trans hS3) hv
    rw [atL_eq sup_same]
    refine nx_go ?_
    have hS3 := hS2.new (o := .lst (r.map .int)) hp3
    walk_at "dr"
    refine ⟨⟨c, hS3.box hb2⟩, by decide, by decide, fun k2 y0 y1 => ⟨by omega, by omega, ?_⟩⟩
    refine words_lc (fun x _ S2 hS2 R hR => ?_) (by rw [upto_len]; omega) fun w S4 hS4 hwl hww p4 hp4 => ?_
    · walk_at "dr"
      exact w__law_word a (hS2.box (hS3.box hb2)) fun v S3 hS3 hv => hR v S3 (hS2.trans hS3) hv
    rw [atL_eq sup_same]
    refine nx_go ?_
    have hS5 := hS3.trans (hS4.new (o := .lst (w.map .int)) hp4)
    generalize sup S4 p4 _ = S5 at hS5 ⊢
    walk_at "dr"
    refine fun p6 hp6 => ?_
    have hS6 := hS5.new (o := .lst [.int 0, .int 0, .int 0, .int 0, .int 1, .int 2]) hp6
    refine ⟨⟨c, hS6.box hb2⟩, by decide, by decide, fun i6 z0 z1 => pickL z0 z1 fun d hd => nx_go ?_⟩
    walk_at "dr"
    refine ⟨⟨c, hS6.box hb2⟩, by decide, by decide, fun pl u0 u1 => ?_⟩
    rw [atL_eq (hS6 _ _ hpm2)]
    refine ⟨⟨c, hS6.box hb2⟩, by omega, by omega, fun po v0 v1 => ?_⟩
    have : ∃ s : Int, d = .int s ∧ (s = 0 ∨ s = 1 ∨ s = 2) := by
      simp only [List.mem_cons, List.not_mem_nil, or_false] at hd
      rcases hd with rfl | rfl | rfl | rfl | rfl | rfl <;> exact ⟨_, rfl, by decide⟩
    obtain ⟨s, rfl, hs⟩ := this
    rw [upto_len] at hwl hr
    exact q ⟨pl, r, m, po, w, s⟩ _ (hS6.box hb2) ⟨u0, hr, hrw, hm, hw, ⟨v0, by show po ≤ _; omega⟩, hww⟩ u1 (by show w.length ≤ 2; omega) hs
end

end Sd

set_option Elab.async false
set_option linter.all false
set_option maxRecDepth 100000
set_option maxHeartbeats 1000000
namespace Sd
open PySem PySem.Spec PyProof.Rows L2 GxR
local macro_rules | `(tactic| walk_at "dr") => `(tactic| try simp only [shut_eq, eVar, eC, eKIx, eKIn, dIsB, kLook_c, atI_c0, atI_c1, atI_c2, atI_c3, atI_c4, atI_c5, cut_t1, cut_t2, cut_t3, cut_t4, cut_t5, cut_d1, cut_d2, cut_d3, tk1, tk2, tk5, dp1, dp2,  eOp, eUn, asB, eAnd, eOr, eNot, eIf, eChain, tV, tAnd', tOr', tNot', aNil, aCons, eTup, eLst, eCB, eDK, eDT, dAdd, dI, dSub, dMod, dDiv, dXor, dShl, dShr, dMul, dCmp, dLe, dLt, dGe, dGt, dEq, dNe, dIn, dIsN, dIx_t, dIx_c, dIx_s, dIx_r, dIx_iD, dNeg, dLen_iD, dLen_s, dLen_t, dLen_c, dLen_r, dList, dTuple, dInt, dIsi, dAll, oNone, oSome, dSl, eSl,
  xName, xNil, xCons, xTup, xSub, sNext, sSeq, sBreak, sCont, sDrop, sRet, sRetN, sIf, sAsg, sAug, sFor, iL, iT, iS, iR1, iR2, iRev1, iRev2, tYes', eLc, eAll, dIAdd, dISub, eBM, eBM0, asRef, eDGet, eDGet1, eDGet2, eDIn, eDNotIn, sDPutD, sDDelD, eCa, eMe, eMa, eFld, sFldD, sFldAugD, setO, dAppend, dPopAt, isBl, isTr, List.length_set, List.lookup, Nat.reduceLT, Nat.reduceLeDiff, Nat.lt_irrefl, Nat.not_lt_zero, Nat.zero_le, Nat.le_refl, Nat.zero_lt_succ, Nat.lt_add_one, sRaise, eJoin, dJoin, F__law_draw, F__law_box, wDraw, wBox, br, Int.natCast_nonneg, Int.cast_ofNat_Int, Int.reduceEq, 
  dstart, List.map_cons, List.map_nil, List.length_cons, List.length_nil, List.replicate, List.cons_append, List.nil_append, List.append_nil, List.getElem?_cons_zero, List.getElem?_cons_succ, List.set_cons_zero, List.set_cons_succ, Nat.sub_self, Nat.reduceAdd, Nat.reduceSub, wipeD,
  dat_i, dat_s, dat_b, dat_n, dats_c, dats_e, eqD_ii, eqD_ss, eqD_bb, eqD_nn, eqD_is, eqD_si, isNon, unC_i, unC_s, unC_b, unC_n, unC_t, unC_c, flatD, List.all_cons, List.all_nil, List.any_cons, List.any_nil, decide_true, decide_false, List.mem_cons, tyD, isTy, tyKn, String.reduceBEq, Bool.or_true, Bool.true_or, Bool.or_false, Bool.false_or, Bool.and_true, Bool.true_and, Bool.and_false, Bool.false_and, Bool.or_self, Bool.and_self, true_and, and_true, true_implies, false_implies, forall_const, reduceCtorEq, Bool.true_eq_false, Bool.false_eq_true, if_true, if_false, ite_true, ite_false, Bool.not_true, Bool.not_false, implies_true, eq_self])
local macro_rules | `(tactic| walk_at "drn") => `(tactic| try simp only [shut_eq, eVar, eC, eKIx, eKIn, dIsB, kLook_c, atI_c0, atI_c1, atI_c2, atI_c3, atI_c4, atI_c5, cut_t1, cut_t2, cut_t3, cut_t4, cut_t5, cut_d1, cut_d2, cut_d3, tk1, tk2, tk5, dp1, dp2,  eOp, eUn, asB, eAnd, eOr, eNot, eIf, eChain, tV, tAnd', tOr', tNot', aNil, aCons, eTup, eLst, eCB, eDK, eDT, dAdd, dI, dSub, dMod, dDiv, dXor, dShl, dShr, dMul, dCmp, dLe, dLt, dGe, dGt, dEq, dNe, dIn, dIsN, dIx_t, dIx_c, dIx_s, dIx_r, dIx_iD, dNeg, dLen_iD, dLen_s, dLen_t, dLen_c, dLen_r, dList, dTuple, dInt, dIsi, dAll, oNone, oSome, dSl, eSl,
  xName, xNil, xCons, xTup, xSub, sNext, sSeq, NX_eq, sBreak, sCont, sDrop, sRet, sRetN, sIf, sAsg, sAug, sFor, iL, iT, iS, iR1, iR2, iRev1, iRev2, tYes', eLc, eAll, dIAdd, dISub, eBM, eBM0, asRef, eDGet, eDGet1, eDGet2, eDIn, eDNotIn, sDPutD, sDDelD, eCa, eMe, eMa, eFld, sFldD, sFldAugD, setO, dAppend, dPopAt, isBl, isTr, List.length_set, List.lookup, Nat.reduceLT, Nat.reduceLeDiff, Nat.lt_irrefl, Nat.not_lt_zero, Nat.zero_le, Nat.le_refl, Nat.zero_lt_succ, Nat.lt_add_one, sRaise, eJoin, dJoin, F__law_draw, F__law_box, wDraw, wBox, br, Int.natCast_nonneg, Int.cast_ofNat_Int, Int.reduceEq, 
  dstart, List.map_cons, List.map_nil, List.length_cons, List.length_nil, List.replicate, List.cons_append, List.nil_append, List.append_nil, List.getElem?_cons_zero, List.getElem?_cons_succ, List.set_cons_zero, List.set_cons_succ, Nat.sub_self, Nat.reduceAdd, Nat.reduceSub, wipeD,
  dat_i, dat_s, dat_b, dat_n, dats_c, dats_e, eqD_ii, eqD_ss, eqD_bb, eqD_nn, eqD_is, eqD_si, isNon, unC_i, unC_s, unC_b, unC_n, unC_t, unC_c, flatD, List.all_cons, List.all_nil, List.any_cons, List.any_nil, decide_true, decide_false, List.mem_cons, tyD, isTy, tyKn, String.reduceBEq, Bool.or_true, Bool.true_or, Bool.or_false, Bool.false_or, Bool.and_true, Bool.true_and, Bool.and_false, Bool.false_and, Bool.or_self, Bool.and_self, true_and, and_true, true_implies, false_implies, forall_const, reduceCtorEq, Bool.true_eq_false, Bool.false_eq_true, if_true, if_false, ite_true, ite_false, Bool.not_true, Bool.not_false, implies_true, eq_self])

local macro_rules | `(tactic| walk_at "sd") => `(tactic| try simp only [sd_0_0, sd_0_1, sd_0_2, sd_0_3, sd_0_4, sd_0_5, sd_0_6, sd_0_7, sd_0_8, sd_0_9, sd_0_10, sd_0_11, sd_0_12, sd_0_13, sd_0_14, sd_0_15, sd_0_16, sd_0_17, sd_0_18, sd_1_0, sd_1_1, sd_1_2, sd_1_3, sd_1_4, sd_1_5, sd_1_6, sd_1_7, sd_1_8, sd_1_9, sd_1_10, sd_1_11, sd_1_12, sd_1_13, sd_1_14, sd_1_15, sd_1_16, sd_1_17, sd_1_18, sd_2_0, sd_2_1, sd_2_2, sd_2_3, sd_2_4, sd_2_5, sd_2_6, sd_2_7, sd_2_8, sd_2_9, sd_2_10, sd_2_11, sd_2_12, sd_2_13, sd_2_14, sd_2_15, sd_2_16, sd_2_17, sd_2_18, sd_3_0, sd_3_1, sd_3_2, sd_3_3, sd_3_4, sd_3_5, sd_3_6, sd_3_7, sd_3_8, sd_3_9, sd_3_10, sd_3_11, sd_3_12, sd_3_13, sd_3_14, sd_3_15, sd_3_16, sd_3_17, sd_3_18, sd_4_0, sd_4_1, sd_4_2, sd_4_3, sd_4_4, sd_4_5, sd_4_6, sd_4_7, sd_4_8, sd_4_9, sd_4_10, sd_4_11, sd_4_12, sd_4_13, sd_4_14, sd_4_15, sd_4_16, sd_4_17, sd_4_18, sd_5_0, sd_5_1, sd_5_2, sd_5_3, sd_5_4, sd_5_5, sd_5_6, sd_5_7, sd_5_8, sd_5_9, sd_5_10, sd_5_11, sd_5_12, sd_5_13, sd_5_14, sd_5_15, sd_5_16, sd_5_17, sd_5_18, sd_6_0, sd_6_1, sd_6_2, sd_6_3, sd_6_4, sd_6_5, sd_6_6, sd_6_7, sd_6_8, sd_6_9, sd_6_10, sd_6_11, sd_6_12, sd_6_13, sd_6_14, sd_6_15, sd_6_16, sd_6_17, sd_6_18, sd_7_0, sd_7_1, sd_7_2, sd_7_3, sd_7_4, sd_7_5, sd_7_6, sd_7_7, sd_7_8, sd_7_9, sd_7_10, sd_7_11, sd_7_12, sd_7_13, sd_7_14, sd_7_15, sd_7_16, sd_7_17, sd_7_18, sd_8_0, sd_8_1, sd_8_2, sd_8_3, sd_8_4, sd_8_5, sd_8_6, sd_8_7, sd_8_8, sd_8_9, sd_8_10, sd_8_11, sd_8_12, sd_8_13, sd_8_14, sd_8_15, sd_8_16, sd_8_17, sd_8_18, sd_9_0, sd_9_1, sd_9_2, sd_9_3, sd_9_4, sd_9_5, sd_9_6, sd_9_7, sd_9_8, sd_9_9, sd_9_10, sd_9_11, sd_9_12, sd_9_13, sd_9_14, sd_9_15, sd_9_16, sd_9_17, sd_9_18, sd_10_0, sd_10_1, sd_10_2, sd_10_3, sd_10_4, sd_10_5, sd_10_6, sd_10_7, sd_10_8, sd_10_9, sd_10_10, sd_10_11, sd_10_12, sd_10_13, sd_10_14, sd_10_15, sd_10_16, sd_10_17, sd_10_18, sd_11_0, sd_11_1, sd_11_2, sd_11_3, sd_11_4, sd_11_5, sd_11_6, sd_11_7, sd_11_8, sd_11_9, sd_11_10, sd_11_11, sd_11_12, sd_11_13, sd_11_14, sd_11_15, sd_11_16, sd_11_17, sd_11_18, sd_12_0, sd_12_1, sd_12_2, sd_12_3, sd_12_4, sd_12_5, sd_12_6, sd_12_7, sd_12_8, sd_12_9, sd_12_10, sd_12_11, sd_12_12, sd_12_13, sd_12_14, sd_12_15, sd_12_16, sd_12_17, sd_12_18, sd_13_0, sd_13_1, sd_13_2, sd_13_3, sd_13_4, sd_13_5, sd_13_6, sd_13_7, sd_13_8, sd_13_9, sd_13_10, sd_13_11, sd_13_12, sd_13_13, sd_13_14, sd_13_15, sd_13_16, sd_13_17, sd_13_18, sd_14_0, sd_14_1, sd_14_2, sd_14_3, sd_14_4, sd_14_5, sd_14_6, sd_14_7, sd_14_8, sd_14_9, sd_14_10, sd_14_11, sd_14_12, sd_14_13, sd_14_14, sd_14_15, sd_14_16, sd_14_17, sd_14_18, sd_15_0, sd_15_1, sd_15_2, sd_15_3, sd_15_4, sd_15_5, sd_15_6, sd_15_7, sd_15_8, sd_15_9, sd_15_10, sd_15_11, sd_15_12, sd_15_13, sd_15_14, sd_15_15, sd_15_16, sd_15_17, sd_15_18, sd_16_0, sd_16_1, sd_16_2, sd_16_3, sd_16_4, sd_16_5, sd_16_6, sd_16_7, sd_16_8, sd_16_9, sd_16_10, sd_16_11, sd_16_12, sd_16_13, sd_16_14, sd_16_15, sd_16_16, sd_16_17, sd_16_18, sd_17_0, sd_17_1, sd_17_2, sd_17_3, sd_17_4, sd_17_5, sd_17_6, sd_17_7, sd_17_8, sd_17_9, sd_17_10, sd_17_11, sd_17_12, sd_17_13, sd_17_14, sd_17_15, sd_17_16, sd_17_17, sd_17_18, sd_18_0, sd_18_1, sd_18_2, sd_18_3, sd_18_4, sd_18_5, sd_18_6, sd_18_7, sd_18_8, sd_18_9, sd_18_10, sd_18_11, sd_18_12, sd_18_13, sd_18_14, sd_18_15, sd_18_16, sd_18_17, sd_18_18])

def opB (k : Str) (v : D) : Bool := if decide (k = "r") = true then numD 3 v else if decide (k = "p") = true then numD 64 v else numD 4294967295 v
theorem w__is_operand (a : Ad) {k : Str} {v : D} {S : Sto} {Q : DK} {Ed : XD} (hv : dat 60 v = true) : F__is_operand a [.str k, v] S Q Ed = Q (.bl (opB k v)) S := by
  unfold F__is_operand B__is_operand
  walk_at "drn"
  rw [w_is_number a hv, w_is_number a hv, w_is_word a hv]
  unfold opB
  cases decide (k = "r") <;> cases decide (k = "p") <;> simp
def itB : D → Bool
  | .tup [.str k, v] => opB k v
  | _ => false
def insB (a : Ad) : D → Bool
  | .tup (.str z :: xs) => (match kLook (tb_OPERANDS a) z with
    | some (some (.str ks)) => decide (xs.length = ks.length) && (zipX ks xs).all itB
    | _ => false)
  | _ => false
theorem ops_gen {z : Str} : ∀ {tb : KTb}, (∀ p ∈ tb, p.2 = none ∨ ∃ ks, p.2 = some (.str ks)) → kLook tb z = none ∨ kLook tb z = some none ∨ ∃ ks, kLook tb z = some (some (.str ks))
  | [], _ => .inl rfl
  | p :: tb, h => by
    rw [kLook_c]
    by_cases c : decide (p.1 = z) = true
    · rw [if_pos c]
      rcases h p List.mem_cons_self with e | ⟨ks, e⟩
      · exact .inr (.inl (by rw [e]))
      · exact .inr (.inr ⟨ks, by rw [e]⟩)
    · rw [if_neg c]
      exact ops_gen fun q hq => h q (List.mem_cons_of_mem _ hq)
theorem ops_look (a : Ad) (z : Str) : kLook (tb_OPERANDS a) z = none ∨ kLook (tb_OPERANDS a) z = some none ∨ ∃ ks, kLook (tb_OPERANDS a) z = some (some (.str ks)) := by
  refine ops_gen fun p hp => ?_
  unfold tb_OPERANDS at hp
  have : ∀ p ∈ tb_OPERANDS a, (match p.2 with | none => true | some (.str _) => true | _ => false) = true := List.all_eq_true.mp (by unfold tb_OPERANDS; rfl)
  have e := this p hp
  split at e
  · rename_i h; exact .inl h
  · rename_i h; exact .inr ⟨_, h⟩
  · cases e
theorem allD_by {ok : Sto → Prop} {S : Sto} {g : DG} {te : DE} {δ : DV} {p : D → Bool} {Q : Bool → Sto → Prop} (hok : ok S) : ∀ {items : List D}, (∀ x ∈ items, ∀ R : DK, (g x δ S fun δ2 S2 => te δ2 S2 R) = R (.bl (p x)) S) → allD ok g te δ items S Q = Q (items.all p) S
  | [], _ => by simp [allD, hok]
  | x :: xs, h => by
    rw [allD, h x List.mem_cons_self]
    have ih := allD_by (Q := Q) hok (items := xs) fun y hy => h y (List.mem_cons_of_mem _ hy)
    simp only [asB, br, hok, true_and, ih, List.all_cons]
    cases p x <;> simp
theorem zipX_mem {z : Str} {ds : List D} {d : D} (h : d ∈ zipX z ds) : ∃ c v, d = .tup [.str ⟨#[c]⟩, v] ∧ v ∈ ds := by
  unfold zipX at h
  obtain ⟨i, hi, rfl⟩ := List.getElem_of_mem h
  simp only [List.length_zipWith] at hi
  rw [List.getElem_zipWith]
  refine ⟨z.cps.toList[i]'(by simp [signs] at hi ⊢; omega), ds[i]'(by omega), by simp [signs], List.getElem_mem _⟩
theorem w_is_instruction (a : Ad) {v : D} {S : Sto} {Q : DK} {Ed : XD} (hv : dat 60 v = true) (hk : ∀ z xs, v = .tup (.str z :: xs) → kLook (tb_OPERANDS a) z ≠ none) (q : Q (.bl (insB a v)) S) : F_is_instruction a [v] S Q Ed := by
  unfold F_is_instruction B_is_instruction
  cases v
  all_goals first | (simp [dat] at hv; done) | walk_at "drn"
  all_goals first | exact q | skip
  rename_i ds
  obtain ⟨hl, hd⟩ := dat_tup hv
  cases ds with
  | nil => exact ⟨fun _ => q, fun z => (by cases z)⟩
  | cons x xs =>
    have e1 : decide (((x :: xs).length : Int) = 0) = false := by rw [List.length_cons]; exact decide_eq_false (by omega)
    have e2 : atI (x :: xs) 0 = some x := atI_c0
    rw [e1, e2]
    have dx := hd x List.mem_cons_self
    refine ⟨fun z => (by cases z), fun _ => ?_⟩
    cases x
    all_goals first | (simp [dat] at dx; done) | skip
    all_goals dsimp only
    all_goals first | exact ⟨fun _ => q, fun z => absurd z (by decide)⟩ | skip
    rename_i z
    refine ⟨fun h => absurd h (by decide), fun _ => ?_⟩
    have q : Q (.bl (match kLook (tb_OPERANDS a) z with | some (some (.str ks)) => decide (xs.length = ks.length) && (zipX ks xs).all itB | _ => false)) S := q
    rcases ops_look a z with h | h | ⟨ks, h⟩
    · exact absurd h (hk z xs rfl)
    · rw [h] at q ⊢
      exact ⟨fun _ => q, fun z => (by cases z)⟩
    · rw [h] at q ⊢
      dsimp only at q ⊢
      refine ⟨fun z => (by cases z), fun _ => ?_⟩
      have el : dLen [.str ks] S = fun R => R (.int (ks.length : Nat)) S := rfl
      rw [el]
      dsimp only
      by_cases c : xs.length = ks.length
      · rw [decide_eq_true c, Bool.true_and] at q
        have e3 : decide (((D.str z :: xs).length : Int) = (ks.length : Nat) + 1) = true := by rw [List.length_cons]; exact decide_eq_true (by omega)
        rw [e3]
        refine ⟨fun z => (by cases z), fun _ => ?_⟩
        unfold iZX
        walk_at "drn"
        have key : ∀ R : Bool → Sto → Prop, allD (fun _ => True) (xTup 2 (xCons (xName 3) (xCons (xName 4) xNil))) (eCa (F__is_operand a) xF (aCons (eVar 3) (aCons (eVar 4) aNil))) [some (D.tup (D.str z :: xs)), some (D.str z), some (D.str ks), none, none] (zipX ks xs) S R = R ((zipX ks xs).all itB) S := by
          intro R
          refine allD_by (p := itB) trivial ?_
          intro d hdm R
          obtain ⟨cc, v, rfl, hv⟩ := zipX_mem hdm
          walk_at "drn"
          rw [w__is_operand a (dat_up (hd v (List.mem_cons_of_mem _ hv)))]
          rfl
        rw [key]
        exact q
      · rw [decide_eq_false c, Bool.false_and] at q
        have e3 : decide (((D.str z :: xs).length : Int) = (ks.length : Nat) + 1) = false := by rw [List.length_cons]; exact decide_eq_false (by omega)
        rw [e3]
        exact ⟨fun _ => q, fun z => (by cases z)⟩
theorem allD_im {ok : Sto → Prop} {S : Sto} {g : DG} {te : DE} {δ : DV} {p : D → Bool} {Q : Bool → Sto → Prop} (hok : ok S) : ∀ {items : List D}, (∀ x ∈ items, ∀ R : DK, R (.bl (p x)) S → g x δ S fun δ2 S2 => te δ2 S2 R) → Q (items.all p) S → allD ok g te δ items S Q
  | [], _, q => ⟨hok, q⟩
  | x :: xs, h, q => by
    rw [allD]
    refine ⟨hok, h x List.mem_cons_self _ ?_⟩
    show br (p x) _ _
    rw [List.all_cons] at q
    cases hp : p x with
    | true =>
      rw [hp, Bool.true_and] at q
      exact ⟨fun _ => allD_im hok (fun y hy => h y (List.mem_cons_of_mem _ hy)) q, fun z => (by cases z)⟩
    | false =>
      rw [hp, Bool.false_and] at q
      exact ⟨fun z => (by cases z), fun _ => q⟩
/-- a name that the table tells of -/
def inOps (a : Ad) (d : D) : Prop := ∀ z xs, d = .tup (.str z :: xs) → kLook (tb_OPERANDS a) z ≠ none
def progB (a : Ad) : D → Bool
  | .tup ds => decide (1 ≤ (ds.length : Int)) && decide ((ds.length : Int) ≤ 64) && ds.all (insB a)
  | _ => false
theorem w_is_program (a : Ad) {v : D} {S : Sto} {Q : DK} {Ed : XD} (hv : dat 60 v = true) (hk : ∀ ds, v = .tup ds → ∀ d ∈ ds, inOps a d) (q : Q (.bl (progB a v)) S) : F_is_program a [v] S Q Ed := by
  unfold F_is_program B_is_program
  cases v
  all_goals first | (simp [dat] at hv; done) | walk_at "drn"
  all_goals first | exact q | skip
  rename_i ds
  obtain ⟨hl, hd⟩ := dat_tup hv
  have q : Q (.bl (decide (1 ≤ (ds.length : Int)) && decide ((ds.length : Int) ≤ 64) && ds.all (insB a))) S := q
  have key : ∀ (x : Option D) (R : Bool → Sto → Prop), R (ds.all (insB a)) S → allD (fun _ => True) (xName 1) (eCa (F_is_instruction a) xF (aCons (eVar 1) aNil)) [x, none] ds S R := by
    intro x R hR
    refine allD_im trivial (fun d hdm R hR => ?_) hR
    walk_at "drn"
    exact w_is_instruction a (dat_up (hd d hdm)) (hk ds rfl d hdm) hR
  by_cases c1 : 1 ≤ (ds.length : Int) <;> by_cases c2 : (ds.length : Int) ≤ 64 <;> simp only [c1, c2, decide_true, decide_false, Bool.true_and, Bool.false_and, Bool.and_true, Bool.and_false] at q ⊢
  · exact ⟨fun _ => ⟨fun z => (by cases z), fun _ => key _ _ q⟩, fun z => (by cases z)⟩
  · exact ⟨fun _ => ⟨fun _ => q, fun z => (by cases z)⟩, fun z => (by cases z)⟩
  · exact ⟨fun z => (by cases z), fun _ => q⟩
  · exact ⟨fun z => (by cases z), fun _ => q⟩
end Sd

set_option Elab.async false
set_option linter.all false
set_option maxRecDepth 100000
set_option maxHeartbeats 1000000
namespace Sd
open PySem PySem.Spec PyProof.Rows L2 GxR
theorem zx_rw {x y : D} : zipX "rw" [x, y] = [.tup [.str "r", x], .tup [.str "w", y]] := rfl
theorem zx_rr {x y : D} : zipX "rr" [x, y] = [.tup [.str "r", x], .tup [.str "r", y]] := rfl
theorem zx_rp {x y : D} : zipX "rp" [x, y] = [.tup [.str "r", x], .tup [.str "p", y]] := rfl
theorem zx_rrr {x y z : D} : zipX "rrr" [x, y, z] = [.tup [.str "r", x], .tup [.str "r", y], .tup [.str "r", z]] := rfl
theorem zx_r {x : D} : zipX "r" [x] = [.tup [.str "r", x]] := rfl
theorem zx_p {x : D} : zipX "p" [x] = [.tup [.str "p", x]] := rfl
theorem op_r {v : D} : opB "r" v = numD 3 v := by
  unfold opB
  rw [if_pos (by decide +kernel)]
theorem op_p {v : D} : opB "p" v = numD 64 v := by
  unfold opB
  rw [if_neg (by decide +kernel), if_pos (by decide +kernel)]
theorem op_w {v : D} : opB "w" v = numD 4294967295 v := by
  unfold opB
  rw [if_neg (by decide +kernel), if_neg (by decide +kernel)]
section
variable (a : Ad)
theorem lk_set : kLook (tb_OPERANDS a) "set" = some (some (.str "rw")) := rfl
theorem lk_sets : kLook (tb_OPERANDS a) "sets" = some none := rfl
theorem lk_copy : kLook (tb_OPERANDS a) "copy" = some (some (.str "rr")) := rfl
theorem lk_copys : kLook (tb_OPERANDS a) "copys" = some none := rfl
theorem lk_add : kLook (tb_OPERANDS a) "add" = some (some (.str "rrr")) := rfl
theorem lk_adds : kLook (tb_OPERANDS a) "adds" = some none := rfl
theorem lk_sub : kLook (tb_OPERANDS a) "sub" = some (some (.str "rrr")) := rfl
theorem lk_subs : kLook (tb_OPERANDS a) "subs" = some none := rfl
theorem lk_mul : kLook (tb_OPERANDS a) "mul" = some (some (.str "rrr")) := rfl
theorem lk_muls : kLook (tb_OPERANDS a) "muls" = some none := rfl
theorem lk_div : kLook (tb_OPERANDS a) "div" = some (some (.str "rrr")) := rfl
theorem lk_divs : kLook (tb_OPERANDS a) "divs" = some none := rfl
theorem lk_mod : kLook (tb_OPERANDS a) "mod" = some (some (.str "rrr")) := rfl
theorem lk_mods : kLook (tb_OPERANDS a) "mods" = some none := rfl
theorem lk_less : kLook (tb_OPERANDS a) "less" = some (some (.str "rrr")) := rfl
theorem lk_lesss : kLook (tb_OPERANDS a) "lesss" = some none := rfl
theorem lk_same : kLook (tb_OPERANDS a) "same" = some (some (.str "rrr")) := rfl
theorem lk_sames : kLook (tb_OPERANDS a) "sames" = some none := rfl
theorem lk_load : kLook (tb_OPERANDS a) "load" = some (some (.str "rr")) := rfl
theorem lk_loads : kLook (tb_OPERANDS a) "loads" = some none := rfl
theorem lk_store : kLook (tb_OPERANDS a) "store" = some (some (.str "rr")) := rfl
theorem lk_stores : kLook (tb_OPERANDS a) "stores" = some none := rfl
theorem lk_jump : kLook (tb_OPERANDS a) "jump" = some (some (.str "p")) := rfl
theorem lk_jumps : kLook (tb_OPERANDS a) "jumps" = some none := rfl
theorem lk_zero : kLook (tb_OPERANDS a) "zero" = some (some (.str "rp")) := rfl
theorem lk_zeros : kLook (tb_OPERANDS a) "zeros" = some none := rfl
theorem lk_read : kLook (tb_OPERANDS a) "read" = some (some (.str "r")) := rfl
theorem lk_reads : kLook (tb_OPERANDS a) "reads" = some none := rfl
theorem lk_left : kLook (tb_OPERANDS a) "left" = some (some (.str "r")) := rfl
theorem lk_lefts : kLook (tb_OPERANDS a) "lefts" = some none := rfl
theorem lk_write : kLook (tb_OPERANDS a) "write" = some (some (.str "r")) := rfl
theorem lk_writes : kLook (tb_OPERANDS a) "writes" = some none := rfl
theorem lk_stop : kLook (tb_OPERANDS a) "stop" = some (some (.str "")) := rfl
theorem lk_stops : kLook (tb_OPERANDS a) "stops" = some none := rfl
theorem numD_nat {x : Nat} {m : Int} (h : (x : Int) ≤ m) : numD m (.int (x : Nat)) = true := by
  simp [numD, h]
theorem ins_ok {i : Ins} (h : WfI i) : insB a (insD i) = true := by
  cases i with
  | set d w =>
    obtain ⟨h1, h2, h3⟩ := h
    show (match kLook (tb_OPERANDS a) "set" with | some (some (.str ks)) => _ | _ => false) = true
    rw [lk_set]
    show (true && (zipX "rw" [.int (d : Nat), .int w]).all itB) = true
    rw [zx_rw]
    simp only [List.all_cons, List.all_nil, itB, op_r, op_w, numD_nat (show (d : Int) ≤ 3 by omega)]
    simp [numD, h2]
    omega
  | copy d s =>
    obtain ⟨h1, h2⟩ := h
    show (match kLook (tb_OPERANDS a) "copy" with | some (some (.str ks)) => _ | _ => false) = true
    rw [lk_copy]
    show (true && (zipX "rr" [.int (d : Nat), .int (s : Nat)]).all itB) = true
    rw [zx_rr]
    simp only [List.all_cons, List.all_nil, itB, op_r, op_p, op_w, numD_nat (show (d : Int) ≤ 3 by omega), numD_nat (show (s : Int) ≤ 3 by omega), Bool.true_and, Bool.and_true]
  | load d s =>
    obtain ⟨h1, h2⟩ := h
    show (match kLook (tb_OPERANDS a) "load" with | some (some (.str ks)) => _ | _ => false) = true
    rw [lk_load]
    show (true && (zipX "rr" [.int (d : Nat), .int (s : Nat)]).all itB) = true
    rw [zx_rr]
    simp only [List.all_cons, List.all_nil, itB, op_r, op_p, op_w, numD_nat (show (d : Int) ≤ 3 by omega), numD_nat (show (s : Int) ≤ 3 by omega), Bool.true_and, Bool.and_true]
  | store s p =>
    obtain ⟨h1, h2⟩ := h
    show (match kLook (tb_OPERANDS a) "store" with | some (some (.str ks)) => _ | _ => false) = true
    rw [lk_store]
    show (true && (zipX "rr" [.int (s : Nat), .int (p : Nat)]).all itB) = true
    rw [zx_rr]
    simp only [List.all_cons, List.all_nil, itB, op_r, op_p, op_w, numD_nat (show (s : Int) ≤ 3 by omega), numD_nat (show (p : Int) ≤ 3 by omega), Bool.true_and, Bool.and_true]
  | read d =>
    have h1 := h
    unfold WfI at h1
    show (match kLook (tb_OPERANDS a) "read" with | some (some (.str ks)) => _ | _ => false) = true
    rw [lk_read]
    show (true && (zipX "r" [.int (d : Nat)]).all itB) = true
    rw [zx_r]
    simp only [List.all_cons, List.all_nil, itB, op_r, op_p, op_w, numD_nat (show (d : Int) ≤ 3 by omega), Bool.true_and, Bool.and_true]
  | left d =>
    have h1 := h
    unfold WfI at h1
    show (match kLook (tb_OPERANDS a) "left" with | some (some (.str ks)) => _ | _ => false) = true
    rw [lk_left]
    show (true && (zipX "r" [.int (d : Nat)]).all itB) = true
    rw [zx_r]
    simp only [List.all_cons, List.all_nil, itB, op_r, op_p, op_w, numD_nat (show (d : Int) ≤ 3 by omega), Bool.true_and, Bool.and_true]
  | write s =>
    have h1 := h
    unfold WfI at h1
    show (match kLook (tb_OPERANDS a) "write" with | some (some (.str ks)) => _ | _ => false) = true
    rw [lk_write]
    show (true && (zipX "r" [.int (s : Nat)]).all itB) = true
    rw [zx_r]
    simp only [List.all_cons, List.all_nil, itB, op_r, op_p, op_w, numD_nat (show (s : Int) ≤ 3 by omega), Bool.true_and, Bool.and_true]
  | jump p =>
    obtain ⟨h1, h2⟩ := h
    show (match kLook (tb_OPERANDS a) "jump" with | some (some (.str ks)) => _ | _ => false) = true
    rw [lk_jump]
    show (true && (zipX "p" [.int p]).all itB) = true
    rw [zx_p]
    simp only [List.all_cons, List.all_nil, itB, op_r, op_p, op_w, Bool.true_and, Bool.and_true]
    simp [numD, h1, h2]
  | zero s p =>
    obtain ⟨h0, h1, h2⟩ := h
    show (match kLook (tb_OPERANDS a) "zero" with | some (some (.str ks)) => _ | _ => false) = true
    rw [lk_zero]
    show (true && (zipX "rp" [.int (s : Nat), .int p]).all itB) = true
    rw [zx_rp]
    simp only [List.all_cons, List.all_nil, itB, op_r, op_p, op_w, numD_nat (show (s : Int) ≤ 3 by omega), Bool.true_and, Bool.and_true]
    simp [numD, h1, h2]
  | stop => rfl
  | «calc» k d x y =>
    obtain ⟨h0, h1, h2, h3⟩ := h
    have : k = 0 ∨ k = 1 ∨ k = 2 ∨ k = 3 ∨ k = 4 ∨ k = 5 ∨ k = 6 := by omega
    have g : ∀ z, kLook (tb_OPERANDS a) z = some (some (.str "rrr")) → insB a (.tup [.str z, .int (d : Nat), .int (x : Nat), .int (y : Nat)]) = true := by
      intro z hz
      show (match kLook (tb_OPERANDS a) z with | some (some (.str ks)) => decide ([D.int (d : Nat), .int (x : Nat), .int (y : Nat)].length = ks.length) && (zipX ks [.int (d : Nat), .int (x : Nat), .int (y : Nat)]).all itB | _ => false) = true
      rw [hz]
      show (true && (zipX "rrr" [.int (d : Nat), .int (x : Nat), .int (y : Nat)]).all itB) = true
      rw [zx_rrr]
      simp only [List.all_cons, List.all_nil, itB, op_r, numD_nat (show (d : Int) ≤ 3 by omega), numD_nat (show (x : Int) ≤ 3 by omega), numD_nat (show (y : Int) ≤ 3 by omega), Bool.true_and, Bool.and_true]
    rcases this with rfl | rfl | rfl | rfl | rfl | rfl | rfl
    · exact g _ (lk_add a)
    · exact g _ (lk_sub a)
    · exact g _ (lk_mul a)
    · exact g _ (lk_div a)
    · exact g _ (lk_mod a)
    · exact g _ (lk_less a)
    · exact g _ (lk_same a)
end
end Sd

set_option Elab.async false
set_option linter.all false
set_option maxRecDepth 100000
set_option maxHeartbeats 1000000
namespace Sd
open PySem PySem.Spec PyProof.Rows L2 GxR
local macro_rules | `(tactic| walk_at "dr") => `(tactic| try simp only [shut_eq, eVar, eC, eKIx, eKIn, dIsB, kLook_c, atI_c0, atI_c1, atI_c2, atI_c3, atI_c4, atI_c5, cut_t1, cut_t2, cut_t3, cut_t4, cut_t5, cut_d1, cut_d2, cut_d3, tk1, tk2, tk5, dp1, dp2,  eOp, eUn, asB, eAnd, eOr, eNot, eIf, eChain, tV, tAnd', tOr', tNot', aNil, aCons, eTup, eLst, eCB, eDK, eDT, dAdd, dI, dSub, dMod, dDiv, dXor, dShl, dShr, dMul, dCmp, dLe, dLt, dGe, dGt, dEq, dNe, dIn, dIsN, dIx_t, dIx_c, dIx_s, dIx_r, dIx_iD, dNeg, dLen_iD, dLen_s, dLen_t, dLen_c, dLen_r, dList, dTuple, dInt, dIsi, dAll, oNone, oSome, dSl, eSl,
  xName, xNil, xCons, xTup, xSub, sNext, sSeq, sBreak, sCont, sDrop, sRet, sRetN, sIf, sAsg, sAug, sFor, iL, iT, iS, iR1, iR2, iRev1, iRev2, tYes', eLc, eAll, dIAdd, dISub, eBM, eBM0, asRef, eDGet, eDGet1, eDGet2, eDIn, eDNotIn, sDPutD, sDDelD, eCa, eMe, eMa, eFld, sFldD, sFldAugD, setO, dAppend, dPopAt, isBl, isTr, List.length_set, List.lookup, Nat.reduceLT, Nat.reduceLeDiff, Nat.lt_irrefl, Nat.not_lt_zero, Nat.zero_le, Nat.le_refl, Nat.zero_lt_succ, Nat.lt_add_one, sRaise, eJoin, dJoin, F__law_draw, F__law_box, wDraw, wBox, br, Int.natCast_nonneg, Int.cast_ofNat_Int, Int.reduceEq, 
  dstart, List.map_cons, List.map_nil, List.length_cons, List.length_nil, List.replicate, List.cons_append, List.nil_append, List.append_nil, List.getElem?_cons_zero, List.getElem?_cons_succ, List.set_cons_zero, List.set_cons_succ, Nat.sub_self, Nat.reduceAdd, Nat.reduceSub, wipeD,
  dat_i, dat_s, dat_b, dat_n, dats_c, dats_e, eqD_ii, eqD_ss, eqD_bb, eqD_nn, eqD_is, eqD_si, isNon, unC_i, unC_s, unC_b, unC_n, unC_t, unC_c, flatD, List.all_cons, List.all_nil, List.any_cons, List.any_nil, decide_true, decide_false, List.mem_cons, tyD, isTy, tyKn, String.reduceBEq, Bool.or_true, Bool.true_or, Bool.or_false, Bool.false_or, Bool.and_true, Bool.true_and, Bool.and_false, Bool.false_and, Bool.or_self, Bool.and_self, true_and, and_true, true_implies, false_implies, forall_const, reduceCtorEq, Bool.true_eq_false, Bool.false_eq_true, if_true, if_false, ite_true, ite_false, Bool.not_true, Bool.not_false, implies_true, eq_self])
local macro_rules | `(tactic| walk_at "drn") => `(tactic| try simp only [shut_eq, eVar, eC, eKIx, eKIn, dIsB, kLook_c, atI_c0, atI_c1, atI_c2, atI_c3, atI_c4, atI_c5, cut_t1, cut_t2, cut_t3, cut_t4, cut_t5, cut_d1, cut_d2, cut_d3, tk1, tk2, tk5, dp1, dp2,  eOp, eUn, asB, eAnd, eOr, eNot, eIf, eChain, tV, tAnd', tOr', tNot', aNil, aCons, eTup, eLst, eCB, eDK, eDT, dAdd, dI, dSub, dMod, dDiv, dXor, dShl, dShr, dMul, dCmp, dLe, dLt, dGe, dGt, dEq, dNe, dIn, dIsN, dIx_t, dIx_c, dIx_s, dIx_r, dIx_iD, dNeg, dLen_iD, dLen_s, dLen_t, dLen_c, dLen_r, dList, dTuple, dInt, dIsi, dAll, oNone, oSome, dSl, eSl,
  xName, xNil, xCons, xTup, xSub, sNext, sSeq, NX_eq, sBreak, sCont, sDrop, sRet, sRetN, sIf, sAsg, sAug, sFor, iL, iT, iS, iR1, iR2, iRev1, iRev2, tYes', eLc, eAll, dIAdd, dISub, eBM, eBM0, asRef, eDGet, eDGet1, eDGet2, eDIn, eDNotIn, sDPutD, sDDelD, eCa, eMe, eMa, eFld, sFldD, sFldAugD, setO, dAppend, dPopAt, isBl, isTr, List.length_set, List.lookup, Nat.reduceLT, Nat.reduceLeDiff, Nat.lt_irrefl, Nat.not_lt_zero, Nat.zero_le, Nat.le_refl, Nat.zero_lt_succ, Nat.lt_add_one, sRaise, eJoin, dJoin, F__law_draw, F__law_box, wDraw, wBox, br, Int.natCast_nonneg, Int.cast_ofNat_Int, Int.reduceEq, 
  dstart, List.map_cons, List.map_nil, List.length_cons, List.length_nil, List.replicate, List.cons_append, List.nil_append, List.append_nil, List.getElem?_cons_zero, List.getElem?_cons_succ, List.set_cons_zero, List.set_cons_succ, Nat.sub_self, Nat.reduceAdd, Nat.reduceSub, wipeD,
  dat_i, dat_s, dat_b, dat_n, dats_c, dats_e, eqD_ii, eqD_ss, eqD_bb, eqD_nn, eqD_is, eqD_si, isNon, unC_i, unC_s, unC_b, unC_n, unC_t, unC_c, flatD, List.all_cons, List.all_nil, List.any_cons, List.any_nil, decide_true, decide_false, List.mem_cons, tyD, isTy, tyKn, String.reduceBEq, Bool.or_true, Bool.true_or, Bool.or_false, Bool.false_or, Bool.and_true, Bool.true_and, Bool.and_false, Bool.false_and, Bool.or_self, Bool.and_self, true_and, and_true, true_implies, false_implies, forall_const, reduceCtorEq, Bool.true_eq_false, Bool.false_eq_true, if_true, if_false, ite_true, ite_false, Bool.not_true, Bool.not_false, implies_true, eq_self])

local macro_rules | `(tactic| walk_at "sd") => `(tactic| try simp only [sd_0_0, sd_0_1, sd_0_2, sd_0_3, sd_0_4, sd_0_5, sd_0_6, sd_0_7, sd_0_8, sd_0_9, sd_0_10, sd_0_11, sd_0_12, sd_0_13, sd_0_14, sd_0_15, sd_0_16, sd_0_17, sd_0_18, sd_1_0, sd_1_1, sd_1_2, sd_1_3, sd_1_4, sd_1_5, sd_1_6, sd_1_7, sd_1_8, sd_1_9, sd_1_10, sd_1_11, sd_1_12, sd_1_13, sd_1_14, sd_1_15, sd_1_16, sd_1_17, sd_1_18, sd_2_0, sd_2_1, sd_2_2, sd_2_3, sd_2_4, sd_2_5, sd_2_6, sd_2_7, sd_2_8, sd_2_9, sd_2_10, sd_2_11, sd_2_12, sd_2_13, sd_2_14, sd_2_15, sd_2_16, sd_2_17, sd_2_18, sd_3_0, sd_3_1, sd_3_2, sd_3_3, sd_3_4, sd_3_5, sd_3_6, sd_3_7, sd_3_8, sd_3_9, sd_3_10, sd_3_11, sd_3_12, sd_3_13, sd_3_14, sd_3_15, sd_3_16, sd_3_17, sd_3_18, sd_4_0, sd_4_1, sd_4_2, sd_4_3, sd_4_4, sd_4_5, sd_4_6, sd_4_7, sd_4_8, sd_4_9, sd_4_10, sd_4_11, sd_4_12, sd_4_13, sd_4_14, sd_4_15, sd_4_16, sd_4_17, sd_4_18, sd_5_0, sd_5_1, sd_5_2, sd_5_3, sd_5_4, sd_5_5, sd_5_6, sd_5_7, sd_5_8, sd_5_9, sd_5_10, sd_5_11, sd_5_12, sd_5_13, sd_5_14, sd_5_15, sd_5_16, sd_5_17, sd_5_18, sd_6_0, sd_6_1, sd_6_2, sd_6_3, sd_6_4, sd_6_5, sd_6_6, sd_6_7, sd_6_8, sd_6_9, sd_6_10, sd_6_11, sd_6_12, sd_6_13, sd_6_14, sd_6_15, sd_6_16, sd_6_17, sd_6_18, sd_7_0, sd_7_1, sd_7_2, sd_7_3, sd_7_4, sd_7_5, sd_7_6, sd_7_7, sd_7_8, sd_7_9, sd_7_10, sd_7_11, sd_7_12, sd_7_13, sd_7_14, sd_7_15, sd_7_16, sd_7_17, sd_7_18, sd_8_0, sd_8_1, sd_8_2, sd_8_3, sd_8_4, sd_8_5, sd_8_6, sd_8_7, sd_8_8, sd_8_9, sd_8_10, sd_8_11, sd_8_12, sd_8_13, sd_8_14, sd_8_15, sd_8_16, sd_8_17, sd_8_18, sd_9_0, sd_9_1, sd_9_2, sd_9_3, sd_9_4, sd_9_5, sd_9_6, sd_9_7, sd_9_8, sd_9_9, sd_9_10, sd_9_11, sd_9_12, sd_9_13, sd_9_14, sd_9_15, sd_9_16, sd_9_17, sd_9_18, sd_10_0, sd_10_1, sd_10_2, sd_10_3, sd_10_4, sd_10_5, sd_10_6, sd_10_7, sd_10_8, sd_10_9, sd_10_10, sd_10_11, sd_10_12, sd_10_13, sd_10_14, sd_10_15, sd_10_16, sd_10_17, sd_10_18, sd_11_0, sd_11_1, sd_11_2, sd_11_3, sd_11_4, sd_11_5, sd_11_6, sd_11_7, sd_11_8, sd_11_9, sd_11_10, sd_11_11, sd_11_12, sd_11_13, sd_11_14, sd_11_15, sd_11_16, sd_11_17, sd_11_18, sd_12_0, sd_12_1, sd_12_2, sd_12_3, sd_12_4, sd_12_5, sd_12_6, sd_12_7, sd_12_8, sd_12_9, sd_12_10, sd_12_11, sd_12_12, sd_12_13, sd_12_14, sd_12_15, sd_12_16, sd_12_17, sd_12_18, sd_13_0, sd_13_1, sd_13_2, sd_13_3, sd_13_4, sd_13_5, sd_13_6, sd_13_7, sd_13_8, sd_13_9, sd_13_10, sd_13_11, sd_13_12, sd_13_13, sd_13_14, sd_13_15, sd_13_16, sd_13_17, sd_13_18, sd_14_0, sd_14_1, sd_14_2, sd_14_3, sd_14_4, sd_14_5, sd_14_6, sd_14_7, sd_14_8, sd_14_9, sd_14_10, sd_14_11, sd_14_12, sd_14_13, sd_14_14, sd_14_15, sd_14_16, sd_14_17, sd_14_18, sd_15_0, sd_15_1, sd_15_2, sd_15_3, sd_15_4, sd_15_5, sd_15_6, sd_15_7, sd_15_8, sd_15_9, sd_15_10, sd_15_11, sd_15_12, sd_15_13, sd_15_14, sd_15_15, sd_15_16, sd_15_17, sd_15_18, sd_16_0, sd_16_1, sd_16_2, sd_16_3, sd_16_4, sd_16_5, sd_16_6, sd_16_7, sd_16_8, sd_16_9, sd_16_10, sd_16_11, sd_16_12, sd_16_13, sd_16_14, sd_16_15, sd_16_16, sd_16_17, sd_16_18, sd_17_0, sd_17_1, sd_17_2, sd_17_3, sd_17_4, sd_17_5, sd_17_6, sd_17_7, sd_17_8, sd_17_9, sd_17_10, sd_17_11, sd_17_12, sd_17_13, sd_17_14, sd_17_15, sd_17_16, sd_17_17, sd_17_18, sd_18_0, sd_18_1, sd_18_2, sd_18_3, sd_18_4, sd_18_5, sd_18_6, sd_18_7, sd_18_8, sd_18_9, sd_18_10, sd_18_11, sd_18_12, sd_18_13, sd_18_14, sd_18_15, sd_18_16, sd_18_17, sd_18_18])

/-! ### an instruction: name, operands, their kinds -/
def nmI : Ins → Str
  | .set _ _ => "set" | .copy _ _ => "copy" | .calc k _ _ _ => nmC k | .load _ _ => "load" | .store _ _ => "store" | .jump _ => "jump" | .zero _ _ => "zero" | .read _ => "read" | .left _ => "left" | .write _ => "write" | .stop => "stop"
def kdI : Ins → Str
  | .set _ _ => "rw" | .copy _ _ => "rr" | .calc _ _ _ _ => "rrr" | .load _ _ => "rr" | .store _ _ => "rr" | .jump _ => "p" | .zero _ _ => "rp" | .read _ => "r" | .left _ => "r" | .write _ => "r" | .stop => ""
def opI : Ins → List D
  | .set d w => [.int (d : Nat), .int w]
  | .copy d s => [.int (d : Nat), .int (s : Nat)]
  | .calc _ d x y => [.int (d : Nat), .int (x : Nat), .int (y : Nat)]
  | .load d s => [.int (d : Nat), .int (s : Nat)]
  | .store s p => [.int (s : Nat), .int (p : Nat)]
  | .jump p => [.int p]
  | .zero s p => [.int (s : Nat), .int p]
  | .read d => [.int (d : Nat)]
  | .left d => [.int (d : Nat)]
  | .write s => [.int (s : Nat)]
  | .stop => []
theorem insD_eq (i : Ins) : insD i = .tup (.str (nmI i) :: opI i) := by cases i <;> rfl
theorem opI_len (i : Ins) : (opI i).length = (kdI i).length := by cases i <;> rfl
theorem opI_le (i : Ins) : (opI i).length ≤ 3 := by cases i <;> simp [opI]
theorem opI_dat (i : Ins) : ∀ d ∈ opI i, dat 1 d = true := by
  intro d hd
  have : ∃ x, d = .int x := by
    cases i <;> simp only [opI, List.mem_cons, List.not_mem_nil, or_false] at hd
    all_goals first | exact ⟨_, hd⟩ | (rcases hd with h | h; exact ⟨_, h⟩; exact ⟨_, h⟩) | (rcases hd with h | h | h; exact ⟨_, h⟩; exact ⟨_, h⟩; exact ⟨_, h⟩)
  obtain ⟨x, rfl⟩ := this
  exact dat_i
section
variable (a : Ad)
theorem look_ins {i : Ins} (h : WfI i) : kLook (tb_OPERANDS a) (nmI i) = some (some (.str (kdI i))) ∧ kLook (tb_OPERANDS a) (nmI i ++ "s") = some none := by
  have ap : ∀ {x y : Str}, (x ++ "s" : Str) = y → kLook (tb_OPERANDS a) y = some none → kLook (tb_OPERANDS a) (x ++ "s") = some none := fun e k => by rw [e]; exact k
  cases i with
  | set d w => exact ⟨lk_set a, ap (show (("set" : Str) ++ "s" : Str) = "sets" by decide +kernel) (lk_sets a)⟩
  | copy d s => exact ⟨lk_copy a, ap (show (("copy" : Str) ++ "s" : Str) = "copys" by decide +kernel) (lk_copys a)⟩
  | load d s => exact ⟨lk_load a, ap (show (("load" : Str) ++ "s" : Str) = "loads" by decide +kernel) (lk_loads a)⟩
  | store s p => exact ⟨lk_store a, ap (show (("store" : Str) ++ "s" : Str) = "stores" by decide +kernel) (lk_stores a)⟩
  | jump p => exact ⟨lk_jump a, ap (show (("jump" : Str) ++ "s" : Str) = "jumps" by decide +kernel) (lk_jumps a)⟩
  | zero s p => exact ⟨lk_zero a, ap (show (("zero" : Str) ++ "s" : Str) = "zeros" by decide +kernel) (lk_zeros a)⟩
  | read d => exact ⟨lk_read a, ap (show (("read" : Str) ++ "s" : Str) = "reads" by decide +kernel) (lk_reads a)⟩
  | left d => exact ⟨lk_left a, ap (show (("left" : Str) ++ "s" : Str) = "lefts" by decide +kernel) (lk_lefts a)⟩
  | write s => exact ⟨lk_write a, ap (show (("write" : Str) ++ "s" : Str) = "writes" by decide +kernel) (lk_writes a)⟩
  | stop => exact ⟨lk_stop a, ap (show (("stop" : Str) ++ "s" : Str) = "stops" by decide +kernel) (lk_stops a)⟩
  | «calc» k d x y =>
    have hk := h.1
    have : k = 0 ∨ k = 1 ∨ k = 2 ∨ k = 3 ∨ k = 4 ∨ k = 5 ∨ k = 6 := by omega
    rcases this with rfl | rfl | rfl | rfl | rfl | rfl | rfl
    · exact ⟨lk_add a, ap (show (("add" : Str) ++ "s" : Str) = "adds" by decide +kernel) (lk_adds a)⟩
    · exact ⟨lk_sub a, ap (show (("sub" : Str) ++ "s" : Str) = "subs" by decide +kernel) (lk_subs a)⟩
    · exact ⟨lk_mul a, ap (show (("mul" : Str) ++ "s" : Str) = "muls" by decide +kernel) (lk_muls a)⟩
    · exact ⟨lk_div a, ap (show (("div" : Str) ++ "s" : Str) = "divs" by decide +kernel) (lk_divs a)⟩
    · exact ⟨lk_mod a, ap (show (("mod" : Str) ++ "s" : Str) = "mods" by decide +kernel) (lk_mods a)⟩
    · exact ⟨lk_less a, ap (show (("less" : Str) ++ "s" : Str) = "lesss" by decide +kernel) (lk_lesss a)⟩
    · exact ⟨lk_same a, ap (show (("same" : Str) ++ "s" : Str) = "sames" by decide +kernel) (lk_sames a)⟩
/-- what is no instruction, of a name that the table tells of -/
structure BadI (d : D) : Prop where
  dt : dat 3 d = true
  op : inOps a d
  no : insB a d = false
theorem inOps_of {z : Str} {xs : List D} (h : kLook (tb_OPERANDS a) z ≠ none) : inOps a (.tup (.str z :: xs)) := by
  intro z' xs' e
  cases e
  exact h
theorem dat_row {z : Str} {xs : List D} (hl : xs.length ≤ 1000) (hd : ∀ d ∈ xs, dat 2 d = true) : dat 3 (.tup (.str z :: xs)) = true := by
  refine dat_tup' (by rw [List.length_cons]; omega) fun d hm => ?_
  rcases List.mem_cons.mp hm with rfl | hm
  · exact dat_s
  · exact hd d hm
theorem bad_name {i : Ins} (h : WfI i) : BadI a (.tup (.str (nmI i ++ "s") :: opI i)) := by
  obtain ⟨_, h2⟩ := look_ins a h
  refine ⟨dat_row (by have := opI_le i; omega) fun d hd => dat_up (opI_dat i d hd), inOps_of a (by rw [h2]; simp), ?_⟩
  show (match kLook (tb_OPERANDS a) (nmI i ++ "s") with | some (some (.str ks)) => _ | _ => false) = false
  rw [h2]
theorem bad_len {i : Ins} (h : WfI i) {xs : List D} (hl : xs.length ≤ 1000) (hd : ∀ d ∈ xs, dat 2 d = true) (hn : xs.length ≠ (opI i).length) : BadI a (.tup (.str (nmI i) :: xs)) := by
  obtain ⟨h1, _⟩ := look_ins a h
  refine ⟨dat_row hl hd, inOps_of a (by rw [h1]; simp), ?_⟩
  show (match kLook (tb_OPERANDS a) (nmI i) with | some (some (.str ks)) => decide (xs.length = ks.length) && (zipX ks xs).all itB | _ => false) = false
  rw [h1]
  show (decide (xs.length = (kdI i).length) && _) = false
  rw [← opI_len, decide_eq_false hn, Bool.false_and]
/-- the kind at a place -/
def kdAt (i : Ins) (j : Nat) : Str := match i, j with
  | .set _ _, 1 => "w" | .jump _, _ => "p" | .zero _ _, 1 => "p" | _, _ => "r"
theorem bad_at {i : Ins} (h : WfI i) {j : Nat} {v : D} (hj : j < (opI i).length) (hv : dat 2 v = true) (hb : opB (kdAt i j) v = false) : BadI a (.tup (.str (nmI i) :: (opI i).set j v)) := by
  obtain ⟨h1, _⟩ := look_ins a h
  refine ⟨dat_row (by rw [List.length_set]; have := opI_le i; omega) fun d hd => ?_, inOps_of a (by rw [h1]; simp), ?_⟩
  · rcases List.mem_or_eq_of_mem_set hd with hd | rfl
    · exact dat_up (opI_dat i d hd)
    · exact hv
  show (match kLook (tb_OPERANDS a) (nmI i) with | some (some (.str ks)) => decide (((opI i).set j v).length = ks.length) && (zipX ks ((opI i).set j v)).all itB | _ => false) = false
  rw [h1]
  show (decide (((opI i).set j v).length = (kdI i).length) && (zipX (kdI i) ((opI i).set j v)).all itB) = false
  have e : (zipX (kdI i) ((opI i).set j v)).all itB = false := by
    have l0 : ∀ {n : Nat}, n < 1 → n = 0 := fun h => by omega
    have l2 : ∀ {n : Nat}, n < 2 → n = 0 ∨ n = 1 := fun h => by omega
    have l3 : ∀ {n : Nat}, n < 3 → n = 0 ∨ n = 1 ∨ n = 2 := fun h => by omega
    cases i with
    | set d w =>
      rcases l2 hj with rfl | rfl
      · show (zipX "rw" [v, _]).all itB = false
        rw [zx_rw]
        simp only [List.all_cons, itB]
        rw [show opB "r" v = false from hb, Bool.false_and]
      · show (zipX "rw" [_, v]).all itB = false
        rw [zx_rw]
        simp only [List.all_cons, itB]
        rw [show opB "w" v = false from hb, Bool.false_and, Bool.and_false]
    | zero s p =>
      rcases l2 hj with rfl | rfl
      · show (zipX "rp" [v, _]).all itB = false
        rw [zx_rp]
        simp only [List.all_cons, itB]
        rw [show opB "r" v = false from hb, Bool.false_and]
      · show (zipX "rp" [_, v]).all itB = false
        rw [zx_rp]
        simp only [List.all_cons, itB]
        rw [show opB "p" v = false from hb, Bool.false_and, Bool.and_false]
    | jump p =>
      cases l0 hj
      show (zipX "p" [v]).all itB = false
      rw [zx_p]
      simp only [List.all_cons, itB]
      rw [show opB "p" v = false from hb, Bool.false_and]
    | stop => exact absurd hj (by simp [opI])
    | «calc» k d x y =>
      rcases l3 hj with rfl | rfl | rfl
      · show (zipX "rrr" [v, _, _]).all itB = false
        rw [zx_rrr]
        simp only [List.all_cons, itB]
        rw [show opB "r" v = false from hb, Bool.false_and]
      · show (zipX "rrr" [_, v, _]).all itB = false
        rw [zx_rrr]
        simp only [List.all_cons, itB]
        rw [show opB "r" v = false from hb, Bool.false_and, Bool.and_false]
      · show (zipX "rrr" [_, _, v]).all itB = false
        rw [zx_rrr]
        simp only [List.all_cons, itB]
        rw [show opB "r" v = false from hb, Bool.false_and, Bool.and_false, Bool.and_false]
    | copy d s =>
      rcases l2 hj with rfl | rfl
      · show (zipX "rr" [v, _]).all itB = false
        rw [zx_rr]
        simp only [List.all_cons, itB]
        rw [show opB "r" v = false from hb, Bool.false_and]
      · show (zipX "rr" [_, v]).all itB = false
        rw [zx_rr]
        simp only [List.all_cons, itB]
        rw [show opB "r" v = false from hb, Bool.false_and, Bool.and_false]
    | load d s =>
      rcases l2 hj with rfl | rfl
      · show (zipX "rr" [v, _]).all itB = false
        rw [zx_rr]
        simp only [List.all_cons, itB]
        rw [show opB "r" v = false from hb, Bool.false_and]
      · show (zipX "rr" [_, v]).all itB = false
        rw [zx_rr]
        simp only [List.all_cons, itB]
        rw [show opB "r" v = false from hb, Bool.false_and, Bool.and_false]
    | store d s =>
      rcases l2 hj with rfl | rfl
      · show (zipX "rr" [v, _]).all itB = false
        rw [zx_rr]
        simp only [List.all_cons, itB]
        rw [show opB "r" v = false from hb, Bool.false_and]
      · show (zipX "rr" [_, v]).all itB = false
        rw [zx_rr]
        simp only [List.all_cons, itB]
        rw [show opB "r" v = false from hb, Bool.false_and, Bool.and_false]
    | read d =>
      cases l0 hj
      show (zipX "r" [v]).all itB = false
      rw [zx_r]
      simp only [List.all_cons, itB]
      rw [show opB "r" v = false from hb, Bool.false_and]
    | left d =>
      cases l0 hj
      show (zipX "r" [v]).all itB = false
      rw [zx_r]
      simp only [List.all_cons, itB]
      rw [show opB "r" v = false from hb, Bool.false_and]
    | write d =>
      cases l0 hj
      show (zipX "r" [v]).all itB = false
      rw [zx_r]
      simp only [List.all_cons, itB]
      rw [show opB "r" v = false from hb, Bool.false_and]
  rw [e, Bool.and_false]
theorem numD_not {m : Int} {v : D} (h : ∀ i, v = .int i → i < 0 ∨ m < i) : numD m v = false := by
  cases v <;> first | rfl | skip
  rename_i i
  rcases h i rfl with h | h
  · show (decide (0 ≤ i) && decide (i ≤ m)) = false
    rw [decide_eq_false (show ¬ (0 ≤ i) by omega), Bool.false_and]
  · show (decide (0 ≤ i) && decide (i ≤ m)) = false
    rw [decide_eq_false (show ¬ (i ≤ m) by omega), Bool.and_false]
theorem nm_le (i : Ins) : (nmI i).length ≤ 10 := by
  cases i with
  | «calc» k d x y =>
    show (nmC k).length ≤ 10
    unfold nmC
    split <;> decide +kernel
  | set d w => show Str.length "set" ≤ 10; decide +kernel
  | copy d s => show Str.length "copy" ≤ 10; decide +kernel
  | load d s => show Str.length "load" ≤ 10; decide +kernel
  | store s p => show Str.length "store" ≤ 10; decide +kernel
  | jump p => show Str.length "jump" ≤ 10; decide +kernel
  | zero s p => show Str.length "zero" ≤ 10; decide +kernel
  | read d => show Str.length "read" ≤ 10; decide +kernel
  | left d => show Str.length "left" ≤ 10; decide +kernel
  | write s => show Str.length "write" ≤ 10; decide +kernel
  | stop => show Str.length "stop" ≤ 10; decide +kernel
variable {S : Sto} {Q : DK} {Ed : XD} {b c : Addr}
theorem nm_not {i : Ins} (h : WfI i) : (nmI i = "set" → ∃ d w, i = .set d w) ∧ (nmI i = "jump" → ∃ p, i = .jump p) ∧ (nmI i = "zero" → ∃ s p, i = .zero s p) := by
  have no : ∀ {x y : Str} {P : Prop}, decide (x = y) = false → x = y → P := fun h e => absurd e (of_decide_eq_false h)
  cases i with
  | set d w => exact ⟨fun _ => ⟨_, _, rfl⟩, no (show decide (("set" : Str) = "jump") = false by decide +kernel), no (show decide (("set" : Str) = "zero") = false by decide +kernel)⟩
  | copy d s => exact ⟨no (show decide (("copy" : Str) = "set") = false by decide +kernel), no (show decide (("copy" : Str) = "jump") = false by decide +kernel), no (show decide (("copy" : Str) = "zero") = false by decide +kernel)⟩
  | load d s => exact ⟨no (show decide (("load" : Str) = "set") = false by decide +kernel), no (show decide (("load" : Str) = "jump") = false by decide +kernel), no (show decide (("load" : Str) = "zero") = false by decide +kernel)⟩
  | store d s => exact ⟨no (show decide (("store" : Str) = "set") = false by decide +kernel), no (show decide (("store" : Str) = "jump") = false by decide +kernel), no (show decide (("store" : Str) = "zero") = false by decide +kernel)⟩
  | jump p => exact ⟨no (show decide (("jump" : Str) = "set") = false by decide +kernel), fun _ => ⟨_, rfl⟩, no (show decide (("jump" : Str) = "zero") = false by decide +kernel)⟩
  | zero s p => exact ⟨no (show decide (("zero" : Str) = "set") = false by decide +kernel), no (show decide (("zero" : Str) = "jump") = false by decide +kernel), fun _ => ⟨_, _, rfl⟩⟩
  | read d => exact ⟨no (show decide (("read" : Str) = "set") = false by decide +kernel), no (show decide (("read" : Str) = "jump") = false by decide +kernel), no (show decide (("read" : Str) = "zero") = false by decide +kernel)⟩
  | left d => exact ⟨no (show decide (("left" : Str) = "set") = false by decide +kernel), no (show decide (("left" : Str) = "jump") = false by decide +kernel), no (show decide (("left" : Str) = "zero") = false by decide +kernel)⟩
  | write d => exact ⟨no (show decide (("write" : Str) = "set") = false by decide +kernel), no (show decide (("write" : Str) = "jump") = false by decide +kernel), no (show decide (("write" : Str) = "zero") = false by decide +kernel)⟩
  | stop => exact ⟨no (show decide (("stop" : Str) = "set") = false by decide +kernel), no (show decide (("stop" : Str) = "jump") = false by decide +kernel), no (show decide (("stop" : Str) = "zero") = false by decide +kernel)⟩
  | «calc» k d x y =>
    have key : decide (nmC k = "set") = false ∧ decide (nmC k = "jump") = false ∧ decide (nmC k = "zero") = false := by
      unfold nmC
      split <;> exact ⟨by decide +kernel, by decide +kernel, by decide +kernel⟩
    exact ⟨no key.1, no key.2.1, no key.2.2⟩
theorem kd_r {i : Ins} {j : Nat} (h1 : ¬ (nmI i = "set" ∧ j = 1)) (h2 : ¬ nmI i = "jump") (h3 : ¬ (nmI i = "zero" ∧ j = 1)) : kdAt i j = "r" := by
  cases i with
  | set d w =>
    match j with
    | 0 => rfl
    | 1 => exact absurd ⟨rfl, rfl⟩ h1
    | _ + 2 => rfl
  | zero d w =>
    match j with
    | 0 => rfl
    | 1 => exact absurd ⟨rfl, rfl⟩ h3
    | _ + 2 => rfl
  | jump p => exact absurd rfl h2
  | _ => rfl
set_option maxHeartbeats 400000 in
theorem w__law_spoilt {i : Ins} (h : WfI i) (hb : S b = some (.box c)) (q : ∀ v S', Se S S' → BadI a v → Q v S') : F__law_spoilt a [.ref b, insD i] S Q Ed := by
  unfold F__law_spoilt B__law_spoilt
  rw [insD_eq]
  have hl3 := opI_le i
  have hn := nm_le i
  have hs1 : Str.length "s" = 1 := by decide +kernel
  have dop : ∀ d ∈ opI i, dat 2 d = true := fun d hd => dat_up (opI_dat i d hd)
  walk_at "dr"
  refine ⟨⟨c, hb⟩, by decide, by decide, fun k k0 k1 => nx_go ?_⟩
  walk_at "dr"
  refine ⟨fun _ => ⟨by rw [hs1]; omega, by omega, q _ _ .refl (bad_name a h)⟩, fun _ => nx_go ?_⟩
  walk_at "dr"
  generalize hu : sSeq (sIf (tOr' _ _) _ _) _ = u
  have k1 : NX u { nx := fun _ S' => Q .non S', rt := Q } [some (.ref b), some (.tup (.str (nmI i) :: opI i)), some (.int k), none, none] S := by
    subst hu
    refine nx_go ?_
    walk_at "dr"
    have app : (opI i).length ≤ 999998 ∧ Q (.tup (.str (nmI i) :: (opI i ++ [.int 0]))) S := by
      refine ⟨by omega, q _ _ .refl (bad_len a h (by simp; omega) (fun d hd => ?_) (by simp))⟩
      rcases List.mem_append.mp hd with hd | hd
      · exact dop d hd
      · rw [List.mem_singleton.mp hd]; exact dat_i
    refine ⟨fun _ => app, fun _ => ⟨fun _ => app, fun h0 => nx_go ?_⟩⟩
    have h0 : ¬ (((opI i).length + 1 : Nat) : Int) = 1 := of_decide_eq_false h0
    walk_at "dr"
    refine ⟨⟨c, hb⟩, by omega, by omega, fun j j0 j1 => nx_go ?_⟩
    obtain ⟨j, rfl⟩ : ∃ m : Nat, j = (m : Nat) := ⟨j.toNat, by omega⟩
    have hj : j < (opI i).length := by omega
    rw [show (1 : Int) + (j : Nat) = ((j + 1 : Nat) : Int) by omega]
    generalize hu : sRet (eOp dAdd (eOp dAdd _ _) _) = u
    have fin : ∀ v S', Se S S' → dat 2 v = true → opB (kdAt i j) v = false → NX u { nx := fun _ S' => Q .non S', rt := Q } [some (.ref b), some (.tup (.str (nmI i) :: opI i)), some (.int k), some (.int ((j + 1 : Nat) : Int)), some v] S' := by
      subst hu
      intro v S' hS hv hbad
      refine nx_go ?_
      walk_at "dr"
      have l1 := cut_len1 (xs := D.str (nmI i) :: opI i) (k := j + 1)
      have l2 := cut_len2 (xs := D.str (nmI i) :: opI i) (k := j + 1)
      rw [List.length_cons] at l1 l2
      refine ⟨by omega, by rw [List.length_append]; simp only [List.length_cons, List.length_nil]; omega, ?_⟩
      rw [cut_repl (by rw [List.length_cons]; omega), List.set_cons_succ]
      exact q _ _ hS (bad_at a h hj hv hbad)
    clear q app
    walk_at "dr"
    refine fun p hp => ?_
    have S1 := Se.one (o := .lst [.int (-1), .bl true, .str "0", .int 4, .non, .int 4]) hp
    refine ⟨⟨c, S1.box hb⟩, by decide, by decide, fun x x0 x1 => pickL x0 (by simpa using x1) fun v hv => nx_go ?_⟩
    have hv2 : dat 2 v = true ∧ opB "r" v = false := by
      simp only [List.mem_cons, List.not_mem_nil, or_false] at hv
      rcases hv with rfl | rfl | rfl | rfl | rfl | rfl <;> exact ⟨by decide +kernel, by decide +kernel⟩
    have hb1 := S1.box hb
    generalize sup S p _ = S' at S1 hb1 ⊢
    walk_at "dr"
    generalize hu : sSeq (sIf (tOr' _ _) _ _) _ = u2
    have k2 : ∀ v S', Se S S' → dat 2 v = true → (¬ nmI i = "jump" → ¬ (nmI i = "zero" ∧ j = 1) → opB (kdAt i j) v = false) → NX u2 { nx := fun _ S' => Q .non S', rt := Q } [some (.ref b), some (.tup (.str (nmI i) :: opI i)), some (.int k), some (.int ((j + 1 : Nat) : Int)), some v] S' := by
      subst hu
      clear hv2 hv v S1 hb1 S' hp p
      intro v S' hS hv hr
      refine nx_go ?_
      walk_at "dr"
      have pp : kdAt i j = "p" → ∀ p, S' p = none → (∃ c, sup S' p (O.lst [.int (-1), .bl true, .str "0", .int 65]) b = some (.box c)) ∧ (0 : Int) < 4 ∧ (4 : Int) < 1000000000000000000 ∧ ∀ y : Int, 0 ≤ y → y < 4 → atL (sup S' p (O.lst [.int (-1), .bl true, .str "0", .int 65])) p fun ds => match atI ds y with
          | some d => NX u { nx := fun _ S' => Q .non S', rt := Q } [some (.ref b), some (.tup (.str (nmI i) :: opI i)), some (.int k), some (.int ((j + 1 : Nat) : Int)), some d] (sup S' p (O.lst [.int (-1), .bl true, .str "0", .int 65]))
          | none => False := by
        intro hk p hp
        have S2 := hS.trans (Se.one (o := .lst [.int (-1), .bl true, .str "0", .int 65]) hp)
        refine ⟨⟨c, S2.box hb⟩, by decide, by decide, fun y y0 y1 => pickL y0 (by simpa using y1) fun v hv => ?_⟩
        refine fin v _ S2 ?_ ?_
        · simp only [List.mem_cons, List.not_mem_nil, or_false] at hv
          rcases hv with rfl | rfl | rfl | rfl <;> decide +kernel
        · rw [hk]
          simp only [List.mem_cons, List.not_mem_nil, or_false] at hv
          rcases hv with rfl | rfl | rfl | rfl <;> decide +kernel
      have kj : nmI i = "jump" → kdAt i j = "p" := fun e => by
        obtain ⟨p, rfl⟩ := (nm_not h).2.1 e
        rfl
      have kz : nmI i = "zero" → j = 1 → kdAt i j = "p" := fun e ej => by
        obtain ⟨s, p, rfl⟩ := (nm_not h).2.2 e
        subst ej
        rfl
      refine ⟨fun e => pp (kj (of_decide_eq_true e)), fun e => ⟨fun e2 => ⟨fun e3 => ?_, fun e3 => ?_⟩, fun e2 => ?_⟩⟩
      · have e3 : ((j + 1 : Nat) : Int) = 2 := of_decide_eq_true e3
        exact pp (kz (of_decide_eq_true e2) (by omega))
      · have e3 : ¬ ((j + 1 : Nat) : Int) = 2 := of_decide_eq_false e3
        exact fin v _ hS hv (hr (of_decide_eq_false e) fun z => e3 (by omega))
      · exact fin v _ hS hv (hr (of_decide_eq_false e) fun z => of_decide_eq_false e2 z.1)
    clear hu
    have cont : ∀ _ : Nat, (¬ (nmI i = "set" ∧ j = 1)) → NX u2 { nx := fun _ S' => Q .non S', rt := Q } [some (.ref b), some (.tup (.str (nmI i) :: opI i)), some (.int k), some (.int ((j + 1 : Nat) : Int)), some v] S' := fun _ n1 =>
      k2 v S' S1 hv2.1 fun n2 n3 => by rw [kd_r n1 n2 n3]; exact hv2.2
    refine ⟨fun e => ⟨fun e2 p hp => ?_, fun e2 => ?_⟩, fun e => ?_⟩
    · have e2 : ((j + 1 : Nat) : Int) = 2 := of_decide_eq_true e2
      obtain ⟨d, w, rfl⟩ := (nm_not h).1 (of_decide_eq_true e)
      have hj1 : j = 1 := by omega
      subst hj1
      have S2 := S1.trans (Se.one (o := .lst [.int (-1), .bl true, .str "0", .int 4294967296]) hp)
      refine ⟨⟨c, S2.box hb⟩, by decide, by decide, fun y y0 y1 => pickL y0 (by simpa using y1) fun v hv => ?_⟩
      simp only [List.mem_cons, List.not_mem_nil, or_false] at hv
      rcases hv with rfl | rfl | rfl | rfl <;> exact k2 _ _ S2 (by decide +kernel) fun _ _ => by
        show opB "w" _ = false
        decide +kernel
    · have e2 : ¬ ((j + 1 : Nat) : Int) = 2 := of_decide_eq_false e2
      exact cont 0 fun z => e2 (by omega)
    · exact cont 0 fun z => of_decide_eq_false e z.1
  refine ⟨fun _ => ⟨fun _ => ?_, fun _ => k1⟩, fun _ => k1⟩
  rw [cut_m1]
  rename_i hlt
  have hlt : (1 : Int) < (((opI i).length + 1 : Nat) : Int) := of_decide_eq_true hlt
  cases ho : opI i with
  | nil => rw [ho] at hlt; simp at hlt
  | cons x xs =>
    rw [ho] at hl3
    rw [List.length_cons] at hl3
    rw [List.length_cons, List.take_succ_cons]
    refine q _ _ .refl (bad_len a h (by rw [List.length_take]; omega) (fun d hd => dop d ?_) ?_)
    · rw [ho]; exact List.mem_of_mem_take hd
    · rw [ho, List.length_take, List.length_cons]; omega
end
end Sd

set_option Elab.async false
set_option linter.all false
set_option maxRecDepth 100000
set_option maxHeartbeats 1000000
namespace Sd
open PySem PySem.Spec PyProof.Rows L2 GxR
local macro_rules | `(tactic| walk_at "dr") => `(tactic| try simp only [shut_eq, eVar, eC, eKIx, eKIn, dIsB, kLook_c, atI_c0, atI_c1, atI_c2, atI_c3, atI_c4, atI_c5, cut_t1, cut_t2, cut_t3, cut_t4, cut_t5, cut_d1, cut_d2, cut_d3, tk1, tk2, tk5, dp1, dp2,  eOp, eUn, asB, eAnd, eOr, eNot, eIf, eChain, tV, tAnd', tOr', tNot', aNil, aCons, eTup, eLst, eCB, eDK, eDT, dAdd, dI, dSub, dMod, dDiv, dXor, dShl, dShr, dMul, dCmp, dLe, dLt, dGe, dGt, dEq, dNe, dIn, dIsN, dIx_t, dIx_c, dIx_s, dIx_r, dIx_iD, dNeg, dLen_iD, dLen_s, dLen_t, dLen_c, dLen_r, dList, dTuple, dInt, dIsi, dAll, oNone, oSome, dSl, eSl,
  xName, xNil, xCons, xTup, xSub, sNext, sSeq, sBreak, sCont, sDrop, sRet, sRetN, sIf, sAsg, sAug, sFor, iL, iT, iS, iR1, iR2, iRev1, iRev2, tYes', eLc, eAll, dIAdd, dISub, eBM, eBM0, asRef, eDGet, eDGet1, eDGet2, eDIn, eDNotIn, sDPutD, sDDelD, eCa, eMe, eMa, eFld, sFldD, sFldAugD, setO, dAppend, dPopAt, isBl, isTr, List.length_set, List.lookup, Nat.reduceLT, Nat.reduceLeDiff, Nat.lt_irrefl, Nat.not_lt_zero, Nat.zero_le, Nat.le_refl, Nat.zero_lt_succ, Nat.lt_add_one, sRaise, eJoin, dJoin, F__law_draw, F__law_box, wDraw, wBox, br, Int.natCast_nonneg, Int.cast_ofNat_Int, Int.reduceEq, 
  dstart, List.map_cons, List.map_nil, List.length_cons, List.length_nil, List.replicate, List.cons_append, List.nil_append, List.append_nil, List.getElem?_cons_zero, List.getElem?_cons_succ, List.set_cons_zero, List.set_cons_succ, Nat.sub_self, Nat.reduceAdd, Nat.reduceSub, wipeD,
  dat_i, dat_s, dat_b, dat_n, dats_c, dats_e, eqD_ii, eqD_ss, eqD_bb, eqD_nn, eqD_is, eqD_si, isNon, unC_i, unC_s, unC_b, unC_n, unC_t, unC_c, flatD, List.all_cons, List.all_nil, List.any_cons, List.any_nil, decide_true, decide_false, List.mem_cons, tyD, isTy, tyKn, String.reduceBEq, Bool.or_true, Bool.true_or, Bool.or_false, Bool.false_or, Bool.and_true, Bool.true_and, Bool.and_false, Bool.false_and, Bool.or_self, Bool.and_self, true_and, and_true, true_implies, false_implies, forall_const, reduceCtorEq, Bool.true_eq_false, Bool.false_eq_true, if_true, if_false, ite_true, ite_false, Bool.not_true, Bool.not_false, implies_true, eq_self])
local macro_rules | `(tactic| walk_at "drn") => `(tactic| try simp only [shut_eq, eVar, eC, eKIx, eKIn, dIsB, kLook_c, atI_c0, atI_c1, atI_c2, atI_c3, atI_c4, atI_c5, cut_t1, cut_t2, cut_t3, cut_t4, cut_t5, cut_d1, cut_d2, cut_d3, tk1, tk2, tk5, dp1, dp2,  eOp, eUn, asB, eAnd, eOr, eNot, eIf, eChain, tV, tAnd', tOr', tNot', aNil, aCons, eTup, eLst, eCB, eDK, eDT, dAdd, dI, dSub, dMod, dDiv, dXor, dShl, dShr, dMul, dCmp, dLe, dLt, dGe, dGt, dEq, dNe, dIn, dIsN, dIx_t, dIx_c, dIx_s, dIx_r, dIx_iD, dNeg, dLen_iD, dLen_s, dLen_t, dLen_c, dLen_r, dList, dTuple, dInt, dIsi, dAll, oNone, oSome, dSl, eSl,
  xName, xNil, xCons, xTup, xSub, sNext, sSeq, NX_eq, sBreak, sCont, sDrop, sRet, sRetN, sIf, sAsg, sAug, sFor, iL, iT, iS, iR1, iR2, iRev1, iRev2, tYes', eLc, eAll, dIAdd, dISub, eBM, eBM0, asRef, eDGet, eDGet1, eDGet2, eDIn, eDNotIn, sDPutD, sDDelD, eCa, eMe, eMa, eFld, sFldD, sFldAugD, setO, dAppend, dPopAt, isBl, isTr, List.length_set, List.lookup, Nat.reduceLT, Nat.reduceLeDiff, Nat.lt_irrefl, Nat.not_lt_zero, Nat.zero_le, Nat.le_refl, Nat.zero_lt_succ, Nat.lt_add_one, sRaise, eJoin, dJoin, F__law_draw, F__law_box, wDraw, wBox, br, Int.natCast_nonneg, Int.cast_ofNat_Int, Int.reduceEq, 
  dstart, List.map_cons, List.map_nil, List.length_cons, List.length_nil, List.replicate, List.cons_append, List.nil_append, List.append_nil, List.getElem?_cons_zero, List.getElem?_cons_succ, List.set_cons_zero, List.set_cons_succ, Nat.sub_self, Nat.reduceAdd, Nat.reduceSub, wipeD,
  dat_i, dat_s, dat_b, dat_n, dats_c, dats_e, eqD_ii, eqD_ss, eqD_bb, eqD_nn, eqD_is, eqD_si, isNon, unC_i, unC_s, unC_b, unC_n, unC_t, unC_c, flatD, List.all_cons, List.all_nil, List.any_cons, List.any_nil, decide_true, decide_false, List.mem_cons, tyD, isTy, tyKn, String.reduceBEq, Bool.or_true, Bool.true_or, Bool.or_false, Bool.false_or, Bool.and_true, Bool.true_and, Bool.and_false, Bool.false_and, Bool.or_self, Bool.and_self, true_and, and_true, true_implies, false_implies, forall_const, reduceCtorEq, Bool.true_eq_false, Bool.false_eq_true, if_true, if_false, ite_true, ite_false, Bool.not_true, Bool.not_false, implies_true, eq_self])

local macro_rules | `(tactic| walk_at "dr0") => `(tactic| try simp only [shut_eq, eVar, eC, eKIx, eKIn, dIsB, kLook_c, atI_c0, atI_c1, atI_c2, atI_c3, atI_c4, atI_c5, cut_t1, cut_t2, cut_t3, cut_t4, cut_t5, cut_d1, cut_d2, cut_d3, tk1, tk2, tk5, dp1, dp2,  eOp, eUn, asB, eAnd, eOr, eNot, eIf, eChain, tV, tAnd', tOr', tNot', aNil, aCons, eTup, eLst, eCB, eDK, eDT, dAdd, dI, dSub, dMod, dDiv, dXor, dShl, dShr, dMul_t, dCmp, dLe, dLt, dGe, dGt, dEq, dNe, dIn, dIsN, dIx_t, dIx_c, dIx_s, dIx_r, dIx_iD, dNeg, dLen_iD, dLen_s, dLen_t, dLen_c, dLen_r, dList, dTuple, dInt, dIsi, dAll, oNone, oSome, dSl, eSl,
  xName, xNil, xCons, xTup, xSub, sNext, sSeq, sBreak, sCont, sDrop, sRet, sRetN, sIf, sAsg, sAug, sFor, iL, iT, iS, iR1, iR2, iRev1, iRev2, tYes', eLc, eAll, dIAdd, dISub, eBM, eBM0, asRef, eDGet, eDGet1, eDGet2, eDIn, eDNotIn, sDPutD, sDDelD, eCa, eMe, eMa, eFld, sFldD, sFldAugD, setO, dAppend, dPopAt, isBl, isTr, List.length_set, List.lookup, Nat.reduceLT, Nat.reduceLeDiff, Nat.lt_irrefl, Nat.not_lt_zero, Nat.zero_le, Nat.le_refl, Nat.zero_lt_succ, Nat.lt_add_one, sRaise, eJoin, dJoin, F__law_draw, F__law_box, wDraw, wBox, br, Int.natCast_nonneg, Int.cast_ofNat_Int, Int.reduceEq, 
  dstart, List.map_cons, List.map_nil, List.length_cons, List.length_nil, List.cons_append, List.nil_append, List.append_nil, List.getElem?_cons_zero, List.getElem?_cons_succ, List.set_cons_zero, List.set_cons_succ, Nat.sub_self, Nat.reduceAdd, Nat.reduceSub, wipeD,
  dat_i, dat_s, dat_b, dat_n, dats_c, dats_e, eqD_ii, eqD_ss, eqD_bb, eqD_nn, eqD_is, eqD_si, isNon, unC_i, unC_s, unC_b, unC_n, unC_t, unC_c, flatD, List.all_cons, List.all_nil, List.any_cons, List.any_nil, decide_true, decide_false, List.mem_cons, tyD, isTy, tyKn, String.reduceBEq, Bool.or_true, Bool.true_or, Bool.or_false, Bool.false_or, Bool.and_true, Bool.true_and, Bool.and_false, Bool.false_and, Bool.or_self, Bool.and_self, true_and, and_true, true_implies, false_implies, forall_const, reduceCtorEq, Bool.true_eq_false, Bool.false_eq_true, if_true, if_false, ite_true, ite_false, Bool.not_true, Bool.not_false, implies_true, eq_self])

local macro_rules | `(tactic| walk_at "sd") => `(tactic| try simp only [sd_0_0, sd_0_1, sd_0_2, sd_0_3, sd_0_4, sd_0_5, sd_0_6, sd_0_7, sd_0_8, sd_0_9, sd_0_10, sd_0_11, sd_0_12, sd_0_13, sd_0_14, sd_0_15, sd_0_16, sd_0_17, sd_0_18, sd_1_0, sd_1_1, sd_1_2, sd_1_3, sd_1_4, sd_1_5, sd_1_6, sd_1_7, sd_1_8, sd_1_9, sd_1_10, sd_1_11, sd_1_12, sd_1_13, sd_1_14, sd_1_15, sd_1_16, sd_1_17, sd_1_18, sd_2_0, sd_2_1, sd_2_2, sd_2_3, sd_2_4, sd_2_5, sd_2_6, sd_2_7, sd_2_8, sd_2_9, sd_2_10, sd_2_11, sd_2_12, sd_2_13, sd_2_14, sd_2_15, sd_2_16, sd_2_17, sd_2_18, sd_3_0, sd_3_1, sd_3_2, sd_3_3, sd_3_4, sd_3_5, sd_3_6, sd_3_7, sd_3_8, sd_3_9, sd_3_10, sd_3_11, sd_3_12, sd_3_13, sd_3_14, sd_3_15, sd_3_16, sd_3_17, sd_3_18, sd_4_0, sd_4_1, sd_4_2, sd_4_3, sd_4_4, sd_4_5, sd_4_6, sd_4_7, sd_4_8, sd_4_9, sd_4_10, sd_4_11, sd_4_12, sd_4_13, sd_4_14, sd_4_15, sd_4_16, sd_4_17, sd_4_18, sd_5_0, sd_5_1, sd_5_2, sd_5_3, sd_5_4, sd_5_5, sd_5_6, sd_5_7, sd_5_8, sd_5_9, sd_5_10, sd_5_11, sd_5_12, sd_5_13, sd_5_14, sd_5_15, sd_5_16, sd_5_17, sd_5_18, sd_6_0, sd_6_1, sd_6_2, sd_6_3, sd_6_4, sd_6_5, sd_6_6, sd_6_7, sd_6_8, sd_6_9, sd_6_10, sd_6_11, sd_6_12, sd_6_13, sd_6_14, sd_6_15, sd_6_16, sd_6_17, sd_6_18, sd_7_0, sd_7_1, sd_7_2, sd_7_3, sd_7_4, sd_7_5, sd_7_6, sd_7_7, sd_7_8, sd_7_9, sd_7_10, sd_7_11, sd_7_12, sd_7_13, sd_7_14, sd_7_15, sd_7_16, sd_7_17, sd_7_18, sd_8_0, sd_8_1, sd_8_2, sd_8_3, sd_8_4, sd_8_5, sd_8_6, sd_8_7, sd_8_8, sd_8_9, sd_8_10, sd_8_11, sd_8_12, sd_8_13, sd_8_14, sd_8_15, sd_8_16, sd_8_17, sd_8_18, sd_9_0, sd_9_1, sd_9_2, sd_9_3, sd_9_4, sd_9_5, sd_9_6, sd_9_7, sd_9_8, sd_9_9, sd_9_10, sd_9_11, sd_9_12, sd_9_13, sd_9_14, sd_9_15, sd_9_16, sd_9_17, sd_9_18, sd_10_0, sd_10_1, sd_10_2, sd_10_3, sd_10_4, sd_10_5, sd_10_6, sd_10_7, sd_10_8, sd_10_9, sd_10_10, sd_10_11, sd_10_12, sd_10_13, sd_10_14, sd_10_15, sd_10_16, sd_10_17, sd_10_18, sd_11_0, sd_11_1, sd_11_2, sd_11_3, sd_11_4, sd_11_5, sd_11_6, sd_11_7, sd_11_8, sd_11_9, sd_11_10, sd_11_11, sd_11_12, sd_11_13, sd_11_14, sd_11_15, sd_11_16, sd_11_17, sd_11_18, sd_12_0, sd_12_1, sd_12_2, sd_12_3, sd_12_4, sd_12_5, sd_12_6, sd_12_7, sd_12_8, sd_12_9, sd_12_10, sd_12_11, sd_12_12, sd_12_13, sd_12_14, sd_12_15, sd_12_16, sd_12_17, sd_12_18, sd_13_0, sd_13_1, sd_13_2, sd_13_3, sd_13_4, sd_13_5, sd_13_6, sd_13_7, sd_13_8, sd_13_9, sd_13_10, sd_13_11, sd_13_12, sd_13_13, sd_13_14, sd_13_15, sd_13_16, sd_13_17, sd_13_18, sd_14_0, sd_14_1, sd_14_2, sd_14_3, sd_14_4, sd_14_5, sd_14_6, sd_14_7, sd_14_8, sd_14_9, sd_14_10, sd_14_11, sd_14_12, sd_14_13, sd_14_14, sd_14_15, sd_14_16, sd_14_17, sd_14_18, sd_15_0, sd_15_1, sd_15_2, sd_15_3, sd_15_4, sd_15_5, sd_15_6, sd_15_7, sd_15_8, sd_15_9, sd_15_10, sd_15_11, sd_15_12, sd_15_13, sd_15_14, sd_15_15, sd_15_16, sd_15_17, sd_15_18, sd_16_0, sd_16_1, sd_16_2, sd_16_3, sd_16_4, sd_16_5, sd_16_6, sd_16_7, sd_16_8, sd_16_9, sd_16_10, sd_16_11, sd_16_12, sd_16_13, sd_16_14, sd_16_15, sd_16_16, sd_16_17, sd_16_18, sd_17_0, sd_17_1, sd_17_2, sd_17_3, sd_17_4, sd_17_5, sd_17_6, sd_17_7, sd_17_8, sd_17_9, sd_17_10, sd_17_11, sd_17_12, sd_17_13, sd_17_14, sd_17_15, sd_17_16, sd_17_17, sd_17_18, sd_18_0, sd_18_1, sd_18_2, sd_18_3, sd_18_4, sd_18_5, sd_18_6, sd_18_7, sd_18_8, sd_18_9, sd_18_10, sd_18_11, sd_18_12, sd_18_13, sd_18_14, sd_18_15, sd_18_16, sd_18_17, sd_18_18])

section
variable (a : Ad) {S : Sto} {Q : DK} {Ed : XD} {b c : Addr}
theorem gv_draw {δ : DV} {i : Nat} {m : Int} (hδ : δ[i]? = some (some (.ref b))) (hb : S b = some (.box c)) (h0 : 0 < m) (h1 : m < 1000000000000000000) : ∀ S1, Se S S1 → ∀ R : DK, (∀ j : Int, 0 ≤ j → j < m → R (.int j) S1) → eCa (F__law_draw a) Ed (aCons (eVar i) (aCons (eC (.int m)) aNil)) δ S1 R := by
  intro S1 hS R q
  simp only [eCa, aCons, aNil, eVar, hδ, eC, F__law_draw, wDraw]
  exact ⟨⟨c, hS.box hb⟩, h0, h1, q⟩
theorem w__law_bad_state {n : Nat} {t : St} (h : WfS n t) (hw : t.w.length ≤ 2048) (hb : S b = some (.box c)) (q : ∀ v S', Se S S' → dat 10 v = true → stateB v = false → Q v S') : F__law_bad_state a [.ref b, stD t] S Q Ed := by
  unfold F__law_bad_state B__law_bad_state
  rw [show stD t = .tup [.int t.pl, iD t.r, iD t.m, .int t.po, iD t.w, .int t.s] from rfl]
  walk_at "dr"
  refine ⟨⟨c, hb⟩, by decide, by decide, fun k k0 k1 => nx_go ?_⟩
  walk_at "dr"
  refine nx_go ?_
  unfold sSeq
  unfold sAsg
  have hr := h.r
  have hm := h.m
  have row_no : ∀ {lo hi : Int} {ds : List D}, ((ds.length : Int) < lo ∨ hi < ds.length ∨ ∃ d ∈ ds, numD 4294967295 d = false) → rowD lo hi (.tup ds) = false := by
    intro lo hi ds hh
    show (decide (lo ≤ (ds.length : Int)) && decide ((ds.length : Int) ≤ hi) && ds.all (numD 4294967295)) = false
    rcases hh with hh | hh | ⟨d, hd, hn⟩
    · rw [decide_eq_false (by omega), Bool.false_and, Bool.false_and]
    · rw [decide_eq_false (show ¬ ((ds.length : Int) ≤ hi) by omega), Bool.and_false, Bool.false_and]
    · have : ds.all (numD 4294967295) = false := by
        rw [List.all_eq_false]
        exact ⟨d, hd, by rw [hn]; exact Bool.false_ne_true⟩
      rw [this, Bool.and_false]
  have hd : ∀ {l : List Int}, ∀ d ∈ l.map D.int, dat 1 d = true := fun {l} d hd => by
    obtain ⟨x, _, rfl⟩ := List.mem_map.mp hd
    exact dat_i
  have hq : ∀ x (y : Int), x < y → x ≤ 1000000 - 1 → x ≤ 999999 := fun x y _ h => by omega
  refine ixLst_gv (gv_cons (P := fun d => dat 2 d = true ∧ numD 64 d = false) ?_ (gv_cons (P := fun d => dat 2 d = true ∧ rowD 4 4 d = false) ?_ (gv_cons (P := fun d => dat 2 d = true ∧ rowD 64 64 d = false) ?_ (gv_cons (P := fun d => dat 2 d = true ∧ numD 64 d = false) ?_ (gv_cons (P := fun d => dat 2 d = true ∧ rowD 0 2048 d = false) ?_ (gv_cons (P := fun d => dat 2 d = true ∧ numD 2 d = false) ?_ gv_nil)))))) ?_ (k := k) ?_ ?_
  · refine gv_pick (ds := [.int 65, .int (-1), .bl true, .non]) (m := 4) ?_ (by simp) (gv_draw a rfl hb (by decide) (by decide)) (by simp) fun d hd => ?_
    · intro S1 hS R q
      walk_at "dr0"
      exact q _ _ hS rfl
    · simp only [List.mem_cons, List.not_mem_nil, or_false] at hd
      rcases hd with rfl | rfl | rfl | rfl <;> decide +kernel
  · refine gv_pick (ds := [.tup ((t.r.map D.int).take 3), .tup (t.r.map D.int ++ [.int 0]), .tup [.int 0, .int 0, .int 0, .int 4294967296]]) (m := 3) ?_ (by simp) (gv_draw a rfl hb (by decide) (by decide)) (by simp) fun d hd1 => ?_
    · intro S1 hS R q
      unfold iD
      walk_at "dr0"
      refine ⟨by rw [List.length_map]; omega, q _ _ hS ?_⟩
      first | rfl | simp
    · simp only [List.mem_cons, List.not_mem_nil, or_false] at hd1
      rcases hd1 with rfl | rfl | rfl
      · exact ⟨dat_tup' (by rw [List.length_take]; omega) fun d hm => hd d (List.mem_of_mem_take hm), row_no (.inl (by rw [List.length_take, List.length_map]; omega))⟩
      · refine ⟨dat_tup' (by simp; omega) fun d hm => ?_, row_no (.inr (.inl (by simp; omega)))⟩
        rcases List.mem_append.mp hm with hm | hm
        · exact hd d hm
        · rw [List.mem_singleton.mp hm]; exact dat_i
      · decide +kernel
  · refine gv_pick (ds := [.tup ((t.m.map D.int).take 63), .tup (t.m.map D.int ++ [.int 0]), .tup (.int (-1) :: (t.m.map D.int).drop 1)]) (m := 3) ?_ (by simp) (gv_draw a rfl hb (by decide) (by decide)) (by simp) fun d hd1 => ?_
    · intro S1 hS R q
      unfold iD
      walk_at "dr0"
      rw [List.length_map, hm, List.length_drop, List.length_map, hm]
      refine ⟨by decide, by decide, q _ _ hS ?_⟩
      rw [show (63 : Int) = ((63 : Nat) : Int) from rfl, cut_take]
    · simp only [List.mem_cons, List.not_mem_nil, or_false] at hd1
      rcases hd1 with rfl | rfl | rfl
      · exact ⟨dat_tup' (by rw [List.length_take]; omega) fun d hm => hd d (List.mem_of_mem_take hm), row_no (.inl (by rw [List.length_take, List.length_map]; omega))⟩
      · refine ⟨dat_tup' (by simp; omega) fun d hm => ?_, row_no (.inr (.inl (by simp; omega)))⟩
        rcases List.mem_append.mp hm with hm | hm
        · exact hd d hm
        · rw [List.mem_singleton.mp hm]; exact dat_i
      · refine ⟨dat_tup' (by simp; omega) fun d hm => ?_, row_no (.inr (.inr ⟨.int (-1), List.mem_cons_self, by decide +kernel⟩))⟩
        rcases List.mem_cons.mp hm with rfl | hm
        · exact dat_i
        · exact hd d (List.mem_of_mem_drop hm)
  · refine gv_pick (ds := [.int 65, .int (-1), .bl false]) (m := 3) ?_ (by simp) (gv_draw a rfl hb (by decide) (by decide)) (by simp) fun d hd => ?_
    · intro S1 hS R q
      walk_at "dr0"
      exact q _ _ hS rfl
    · simp only [List.mem_cons, List.not_mem_nil, or_false] at hd
      rcases hd with rfl | rfl | rfl <;> decide +kernel
  · refine gv_pick (ds := [.tup [.int 4294967296], .tup [.bl true], .tup (List.replicate 2049 (.int 0)), .int 0]) (m := 4) ?_ (by simp) (gv_draw a rfl hb (by decide) (by decide)) (by simp) fun d hd => ?_
    · intro S1 hS R q
      walk_at "dr0"
      refine ⟨by simp, by decide, by decide, q _ _ hS ?_⟩
      rw [rep1]
      rfl
    · simp only [List.mem_cons, List.not_mem_nil, or_false] at hd
      rcases hd with rfl | rfl | rfl | rfl
      · decide +kernel
      · decide +kernel
      · refine ⟨dat_tup' (by rw [List.length_replicate]; omega) fun d hm => ?_, row_no (.inr (.inl (by rw [List.length_replicate]; omega)))⟩
        rw [(List.mem_replicate.mp hm).2]
        exact dat_i
      · decide +kernel
  · refine gv_pick (ds := [.int 3, .int (-1), .bl true]) (m := 3) ?_ (by simp) (gv_draw a rfl hb (by decide) (by decide)) (by simp) fun d hd => ?_
    · intro S1 hS R q
      walk_at "dr0"
      exact q _ _ hS rfl
    · simp only [List.mem_cons, List.not_mem_nil, or_false] at hd
      rcases hd with rfl | rfl | rfl <;> decide +kernel
  · rintro ds ⟨d0, _, rfl, _, d1, _, rfl, _, d2, _, rfl, _, d3, _, rfl, _, d4, _, rfl, _, d5, _, rfl, _, rfl⟩
    simp
  · intro S1 _ R q
    exact q
  · rintro ds S1 hS ⟨d0, _, rfl, g0, d1, _, rfl, g1, d2, _, rfl, g2, d3, _, rfl, g3, d4, _, rfl, g4, d5, _, rfl, g5, rfl⟩
    obtain ⟨j, rfl⟩ : ∃ m : Nat, k = (m : Nat) := ⟨k.toNat, by omega⟩
    have hj : j < 6 := by omega
    have base : ∀ v, v ∈ [D.int t.pl, iD t.r, iD t.m, D.int t.po, iD t.w, D.int t.s] → dat 9 v = true := by
      intro v hv
      have row : ∀ {l : List Int}, l.length ≤ 2048 → dat 9 (iD l) = true := fun {l} hl => dat_tup' (by rw [List.length_map]; omega) fun d hm => dat_mono (n := 1) (by decide) (hd d hm)
      simp only [List.mem_cons, List.not_mem_nil, or_false] at hv
      rcases hv with rfl | rfl | rfl | rfl | rfl | rfl <;> first | exact dat_i | (refine row ?_; omega)
    have fin : ∀ v, dat 2 v = true → stateB (.tup ([D.int t.pl, iD t.r, iD t.m, D.int t.po, iD t.w, D.int t.s].set j v)) = false → NX (sRet (eOp dAdd (eOp dAdd (eSl (eVar 1) oNone (oSome (eVar 2))) (eTup (aCons (eVar 9) aNil))) (eSl (eVar 1) (oSome (eOp dAdd (eVar 2) (eC (.int 1)))) oNone))) { nx := fun _ S' => Q .non S', rt := Q }
      [some (D.ref b), some (D.tup [D.int t.pl, iD t.r, iD t.m, D.int t.po, iD t.w, D.int t.s]), some (D.int ((j : Nat) : Int)), some (D.int t.pl), some (iD t.r), some (iD t.m), some (D.int t.po), some (iD t.w), some (D.int t.s), some v] S1 := by
      intro v hv hs
      refine nx_go ?_
      walk_at "dr0"
      have l1 := cut_len1 (xs := [D.int t.pl, iD t.r, iD t.m, D.int t.po, iD t.w, D.int t.s]) (k := j)
      have l2 := cut_len2 (xs := [D.int t.pl, iD t.r, iD t.m, D.int t.po, iD t.w, D.int t.s]) (k := j)
      simp only [List.length_cons, List.length_nil] at l1 l2
      refine ⟨by omega, by rw [List.length_append]; simp only [List.length_cons, List.length_nil]; omega, ?_⟩
      rw [cut_repl (by simpa using hj)]
      refine q _ _ hS (dat_tup' (by simp) fun d hm => ?_) hs
      rcases List.mem_or_eq_of_mem_set hm with hm | rfl
      · exact base d hm
      · exact dat_mono (by decide) hv
    have hj : j = 0 ∨ j = 1 ∨ j = 2 ∨ j = 3 ∨ j = 4 ∨ j = 5 := by omega
    rcases hj with rfl | rfl | rfl | rfl | rfl | rfl
    · refine ⟨d0, rfl, fin d0 g0.1 ?_⟩
      show (numD 64 d0 && _) = false
      rw [g0.2, Bool.false_and]
    · refine ⟨d1, rfl, fin d1 g1.1 ?_⟩
      show (_ && (rowD 4 4 d1 && _)) = false
      rw [g1.2, Bool.false_and, Bool.and_false]
    · refine ⟨d2, rfl, fin d2 g2.1 ?_⟩
      show (_ && (_ && (rowD 64 64 d2 && _))) = false
      rw [g2.2, Bool.false_and, Bool.and_false, Bool.and_false]
    · refine ⟨d3, rfl, fin d3 g3.1 ?_⟩
      show (_ && (_ && (_ && (numD 64 d3 && _)))) = false
      rw [g3.2, Bool.false_and, Bool.and_false, Bool.and_false, Bool.and_false]
    · refine ⟨d4, rfl, fin d4 g4.1 ?_⟩
      show (_ && (_ && (_ && (_ && (rowD 0 2048 d4 && _))))) = false
      rw [g4.2, Bool.false_and, Bool.and_false, Bool.and_false, Bool.and_false, Bool.and_false]
    · refine ⟨d5, rfl, fin d5 g5.1 ?_⟩
      show (_ && (_ && (_ && (_ && (_ && numD 2 d5))))) = false
      rw [g5.2, Bool.and_false, Bool.and_false, Bool.and_false, Bool.and_false, Bool.and_false]
end
end Sd

set_option Elab.async false
set_option linter.all false
set_option maxRecDepth 100000
set_option maxHeartbeats 1000000
namespace Sd
open PySem PySem.Spec PyProof.Rows L2 GxR
local macro_rules | `(tactic| walk_at "dr") => `(tactic| try simp only [shut_eq, eVar, eC, eKIx, eKIn, dIsB, kLook_c, atI_c0, atI_c1, atI_c2, atI_c3, atI_c4, atI_c5, cut_t1, cut_t2, cut_t3, cut_t4, cut_t5, cut_d1, cut_d2, cut_d3, tk1, tk2, tk5, dp1, dp2,  eOp, eUn, asB, eAnd, eOr, eNot, eIf, eChain, tV, tAnd', tOr', tNot', aNil, aCons, eTup, eLst, eCB, eDK, eDT, dAdd, dI, dSub, dMod, dDiv, dXor, dShl, dShr, dMul, dCmp, dLe, dLt, dGe, dGt, dEq, dNe, dIn, dIsN, dIx_t, dIx_c, dIx_s, dIx_r, dIx_iD, dNeg, dLen_iD, dLen_s, dLen_t, dLen_c, dLen_r, dList, dTuple, dInt, dIsi, dAll, oNone, oSome, dSl, eSl,
  xName, xNil, xCons, xTup, xSub, sNext, sSeq, sBreak, sCont, sDrop, sRet, sRetN, sIf, sAsg, sAug, sFor, iL, iT, iS, iR1, iR2, iRev1, iRev2, tYes', eLc, eAll, dIAdd, dISub, eBM, eBM0, asRef, eDGet, eDGet1, eDGet2, eDIn, eDNotIn, sDPutD, sDDelD, eCa, eMe, eMa, eFld, sFldD, sFldAugD, setO, dAppend, dPopAt, isBl, isTr, List.length_set, List.lookup, Nat.reduceLT, Nat.reduceLeDiff, Nat.lt_irrefl, Nat.not_lt_zero, Nat.zero_le, Nat.le_refl, Nat.zero_lt_succ, Nat.lt_add_one, sRaise, eJoin, dJoin, F__law_draw, F__law_box, wDraw, wBox, br, Int.natCast_nonneg, Int.cast_ofNat_Int, Int.reduceEq, 
  dstart, List.map_cons, List.map_nil, List.length_cons, List.length_nil, List.replicate, List.cons_append, List.nil_append, List.append_nil, List.getElem?_cons_zero, List.getElem?_cons_succ, List.set_cons_zero, List.set_cons_succ, Nat.sub_self, Nat.reduceAdd, Nat.reduceSub, wipeD,
  dat_i, dat_s, dat_b, dat_n, dats_c, dats_e, eqD_ii, eqD_ss, eqD_bb, eqD_nn, eqD_is, eqD_si, isNon, unC_i, unC_s, unC_b, unC_n, unC_t, unC_c, flatD, List.all_cons, List.all_nil, List.any_cons, List.any_nil, decide_true, decide_false, List.mem_cons, tyD, isTy, tyKn, String.reduceBEq, Bool.or_true, Bool.true_or, Bool.or_false, Bool.false_or, Bool.and_true, Bool.true_and, Bool.and_false, Bool.false_and, Bool.or_self, Bool.and_self, true_and, and_true, true_implies, false_implies, forall_const, reduceCtorEq, Bool.true_eq_false, Bool.false_eq_true, if_true, if_false, ite_true, ite_false, Bool.not_true, Bool.not_false, implies_true, eq_self])
local macro_rules | `(tactic| walk_at "drn") => `(tactic| try simp only [shut_eq, eVar, eC, eKIx, eKIn, dIsB, kLook_c, atI_c0, atI_c1, atI_c2, atI_c3, atI_c4, atI_c5, cut_t1, cut_t2, cut_t3, cut_t4, cut_t5, cut_d1, cut_d2, cut_d3, tk1, tk2, tk5, dp1, dp2,  eOp, eUn, asB, eAnd, eOr, eNot, eIf, eChain, tV, tAnd', tOr', tNot', aNil, aCons, eTup, eLst, eCB, eDK, eDT, dAdd, dI, dSub, dMod, dDiv, dXor, dShl, dShr, dMul, dCmp, dLe, dLt, dGe, dGt, dEq, dNe, dIn, dIsN, dIx_t, dIx_c, dIx_s, dIx_r, dIx_iD, dNeg, dLen_iD, dLen_s, dLen_t, dLen_c, dLen_r, dList, dTuple, dInt, dIsi, dAll, oNone, oSome, dSl, eSl,
  xName, xNil, xCons, xTup, xSub, sNext, sSeq, NX_eq, sBreak, sCont, sDrop, sRet, sRetN, sIf, sAsg, sAug, sFor, iL, iT, iS, iR1, iR2, iRev1, iRev2, tYes', eLc, eAll, dIAdd, dISub, eBM, eBM0, asRef, eDGet, eDGet1, eDGet2, eDIn, eDNotIn, sDPutD, sDDelD, eCa, eMe, eMa, eFld, sFldD, sFldAugD, setO, dAppend, dPopAt, isBl, isTr, List.length_set, List.lookup, Nat.reduceLT, Nat.reduceLeDiff, Nat.lt_irrefl, Nat.not_lt_zero, Nat.zero_le, Nat.le_refl, Nat.zero_lt_succ, Nat.lt_add_one, sRaise, eJoin, dJoin, F__law_draw, F__law_box, wDraw, wBox, br, Int.natCast_nonneg, Int.cast_ofNat_Int, Int.reduceEq, 
  dstart, List.map_cons, List.map_nil, List.length_cons, List.length_nil, List.replicate, List.cons_append, List.nil_append, List.append_nil, List.getElem?_cons_zero, List.getElem?_cons_succ, List.set_cons_zero, List.set_cons_succ, Nat.sub_self, Nat.reduceAdd, Nat.reduceSub, wipeD,
  dat_i, dat_s, dat_b, dat_n, dats_c, dats_e, eqD_ii, eqD_ss, eqD_bb, eqD_nn, eqD_is, eqD_si, isNon, unC_i, unC_s, unC_b, unC_n, unC_t, unC_c, flatD, List.all_cons, List.all_nil, List.any_cons, List.any_nil, decide_true, decide_false, List.mem_cons, tyD, isTy, tyKn, String.reduceBEq, Bool.or_true, Bool.true_or, Bool.or_false, Bool.false_or, Bool.and_true, Bool.true_and, Bool.and_false, Bool.false_and, Bool.or_self, Bool.and_self, true_and, and_true, true_implies, false_implies, forall_const, reduceCtorEq, Bool.true_eq_false, Bool.false_eq_true, if_true, if_false, ite_true, ite_false, Bool.not_true, Bool.not_false, implies_true, eq_self])

local macro_rules | `(tactic| walk_at "dr0") => `(tactic| try simp only [shut_eq, eVar, eC, eKIx, eKIn, dIsB, kLook_c, atI_c0, atI_c1, atI_c2, atI_c3, atI_c4, atI_c5, cut_t1, cut_t2, cut_t3, cut_t4, cut_t5, cut_d1, cut_d2, cut_d3, tk1, tk2, tk5, dp1, dp2,  eOp, eUn, asB, eAnd, eOr, eNot, eIf, eChain, tV, tAnd', tOr', tNot', aNil, aCons, eTup, eLst, eCB, eDK, eDT, dAdd, dI, dSub, dMod, dDiv, dXor, dShl, dShr, dMul_t, dCmp, dLe, dLt, dGe, dGt, dEq, dNe, dIn, dIsN, dIx_t, dIx_c, dIx_s, dIx_r, dIx_iD, dNeg, dLen_iD, dLen_s, dLen_t, dLen_c, dLen_r, dList, dTuple, dInt, dIsi, dAll, oNone, oSome, dSl, eSl,
  xName, xNil, xCons, xTup, xSub, sNext, sSeq, sBreak, sCont, sDrop, sRet, sRetN, sIf, sAsg, sAug, sFor, iL, iT, iS, iR1, iR2, iRev1, iRev2, tYes', eLc, eAll, dIAdd, dISub, eBM, eBM0, asRef, eDGet, eDGet1, eDGet2, eDIn, eDNotIn, sDPutD, sDDelD, eCa, eMe, eMa, eFld, sFldD, sFldAugD, setO, dAppend, dPopAt, isBl, isTr, List.length_set, List.lookup, Nat.reduceLT, Nat.reduceLeDiff, Nat.lt_irrefl, Nat.not_lt_zero, Nat.zero_le, Nat.le_refl, Nat.zero_lt_succ, Nat.lt_add_one, sRaise, eJoin, dJoin, F__law_draw, F__law_box, wDraw, wBox, br, Int.natCast_nonneg, Int.cast_ofNat_Int, Int.reduceEq, 
  dstart, List.map_cons, List.map_nil, List.length_cons, List.length_nil, List.cons_append, List.nil_append, List.append_nil, List.getElem?_cons_zero, List.getElem?_cons_succ, List.set_cons_zero, List.set_cons_succ, Nat.sub_self, Nat.reduceAdd, Nat.reduceSub, wipeD,
  dat_i, dat_s, dat_b, dat_n, dats_c, dats_e, eqD_ii, eqD_ss, eqD_bb, eqD_nn, eqD_is, eqD_si, isNon, unC_i, unC_s, unC_b, unC_n, unC_t, unC_c, flatD, List.all_cons, List.all_nil, List.any_cons, List.any_nil, decide_true, decide_false, List.mem_cons, tyD, isTy, tyKn, String.reduceBEq, Bool.or_true, Bool.true_or, Bool.or_false, Bool.false_or, Bool.and_true, Bool.true_and, Bool.and_false, Bool.false_and, Bool.or_self, Bool.and_self, true_and, and_true, true_implies, false_implies, forall_const, reduceCtorEq, Bool.true_eq_false, Bool.false_eq_true, if_true, if_false, ite_true, ite_false, Bool.not_true, Bool.not_false, implies_true, eq_self])

local macro_rules | `(tactic| walk_at "sd") => `(tactic| try simp only [sd_0_0, sd_0_1, sd_0_2, sd_0_3, sd_0_4, sd_0_5, sd_0_6, sd_0_7, sd_0_8, sd_0_9, sd_0_10, sd_0_11, sd_0_12, sd_0_13, sd_0_14, sd_0_15, sd_0_16, sd_0_17, sd_0_18, sd_1_0, sd_1_1, sd_1_2, sd_1_3, sd_1_4, sd_1_5, sd_1_6, sd_1_7, sd_1_8, sd_1_9, sd_1_10, sd_1_11, sd_1_12, sd_1_13, sd_1_14, sd_1_15, sd_1_16, sd_1_17, sd_1_18, sd_2_0, sd_2_1, sd_2_2, sd_2_3, sd_2_4, sd_2_5, sd_2_6, sd_2_7, sd_2_8, sd_2_9, sd_2_10, sd_2_11, sd_2_12, sd_2_13, sd_2_14, sd_2_15, sd_2_16, sd_2_17, sd_2_18, sd_3_0, sd_3_1, sd_3_2, sd_3_3, sd_3_4, sd_3_5, sd_3_6, sd_3_7, sd_3_8, sd_3_9, sd_3_10, sd_3_11, sd_3_12, sd_3_13, sd_3_14, sd_3_15, sd_3_16, sd_3_17, sd_3_18, sd_4_0, sd_4_1, sd_4_2, sd_4_3, sd_4_4, sd_4_5, sd_4_6, sd_4_7, sd_4_8, sd_4_9, sd_4_10, sd_4_11, sd_4_12, sd_4_13, sd_4_14, sd_4_15, sd_4_16, sd_4_17, sd_4_18, sd_5_0, sd_5_1, sd_5_2, sd_5_3, sd_5_4, sd_5_5, sd_5_6, sd_5_7, sd_5_8, sd_5_9, sd_5_10, sd_5_11, sd_5_12, sd_5_13, sd_5_14, sd_5_15, sd_5_16, sd_5_17, sd_5_18, sd_6_0, sd_6_1, sd_6_2, sd_6_3, sd_6_4, sd_6_5, sd_6_6, sd_6_7, sd_6_8, sd_6_9, sd_6_10, sd_6_11, sd_6_12, sd_6_13, sd_6_14, sd_6_15, sd_6_16, sd_6_17, sd_6_18, sd_7_0, sd_7_1, sd_7_2, sd_7_3, sd_7_4, sd_7_5, sd_7_6, sd_7_7, sd_7_8, sd_7_9, sd_7_10, sd_7_11, sd_7_12, sd_7_13, sd_7_14, sd_7_15, sd_7_16, sd_7_17, sd_7_18, sd_8_0, sd_8_1, sd_8_2, sd_8_3, sd_8_4, sd_8_5, sd_8_6, sd_8_7, sd_8_8, sd_8_9, sd_8_10, sd_8_11, sd_8_12, sd_8_13, sd_8_14, sd_8_15, sd_8_16, sd_8_17, sd_8_18, sd_9_0, sd_9_1, sd_9_2, sd_9_3, sd_9_4, sd_9_5, sd_9_6, sd_9_7, sd_9_8, sd_9_9, sd_9_10, sd_9_11, sd_9_12, sd_9_13, sd_9_14, sd_9_15, sd_9_16, sd_9_17, sd_9_18, sd_10_0, sd_10_1, sd_10_2, sd_10_3, sd_10_4, sd_10_5, sd_10_6, sd_10_7, sd_10_8, sd_10_9, sd_10_10, sd_10_11, sd_10_12, sd_10_13, sd_10_14, sd_10_15, sd_10_16, sd_10_17, sd_10_18, sd_11_0, sd_11_1, sd_11_2, sd_11_3, sd_11_4, sd_11_5, sd_11_6, sd_11_7, sd_11_8, sd_11_9, sd_11_10, sd_11_11, sd_11_12, sd_11_13, sd_11_14, sd_11_15, sd_11_16, sd_11_17, sd_11_18, sd_12_0, sd_12_1, sd_12_2, sd_12_3, sd_12_4, sd_12_5, sd_12_6, sd_12_7, sd_12_8, sd_12_9, sd_12_10, sd_12_11, sd_12_12, sd_12_13, sd_12_14, sd_12_15, sd_12_16, sd_12_17, sd_12_18, sd_13_0, sd_13_1, sd_13_2, sd_13_3, sd_13_4, sd_13_5, sd_13_6, sd_13_7, sd_13_8, sd_13_9, sd_13_10, sd_13_11, sd_13_12, sd_13_13, sd_13_14, sd_13_15, sd_13_16, sd_13_17, sd_13_18, sd_14_0, sd_14_1, sd_14_2, sd_14_3, sd_14_4, sd_14_5, sd_14_6, sd_14_7, sd_14_8, sd_14_9, sd_14_10, sd_14_11, sd_14_12, sd_14_13, sd_14_14, sd_14_15, sd_14_16, sd_14_17, sd_14_18, sd_15_0, sd_15_1, sd_15_2, sd_15_3, sd_15_4, sd_15_5, sd_15_6, sd_15_7, sd_15_8, sd_15_9, sd_15_10, sd_15_11, sd_15_12, sd_15_13, sd_15_14, sd_15_15, sd_15_16, sd_15_17, sd_15_18, sd_16_0, sd_16_1, sd_16_2, sd_16_3, sd_16_4, sd_16_5, sd_16_6, sd_16_7, sd_16_8, sd_16_9, sd_16_10, sd_16_11, sd_16_12, sd_16_13, sd_16_14, sd_16_15, sd_16_16, sd_16_17, sd_16_18, sd_17_0, sd_17_1, sd_17_2, sd_17_3, sd_17_4, sd_17_5, sd_17_6, sd_17_7, sd_17_8, sd_17_9, sd_17_10, sd_17_11, sd_17_12, sd_17_13, sd_17_14, sd_17_15, sd_17_16, sd_17_17, sd_17_18, sd_18_0, sd_18_1, sd_18_2, sd_18_3, sd_18_4, sd_18_5, sd_18_6, sd_18_7, sd_18_8, sd_18_9, sd_18_10, sd_18_11, sd_18_12, sd_18_13, sd_18_14, sd_18_15, sd_18_16, sd_18_17, sd_18_18])

/-- _law_same of a thing and itself -/
theorem w_same (a : Ad) : ∀ (n : Nat) {x : D} {S : Sto} {Q : DK} {Ed : XD}, dat n x = true → n ≤ 50 → Q (.bl true) S → F__law_same a (n + 1) [x, x] S Q Ed := by
  intro n
  induction n with
  | zero =>
    intro x S Q Ed hx _ q
    unfold F__law_same B__law_same
    cases x <;> first | (simp [dat] at hx; done) | skip
    all_goals walk_at "drn"
    all_goals first | exact q | (simpa using q)
  | succ n ih =>
    intro x S Q Ed hx hn q
    unfold F__law_same B__law_same
    cases x <;> first | (simp [dat] at hx; done) | skip
    all_goals walk_at "drn"
    all_goals first | exact q | (simpa using q; done) | skip
    rename_i ds
    obtain ⟨hl, hd⟩ := dat_tup hx
    refine ⟨by omega, by omega, ?_⟩
    refine forD_ix (fun k δ S' => (∃ x, δ = [some (.tup ds), some (.tup ds), x]) ∧ S' = S) ?_ ?_ ⟨⟨_, rfl⟩, rfl⟩
    · rintro k x hk Nx δ S' ⟨⟨y, rfl⟩, rfl⟩ hN
      obtain ⟨hk, rfl⟩ := upto_get hk
      have hk' : k < ds.length := by omega
      refine ⟨trivial, ?_⟩
      walk_at "drn"
      rw [atI_getElem hk']
      walk_at "drn"
      refine ih (hd _ (List.getElem_mem _)) (by omega) ?_
      walk_at "drn"
      exact hN _ _ ⟨⟨_, rfl⟩, rfl⟩
    · rintro δ S' ⟨⟨y, rfl⟩, rfl⟩
      refine ⟨trivial, ?_⟩
      walk_at "drn"
      exact q

/-- the same, a written tuple beside a made one -/
def eqC : Nat → D → D → Prop
  | 0, x, y => x = y ∧ dat 0 x = true
  | n + 1, x, y => (x = y ∧ dat 0 x = true) ∨ ∃ xs ys, (x = .tup xs ∨ x = .ctup xs) ∧ (y = .tup ys ∨ y = .ctup ys) ∧ xs.length = ys.length ∧ xs.length ≤ 1000000 ∧ ∀ (k : Nat) (d e : D), xs[k]? = some d → ys[k]? = some e → eqC n d e
theorem w_sameC (a : Ad) : ∀ (n : Nat) {x y : D} {S : Sto} {Q : DK} {Ed : XD}, eqC n x y → n ≤ 50 → Q (.bl true) S → F__law_same a (n + 1) [x, y] S Q Ed := by
  intro n
  induction n with
  | zero =>
    rintro x y S Q Ed ⟨rfl, hx⟩ h q
    exact w_same a 0 hx h q
  | succ n ih =>
    intro x y S Q Ed hx hn q
    rcases hx with ⟨rfl, hx⟩ | ⟨xs, ys, hx, hy, hl, hm, hd⟩
    · exact w_same a (n + 1) (dat_mono (by omega) hx) hn q
    · unfold F__law_same B__law_same
      have key : ∀ xx yy, (xx = D.tup xs ∨ xx = .ctup xs) → (yy = D.tup ys ∨ yy = .ctup ys) → ∀ D' : DN, D'.rt = Q → forD (fun _ => True) (xName 2) (sIf (tNot' (tV (eCa (F__law_same a (n + 1)) Ed (aCons (eOp dIx (eVar 0) (eVar 2)) (aCons (eOp dIx (eVar 1) (eVar 2)) aNil))))) (sRet (eC (.bl false))) sNext) (upto 0 xs.length) { D' with nx := NX (sRet (eC (.bl true))) D' } [some xx, some yy, none] S := by
        intro xx yy hxx hyy D' hD'
        refine forD_ix (fun k δ S' => (∃ x, δ = [some xx, some yy, x]) ∧ S' = S) ?_ ?_ ⟨⟨_, rfl⟩, rfl⟩
        · rintro k x hk Nx δ S' ⟨⟨y, rfl⟩, rfl⟩ hN
          obtain ⟨hk, rfl⟩ := upto_get hk
          have hk' : k < xs.length := by omega
          have hk2 : k < ys.length := by omega
          refine ⟨trivial, ?_⟩
          have e1 : ∀ (S' : Sto) (R : DK), dIx xx (.int ((k : Nat) : Int)) S' R = R xs[k] S' := by
            intro S' R
            rcases hxx with rfl | rfl <;> (first | rw [dIx_t, atI_getElem hk'] | rw [dIx_c, atI_getElem hk'])
          have e2 : ∀ (S' : Sto) (R : DK), dIx yy (.int ((k : Nat) : Int)) S' R = R ys[k] S' := by
            intro S' R
            rcases hyy with rfl | rfl <;> (first | rw [dIx_t, atI_getElem hk2] | rw [dIx_c, atI_getElem hk2])
          simp only [sIf, tNot', tV, eCa, aCons, aNil, eOp, eVar, xName, List.getElem?_cons_zero, List.getElem?_cons_succ, List.set_cons_zero, List.set_cons_succ, e1, e2]
          refine ih (hd k _ _ (List.getElem?_eq_getElem hk') (List.getElem?_eq_getElem hk2)) (by omega) ?_
          walk_at "drn"
          exact hN _ _ ⟨⟨_, rfl⟩, rfl⟩
        · rintro δ S' ⟨⟨y, rfl⟩, rfl⟩
          refine ⟨trivial, nx_go ?_⟩
          show D'.rt _ _
          rw [hD']
          exact q
      have hlD : decide (((xs.length : Nat) : Int) = ((ys.length : Nat) : Int)) = true := decide_eq_true (by rw [hl])
      rcases hx with rfl | rfl <;> rcases hy with rfl | rfl
      all_goals walk_at "dr"
      all_goals simp only [hlD]
      all_goals walk_at "dr"
      all_goals refine nx_go ?_
      all_goals walk_at "dr"
      all_goals refine ⟨by omega, by omega, ?_⟩
      all_goals rw [Int.toNat_natCast]
      · exact key _ _ (.inl rfl) (.inl rfl) _ rfl
      · exact key _ _ (.inl rfl) (.inr rfl) _ rfl
      · exact key _ _ (.inr rfl) (.inl rfl) _ rfl
      · exact key _ _ (.inr rfl) (.inr rfl) _ rfl


end Sd

set_option Elab.async false
set_option linter.all false
set_option maxRecDepth 100000
set_option maxHeartbeats 1000000
namespace Sd
open PySem PySem.Spec PyProof.Rows L2 GxR
local macro_rules | `(tactic| walk_at "dr") => `(tactic| try simp only [shut_eq, eVar, eC, eKIx, eKIn, dIsB, kLook_c, atI_c0, atI_c1, atI_c2, atI_c3, atI_c4, atI_c5, cut_t1, cut_t2, cut_t3, cut_t4, cut_t5, cut_d1, cut_d2, cut_d3, tk1, tk2, tk5, dp1, dp2,  eOp, eUn, asB, eAnd, eOr, eNot, eIf, eChain, tV, tAnd', tOr', tNot', aNil, aCons, eTup, eLst, eCB, eDK, eDT, dAdd, dI, dSub, dMod, dDiv, dXor, dShl, dShr, dMul, dCmp, dLe, dLt, dGe, dGt, dEq, dNe, dIn, dIsN, dIx_t, dIx_c, dIx_s, dIx_r, dIx_iD, dNeg, dLen_iD, dLen_s, dLen_t, dLen_c, dLen_r, dList, dTuple, dInt, dIsi, dAll, oNone, oSome, dSl, eSl,
  xName, xNil, xCons, xTup, xSub, sNext, sSeq, sBreak, sCont, sDrop, sRet, sRetN, sIf, sAsg, sAug, sFor, iL, iT, iS, iR1, iR2, iRev1, iRev2, tYes', eLc, eAll, dIAdd, dISub, eBM, eBM0, asRef, eDGet, eDGet1, eDGet2, eDIn, eDNotIn, sDPutD, sDDelD, eCa, eMe, eMa, eFld, sFldD, sFldAugD, setO, dAppend, dPopAt, isBl, isTr, List.length_set, List.lookup, Nat.reduceLT, Nat.reduceLeDiff, Nat.lt_irrefl, Nat.not_lt_zero, Nat.zero_le, Nat.le_refl, Nat.zero_lt_succ, Nat.lt_add_one, sRaise, eJoin, dJoin, F__law_draw, F__law_box, wDraw, wBox, br, Int.natCast_nonneg, Int.cast_ofNat_Int, Int.reduceEq, 
  dstart, List.map_cons, List.map_nil, List.length_cons, List.length_nil, List.replicate, List.cons_append, List.nil_append, List.append_nil, List.getElem?_cons_zero, List.getElem?_cons_succ, List.set_cons_zero, List.set_cons_succ, Nat.sub_self, Nat.reduceAdd, Nat.reduceSub, wipeD,
  dat_i, dat_s, dat_b, dat_n, dats_c, dats_e, eqD_ii, eqD_ss, eqD_bb, eqD_nn, eqD_is, eqD_si, isNon, unC_i, unC_s, unC_b, unC_n, unC_t, unC_c, flatD, List.all_cons, List.all_nil, List.any_cons, List.any_nil, decide_true, decide_false, List.mem_cons, tyD, isTy, tyKn, String.reduceBEq, Bool.or_true, Bool.true_or, Bool.or_false, Bool.false_or, Bool.and_true, Bool.true_and, Bool.and_false, Bool.false_and, Bool.or_self, Bool.and_self, true_and, and_true, true_implies, false_implies, forall_const, reduceCtorEq, Bool.true_eq_false, Bool.false_eq_true, if_true, if_false, ite_true, ite_false, Bool.not_true, Bool.not_false, implies_true, eq_self])
local macro_rules | `(tactic| walk_at "drn") => `(tactic| try simp only [shut_eq, eVar, eC, eKIx, eKIn, dIsB, kLook_c, atI_c0, atI_c1, atI_c2, atI_c3, atI_c4, atI_c5, cut_t1, cut_t2, cut_t3, cut_t4, cut_t5, cut_d1, cut_d2, cut_d3, tk1, tk2, tk5, dp1, dp2,  eOp, eUn, asB, eAnd, eOr, eNot, eIf, eChain, tV, tAnd', tOr', tNot', aNil, aCons, eTup, eLst, eCB, eDK, eDT, dAdd, dI, dSub, dMod, dDiv, dXor, dShl, dShr, dMul, dCmp, dLe, dLt, dGe, dGt, dEq, dNe, dIn, dIsN, dIx_t, dIx_c, dIx_s, dIx_r, dIx_iD, dNeg, dLen_iD, dLen_s, dLen_t, dLen_c, dLen_r, dList, dTuple, dInt, dIsi, dAll, oNone, oSome, dSl, eSl,
  xName, xNil, xCons, xTup, xSub, sNext, sSeq, NX_eq, sBreak, sCont, sDrop, sRet, sRetN, sIf, sAsg, sAug, sFor, iL, iT, iS, iR1, iR2, iRev1, iRev2, tYes', eLc, eAll, dIAdd, dISub, eBM, eBM0, asRef, eDGet, eDGet1, eDGet2, eDIn, eDNotIn, sDPutD, sDDelD, eCa, eMe, eMa, eFld, sFldD, sFldAugD, setO, dAppend, dPopAt, isBl, isTr, List.length_set, List.lookup, Nat.reduceLT, Nat.reduceLeDiff, Nat.lt_irrefl, Nat.not_lt_zero, Nat.zero_le, Nat.le_refl, Nat.zero_lt_succ, Nat.lt_add_one, sRaise, eJoin, dJoin, F__law_draw, F__law_box, wDraw, wBox, br, Int.natCast_nonneg, Int.cast_ofNat_Int, Int.reduceEq, 
  dstart, List.map_cons, List.map_nil, List.length_cons, List.length_nil, List.replicate, List.cons_append, List.nil_append, List.append_nil, List.getElem?_cons_zero, List.getElem?_cons_succ, List.set_cons_zero, List.set_cons_succ, Nat.sub_self, Nat.reduceAdd, Nat.reduceSub, wipeD,
  dat_i, dat_s, dat_b, dat_n, dats_c, dats_e, eqD_ii, eqD_ss, eqD_bb, eqD_nn, eqD_is, eqD_si, isNon, unC_i, unC_s, unC_b, unC_n, unC_t, unC_c, flatD, List.all_cons, List.all_nil, List.any_cons, List.any_nil, decide_true, decide_false, List.mem_cons, tyD, isTy, tyKn, String.reduceBEq, Bool.or_true, Bool.true_or, Bool.or_false, Bool.false_or, Bool.and_true, Bool.true_and, Bool.and_false, Bool.false_and, Bool.or_self, Bool.and_self, true_and, and_true, true_implies, false_implies, forall_const, reduceCtorEq, Bool.true_eq_false, Bool.false_eq_true, if_true, if_false, ite_true, ite_false, Bool.not_true, Bool.not_false, implies_true, eq_self])

local macro_rules | `(tactic| walk_at "dr0") => `(tactic| try simp only [shut_eq, eVar, eC, eKIx, eKIn, dIsB, kLook_c, atI_c0, atI_c1, atI_c2, atI_c3, atI_c4, atI_c5, cut_t1, cut_t2, cut_t3, cut_t4, cut_t5, cut_d1, cut_d2, cut_d3, tk1, tk2, tk5, dp1, dp2,  eOp, eUn, asB, eAnd, eOr, eNot, eIf, eChain, tV, tAnd', tOr', tNot', aNil, aCons, eTup, eLst, eCB, eDK, eDT, dAdd, dI, dSub, dMod, dDiv, dXor, dShl, dShr, dMul_t, dCmp, dLe, dLt, dGe, dGt, dEq, dNe, dIn, dIsN, dIx_t, dIx_c, dIx_s, dIx_r, dIx_iD, dNeg, dLen_iD, dLen_s, dLen_t, dLen_c, dLen_r, dList, dTuple, dInt, dIsi, dAll, oNone, oSome, dSl, eSl,
  xName, xNil, xCons, xTup, xSub, sNext, sSeq, sBreak, sCont, sDrop, sRet, sRetN, sIf, sAsg, sAug, sFor, iL, iT, iS, iR1, iR2, iRev1, iRev2, tYes', eLc, eAll, dIAdd, dISub, eBM, eBM0, asRef, eDGet, eDGet1, eDGet2, eDIn, eDNotIn, sDPutD, sDDelD, eCa, eMe, eMa, eFld, sFldD, sFldAugD, setO, dAppend, dPopAt, isBl, isTr, List.length_set, List.lookup, Nat.reduceLT, Nat.reduceLeDiff, Nat.lt_irrefl, Nat.not_lt_zero, Nat.zero_le, Nat.le_refl, Nat.zero_lt_succ, Nat.lt_add_one, sRaise, eJoin, dJoin, F__law_draw, F__law_box, wDraw, wBox, br, Int.natCast_nonneg, Int.cast_ofNat_Int, Int.reduceEq, 
  dstart, List.map_cons, List.map_nil, List.length_cons, List.length_nil, List.cons_append, List.nil_append, List.append_nil, List.getElem?_cons_zero, List.getElem?_cons_succ, List.set_cons_zero, List.set_cons_succ, Nat.sub_self, Nat.reduceAdd, Nat.reduceSub, wipeD,
  dat_i, dat_s, dat_b, dat_n, dats_c, dats_e, eqD_ii, eqD_ss, eqD_bb, eqD_nn, eqD_is, eqD_si, isNon, unC_i, unC_s, unC_b, unC_n, unC_t, unC_c, flatD, List.all_cons, List.all_nil, List.any_cons, List.any_nil, decide_true, decide_false, List.mem_cons, tyD, isTy, tyKn, String.reduceBEq, Bool.or_true, Bool.true_or, Bool.or_false, Bool.false_or, Bool.and_true, Bool.true_and, Bool.and_false, Bool.false_and, Bool.or_self, Bool.and_self, true_and, and_true, true_implies, false_implies, forall_const, reduceCtorEq, Bool.true_eq_false, Bool.false_eq_true, if_true, if_false, ite_true, ite_false, Bool.not_true, Bool.not_false, implies_true, eq_self])

local macro_rules | `(tactic| walk_at "sd") => `(tactic| try simp only [sd_0_0, sd_0_1, sd_0_2, sd_0_3, sd_0_4, sd_0_5, sd_0_6, sd_0_7, sd_0_8, sd_0_9, sd_0_10, sd_0_11, sd_0_12, sd_0_13, sd_0_14, sd_0_15, sd_0_16, sd_0_17, sd_0_18, sd_1_0, sd_1_1, sd_1_2, sd_1_3, sd_1_4, sd_1_5, sd_1_6, sd_1_7, sd_1_8, sd_1_9, sd_1_10, sd_1_11, sd_1_12, sd_1_13, sd_1_14, sd_1_15, sd_1_16, sd_1_17, sd_1_18, sd_2_0, sd_2_1, sd_2_2, sd_2_3, sd_2_4, sd_2_5, sd_2_6, sd_2_7, sd_2_8, sd_2_9, sd_2_10, sd_2_11, sd_2_12, sd_2_13, sd_2_14, sd_2_15, sd_2_16, sd_2_17, sd_2_18, sd_3_0, sd_3_1, sd_3_2, sd_3_3, sd_3_4, sd_3_5, sd_3_6, sd_3_7, sd_3_8, sd_3_9, sd_3_10, sd_3_11, sd_3_12, sd_3_13, sd_3_14, sd_3_15, sd_3_16, sd_3_17, sd_3_18, sd_4_0, sd_4_1, sd_4_2, sd_4_3, sd_4_4, sd_4_5, sd_4_6, sd_4_7, sd_4_8, sd_4_9, sd_4_10, sd_4_11, sd_4_12, sd_4_13, sd_4_14, sd_4_15, sd_4_16, sd_4_17, sd_4_18, sd_5_0, sd_5_1, sd_5_2, sd_5_3, sd_5_4, sd_5_5, sd_5_6, sd_5_7, sd_5_8, sd_5_9, sd_5_10, sd_5_11, sd_5_12, sd_5_13, sd_5_14, sd_5_15, sd_5_16, sd_5_17, sd_5_18, sd_6_0, sd_6_1, sd_6_2, sd_6_3, sd_6_4, sd_6_5, sd_6_6, sd_6_7, sd_6_8, sd_6_9, sd_6_10, sd_6_11, sd_6_12, sd_6_13, sd_6_14, sd_6_15, sd_6_16, sd_6_17, sd_6_18, sd_7_0, sd_7_1, sd_7_2, sd_7_3, sd_7_4, sd_7_5, sd_7_6, sd_7_7, sd_7_8, sd_7_9, sd_7_10, sd_7_11, sd_7_12, sd_7_13, sd_7_14, sd_7_15, sd_7_16, sd_7_17, sd_7_18, sd_8_0, sd_8_1, sd_8_2, sd_8_3, sd_8_4, sd_8_5, sd_8_6, sd_8_7, sd_8_8, sd_8_9, sd_8_10, sd_8_11, sd_8_12, sd_8_13, sd_8_14, sd_8_15, sd_8_16, sd_8_17, sd_8_18, sd_9_0, sd_9_1, sd_9_2, sd_9_3, sd_9_4, sd_9_5, sd_9_6, sd_9_7, sd_9_8, sd_9_9, sd_9_10, sd_9_11, sd_9_12, sd_9_13, sd_9_14, sd_9_15, sd_9_16, sd_9_17, sd_9_18, sd_10_0, sd_10_1, sd_10_2, sd_10_3, sd_10_4, sd_10_5, sd_10_6, sd_10_7, sd_10_8, sd_10_9, sd_10_10, sd_10_11, sd_10_12, sd_10_13, sd_10_14, sd_10_15, sd_10_16, sd_10_17, sd_10_18, sd_11_0, sd_11_1, sd_11_2, sd_11_3, sd_11_4, sd_11_5, sd_11_6, sd_11_7, sd_11_8, sd_11_9, sd_11_10, sd_11_11, sd_11_12, sd_11_13, sd_11_14, sd_11_15, sd_11_16, sd_11_17, sd_11_18, sd_12_0, sd_12_1, sd_12_2, sd_12_3, sd_12_4, sd_12_5, sd_12_6, sd_12_7, sd_12_8, sd_12_9, sd_12_10, sd_12_11, sd_12_12, sd_12_13, sd_12_14, sd_12_15, sd_12_16, sd_12_17, sd_12_18, sd_13_0, sd_13_1, sd_13_2, sd_13_3, sd_13_4, sd_13_5, sd_13_6, sd_13_7, sd_13_8, sd_13_9, sd_13_10, sd_13_11, sd_13_12, sd_13_13, sd_13_14, sd_13_15, sd_13_16, sd_13_17, sd_13_18, sd_14_0, sd_14_1, sd_14_2, sd_14_3, sd_14_4, sd_14_5, sd_14_6, sd_14_7, sd_14_8, sd_14_9, sd_14_10, sd_14_11, sd_14_12, sd_14_13, sd_14_14, sd_14_15, sd_14_16, sd_14_17, sd_14_18, sd_15_0, sd_15_1, sd_15_2, sd_15_3, sd_15_4, sd_15_5, sd_15_6, sd_15_7, sd_15_8, sd_15_9, sd_15_10, sd_15_11, sd_15_12, sd_15_13, sd_15_14, sd_15_15, sd_15_16, sd_15_17, sd_15_18, sd_16_0, sd_16_1, sd_16_2, sd_16_3, sd_16_4, sd_16_5, sd_16_6, sd_16_7, sd_16_8, sd_16_9, sd_16_10, sd_16_11, sd_16_12, sd_16_13, sd_16_14, sd_16_15, sd_16_16, sd_16_17, sd_16_18, sd_17_0, sd_17_1, sd_17_2, sd_17_3, sd_17_4, sd_17_5, sd_17_6, sd_17_7, sd_17_8, sd_17_9, sd_17_10, sd_17_11, sd_17_12, sd_17_13, sd_17_14, sd_17_15, sd_17_16, sd_17_17, sd_17_18, sd_18_0, sd_18_1, sd_18_2, sd_18_3, sd_18_4, sd_18_5, sd_18_6, sd_18_7, sd_18_8, sd_18_9, sd_18_10, sd_18_11, sd_18_12, sd_18_13, sd_18_14, sd_18_15, sd_18_16, sd_18_17, sd_18_18])

theorem flat64 : (List.replicate (Int.toNat 64) [D.int 0]).flatten = (List.replicate 64 0).map D.int := by rw [rep1]; rfl
theorem w_first_state (a : Ad) {S : Sto} {Q : DK} {Ed : XD} : F_first_state a [] S Q Ed = Q (stD ⟨0, [0, 0, 0, 0], List.replicate 64 0, 0, [], 0⟩) S := by
  unfold F_first_state B_first_state
  walk_at "dr0"
  rw [rep1, rep1]
  simp
  rfl
theorem dat_iD {l : List Int} (h : l.length ≤ 1000000) : dat 1 (iD l) = true := dat_tup' (by rw [List.length_map]; exact h) fun d hd => by
  obtain ⟨x, _, rfl⟩ := List.mem_map.mp hd
  exact dat_i
theorem dat_ins {i : Ins} : dat 3 (insD i) = true := by
  rw [insD_eq]
  exact dat_row (by have := opI_le i; omega) fun d hd => dat_up (opI_dat i d hd)
theorem ins_ops (a : Ad) {i : Ins} (h : WfI i) : inOps a (insD i) := by
  rw [insD_eq]
  exact inOps_of a (by rw [(look_ins a h).1]; simp)
theorem opI_int (i : Ins) : ∀ d ∈ opI i, ∃ x, d = .int x := by
  intro d hd
  cases i <;> simp only [opI, List.mem_cons, List.not_mem_nil, or_false] at hd
  all_goals first | exact ⟨_, hd⟩ | (rcases hd with h | h; exact ⟨_, h⟩; exact ⟨_, h⟩) | (rcases hd with h | h | h; exact ⟨_, h⟩; exact ⟨_, h⟩; exact ⟨_, h⟩)
theorem w_is_input (a : Ad) {v : D} {S : Sto} {Q : DK} {Ed : XD} (hv : dat 60 v = true) : F_is_input a [v] S Q Ed = Q (.bl (rowD 0 64 v)) S := by
  unfold F_is_input B_is_input
  walk_at "drn"
  exact w__is_row_of_words a hv
theorem row_no {lo hi : Int} {ds : List D} (hh : (ds.length : Int) < lo ∨ hi < ds.length ∨ ∃ d ∈ ds, numD 4294967295 d = false) : rowD lo hi (.tup ds) = false := by
  show (decide (lo ≤ (ds.length : Int)) && decide ((ds.length : Int) ≤ hi) && ds.all (numD 4294967295)) = false
  rcases hh with hh | hh | ⟨d, hd, hn⟩
  · rw [decide_eq_false (by omega), Bool.false_and, Bool.false_and]
  · rw [decide_eq_false (show ¬ ((ds.length : Int) ≤ hi) by omega), Bool.and_false, Bool.false_and]
  · have : ds.all (numD 4294967295) = false := by
      rw [List.all_eq_false]
      exact ⟨d, hd, by rw [hn]; exact Bool.false_ne_true⟩
    rw [this, Bool.and_false]
theorem prog_no (a : Ad) {ds : List D} (hh : 64 < (ds.length : Int) ∨ ds = [] ∨ ∃ d ∈ ds, insB a d = false) : progB a (.tup ds) = false := by
  show (decide (1 ≤ (ds.length : Int)) && decide ((ds.length : Int) ≤ 64) && ds.all (insB a)) = false
  rcases hh with hh | rfl | ⟨d, hd, hn⟩
  · rw [decide_eq_false (show ¬ ((ds.length : Int) ≤ 64) by omega), Bool.and_false, Bool.false_and]
  · rfl
  · have : ds.all (insB a) = false := by
      rw [List.all_eq_false]
      exact ⟨d, hd, by rw [hn]; exact Bool.false_ne_true⟩
    rw [this, Bool.and_false]
theorem w_law (a : Ad) {S : Sto} {Q : DK} {Ed : XD} (q : ∀ S', Q (.bl true) S') : F_law a [.scr] S Q Ed := by
  unfold F_law B_law
  walk_at "dr"
  refine fun b c hb hc hne => nx_go ?_
  have hB : sup (sup S c .cells) b (.box c) b = some (.box c) := sup_same
  generalize sup (sup S c .cells) b (.box c) = S1 at hB ⊢
  refine seq_go ?_
  refine asg_go ?_
  unfold eSplit
  refine fun p hp => nx_go ?_
  have hB1 := (Se.one (o := .lst ([Str.ofString "set", Str.ofString "copy", Str.ofString "add", Str.ofString "sub", Str.ofString "mul", Str.ofString "div", Str.ofString "mod", Str.ofString "less", Str.ofString "same", Str.ofString "load", Str.ofString "store", Str.ofString "jump", Str.ofString "zero", Str.ofString "read", Str.ofString "left", Str.ofString "write", Str.ofString "stop"].map D.str)) hp).box hB
  have hL : sup S1 p (.lst ([Str.ofString "set", Str.ofString "copy", Str.ofString "add", Str.ofString "sub", Str.ofString "mul", Str.ofString "div", Str.ofString "mod", Str.ofString "less", Str.ofString "same", Str.ofString "load", Str.ofString "store", Str.ofString "jump", Str.ofString "zero", Str.ofString "read", Str.ofString "left", Str.ofString "write", Str.ofString "stop"].map D.str)) p = some (.lst ([Str.ofString "set", Str.ofString "copy", Str.ofString "add", Str.ofString "sub", Str.ofString "mul", Str.ofString "div", Str.ofString "mod", Str.ofString "less", Str.ofString "same", Str.ofString "load", Str.ofString "store", Str.ofString "jump", Str.ofString "zero", Str.ofString "read", Str.ofString "left", Str.ofString "write", Str.ofString "stop"].map D.str)) := sup_same
  generalize sup S1 p _ = S2 at hB1 hL ⊢
  clear hp hB S1
  walk_at "dr0"
  rw [atL_eq hL]
  refine w_sameC a 7 (.inr ⟨_, _, .inl rfl, .inl rfl, rfl, by decide, fun k d e h1 h2 => ?_⟩) (by decide) ?_
  · match k with
    | 0 => cases h1; cases h2; exact .inl ⟨rfl, dat_i⟩
    | 1 => cases h1; cases h2; exact .inl ⟨rfl, dat_i⟩
    | 2 => cases h1; cases h2; exact .inl ⟨rfl, dat_i⟩
    | 3 =>
      cases h1; cases h2
      refine .inr ⟨_, _, .inr rfl, .inl rfl, rfl, by decide, fun k d e h1 h2 => ?_⟩
      have e12 := h1.symm.trans h2
      cases e12
      refine .inl ⟨rfl, ?_⟩
      have hm := List.mem_of_getElem? h1
      simp only [List.mem_cons, List.not_mem_nil, or_false] at hm
      rcases hm with rfl | rfl | rfl | rfl | rfl | rfl | rfl | rfl | rfl | rfl | rfl | rfl | rfl | rfl | rfl | rfl | rfl <;> exact dat_s
    | k + 4 => simp at h1
  walk_at "dr0"
  refine nx_go ?_
  walk_at "dr0"
  rw [w_first_state]
  clear hL
  refine ⟨by simp, by decide, by decide, ?_⟩
  rw [flat64]
  refine w_same a 7 (show dat 7 (stD _) = true by decide +kernel) (by decide) ?_
  walk_at "dr0"
  refine nx_go ?_
  walk_at "dr0"
  refine w__law_program a (by decide) (by decide) hB1 fun prog S3 hS3 hp1 hp2 hpw => nx_go ?_
  have hB3 := hS3.box hB1
  clear hS3 hB1 S2
  walk_at "dr0"
  refine w__law_input a (by decide) (by decide) hB3 fun ws S4 hS4 hw1 hww => nx_go ?_
  have hB4 := hS4.box hB3
  clear hS4 hB3 S3
  walk_at "dr0"
  refine w__law_state a (by omega) hB4 fun t S5 hB5 ht htp htw hts => nx_go ?_
  clear hB4 S4
  walk_at "dr0"
  refine fun p1 hp1' => ⟨⟨c, (Se.one hp1').box hB5⟩, by decide, by decide, fun i i0 i1 => pickL i0 (by simpa using i1) fun d hd => ?_⟩
  have hB6 := (Se.one (o := .lst [.int 0, .int 63, .int 64]) hp1').box hB5
  generalize sup S5 p1 _ = S6 at hB6 ⊢
  clear hB5 hp1' S5
  obtain ⟨pl, rfl, hpl0, hpl⟩ : ∃ pl : Int, d = .int pl ∧ 0 ≤ pl ∧ pl ≤ 64 := by
    simp only [List.mem_cons, List.not_mem_nil, or_false] at hd
    rcases hd with rfl | rfl | rfl <;> exact ⟨_, rfl, by decide, by decide⟩
  clear hd i0 i1 i
  have ht' : WfS ws.length { t with pl := pl } := ⟨hpl0, ht.r, ht.rw, ht.m, ht.mw, ht.po, ht.w⟩
  generalize ht2 : ({ t with pl := pl } : St) = t' at ht'
  have htp' : t'.pl ≤ 64 := by rw [← ht2]; exact hpl
  have htw' : t'.w.length ≤ 2 := by rw [← ht2]; exact htw
  have hts' : 0 ≤ t'.s ∧ t'.s ≤ 2 := by rw [← ht2]; show 0 ≤ t.s ∧ t.s ≤ 2; omega
  have estD : stD t = .tup [.int t.pl, iD t.r, iD t.m, .int t.po, iD t.w, .int t.s] := rfl
  have estD' : stD t' = .tup [.int pl, iD t.r, iD t.m, .int t.po, iD t.w, .int t.s] := by rw [← ht2]; rfl
  rw [estD]
  walk_at "dr0"
  rw [← estD']
  clear estD estD' ht2 htp htw hts ht t hpl0 hpl pl
  refine nx_go ?_
  walk_at "dr0"
  have dprog : dat 4 (progD prog) = true := dat_tup' (by rw [List.length_map]; omega) fun d hd => by
    obtain ⟨i, _, rfl⟩ := List.mem_map.mp hd
    exact dat_ins
  have oprog : ∀ d ∈ prog.map insD, inOps a d := fun d hd => by
    obtain ⟨i, hi, rfl⟩ := List.mem_map.mp hd
    exact ins_ops a (hpw i hi)
  have bprog : progB a (progD prog) = true := by
    show (decide (1 ≤ ((prog.map insD).length : Int)) && decide (((prog.map insD).length : Int) ≤ 64) && (prog.map insD).all (insB a)) = true
    rw [List.length_map, decide_eq_true (by omega), decide_eq_true hp2, Bool.true_and, Bool.true_and, List.all_eq_true]
    intro d hd
    obtain ⟨i, hi, rfl⟩ := List.mem_map.mp hd
    exact ins_ok a (hpw i hi)
  have dws : dat 1 (iD ws) = true := dat_iD (by omega)
  have bws : rowD 0 64 (iD ws) = true := row_int (by omega) (by omega) hww
  have dst : dat 2 (stD t') = true := by
    refine dat_tup' (by simp) fun d hd => ?_
    simp only [List.mem_cons, List.not_mem_nil, or_false] at hd
    have h1 := ht'.r
    have h2 := ht'.m
    rcases hd with rfl | rfl | rfl | rfl | rfl | rfl <;> first | exact dat_i | (refine dat_iD ?_; omega)
  have bst : stateB (stD t') = true := stateB_of ht' (by omega) htp' (by omega) hts'
  refine w_is_program a (dat_mono (by decide) dprog) (fun ds e d hd => ?_) ?_
  · cases e
    exact oprog d hd
  rw [bprog]
  walk_at "dr0"
  rw [w_is_input a (dat_mono (by decide) dws), bws]
  walk_at "dr0"
  rw [w_is_state a (dat_mono (by decide) dst), bst]
  walk_at "dr0"
  refine nx_go ?_
  walk_at "dr0"
  refine w__law_bad_state a ht' (by omega) hB6 fun v S7 hS7 dv bv => ?_
  have hB7 := hS7.box hB6
  clear hS7 hB6 S6
  walk_at "dr0"
  rw [w_is_state a (dat_mono (by decide) dv), bv]
  clear dv bv v
  walk_at "dr0"
  rw [show stD t' = .tup [.int t'.pl, iD t'.r, iD t'.m, .int t'.po, iD t'.w, .int t'.s] from rfl]
  walk_at "dr0"
  rw [show D.tup [.int t'.pl, iD t'.r, iD t'.m, .int t'.po, iD t'.w, .int t'.s] = stD t' from rfl]
  have d5 : dat 60 (.tup [.int t'.pl, iD t'.r, iD t'.m, .int t'.po, iD t'.w]) = true := by
    refine dat_mono (n := 2) (by decide) (dat_tup' (by simp) fun d hd => (dat_tup dst).2 d ?_)
    simp only [List.mem_cons, List.not_mem_nil, or_false] at hd ⊢
    rcases hd with h | h | h | h | h <;> simp [h]
  rw [w_is_state a d5, show stateB (.tup [.int t'.pl, iD t'.r, iD t'.m, .int t'.po, iD t'.w]) = false from rfl]
  clear d5
  walk_at "dr0"
  refine nx_go ?_
  walk_at "dr0"
  generalize hu : sSeq (sAsg (eOp dIx (eLst _) _) (xName 10)) _ = u
  refine ⟨by decide, by decide, ?_⟩
  refine forD_inv (fun δ S' => (∃ x6 x7 x8 x9, δ = [some D.scr, some (.ref b), some (.ref p), some (progD prog), some (iD ws), some (stD t'), x6, x7, x8, x9, none]) ∧ S' b = some (.box c)) ?_ ?_ ⟨⟨_, _, _, _, rfl⟩, hB7⟩
  · rintro x hx Nx δ S' ⟨⟨x6, x7, x8, x9, rfl⟩, hB⟩ hN
    refine ⟨trivial, ?_⟩
    unfold progD
    walk_at "dr0"
    refine ⟨⟨c, hB⟩, by rw [List.length_map]; omega, by rw [List.length_map]; omega, fun k k0 k1 => nx_go ?_⟩
    obtain ⟨k, rfl⟩ : ∃ m : Nat, k = (m : Nat) := ⟨k.toNat, by omega⟩
    rw [List.length_map] at k1
    have hk : k < prog.length := by omega
    walk_at "dr0"
    rw [atI_getElem (by rw [List.length_map]; exact hk), List.getElem_map]
    have hi := hpw _ (List.getElem_mem hk)
    generalize hpi : prog[k] = i at hi ⊢
    refine nx_go ?_
    walk_at "dr0"
    refine w__law_spoilt a hi hB fun v S8 hS8 hbad => nx_go ?_
    have hB8 := hS8.box hB
    clear hS8 hB S'
    walk_at "dr0"
    refine w_is_instruction a (dat_mono (by decide) (dat_ins (i := i))) (ins_ops a hi) ?_
    rw [ins_ok a hi]
    walk_at "dr0"
    refine w_is_instruction a (dat_mono (by decide) hbad.dt) hbad.op ?_
    rw [hbad.no]
    walk_at "dr0"
    refine nx_go ?_
    walk_at "dr0"
    have l1 := cut_len1 (xs := prog.map insD) (k := k)
    have l2 := cut_len2 (xs := prog.map insD) (k := k)
    rw [List.length_map] at l1 l2
    refine ⟨by omega, by rw [List.length_append]; simp only [List.length_cons, List.length_nil]; omega, ?_⟩
    rw [cut_repl (by rw [List.length_map]; exact hk)]
    have hin : v ∈ (prog.map insD).set k v := List.mem_iff_getElem.mpr ⟨k, by rw [List.length_set, List.length_map]; exact hk, by simp⟩
    refine w_is_program a (dat_mono (n := 4) (by decide) (dat_tup' (by rw [List.length_set, List.length_map]; omega) fun d hd => ?_)) (fun ds e d hd => ?_) ?_
    · rcases List.mem_or_eq_of_mem_set hd with hd | rfl
      · exact (dat_tup dprog).2 d hd
      · exact hbad.dt
    · cases e
      rcases List.mem_or_eq_of_mem_set hd with hd | rfl
      · exact oprog d hd
      · exact hbad.op
    · rw [prog_no a (.inr (.inr ⟨v, hin, hbad.no⟩))]
      walk_at "dr0"
      exact hN _ _ ⟨⟨_, _, _, _, rfl⟩, hB8⟩
  · rintro δ S' ⟨⟨x6, x7, x8, x9, rfl⟩, hB⟩
    refine ⟨trivial, nx_go ?_⟩
    clear hB7 S7
    subst hu
    refine seq_go (asg_go ?_)
    refine gv_pick (P := fun v => dat 60 v = true ∧ progB a v = false ∧ ∀ ds, v = .tup ds → ∀ d ∈ ds, inOps a d) (ds := [.tup [], .tup (prog.map insD ++ List.replicate (65 - prog.length) (.tup [.str "stop"])), insD (prog[0]'(by omega)), .int 7, .non]) (m := 5) ?_ (by simp) (gv_draw a rfl hB (by decide) (by decide)) (by simp) (fun v hv => ?_) _ .refl _ (fun v S9 hS9 hv => ?_)
    · intro S1 hS R q
      unfold progD
      walk_at "dr0"
      rw [List.length_map]
      have e0 : atI (prog.map insD) 0 = some (insD (prog[0]'(by omega))) := by
        have := atI_getElem (xs := prog.map insD) (j := 0) (by rw [List.length_map]; omega)
        rw [List.getElem_map] at this
        exact this
      refine ⟨by simp, by omega, by omega, by rw [rep1, List.length_replicate]; omega, ?_⟩
      rw [e0, rep1]
      refine q _ _ hS ?_
      rw [show ((65 : Int) - (prog.length : Nat)).toNat = 65 - prog.length by omega]
    · simp only [List.mem_cons, List.not_mem_nil, or_false] at hv
      rcases hv with rfl | rfl | rfl | rfl | rfl
      · exact ⟨by decide +kernel, prog_no a (.inr (.inl rfl)), fun ds e d hd => by cases e; cases hd⟩
      · refine ⟨dat_mono (n := 4) (by decide) (dat_tup' (by rw [List.length_append, List.length_map, List.length_replicate]; omega) fun d hd => ?_), prog_no a (.inl (by rw [List.length_append, List.length_map, List.length_replicate]; omega)), fun ds e d hd => ?_⟩
        · rcases List.mem_append.mp hd with hd | hd
          · exact (dat_tup dprog).2 d hd
          · rw [(List.mem_replicate.mp hd).2]; decide +kernel
        · cases e
          rcases List.mem_append.mp hd with hd | hd
          · exact oprog d hd
          · rw [(List.mem_replicate.mp hd).2]
            exact inOps_of a (by rw [lk_stop]; simp)
      · rw [insD_eq]
        have hi := hpw _ (List.getElem_mem (show 0 < prog.length by omega))
        refine ⟨by rw [← insD_eq]; exact dat_mono (by decide) dat_ins, prog_no a (.inr (.inr ⟨_, List.mem_cons_self, rfl⟩)), fun ds e d hd => ?_⟩
        cases e
        intro z xs e
        subst e
        rcases List.mem_cons.mp hd with hd | hd
        · cases hd
        · obtain ⟨x, hx⟩ := opI_int _ _ hd
          cases hx
      · exact ⟨by decide +kernel, rfl, fun ds e => by cases e⟩
      · exact ⟨by decide +kernel, rfl, fun ds e => by cases e⟩
    obtain ⟨dv, bv, ov⟩ := hv
    have hB9 := hS9.box hB
    clear hS9 hB S'
    refine nx_go ?_
    walk_at "dr0"
    refine w_is_program a dv ov ?_
    rw [bv]
    walk_at "dr0"
    refine nx_go ?_
    refine seq_go (asg_go ?_)
    have dw : ∀ d ∈ ws.map D.int, dat 1 d = true := fun d hd => by
      obtain ⟨x, _, rfl⟩ := List.mem_map.mp hd
      exact dat_i
    refine gv_pick (P := fun v => dat 60 v = true ∧ rowD 0 64 v = false) (ds := [.tup (ws.map D.int ++ List.replicate (65 - ws.length) (.int 0)), .tup ((ws.map D.int).take 20 ++ [.int (-1)]), .tup ((ws.map D.int).take 20 ++ [.bl true]), .int 3]) (m := 4) ?_ (by simp) (gv_draw a rfl hB9 (by decide) (by decide)) (by simp) (fun v hv => ?_) _ .refl _ (fun v S10 hS10 hv => ?_)
    · intro S1 hS R q
      unfold iD
      walk_at "dr0"
      rw [List.length_map]
      have c20 : cutD (ws.map D.int) none (some 20) = (ws.map D.int).take 20 := cut_take (k := 20)
      rw [c20]
      have l20 : ((ws.map D.int).take 20).length ≤ 20 := by rw [List.length_take]; omega
      refine ⟨by simp, by omega, by omega, by rw [rep1, List.length_replicate]; omega, by omega, by omega, ?_⟩
      rw [rep1]
      refine q _ _ hS ?_
      rw [show ((65 : Int) - (ws.length : Nat)).toNat = 65 - ws.length by omega]
    · simp only [List.mem_cons, List.not_mem_nil, or_false] at hv
      rcases hv with rfl | rfl | rfl | rfl
      · refine ⟨dat_mono (n := 2) (by decide) (dat_tup' (by rw [List.length_append, List.length_map, List.length_replicate]; omega) fun d hd => ?_), row_no (.inr (.inl (by rw [List.length_append, List.length_map, List.length_replicate]; omega)))⟩
        rcases List.mem_append.mp hd with hd | hd
        · exact dw d hd
        · rw [(List.mem_replicate.mp hd).2]; exact dat_i
      · refine ⟨dat_mono (n := 2) (by decide) (dat_tup' (by rw [List.length_append, List.length_take]; simp; omega) fun d hd => ?_), row_no (.inr (.inr ⟨.int (-1), by simp, by decide +kernel⟩))⟩
        rcases List.mem_append.mp hd with hd | hd
        · exact dw d (List.mem_of_mem_take hd)
        · rw [List.mem_singleton.mp hd]; exact dat_i
      · refine ⟨dat_mono (n := 2) (by decide) (dat_tup' (by rw [List.length_append, List.length_take]; simp; omega) fun d hd => ?_), row_no (.inr (.inr ⟨.bl true, by simp, by decide +kernel⟩))⟩
        rcases List.mem_append.mp hd with hd | hd
        · exact dw d (List.mem_of_mem_take hd)
        · rw [List.mem_singleton.mp hd]; exact dat_b
      · exact ⟨by decide +kernel, rfl⟩
    obtain ⟨dv, bv⟩ := hv
    refine nx_go ?_
    walk_at "dr0"
    rw [w_is_input a dv, bv]
    walk_at "dr0"
    rw [w_is_input a (by decide +kernel), show rowD 0 64 (.tup []) = true from rfl]
    walk_at "dr0"
    exact q _
end Sd

set_option Elab.async false
set_option linter.all false
set_option maxRecDepth 100000
set_option maxHeartbeats 8000000
namespace Sd
open PySem PySem.Spec PyProof.Rows L2 GxR
/-! ### the end -/
def Tabs (q : Program) (mg : Str → Option Value) (h : Heap) : Prop := ∀ d ∈ recsOf q, ∃ (a : Addr) (o : Obj) (fd : FuncData) (c P : Addr), mg d.name = some (.ref a) ∧ h.get? a = some o ∧ o.data = .func fd ∧ fd.code = .ref c ∧ h.IsCode c P #[] ∧ h.TableAt c P #[]
theorem Tabs.at {q : Program} {mg : Str → Option Value} {h : Heap} {K : PySem.W.Frag} {x : Str} {f c P : Addr} {o : Obj} {fd : FuncData} {e : Value} {dd : Option Addr} {vs : Array Value} {sl : Array (Option Value)} (T : Tabs q mg h) (hrec : ((recsOf q).any fun e => e.name == x) = true) (KX : K.In h) (hx : mg x = some (.ref f))
    (k1 : K.lookup f = some o) (k2 : o.data = .func fd) (k3 : fd.code = .ref c) (k4 : K.lookup c = some ⟨e, dd, .fields vs, sl⟩) (k5 : vs[11]? = some (.ref P)) : h.get? P = some { cls := .none, data := .fields #[] } ∧ PySem.W.CodeHd h c P := by
  obtain ⟨dL, hm, hn1⟩ := List.any_eq_true.mp hrec
  have hn2 : dL.name = x := beq_iff_eq.mp hn1
  obtain ⟨a', o', fd', c', P', h1, h2, h3, h4, h5, h6⟩ := T dL hm
  rw [hn2, hx] at h1
  cases h1
  have g1 := KX _ _ k1
  rw [g1] at h2
  cases h2
  rw [k2] at h3
  cases h3
  rw [k3] at h4
  cases h4
  have hc := PySem.W.CodeHd.of h5 h6
  obtain ⟨⟨oc, vc, e1, _, e3, e4⟩, hP⟩ := h6
  have g2 := KX _ _ k4
  rw [g2] at e1
  cases e1
  cases e3
  rw [k5] at e4
  cases e4
  exact ⟨hP, hc⟩
theorem tab0 {H : Hp} {P : Addr} (h : H P = some (.tbl #[])) : TabG H P := ⟨#[], h, by first | exact True.intro | exact fun _ z => absurd z (by simp) | simp [TriplesOk]⟩
theorem tabB {base : Heap} {mg : Str → Option Value} {c P : Addr} (t : LamX.TabB base mg c P) : TabB base mg c P := ⟨t.code, t.bm, t.gP⟩
theorem walk_ofG {l : PySem.W.OpenLaw} {n k : Nat} {q : Program} {loose : List Str} {XP : (Str → Option Value) → Heap → Prop} {YP : World → Heap → Prop} {d : DefRec} {K : Params → PySem.W.Frag} {CX : World → CXT} {x : Str}
    (hn : l.most = some n) (hn2 : n ≤ sizeLine) (hdf : d.params.defaults = []) (hr : Room k callerA) (hY : ∀ (w : World) (h : Heap), YP w h → (K w.params).In h)
    (F : ∀ (w : World) (mg : Str → Option Value) (fa : Addr) (h : Heap), YP w h → (K w.params).In h → h.Ns mainGlobals mg → mg d.name = some (.ref fa) → Tabs q mg h → LamX.LawAtS l w (K w.params) (CX w) k n x mg fa h)
    (hCX : ∀ (w : World) (H : Hp) (s : Shared) (e : Value) (s' : Shared), CX w [] H s (fun _ _ _ => False) e s' → False) :
    PySem.W.WalkO q loose XP YP l.row.toRowW d [] (fun f vs => PySem.call f vs) := by
  refine Att.attach_callB hn hdf fun w s₀ s₁ mg mb fa o pm cd doc a vs ns G Y ho hd hcd hmg hobj hints hlen hbits hg => ?_
  have KX := hY w _ Y
  obtain ⟨fd, cs, sp, hT, nT, C, hb, hsp, hF⟩ := F w mg fa _ Y KX G.T.g hmg G.T.tab
  exact LamX.law_callTs KX G.T.g G.T.b G.T.builtins G.T.nolimit hg hT nT C G.T.bmain hobj hints (Nat.le_trans hlen hn2) hr hF hb (fun H hH hS => hsp H a ns hlen hbits hH hS) fun H e s' => hCX w H s₁ e s'

theorem all_mk {l : PySem.W.OpenLaw} {w : World} {q : Program} {K : PySem.W.Frag} {h : Heap} {mg : Str → Option Value} {fa f_is_number f_is_word f__is_operand f_is_instruction c_is_instruction P_is_instruction f_is_program c_is_program P_is_program f__is_row_of_words c__is_row_of_words P__is_row_of_words f_is_input f_is_state f_first_state f__law_same f__law_box f__law_load f__law_draw f__law_word f__law_code f__law_program f__law_input f__law_state f__law_spoilt f__law_bad_state f_law c_NAMES c_OPERANDS : Addr} (X : K.In h) (G : h.Ns mainGlobals mg) (hfa : mg "law" = some (.ref fa)) (hT : Tabs q mg h)
    (q_is_instruction : ((recsOf q).any fun e => e.name == ("is_instruction" : Str)) = true)
    (q_is_program : ((recsOf q).any fun e => e.name == ("is_program" : Str)) = true)
    (q__is_row_of_words : ((recsOf q).any fun e => e.name == ("_is_row_of_words" : Str)) = true)
    {od_is_number an_is_number od_is_word an_is_word od__is_operand an__is_operand od_is_instruction an_is_instruction dd_is_instruction od_is_program an_is_program dd_is_program od__is_row_of_words an__is_row_of_words dd__is_row_of_words od_is_input an_is_input od_is_state an_is_state od_first_state an_first_state od__law_same an__law_same od__law_box an__law_box od__law_load an__law_load od__law_draw an__law_draw od__law_word an__law_word od__law_code an__law_code od__law_program an__law_program od__law_input an__law_input od__law_state an__law_state od__law_spoilt an__law_spoilt od__law_bad_state an__law_bad_state od_law an_law : Option Addr} {sl_is_number sl_is_word sl__is_operand sl_is_instruction sc_is_instruction sl_is_program sc_is_program sl__is_row_of_words sc__is_row_of_words sl_is_input sl_is_state sl_first_state sl__law_same sl__law_box sl__law_load sl__law_draw sl__law_word sl__law_code sl__law_program sl__law_input sl__law_state sl__law_spoilt sl__law_bad_state sl_law sl_NAMES : Array (Option Value)} {oc_is_number kV_is_number dc_is_number pm_is_number ct_is_number cd_is_number oc_is_word kV_is_word dc_is_word pm_is_word ct_is_word cd_is_word oc__is_operand kV__is_operand dc__is_operand pm__is_operand ct__is_operand cd__is_operand oc_is_instruction kV_is_instruction dc_is_instruction pm_is_instruction ct_is_instruction e_is_instruction oc_is_program kV_is_program dc_is_program pm_is_program ct_is_program e_is_program oc__is_row_of_words kV__is_row_of_words dc__is_row_of_words pm__is_row_of_words ct__is_row_of_words e__is_row_of_words oc_is_input kV_is_input dc_is_input pm_is_input ct_is_input cd_is_input oc_is_state kV_is_state dc_is_state pm_is_state ct_is_state cd_is_state oc_first_state kV_first_state dc_first_state pm_first_state ct_first_state cd_first_state oc__law_same kV__law_same dc__law_same pm__law_same ct__law_same cd__law_same oc__law_box kV__law_box dc__law_box pm__law_box ct__law_box cd__law_box oc__law_load kV__law_load dc__law_load pm__law_load ct__law_load cd__law_load oc__law_draw kV__law_draw dc__law_draw pm__law_draw ct__law_draw cd__law_draw oc__law_word kV__law_word dc__law_word pm__law_word ct__law_word cd__law_word oc__law_code kV__law_code dc__law_code pm__law_code ct__law_code cd__law_code oc__law_program kV__law_program dc__law_program pm__law_program ct__law_program cd__law_program oc__law_input kV__law_input dc__law_input pm__law_input ct__law_input cd__law_input oc__law_state kV__law_state dc__law_state pm__law_state ct__law_state cd__law_state oc__law_spoilt kV__law_spoilt dc__law_spoilt pm__law_spoilt ct__law_spoilt cd__law_spoilt oc__law_bad_state kV__law_bad_state dc__law_bad_state pm__law_bad_state ct__law_bad_state cd__law_bad_state oc_law kV_law dc_law pm_law ct_law cd_law : Value} {vs_is_instruction vs_is_program vs__is_row_of_words vs_NAMES : Array Value} {es_OPERANDS : Array DictEntry} {t_WORD t_MEMORY t_MAX_PROGRAM t_MAX_INPUT t_REGISTERS t_MAX_WRITTEN t_RUNNING t_FAULTY tk_OPERANDS_0 tk_OPERANDS_1 tk_OPERANDS_2 tk_OPERANDS_3 tk_OPERANDS_4 tk_OPERANDS_5 tk_OPERANDS_6 tk_OPERANDS_7 tk_OPERANDS_8 tk_OPERANDS_9 tk_OPERANDS_10 tk_OPERANDS_11 tk_OPERANDS_12 tk_OPERANDS_13 tk_OPERANDS_14 tk_OPERANDS_15 tk_OPERANDS_16 : Tok} {n_NAMES n_OPERANDS : Nat}
    (a_is_number : PySem.W.nsIn K mainGlobals "is_number" = some (some (.ref f_is_number)))
    (l_is_number : K.lookup f_is_number = some ⟨oc_is_number, od_is_number, .func (PySem.W.fnOf "is_number" "is_number" (defArgs s_is_number) (defBody s_is_number) (defScope s_is_number) .none kV_is_number dc_is_number pm_is_number an_is_number cd_is_number ct_is_number), sl_is_number⟩)
    (cc_is_number : PySem.W.codeIn K cd_is_number "is_number" = true)
    (k_is_number : PySem.W.keepIn K (.ref f_is_number) = true)
    (a_is_word : PySem.W.nsIn K mainGlobals "is_word" = some (some (.ref f_is_word)))
    (l_is_word : K.lookup f_is_word = some ⟨oc_is_word, od_is_word, .func (PySem.W.fnOf "is_word" "is_word" (defArgs s_is_word) (defBody s_is_word) (defScope s_is_word) .none kV_is_word dc_is_word pm_is_word an_is_word cd_is_word ct_is_word), sl_is_word⟩)
    (cc_is_word : PySem.W.codeIn K cd_is_word "is_word" = true)
    (k_is_word : PySem.W.keepIn K (.ref f_is_word) = true)
    (a__is_operand : PySem.W.nsIn K mainGlobals "_is_operand" = some (some (.ref f__is_operand)))
    (l__is_operand : K.lookup f__is_operand = some ⟨oc__is_operand, od__is_operand, .func (PySem.W.fnOf "_is_operand" "_is_operand" (defArgs s__is_operand) (defBody s__is_operand) (defScope s__is_operand) .none kV__is_operand dc__is_operand pm__is_operand an__is_operand cd__is_operand ct__is_operand), sl__is_operand⟩)
    (cc__is_operand : PySem.W.codeIn K cd__is_operand "_is_operand" = true)
    (k__is_operand : PySem.W.keepIn K (.ref f__is_operand) = true)
    (a_is_instruction : PySem.W.nsIn K mainGlobals "is_instruction" = some (some (.ref f_is_instruction)))
    (l_is_instruction : K.lookup f_is_instruction = some ⟨oc_is_instruction, od_is_instruction, .func (PySem.W.fnOf "is_instruction" "is_instruction" (defArgs s_is_instruction) (defBody s_is_instruction) (defScope s_is_instruction) .none kV_is_instruction dc_is_instruction pm_is_instruction an_is_instruction (.ref c_is_instruction) ct_is_instruction), sl_is_instruction⟩)
    (cc_is_instruction : PySem.W.codeIn K (.ref c_is_instruction) "is_instruction" = true)
    (k_is_instruction : PySem.W.keepIn K (.ref f_is_instruction) = true)
    (v_is_instruction : K.lookup c_is_instruction = some ⟨e_is_instruction, dd_is_instruction, .fields vs_is_instruction, sc_is_instruction⟩)
    (w_is_instruction : vs_is_instruction[11]? = some (.ref P_is_instruction))
    (n_is_instruction : K.lookup P_is_instruction = none)
    (a_is_program : PySem.W.nsIn K mainGlobals "is_program" = some (some (.ref f_is_program)))
    (l_is_program : K.lookup f_is_program = some ⟨oc_is_program, od_is_program, .func (PySem.W.fnOf "is_program" "is_program" (defArgs s_is_program) (defBody s_is_program) (defScope s_is_program) .none kV_is_program dc_is_program pm_is_program an_is_program (.ref c_is_program) ct_is_program), sl_is_program⟩)
    (cc_is_program : PySem.W.codeIn K (.ref c_is_program) "is_program" = true)
    (k_is_program : PySem.W.keepIn K (.ref f_is_program) = true)
    (v_is_program : K.lookup c_is_program = some ⟨e_is_program, dd_is_program, .fields vs_is_program, sc_is_program⟩)
    (w_is_program : vs_is_program[11]? = some (.ref P_is_program))
    (n_is_program : K.lookup P_is_program = none)
    (a__is_row_of_words : PySem.W.nsIn K mainGlobals "_is_row_of_words" = some (some (.ref f__is_row_of_words)))
    (l__is_row_of_words : K.lookup f__is_row_of_words = some ⟨oc__is_row_of_words, od__is_row_of_words, .func (PySem.W.fnOf "_is_row_of_words" "_is_row_of_words" (defArgs s__is_row_of_words) (defBody s__is_row_of_words) (defScope s__is_row_of_words) .none kV__is_row_of_words dc__is_row_of_words pm__is_row_of_words an__is_row_of_words (.ref c__is_row_of_words) ct__is_row_of_words), sl__is_row_of_words⟩)
    (cc__is_row_of_words : PySem.W.codeIn K (.ref c__is_row_of_words) "_is_row_of_words" = true)
    (k__is_row_of_words : PySem.W.keepIn K (.ref f__is_row_of_words) = true)
    (v__is_row_of_words : K.lookup c__is_row_of_words = some ⟨e__is_row_of_words, dd__is_row_of_words, .fields vs__is_row_of_words, sc__is_row_of_words⟩)
    (w__is_row_of_words : vs__is_row_of_words[11]? = some (.ref P__is_row_of_words))
    (n__is_row_of_words : K.lookup P__is_row_of_words = none)
    (a_is_input : PySem.W.nsIn K mainGlobals "is_input" = some (some (.ref f_is_input)))
    (l_is_input : K.lookup f_is_input = some ⟨oc_is_input, od_is_input, .func (PySem.W.fnOf "is_input" "is_input" (defArgs s_is_input) (defBody s_is_input) (defScope s_is_input) .none kV_is_input dc_is_input pm_is_input an_is_input cd_is_input ct_is_input), sl_is_input⟩)
    (cc_is_input : PySem.W.codeIn K cd_is_input "is_input" = true)
    (k_is_input : PySem.W.keepIn K (.ref f_is_input) = true)
    (a_is_state : PySem.W.nsIn K mainGlobals "is_state" = some (some (.ref f_is_state)))
    (l_is_state : K.lookup f_is_state = some ⟨oc_is_state, od_is_state, .func (PySem.W.fnOf "is_state" "is_state" (defArgs s_is_state) (defBody s_is_state) (defScope s_is_state) .none kV_is_state dc_is_state pm_is_state an_is_state cd_is_state ct_is_state), sl_is_state⟩)
    (cc_is_state : PySem.W.codeIn K cd_is_state "is_state" = true)
    (k_is_state : PySem.W.keepIn K (.ref f_is_state) = true)
    (a_first_state : PySem.W.nsIn K mainGlobals "first_state" = some (some (.ref f_first_state)))
    (l_first_state : K.lookup f_first_state = some ⟨oc_first_state, od_first_state, .func (PySem.W.fnOf "first_state" "first_state" (defArgs s_first_state) (defBody s_first_state) (defScope s_first_state) .none kV_first_state dc_first_state pm_first_state an_first_state cd_first_state ct_first_state), sl_first_state⟩)
    (cc_first_state : PySem.W.codeIn K cd_first_state "first_state" = true)
    (k_first_state : PySem.W.keepIn K (.ref f_first_state) = true)
    (a__law_same : PySem.W.nsIn K mainGlobals "_law_same" = some (some (.ref f__law_same)))
    (l__law_same : K.lookup f__law_same = some ⟨oc__law_same, od__law_same, .func (PySem.W.fnOf "_law_same" "_law_same" (defArgs s__law_same) (defBody s__law_same) (defScope s__law_same) .none kV__law_same dc__law_same pm__law_same an__law_same cd__law_same ct__law_same), sl__law_same⟩)
    (cc__law_same : PySem.W.codeIn K cd__law_same "_law_same" = true)
    (k__law_same : PySem.W.keepIn K (.ref f__law_same) = true)
    (a__law_box : PySem.W.nsIn K mainGlobals "_law_box" = some (some (.ref f__law_box)))
    (l__law_box : K.lookup f__law_box = some ⟨oc__law_box, od__law_box, .func (PySem.W.fnOf "_law_box" "_law_box" (defArgs s__law_box) (defBody s__law_box) (defScope s__law_box) .none kV__law_box dc__law_box pm__law_box an__law_box cd__law_box ct__law_box), sl__law_box⟩)
    (cc__law_box : PySem.W.codeIn K cd__law_box "_law_box" = true)
    (k__law_box : PySem.W.keepIn K (.ref f__law_box) = true)
    (a__law_load : PySem.W.nsIn K mainGlobals "_law_load" = some (some (.ref f__law_load)))
    (l__law_load : K.lookup f__law_load = some ⟨oc__law_load, od__law_load, .func (PySem.W.fnOf "_law_load" "_law_load" (defArgs s__law_load) (defBody s__law_load) (defScope s__law_load) .none kV__law_load dc__law_load pm__law_load an__law_load cd__law_load ct__law_load), sl__law_load⟩)
    (cc__law_load : PySem.W.codeIn K cd__law_load "_law_load" = true)
    (k__law_load : PySem.W.keepIn K (.ref f__law_load) = true)
    (a__law_draw : PySem.W.nsIn K mainGlobals "_law_draw" = some (some (.ref f__law_draw)))
    (l__law_draw : K.lookup f__law_draw = some ⟨oc__law_draw, od__law_draw, .func (PySem.W.fnOf "_law_draw" "_law_draw" (defArgs s__law_draw) (defBody s__law_draw) (defScope s__law_draw) .none kV__law_draw dc__law_draw pm__law_draw an__law_draw cd__law_draw ct__law_draw), sl__law_draw⟩)
    (cc__law_draw : PySem.W.codeIn K cd__law_draw "_law_draw" = true)
    (k__law_draw : PySem.W.keepIn K (.ref f__law_draw) = true)
    (a__law_word : PySem.W.nsIn K mainGlobals "_law_word" = some (some (.ref f__law_word)))
    (l__law_word : K.lookup f__law_word = some ⟨oc__law_word, od__law_word, .func (PySem.W.fnOf "_law_word" "_law_word" (defArgs s__law_word) (defBody s__law_word) (defScope s__law_word) .none kV__law_word dc__law_word pm__law_word an__law_word cd__law_word ct__law_word), sl__law_word⟩)
    (cc__law_word : PySem.W.codeIn K cd__law_word "_law_word" = true)
    (k__law_word : PySem.W.keepIn K (.ref f__law_word) = true)
    (a__law_code : PySem.W.nsIn K mainGlobals "_law_code" = some (some (.ref f__law_code)))
    (l__law_code : K.lookup f__law_code = some ⟨oc__law_code, od__law_code, .func (PySem.W.fnOf "_law_code" "_law_code" (defArgs s__law_code) (defBody s__law_code) (defScope s__law_code) .none kV__law_code dc__law_code pm__law_code an__law_code cd__law_code ct__law_code), sl__law_code⟩)
    (cc__law_code : PySem.W.codeIn K cd__law_code "_law_code" = true)
    (k__law_code : PySem.W.keepIn K (.ref f__law_code) = true)
    (a__law_program : PySem.W.nsIn K mainGlobals "_law_program" = some (some (.ref f__law_program)))
    (l__law_program : K.lookup f__law_program = some ⟨oc__law_program, od__law_program, .func (PySem.W.fnOf "_law_program" "_law_program" (defArgs s__law_program) (defBody s__law_program) (defScope s__law_program) .none kV__law_program dc__law_program pm__law_program an__law_program cd__law_program ct__law_program), sl__law_program⟩)
    (cc__law_program : PySem.W.codeIn K cd__law_program "_law_program" = true)
    (k__law_program : PySem.W.keepIn K (.ref f__law_program) = true)
    (a__law_input : PySem.W.nsIn K mainGlobals "_law_input" = some (some (.ref f__law_input)))
    (l__law_input : K.lookup f__law_input = some ⟨oc__law_input, od__law_input, .func (PySem.W.fnOf "_law_input" "_law_input" (defArgs s__law_input) (defBody s__law_input) (defScope s__law_input) .none kV__law_input dc__law_input pm__law_input an__law_input cd__law_input ct__law_input), sl__law_input⟩)
    (cc__law_input : PySem.W.codeIn K cd__law_input "_law_input" = true)
    (k__law_input : PySem.W.keepIn K (.ref f__law_input) = true)
    (a__law_state : PySem.W.nsIn K mainGlobals "_law_state" = some (some (.ref f__law_state)))
    (l__law_state : K.lookup f__law_state = some ⟨oc__law_state, od__law_state, .func (PySem.W.fnOf "_law_state" "_law_state" (defArgs s__law_state) (defBody s__law_state) (defScope s__law_state) .none kV__law_state dc__law_state pm__law_state an__law_state cd__law_state ct__law_state), sl__law_state⟩)
    (cc__law_state : PySem.W.codeIn K cd__law_state "_law_state" = true)
    (k__law_state : PySem.W.keepIn K (.ref f__law_state) = true)
    (a__law_spoilt : PySem.W.nsIn K mainGlobals "_law_spoilt" = some (some (.ref f__law_spoilt)))
    (l__law_spoilt : K.lookup f__law_spoilt = some ⟨oc__law_spoilt, od__law_spoilt, .func (PySem.W.fnOf "_law_spoilt" "_law_spoilt" (defArgs s__law_spoilt) (defBody s__law_spoilt) (defScope s__law_spoilt) .none kV__law_spoilt dc__law_spoilt pm__law_spoilt an__law_spoilt cd__law_spoilt ct__law_spoilt), sl__law_spoilt⟩)
    (cc__law_spoilt : PySem.W.codeIn K cd__law_spoilt "_law_spoilt" = true)
    (k__law_spoilt : PySem.W.keepIn K (.ref f__law_spoilt) = true)
    (a__law_bad_state : PySem.W.nsIn K mainGlobals "_law_bad_state" = some (some (.ref f__law_bad_state)))
    (l__law_bad_state : K.lookup f__law_bad_state = some ⟨oc__law_bad_state, od__law_bad_state, .func (PySem.W.fnOf "_law_bad_state" "_law_bad_state" (defArgs s__law_bad_state) (defBody s__law_bad_state) (defScope s__law_bad_state) .none kV__law_bad_state dc__law_bad_state pm__law_bad_state an__law_bad_state cd__law_bad_state ct__law_bad_state), sl__law_bad_state⟩)
    (cc__law_bad_state : PySem.W.codeIn K cd__law_bad_state "_law_bad_state" = true)
    (k__law_bad_state : PySem.W.keepIn K (.ref f__law_bad_state) = true)
    (a_law : PySem.W.nsIn K mainGlobals "law" = some (some (.ref f_law)))
    (l_law : K.lookup f_law = some ⟨oc_law, od_law, .func (PySem.W.fnOf "law" "law" (defArgs s_law) (defBody s_law) (defScope s_law) .none kV_law dc_law pm_law an_law cd_law ct_law), sl_law⟩)
    (cc_law : PySem.W.codeIn K cd_law "law" = true)
    (k_law : PySem.W.keepIn K (.ref f_law) = true)
    (z_all : PySem.W.nsIn K mainGlobals "all" = some none)
    (z_bool : PySem.W.nsIn K mainGlobals "bool" = some none)
    (z_int : PySem.W.nsIn K mainGlobals "int" = some none)
    (z_isinstance : PySem.W.nsIn K mainGlobals "isinstance" = some none)
    (z_len : PySem.W.nsIn K mainGlobals "len" = some none)
    (z_list : PySem.W.nsIn K mainGlobals "list" = some none)
    (z_range : PySem.W.nsIn K mainGlobals "range" = some none)
    (z_str : PySem.W.nsIn K mainGlobals "str" = some none)
    (z_tuple : PySem.W.nsIn K mainGlobals "tuple" = some none)
    (z_zip : PySem.W.nsIn K mainGlobals "zip" = some none)
    (g_WORD : PySem.W.nsIn K mainGlobals "WORD" = some (some (.int 4294967296 t_WORD)))
    (g_MEMORY : PySem.W.nsIn K mainGlobals "MEMORY" = some (some (.int 64 t_MEMORY)))
    (g_MAX_PROGRAM : PySem.W.nsIn K mainGlobals "MAX_PROGRAM" = some (some (.int 64 t_MAX_PROGRAM)))
    (g_MAX_INPUT : PySem.W.nsIn K mainGlobals "MAX_INPUT" = some (some (.int 64 t_MAX_INPUT)))
    (g_NAMES : PySem.W.nsIn K mainGlobals "NAMES" = some (some (.ref c_NAMES)))
    (l_NAMES : K.lookup c_NAMES = some ⟨.type "tuple", none, .seq vs_NAMES n_NAMES, sl_NAMES⟩)
    (r_NAMES : Vals (([.str "set", .str "copy", .str "add", .str "sub", .str "mul", .str "div", .str "mod", .str "less", .str "same", .str "load", .str "store", .str "jump", .str "zero", .str "read", .str "left", .str "write", .str "stop"] : List D).map dV) vs_NAMES.toList ∧ vs_NAMES.size ≤ sizeLine)
    (g_REGISTERS : PySem.W.nsIn K mainGlobals "REGISTERS" = some (some (.int 4 t_REGISTERS)))
    (g_MAX_WRITTEN : PySem.W.nsIn K mainGlobals "MAX_WRITTEN" = some (some (.int 2048 t_MAX_WRITTEN)))
    (g_RUNNING : PySem.W.nsIn K mainGlobals "RUNNING" = some (some (.int 0 t_RUNNING)))
    (g_FAULTY : PySem.W.nsIn K mainGlobals "FAULTY" = some (some (.int 2 t_FAULTY)))
    (g_OPERANDS : PySem.W.nsIn K mainGlobals "OPERANDS" = some (some (.ref c_OPERANDS)))
    (l_OPERANDS : K.lookup c_OPERANDS = some { cls := .type "dict", data := .dict es_OPERANDS n_OPERANDS })
    (lit_OPERANDS : PySem.W.KeysLit w.params es_OPERANDS.toList)
    (low_OPERANDS : (c_OPERANDS == sysModules) = false)
    (r_OPERANDS_0 : PySem.W.nsIn K c_OPERANDS "set" = some (some (.str "rw" tk_OPERANDS_0)))
    (r_OPERANDS_1 : PySem.W.nsIn K c_OPERANDS "copy" = some (some (.str "rr" tk_OPERANDS_1)))
    (r_OPERANDS_2 : PySem.W.nsIn K c_OPERANDS "add" = some (some (.str "rrr" tk_OPERANDS_2)))
    (r_OPERANDS_3 : PySem.W.nsIn K c_OPERANDS "sub" = some (some (.str "rrr" tk_OPERANDS_3)))
    (r_OPERANDS_4 : PySem.W.nsIn K c_OPERANDS "mul" = some (some (.str "rrr" tk_OPERANDS_4)))
    (r_OPERANDS_5 : PySem.W.nsIn K c_OPERANDS "div" = some (some (.str "rrr" tk_OPERANDS_5)))
    (r_OPERANDS_6 : PySem.W.nsIn K c_OPERANDS "mod" = some (some (.str "rrr" tk_OPERANDS_6)))
    (r_OPERANDS_7 : PySem.W.nsIn K c_OPERANDS "less" = some (some (.str "rrr" tk_OPERANDS_7)))
    (r_OPERANDS_8 : PySem.W.nsIn K c_OPERANDS "same" = some (some (.str "rrr" tk_OPERANDS_8)))
    (r_OPERANDS_9 : PySem.W.nsIn K c_OPERANDS "load" = some (some (.str "rr" tk_OPERANDS_9)))
    (r_OPERANDS_10 : PySem.W.nsIn K c_OPERANDS "store" = some (some (.str "rr" tk_OPERANDS_10)))
    (r_OPERANDS_11 : PySem.W.nsIn K c_OPERANDS "jump" = some (some (.str "p" tk_OPERANDS_11)))
    (r_OPERANDS_12 : PySem.W.nsIn K c_OPERANDS "zero" = some (some (.str "rp" tk_OPERANDS_12)))
    (r_OPERANDS_13 : PySem.W.nsIn K c_OPERANDS "read" = some (some (.str "r" tk_OPERANDS_13)))
    (r_OPERANDS_14 : PySem.W.nsIn K c_OPERANDS "left" = some (some (.str "r" tk_OPERANDS_14)))
    (r_OPERANDS_15 : PySem.W.nsIn K c_OPERANDS "write" = some (some (.str "r" tk_OPERANDS_15)))
    (r_OPERANDS_16 : PySem.W.nsIn K c_OPERANDS "stop" = some (some (.str "" tk_OPERANDS_16)))
    (r_OPERANDS_17 : PySem.W.nsIn K c_OPERANDS "sets" = some none)
    (r_OPERANDS_18 : PySem.W.nsIn K c_OPERANDS "copys" = some none)
    (r_OPERANDS_19 : PySem.W.nsIn K c_OPERANDS "adds" = some none)
    (r_OPERANDS_20 : PySem.W.nsIn K c_OPERANDS "subs" = some none)
    (r_OPERANDS_21 : PySem.W.nsIn K c_OPERANDS "muls" = some none)
    (r_OPERANDS_22 : PySem.W.nsIn K c_OPERANDS "divs" = some none)
    (r_OPERANDS_23 : PySem.W.nsIn K c_OPERANDS "mods" = some none)
    (r_OPERANDS_24 : PySem.W.nsIn K c_OPERANDS "lesss" = some none)
    (r_OPERANDS_25 : PySem.W.nsIn K c_OPERANDS "sames" = some none)
    (r_OPERANDS_26 : PySem.W.nsIn K c_OPERANDS "loads" = some none)
    (r_OPERANDS_27 : PySem.W.nsIn K c_OPERANDS "stores" = some none)
    (r_OPERANDS_28 : PySem.W.nsIn K c_OPERANDS "jumps" = some none)
    (r_OPERANDS_29 : PySem.W.nsIn K c_OPERANDS "zeros" = some none)
    (r_OPERANDS_30 : PySem.W.nsIn K c_OPERANDS "reads" = some none)
    (r_OPERANDS_31 : PySem.W.nsIn K c_OPERANDS "lefts" = some none)
    (r_OPERANDS_32 : PySem.W.nsIn K c_OPERANDS "writes" = some none)
    (r_OPERANDS_33 : PySem.W.nsIn K c_OPERANDS "stops" = some none)
    : LamX.LawAtS l w K (L2.CX l.prog w) 10 63 "script" mg fa h := by
  have e := hfa.symm.trans (PySem.W.mg_of X G a_law)
  cases e
  obtain ⟨y_is_instruction, d_is_instruction⟩ := hT.at q_is_instruction X (PySem.W.mg_of X G a_is_instruction) l_is_instruction rfl rfl v_is_instruction w_is_instruction
  obtain ⟨y_is_program, d_is_program⟩ := hT.at q_is_program X (PySem.W.mg_of X G a_is_program) l_is_program rfl rfl v_is_program w_is_program
  obtain ⟨y__is_row_of_words, d__is_row_of_words⟩ := hT.at q__is_row_of_words X (PySem.W.mg_of X G a__is_row_of_words) l__is_row_of_words rfl rfl v__is_row_of_words w__is_row_of_words
  have Fm_is_number := fun_mk (st := s_is_number) l_is_number cc_is_number k_is_number
  have b_is_number := Fm_is_number.binds (ps := ["value", "most"]) fun _ _ _ _ _ _ us hl => match us, hl with | [_, _], _ => rfl
  have Fm_is_word := fun_mk (st := s_is_word) l_is_word cc_is_word k_is_word
  have b_is_word := Fm_is_word.binds (ps := ["value"]) fun _ _ _ _ _ _ us hl => match us, hl with | [_], _ => rfl
  have Fm__is_operand := fun_mk (st := s__is_operand) l__is_operand cc__is_operand k__is_operand
  have b__is_operand := Fm__is_operand.binds (ps := ["kind", "value"]) fun _ _ _ _ _ _ us hl => match us, hl with | [_, _], _ => rfl
  have Fm_is_instruction := fun_mk (st := s_is_instruction) l_is_instruction cc_is_instruction k_is_instruction
  have b_is_instruction := Fm_is_instruction.binds (ps := ["value"]) fun _ _ _ _ _ _ us hl => match us, hl with | [_], _ => rfl
  have Fm_is_program := fun_mk (st := s_is_program) l_is_program cc_is_program k_is_program
  have b_is_program := Fm_is_program.binds (ps := ["value"]) fun _ _ _ _ _ _ us hl => match us, hl with | [_], _ => rfl
  have Fm__is_row_of_words := fun_mk (st := s__is_row_of_words) l__is_row_of_words cc__is_row_of_words k__is_row_of_words
  have b__is_row_of_words := Fm__is_row_of_words.binds (ps := ["value", "least", "most"]) fun _ _ _ _ _ _ us hl => match us, hl with | [_, _, _], _ => rfl
  have Fm_is_input := fun_mk (st := s_is_input) l_is_input cc_is_input k_is_input
  have b_is_input := Fm_is_input.binds (ps := ["value"]) fun _ _ _ _ _ _ us hl => match us, hl with | [_], _ => rfl
  have Fm_is_state := fun_mk (st := s_is_state) l_is_state cc_is_state k_is_state
  have b_is_state := Fm_is_state.binds (ps := ["value"]) fun _ _ _ _ _ _ us hl => match us, hl with | [_], _ => rfl
  have Fm_first_state := fun_mk (st := s_first_state) l_first_state cc_first_state k_first_state
  have b_first_state := Fm_first_state.binds (ps := []) fun _ _ _ _ _ _ us hl => match us, hl with | [], _ => rfl
  have Fm__law_same := fun_mk (st := s__law_same) l__law_same cc__law_same k__law_same
  have b__law_same := Fm__law_same.binds (ps := ["a", "b"]) fun _ _ _ _ _ _ us hl => match us, hl with | [_, _], _ => rfl
  have Fm__law_box := fun_mk (st := s__law_box) l__law_box cc__law_box k__law_box
  have b__law_box := Fm__law_box.binds (ps := ["script", "nodes"]) fun _ _ _ _ _ _ us hl => match us, hl with | [_, _], _ => rfl
  have Fm__law_load := fun_mk (st := s__law_load) l__law_load cc__law_load k__law_load
  have b__law_load := Fm__law_load.binds (ps := ["box"]) fun _ _ _ _ _ _ us hl => match us, hl with | [_], _ => rfl
  have Fm__law_draw := fun_mk (st := s__law_draw) l__law_draw cc__law_draw k__law_draw
  have b__law_draw := Fm__law_draw.binds (ps := ["box", "many"]) fun _ _ _ _ _ _ us hl => match us, hl with | [_, _], _ => rfl
  have Fm__law_word := fun_mk (st := s__law_word) l__law_word cc__law_word k__law_word
  have b__law_word := Fm__law_word.binds (ps := ["box"]) fun _ _ _ _ _ _ us hl => match us, hl with | [_], _ => rfl
  have Fm__law_code := fun_mk (st := s__law_code) l__law_code cc__law_code k__law_code
  have b__law_code := Fm__law_code.binds (ps := ["box", "length"]) fun _ _ _ _ _ _ us hl => match us, hl with | [_, _], _ => rfl
  have Fm__law_program := fun_mk (st := s__law_program) l__law_program cc__law_program k__law_program
  have b__law_program := Fm__law_program.binds (ps := ["box", "most"]) fun _ _ _ _ _ _ us hl => match us, hl with | [_, _], _ => rfl
  have Fm__law_input := fun_mk (st := s__law_input) l__law_input cc__law_input k__law_input
  have b__law_input := Fm__law_input.binds (ps := ["box", "most"]) fun _ _ _ _ _ _ us hl => match us, hl with | [_, _], _ => rfl
  have Fm__law_state := fun_mk (st := s__law_state) l__law_state cc__law_state k__law_state
  have b__law_state := Fm__law_state.binds (ps := ["box", "words"]) fun _ _ _ _ _ _ us hl => match us, hl with | [_, _], _ => rfl
  have Fm__law_spoilt := fun_mk (st := s__law_spoilt) l__law_spoilt cc__law_spoilt k__law_spoilt
  have b__law_spoilt := Fm__law_spoilt.binds (ps := ["box", "code"]) fun _ _ _ _ _ _ us hl => match us, hl with | [_, _], _ => rfl
  have Fm__law_bad_state := fun_mk (st := s__law_bad_state) l__law_bad_state cc__law_bad_state k__law_bad_state
  have b__law_bad_state := Fm__law_bad_state.binds (ps := ["box", "state"]) fun _ _ _ _ _ _ us hl => match us, hl with | [_, _], _ => rfl
  have Fm_law := fun_mk (st := s_law) l_law cc_law k_law
  have b_law := Fm_law.binds (ps := ["script"]) fun _ _ _ _ _ _ us hl => match us, hl with | [_], _ => rfl
  let A : Ad := { P_is_instruction := P_is_instruction, P_is_program := P_is_program, P__is_row_of_words := P__is_row_of_words, c_NAMES := c_NAMES, c_OPERANDS := c_OPERANDS }
  have kd_OPERANDS : KdOk K w c_OPERANDS (tb_OPERANDS A) := by
    refine ⟨⟨es_OPERANDS, n_OPERANDS, l_OPERANDS, lit_OPERANDS, low_OPERANDS⟩, fun p hp => ?_⟩
    simp only [tb_OPERANDS, List.mem_cons, List.not_mem_nil, or_false] at hp
    rcases hp with rfl | rfl | rfl | rfl | rfl | rfl | rfl | rfl | rfl | rfl | rfl | rfl | rfl | rfl | rfl | rfl | rfl | rfl | rfl | rfl | rfl | rfl | rfl | rfl | rfl | rfl | rfl | rfl | rfl | rfl | rfl | rfl | rfl | rfl
    · exact ⟨_, r_OPERANDS_0, .inr ⟨_, _, rfl, rfl, by decide +kernel, ⟨_, rfl⟩⟩⟩
    · exact ⟨_, r_OPERANDS_1, .inr ⟨_, _, rfl, rfl, by decide +kernel, ⟨_, rfl⟩⟩⟩
    · exact ⟨_, r_OPERANDS_2, .inr ⟨_, _, rfl, rfl, by decide +kernel, ⟨_, rfl⟩⟩⟩
    · exact ⟨_, r_OPERANDS_3, .inr ⟨_, _, rfl, rfl, by decide +kernel, ⟨_, rfl⟩⟩⟩
    · exact ⟨_, r_OPERANDS_4, .inr ⟨_, _, rfl, rfl, by decide +kernel, ⟨_, rfl⟩⟩⟩
    · exact ⟨_, r_OPERANDS_5, .inr ⟨_, _, rfl, rfl, by decide +kernel, ⟨_, rfl⟩⟩⟩
    · exact ⟨_, r_OPERANDS_6, .inr ⟨_, _, rfl, rfl, by decide +kernel, ⟨_, rfl⟩⟩⟩
    · exact ⟨_, r_OPERANDS_7, .inr ⟨_, _, rfl, rfl, by decide +kernel, ⟨_, rfl⟩⟩⟩
    · exact ⟨_, r_OPERANDS_8, .inr ⟨_, _, rfl, rfl, by decide +kernel, ⟨_, rfl⟩⟩⟩
    · exact ⟨_, r_OPERANDS_9, .inr ⟨_, _, rfl, rfl, by decide +kernel, ⟨_, rfl⟩⟩⟩
    · exact ⟨_, r_OPERANDS_10, .inr ⟨_, _, rfl, rfl, by decide +kernel, ⟨_, rfl⟩⟩⟩
    · exact ⟨_, r_OPERANDS_11, .inr ⟨_, _, rfl, rfl, by decide +kernel, ⟨_, rfl⟩⟩⟩
    · exact ⟨_, r_OPERANDS_12, .inr ⟨_, _, rfl, rfl, by decide +kernel, ⟨_, rfl⟩⟩⟩
    · exact ⟨_, r_OPERANDS_13, .inr ⟨_, _, rfl, rfl, by decide +kernel, ⟨_, rfl⟩⟩⟩
    · exact ⟨_, r_OPERANDS_14, .inr ⟨_, _, rfl, rfl, by decide +kernel, ⟨_, rfl⟩⟩⟩
    · exact ⟨_, r_OPERANDS_15, .inr ⟨_, _, rfl, rfl, by decide +kernel, ⟨_, rfl⟩⟩⟩
    · exact ⟨_, r_OPERANDS_16, .inr ⟨_, _, rfl, rfl, by decide +kernel, ⟨_, rfl⟩⟩⟩
    · exact ⟨_, r_OPERANDS_17, .inl ⟨rfl, rfl⟩⟩
    · exact ⟨_, r_OPERANDS_18, .inl ⟨rfl, rfl⟩⟩
    · exact ⟨_, r_OPERANDS_19, .inl ⟨rfl, rfl⟩⟩
    · exact ⟨_, r_OPERANDS_20, .inl ⟨rfl, rfl⟩⟩
    · exact ⟨_, r_OPERANDS_21, .inl ⟨rfl, rfl⟩⟩
    · exact ⟨_, r_OPERANDS_22, .inl ⟨rfl, rfl⟩⟩
    · exact ⟨_, r_OPERANDS_23, .inl ⟨rfl, rfl⟩⟩
    · exact ⟨_, r_OPERANDS_24, .inl ⟨rfl, rfl⟩⟩
    · exact ⟨_, r_OPERANDS_25, .inl ⟨rfl, rfl⟩⟩
    · exact ⟨_, r_OPERANDS_26, .inl ⟨rfl, rfl⟩⟩
    · exact ⟨_, r_OPERANDS_27, .inl ⟨rfl, rfl⟩⟩
    · exact ⟨_, r_OPERANDS_28, .inl ⟨rfl, rfl⟩⟩
    · exact ⟨_, r_OPERANDS_29, .inl ⟨rfl, rfl⟩⟩
    · exact ⟨_, r_OPERANDS_30, .inl ⟨rfl, rfl⟩⟩
    · exact ⟨_, r_OPERANDS_31, .inl ⟨rfl, rfl⟩⟩
    · exact ⟨_, r_OPERANDS_32, .inl ⟨rfl, rfl⟩⟩
    · exact ⟨_, r_OPERANDS_33, .inl ⟨rfl, rfl⟩⟩
  have T : TX K mg w A := { b_triv := trivial, b_all := PySem.W.mg_none_of X G z_all, b_bool := PySem.W.mg_none_of X G z_bool, b_int := PySem.W.mg_none_of X G z_int, b_isinstance := PySem.W.mg_none_of X G z_isinstance, b_len := PySem.W.mg_none_of X G z_len, b_list := PySem.W.mg_none_of X G z_list, b_range := PySem.W.mg_none_of X G z_range, b_str := PySem.W.mg_none_of X G z_str, b_tuple := PySem.W.mg_none_of X G z_tuple, b_zip := PySem.W.mg_none_of X G z_zip, g_WORD := ⟨_, PySem.W.mg_of X G g_WORD, ⟨_, rfl⟩⟩, g_MEMORY := ⟨_, PySem.W.mg_of X G g_MEMORY, ⟨_, rfl⟩⟩, g_MAX_PROGRAM := ⟨_, PySem.W.mg_of X G g_MAX_PROGRAM, ⟨_, rfl⟩⟩, g_MAX_INPUT := ⟨_, PySem.W.mg_of X G g_MAX_INPUT, ⟨_, rfl⟩⟩, g_NAMES := ⟨_, PySem.W.mg_of X G g_NAMES, rfl⟩, k_NAMES := ⟨⟨_, vs_NAMES, n_NAMES, l_NAMES, rfl, rfl, rfl, r_NAMES.2, r_NAMES.1⟩, by decide +kernel⟩, g_REGISTERS := ⟨_, PySem.W.mg_of X G g_REGISTERS, ⟨_, rfl⟩⟩, g_MAX_WRITTEN := ⟨_, PySem.W.mg_of X G g_MAX_WRITTEN, ⟨_, rfl⟩⟩, g_RUNNING := ⟨_, PySem.W.mg_of X G g_RUNNING, ⟨_, rfl⟩⟩, g_FAULTY := ⟨_, PySem.W.mg_of X G g_FAULTY, ⟨_, rfl⟩⟩, g_OPERANDS := ⟨_, PySem.W.mg_of X G g_OPERANDS, rfl⟩, kd_OPERANDS := kd_OPERANDS }
  have TL : Ow.TxtL K mg := ⟨PySem.W.mg_none_of X G z_isinstance, PySem.W.mg_none_of X G z_int, PySem.W.mg_none_of X G z_bool, PySem.W.mg_none_of X G z_str, PySem.W.mg_none_of X G z_tuple, PySem.W.mg_none_of X G z_list, PySem.W.mg_none_of X G z_len, PySem.W.mg_none_of X G z_range⟩
  refine ⟨PySem.W.fnOf "law" "law" (defArgs s_law) (defBody s_law) (defScope s_law) .none kV_law dc_law pm_law an_law cd_law ct_law, [(c_is_instruction, P_is_instruction), (c_is_program, P_is_program), (c__is_row_of_words, P__is_row_of_words)], spD K (tabs A) (F_law A), fun p hp => ?_, fun p hp => ?_, fun p hp => ?_, fun s u => .of_eq rfl, fun H a ns _ _ hH hS => ?_, fun base _ _ hB => ?_⟩
  · simp only [List.mem_cons, List.not_mem_nil, or_false] at hp
    rcases hp with z | z | z
    · rw [z]; exact y_is_instruction
    · rw [z]; exact y_is_program
    · rw [z]; exact y__is_row_of_words
  · simp only [List.mem_cons, List.not_mem_nil, or_false] at hp
    rcases hp with z | z | z
    · rw [z]; exact n_is_instruction
    · rw [z]; exact n_is_program
    · rw [z]; exact n__is_row_of_words
  · simp only [List.mem_cons, List.not_mem_nil, or_false] at hp
    rcases hp with z | z | z
    · rw [z]; exact d_is_instruction
    · rw [z]; exact d_is_program
    · rw [z]; exact d__is_row_of_words
  · exact ⟨a, ns, [.scr], fun _ => none, fun d _ => d = .bl true, xF, .cons .scr .nil, ⟨fun _ _ z => (by cases z), (fun P hP => by
      simp only [tabs, List.mem_cons, List.not_mem_nil, or_false] at hP
      rcases hP with z | z | z
      · rw [z]; exact tab0 (hH (c_is_instruction, P_is_instruction) (by simp))
      · rw [z]; exact tab0 (hH (c_is_program, P_is_program) (by simp))
      · rw [z]; exact tab0 (hH (c__is_row_of_words, P__is_row_of_words) (by simp))), hS.elim (fun h => .inl ⟨rfl, h⟩) fun h => .inr fun _ => .inr h⟩, w_law A fun _ => rfl, fun v d H' S' i _ _ e => (by subst e; exact im_bl i), xok_F⟩
  · have t_is_instruction := tabB (hB (c_is_instruction, P_is_instruction) (by simp))
    have FT_is_instruction : FunT K base mg "is_instruction" "is_instruction" s_is_instruction f_is_instruction _ P_is_instruction := ⟨⟨_, _, _, _, _, _, c_is_instruction, _, _, rfl, l_is_instruction, cc_is_instruction, t_is_instruction⟩, k_is_instruction⟩
    have t_is_program := tabB (hB (c_is_program, P_is_program) (by simp))
    have FT_is_program : FunT K base mg "is_program" "is_program" s_is_program f_is_program _ P_is_program := ⟨⟨_, _, _, _, _, _, c_is_program, _, _, rfl, l_is_program, cc_is_program, t_is_program⟩, k_is_program⟩
    have t__is_row_of_words := tabB (hB (c__is_row_of_words, P__is_row_of_words) (by simp))
    have FT__is_row_of_words : FunT K base mg "_is_row_of_words" "_is_row_of_words" s__is_row_of_words f__is_row_of_words _ P__is_row_of_words := ⟨⟨_, _, _, _, _, _, c__is_row_of_words, _, _, rfl, l__is_row_of_words, cc__is_row_of_words, t__is_row_of_words⟩, k__is_row_of_words⟩
    have G_is_number : Ow.Ca l.prog w K mg base 1 "is_number" (spD K (tabs A) (F_is_number A)) := ⟨f_is_number, _, _, ok_is_number Fm_is_number T , PySem.W.mg_of X G a_is_number, k_is_number, b_is_number⟩
    have G_is_word : Ow.Ca l.prog w K mg base 2 "is_word" (spD K (tabs A) (F_is_word A)) := ⟨f_is_word, _, _, ok_is_word Fm_is_word T G_is_number, PySem.W.mg_of X G a_is_word, k_is_word, b_is_word⟩
    have G__is_operand : Ow.Ca l.prog w K mg base 3 "_is_operand" (spD K (tabs A) (F__is_operand A)) := ⟨f__is_operand, _, _, ok__is_operand Fm__is_operand T G_is_number G_is_word, PySem.W.mg_of X G a__is_operand, k__is_operand, b__is_operand⟩
    have G_is_instruction : Ow.Ca l.prog w K mg base 5 "is_instruction" (spD K (tabs A) (F_is_instruction A)) := ⟨f_is_instruction, _, _, ok_is_instruction FT_is_instruction T G__is_operand, PySem.W.mg_of X G a_is_instruction, k_is_instruction, b_is_instruction⟩
    have G_is_program : Ow.Ca l.prog w K mg base 7 "is_program" (spD K (tabs A) (F_is_program A)) := ⟨f_is_program, _, _, ok_is_program FT_is_program T G_is_instruction, PySem.W.mg_of X G a_is_program, k_is_program, b_is_program⟩
    have G__is_row_of_words : Ow.Ca l.prog w K mg base 4 "_is_row_of_words" (spD K (tabs A) (F__is_row_of_words A)) := ⟨f__is_row_of_words, _, _, ok__is_row_of_words FT__is_row_of_words T G_is_word, PySem.W.mg_of X G a__is_row_of_words, k__is_row_of_words, b__is_row_of_words⟩
    have G_is_input : Ow.Ca l.prog w K mg base 5 "is_input" (spD K (tabs A) (F_is_input A)) := ⟨f_is_input, _, _, ok_is_input Fm_is_input T G__is_row_of_words, PySem.W.mg_of X G a_is_input, k_is_input, b_is_input⟩
    have G_is_state : Ow.Ca l.prog w K mg base 5 "is_state" (spD K (tabs A) (F_is_state A)) := ⟨f_is_state, _, _, ok_is_state Fm_is_state T G_is_number G__is_row_of_words, PySem.W.mg_of X G a_is_state, k_is_state, b_is_state⟩
    have G_first_state : Ow.Ca l.prog w K mg base 1 "first_state" (spD K (tabs A) (F_first_state A)) := ⟨f_first_state, _, _, ok_first_state Fm_first_state T , PySem.W.mg_of X G a_first_state, k_first_state, b_first_state⟩
    have G__law_same : Ow.Ca l.prog w K mg base 9 "_law_same" (spD K (tabs A) (F__law_same A 8)) := ⟨f__law_same, _, _, ok__law_same Fm__law_same T (PySem.W.mg_of X G a__law_same) k__law_same b__law_same  8, PySem.W.mg_of X G a__law_same, k__law_same, b__law_same⟩
    have G__law_box : Ow.Ca l.prog w K mg base 1 "_law_box" (spD K (tabs A) (F__law_box A)) := ⟨f__law_box, _, _, ok__law_box Fm__law_box T, PySem.W.mg_of X G a__law_box, k__law_box, b__law_box⟩
    have G__law_load : Ow.Ca l.prog w K mg base 1 "_law_load" Ow.spLoad := ⟨f__law_load, _, _, Ow.ok_load Fm__law_load TL, PySem.W.mg_of X G a__law_load, k__law_load, b__law_load⟩
    have G__law_draw : Ow.Ca l.prog w K mg base 2 "_law_draw" (spD K (tabs A) (F__law_draw A)) := ⟨f__law_draw, _, _, ok__law_draw Fm__law_draw T G__law_load, PySem.W.mg_of X G a__law_draw, k__law_draw, b__law_draw⟩
    have G__law_word : Ow.Ca l.prog w K mg base 3 "_law_word" (spD K (tabs A) (F__law_word A)) := ⟨f__law_word, _, _, ok__law_word Fm__law_word T G__law_draw, PySem.W.mg_of X G a__law_word, k__law_word, b__law_word⟩
    have G__law_code : Ow.Ca l.prog w K mg base 4 "_law_code" (spD K (tabs A) (F__law_code A)) := ⟨f__law_code, _, _, ok__law_code Fm__law_code T G__law_draw G__law_word, PySem.W.mg_of X G a__law_code, k__law_code, b__law_code⟩
    have G__law_program : Ow.Ca l.prog w K mg base 5 "_law_program" (spD K (tabs A) (F__law_program A)) := ⟨f__law_program, _, _, ok__law_program Fm__law_program T G__law_draw G__law_code, PySem.W.mg_of X G a__law_program, k__law_program, b__law_program⟩
    have G__law_input : Ow.Ca l.prog w K mg base 4 "_law_input" (spD K (tabs A) (F__law_input A)) := ⟨f__law_input, _, _, ok__law_input Fm__law_input T G__law_draw G__law_word, PySem.W.mg_of X G a__law_input, k__law_input, b__law_input⟩
    have G__law_state : Ow.Ca l.prog w K mg base 4 "_law_state" (spD K (tabs A) (F__law_state A)) := ⟨f__law_state, _, _, ok__law_state Fm__law_state T G__law_draw G__law_word, PySem.W.mg_of X G a__law_state, k__law_state, b__law_state⟩
    have G__law_spoilt : Ow.Ca l.prog w K mg base 3 "_law_spoilt" (spD K (tabs A) (F__law_spoilt A)) := ⟨f__law_spoilt, _, _, ok__law_spoilt Fm__law_spoilt T G__law_draw, PySem.W.mg_of X G a__law_spoilt, k__law_spoilt, b__law_spoilt⟩
    have G__law_bad_state : Ow.Ca l.prog w K mg base 3 "_law_bad_state" (spD K (tabs A) (F__law_bad_state A)) := ⟨f__law_bad_state, _, _, ok__law_bad_state Fm__law_bad_state T G__law_draw, PySem.W.mg_of X G a__law_bad_state, k__law_bad_state, b__law_bad_state⟩
    exact ok_law Fm_law T G__law_box G__law_same G_first_state G__law_program G__law_input G__law_state G__law_draw G_is_state G_is_input G_is_program G__law_bad_state G__law_spoilt G_is_instruction
end Sd

set_option Elab.async false
open PySem PySem.W PyProof.Rows in
set_option maxRecDepth 100000 in
set_option maxHeartbeats 0 in
theorem PySem.Challenge.cw_onewatcher_k10_forms_holds : PySem.Challenge.rw_onewatcher_k10_forms.Holds := by
  w_on; o_law; k_head; (case hw => w_witness2)
  k_fill
  refine Sd.walk_ofG (l := PySem.Challenge.rw_onewatcher_k10_forms) (n := 63) (k := 10) (x := "script") (CX := fun w => L2.CX (PySem.Challenge.rw_onewatcher_k10_forms).prog w) rfl (by decide) rfl ⟨rfl, by decide, by decide⟩ (fun w h Y => PySem.W.kIn_of Y) ?F (fun w H s e s' z => by obtain ⟨_, _, _, _, _, _, _, _, _, _, _, _, z⟩ := z; exact z)
  case F =>
    intro w mg fa h Y KX G hmg hT
    refine' Sd.all_mk KX G hmg hT (by decide +kernel) (by decide +kernel) (by decide +kernel) ?a_is_number ?l_is_number ?cc_is_number ?k_is_number ?a_is_word ?l_is_word ?cc_is_word ?k_is_word ?a__is_operand ?l__is_operand ?cc__is_operand ?k__is_operand ?a_is_instruction ?l_is_instruction ?cc_is_instruction ?k_is_instruction ?v_is_instruction ?w_is_instruction ?n_is_instruction ?a_is_program ?l_is_program ?cc_is_program ?k_is_program ?v_is_program ?w_is_program ?n_is_program ?a__is_row_of_words ?l__is_row_of_words ?cc__is_row_of_words ?k__is_row_of_words ?v__is_row_of_words ?w__is_row_of_words ?n__is_row_of_words ?a_is_input ?l_is_input ?cc_is_input ?k_is_input ?a_is_state ?l_is_state ?cc_is_state ?k_is_state ?a_first_state ?l_first_state ?cc_first_state ?k_first_state ?a__law_same ?l__law_same ?cc__law_same ?k__law_same ?a__law_box ?l__law_box ?cc__law_box ?k__law_box ?a__law_load ?l__law_load ?cc__law_load ?k__law_load ?a__law_draw ?l__law_draw ?cc__law_draw ?k__law_draw ?a__law_word ?l__law_word ?cc__law_word ?k__law_word ?a__law_code ?l__law_code ?cc__law_code ?k__law_code ?a__law_program ?l__law_program ?cc__law_program ?k__law_program ?a__law_input ?l__law_input ?cc__law_input ?k__law_input ?a__law_state ?l__law_state ?cc__law_state ?k__law_state ?a__law_spoilt ?l__law_spoilt ?cc__law_spoilt ?k__law_spoilt ?a__law_bad_state ?l__law_bad_state ?cc__law_bad_state ?k__law_bad_state ?a_law ?l_law ?cc_law ?k_law ?z_all ?z_bool ?z_int ?z_isinstance ?z_len ?z_list ?z_range ?z_str ?z_tuple ?z_zip ?g_WORD ?g_MEMORY ?g_MAX_PROGRAM ?g_MAX_INPUT ?g_NAMES ?l_NAMES ?r_NAMES ?g_REGISTERS ?g_MAX_WRITTEN ?g_RUNNING ?g_FAULTY ?g_OPERANDS ?l_OPERANDS ?lit_OPERANDS ?low_OPERANDS ?r_OPERANDS_0 ?r_OPERANDS_1 ?r_OPERANDS_2 ?r_OPERANDS_3 ?r_OPERANDS_4 ?r_OPERANDS_5 ?r_OPERANDS_6 ?r_OPERANDS_7 ?r_OPERANDS_8 ?r_OPERANDS_9 ?r_OPERANDS_10 ?r_OPERANDS_11 ?r_OPERANDS_12 ?r_OPERANDS_13 ?r_OPERANDS_14 ?r_OPERANDS_15 ?r_OPERANDS_16 ?r_OPERANDS_17 ?r_OPERANDS_18 ?r_OPERANDS_19 ?r_OPERANDS_20 ?r_OPERANDS_21 ?r_OPERANDS_22 ?r_OPERANDS_23 ?r_OPERANDS_24 ?r_OPERANDS_25 ?r_OPERANDS_26 ?r_OPERANDS_27 ?r_OPERANDS_28 ?r_OPERANDS_29 ?r_OPERANDS_30 ?r_OPERANDS_31 ?r_OPERANDS_32 ?r_OPERANDS_33
    (case a_is_number => k_is)
    (case l_is_number => k_is)
    (case cc_is_number => k_is)
    (case k_is_number => k_is)
    (case a_is_word => k_is)
    (case l_is_word => k_is)
    (case cc_is_word => k_is)
    (case k_is_word => k_is)
    (case a__is_operand => k_is)
    (case l__is_operand => k_is)
    (case cc__is_operand => k_is)
    (case k__is_operand => k_is)
    (case a_is_instruction => k_is)
    (case l_is_instruction => k_is)
    (case cc_is_instruction => k_is)
    (case k_is_instruction => k_is)
    (case v_is_instruction => k_is)
    (case w_is_instruction => first | rfl | k_is)
    (case n_is_instruction => exact rfl)
    (case a_is_program => k_is)
    (case l_is_program => k_is)
    (case cc_is_program => k_is)
    (case k_is_program => k_is)
    (case v_is_program => k_is)
    (case w_is_program => first | rfl | k_is)
    (case n_is_program => exact rfl)
    (case a__is_row_of_words => k_is)
    (case l__is_row_of_words => k_is)
    (case cc__is_row_of_words => k_is)
    (case k__is_row_of_words => k_is)
    (case v__is_row_of_words => k_is)
    (case w__is_row_of_words => first | rfl | k_is)
    (case n__is_row_of_words => exact rfl)
    (case a_is_input => k_is)
    (case l_is_input => k_is)
    (case cc_is_input => k_is)
    (case k_is_input => k_is)
    (case a_is_state => k_is)
    (case l_is_state => k_is)
    (case cc_is_state => k_is)
    (case k_is_state => k_is)
    (case a_first_state => k_is)
    (case l_first_state => k_is)
    (case cc_first_state => k_is)
    (case k_first_state => k_is)
    (case a__law_same => k_is)
    (case l__law_same => k_is)
    (case cc__law_same => k_is)
    (case k__law_same => k_is)
    (case a__law_box => k_is)
    (case l__law_box => k_is)
    (case cc__law_box => k_is)
    (case k__law_box => k_is)
    (case a__law_load => k_is)
    (case l__law_load => k_is)
    (case cc__law_load => k_is)
    (case k__law_load => k_is)
    (case a__law_draw => k_is)
    (case l__law_draw => k_is)
    (case cc__law_draw => k_is)
    (case k__law_draw => k_is)
    (case a__law_word => k_is)
    (case l__law_word => k_is)
    (case cc__law_word => k_is)
    (case k__law_word => k_is)
    (case a__law_code => k_is)
    (case l__law_code => k_is)
    (case cc__law_code => k_is)
    (case k__law_code => k_is)
    (case a__law_program => k_is)
    (case l__law_program => k_is)
    (case cc__law_program => k_is)
    (case k__law_program => k_is)
    (case a__law_input => k_is)
    (case l__law_input => k_is)
    (case cc__law_input => k_is)
    (case k__law_input => k_is)
    (case a__law_state => k_is)
    (case l__law_state => k_is)
    (case cc__law_state => k_is)
    (case k__law_state => k_is)
    (case a__law_spoilt => k_is)
    (case l__law_spoilt => k_is)
    (case cc__law_spoilt => k_is)
    (case k__law_spoilt => k_is)
    (case a__law_bad_state => k_is)
    (case l__law_bad_state => k_is)
    (case cc__law_bad_state => k_is)
    (case k__law_bad_state => k_is)
    (case a_law => k_is)
    (case l_law => k_is)
    (case cc_law => k_is)
    (case k_law => k_is)
    (case z_all => k_is)
    (case z_bool => k_is)
    (case z_int => k_is)
    (case z_isinstance => k_is)
    (case z_len => k_is)
    (case z_list => k_is)
    (case z_range => k_is)
    (case z_str => k_is)
    (case z_tuple => k_is)
    (case z_zip => k_is)
    (case g_WORD => k_is)
    (case g_MEMORY => k_is)
    (case g_MAX_PROGRAM => k_is)
    (case g_MAX_INPUT => k_is)
    (case g_NAMES => k_is)
    (case l_NAMES => k_is)
    (case r_NAMES => exact ⟨by repeat' (first | exact ⟨_, rfl⟩ | constructor), by decide⟩)
    (case g_REGISTERS => k_is)
    (case g_MAX_WRITTEN => k_is)
    (case g_RUNNING => k_is)
    (case g_FAULTY => k_is)
    (case g_OPERANDS => k_is)
    (case l_OPERANDS => k_is)
    (case lit_OPERANDS => simp only [List.toList_toArray, PySem.W.KeysLit]; repeat (first | exact trivial | refine ⟨⟨_, _, rfl, rfl⟩, ?_⟩))
    (case low_OPERANDS => first | rfl | decide | k_is)
    (case r_OPERANDS_0 => k_is)
    (case r_OPERANDS_1 => k_is)
    (case r_OPERANDS_2 => k_is)
    (case r_OPERANDS_3 => k_is)
    (case r_OPERANDS_4 => k_is)
    (case r_OPERANDS_5 => k_is)
    (case r_OPERANDS_6 => k_is)
    (case r_OPERANDS_7 => k_is)
    (case r_OPERANDS_8 => k_is)
    (case r_OPERANDS_9 => k_is)
    (case r_OPERANDS_10 => k_is)
    (case r_OPERANDS_11 => k_is)
    (case r_OPERANDS_12 => k_is)
    (case r_OPERANDS_13 => k_is)
    (case r_OPERANDS_14 => k_is)
    (case r_OPERANDS_15 => k_is)
    (case r_OPERANDS_16 => k_is)
    (case r_OPERANDS_17 => k_is)
    (case r_OPERANDS_18 => k_is)
    (case r_OPERANDS_19 => k_is)
    (case r_OPERANDS_20 => k_is)
    (case r_OPERANDS_21 => k_is)
    (case r_OPERANDS_22 => k_is)
    (case r_OPERANDS_23 => k_is)
    (case r_OPERANDS_24 => k_is)
    (case r_OPERANDS_25 => k_is)
    (case r_OPERANDS_26 => k_is)
    (case r_OPERANDS_27 => k_is)
    (case r_OPERANDS_28 => k_is)
    (case r_OPERANDS_29 => k_is)
    (case r_OPERANDS_30 => k_is)
    (case r_OPERANDS_31 => k_is)
    (case r_OPERANDS_32 => k_is)
    (case r_OPERANDS_33 => k_is)

