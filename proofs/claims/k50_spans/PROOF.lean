import PyProof.Rows.All
import Wide.All
import OpenK.AllK
import Wide.FinOn
import HandS.ForMost
import HandS.AnyAll
import HandS.GenCall
import PyProof.TupleOfGen
import HandS.Deep
import HandS.TupAny
import HandS.TupMul
import HandS.Wide
import HandS.IsInst
import HandS.WordsExc
import HandS.ExcIs
import HandS.EndTab
import HandS.Conv
import HandS.Style
import PyProof.StrOps2
import HandS.Text
import HandS.Codes
import HandS.More
import HandS.RevRange
import HandS.TupLe
import HandS.TryOnly
import KE.GoesNew
import HandS.Zip
import KE.GoesEnum
import PySem.Challenge.RW_onewatcher_k50_spans
set_option Elab.async false
set_option linter.all false
set_option maxRecDepth 100000
set_option maxHeartbeats 4000000
namespace Ow
open PySem PySem.Spec PyProof.Rows L2 GxR

/-- the context of a generator expression's code -/
abbrev gxCx (X : Cx) (s : Shared) (H : Hp) (scope : Scope) (cenv : Env) (A' : Around) (fp : List Addr) (pn : List (Addr × Obj)) : Cx :=
  { X with A := A', s_0 := s, H_0 := H, env := cenv, outer := X.stack, stack := cenv :: X.stack, ex := fp, fn := fun _ => false, calm := true, pn := pn, xe := fun _ _ => False }

section
variable {X : Cx} {pins : List (Addr × Obj)} {σ : L2.St} {H : Hp} {s : Shared}

theorem gx_start {scope : Scope} {own : List (Str × Nat)} {fp : List Addr} {A' : Around} {code : Value} {C : Addr} {h' : Heap} {g' : Array GenState} {t' : Nat} {mC : Str → Option Value} {pn : List (Addr × Obj)}
    (I : Inv X pins σ H s) (ok : BlkOk X.N X.env.scope scope own) (hcell : ∀ y ∈ scope.names, y.2 ≠ .cell) (hN : X.N.Nodup) (hfp : ∀ b ∈ fp, FpOk X pins H b ∧ b < s.heap.objs.size)
    (hC : s.heap.objs.size ≤ C) (hns : h'.Ns C mC) (kp : ∀ b o, s.heap.get? b = some o → h'.get? b = some o) (hg : AllBare g')
    (hA : A'.handled = none) (hfr : A'.frames = some (genEnv scope (cloFrom X.env.cells scope.names []) C code builtinsNs X.env :: X.stack))
    (hpn : ∀ p ∈ pn, h'.get? p.1 = some p.2 ∧ s.heap.objs.size ≤ p.1 ∧ p.1 ≠ C ∧ ∀ v, p.2.data ≠ .cell v) :
    Inv (gxCx X s H scope (genEnv scope (cloFrom X.env.cells scope.names []) C code builtinsNs X.env) A' fp pn) [] (wipe σ (own.map (·.2))) H { s with heap := h', gens := g', toks := t' } := by
  have hfree : ∀ y ∈ scope.names, y.2 = .free → ∃ c, X.env.cells.lookup y.1 = some c := fun y hy e => by
    rcases ok.free y hy e with k | k
    · exact I.ok.has _ (.inl k)
    · exact I.ok.has _ (.inr k)
  have cm : ∀ {y c}, (y, c) ∈ cloFrom X.env.cells scope.names [] → X.env.cells.lookup y = some c ∧ c < s.heap.objs.size := fun {y c} hm => by
    rcases cloFrom_mem hm with hm | ⟨h1, rfl⟩
    · cases hm
    · obtain ⟨c, hc⟩ := hfree _ h1 rfl
      rw [hc]
      obtain ⟨w, z⟩ := I.cell _ _ hc
      exact ⟨rfl, z.lt⟩
  have cml : ∀ {y c}, (cloFrom X.env.cells scope.names []).lookup y = some c → X.env.cells.lookup y = some c ∧ c < s.heap.objs.size := fun {y c} e => cm (PySem.mem_of_lookup e)
  have okB : (gxCx X s H scope (genEnv scope (cloFrom X.env.cells scope.names []) C code builtinsNs X.env) A' fp pn).Ok := by
    refine ⟨I.ok.mod, ok.kind, I.ok.glob, rfl, hC, fun y z c e1 e2 => ?_, fun y hy => ?_, fun y c z e => ?_, fun _ => hA, hfr, .inr ⟨rfl, rfl⟩, fun b hb => ⟨?_, fun y c e z => ?_⟩, I.bs, Nat.le_trans I.ok.bsz I.sz, fun b o e hb => ?_, fun b hb z => ?_, I.stack, I.stkFree⟩
    · exact I.ok.inj y z c (cml e1).1 (cml e2).1
    · rcases hy with hy | hy
      · have : scope.names.lookup y = some .cell := hy
        exact absurd rfl (hcell _ (PySem.mem_of_lookup this))
      · have hy' : scope.names.lookup y = some .free := hy
        obtain ⟨c', e'⟩ := mem_lookup (cloFrom_has (cells := X.env.cells) (acc := []) (PySem.mem_of_lookup hy'))
        exact ⟨c', e'⟩
    · cases z
    · show b ≠ C
      exact Nat.ne_of_lt (Nat.lt_of_lt_of_le (hfp b hb).2 hC)
    · have e : (cloFrom X.env.cells scope.names []).lookup y = some c := e
      exact (hfp b hb).1.2.2.2.2.1 y c (cml e).1 z
    · rcases (hfp b hb).1.2.2.2.1 with z | z
      · exact I.ok.noex b o e z
      · exact absurd (Nat.lt_of_lt_of_le (Heap.lt_size e) (Nat.le_trans I.ok.bsz z)) (Nat.lt_irrefl _)
    · rcases List.mem_cons.mp (I.stkSub b z) with z | z
      · exact (hfp b hb).1.2.1 z
      · exact (hfp b hb).1.2.2.1 z
  refine ⟨okB, rfl, hg, Un.kept kp, ⟨mC, hns, fun i y av e1 e2 e3 => ?_⟩, fun y c e => ?_, ?_, fun y c e => ?_, fun p hp => ?_, I.hok.kept kp, by rw [wipe_length]; exact I.len⟩
  · obtain ⟨e2, hne⟩ := wipe_some e2
    have e3 : Vis scope y := e3
    have no : ∀ k, scope.names.lookup y = some k → ¬ (k = .local ∨ k = .cell) := fun k e hh => by
      rcases ok.own _ (PySem.mem_of_lookup e) hh with e' | e'
      · obtain ⟨p, hp, hpy⟩ := List.mem_map.mp e'
        have e3 := ok.ix p hp
        have : p.1 = y := hpy
        rw [this] at e3
        exact hne (List.mem_map.mpr ⟨p, hp, nodup_ix hN e3 e1⟩)
      · exact e' (List.mem_of_getElem? e1)
    have hfr : scope.names.lookup y = some .free := by
      rcases e3 with e3 | e3 | e3
      · exact absurd (.inl rfl) (no _ e3)
      · exact absurd (.inr rfl) (no _ e3)
      · exact e3
    obtain ⟨m, hn, hl⟩ := I.loc
    have hvis : Vis X.env.scope y := (ok.free _ (PySem.mem_of_lookup hfr) rfl).elim (fun k => .inr (.inl k)) (fun k => .inr (.inr k))
    obtain ⟨w, r, q⟩ := hl i y av e1 e2 hvis
    refine ⟨w, r, .inr ⟨.inr hfr, ?_⟩⟩
    obtain ⟨c', e'⟩ := mem_lookup (cloFrom_has (cells := X.env.cells) (acc := []) (PySem.mem_of_lookup hfr))
    rcases q with ⟨k, _⟩ | ⟨_, c, e, z⟩
    · have k : X.env.scope.names.lookup y = some .local := k
      rcases ok.free _ (PySem.mem_of_lookup hfr) rfl with k' | k' <;> rw [show X.env.scope.names.lookup y = _ from k'] at k <;> cases k
    · have h1 := (cml e').1
      rw [h1] at e; cases e
      exact ⟨c', e', z.keeps kp⟩
  · have e : (cloFrom X.env.cells scope.names []).lookup y = some c := e
    obtain ⟨w, z⟩ := I.cell y c (cml e).1
    exact ⟨w, z.keeps kp⟩
  · show H C = none
    exact I.hok.fresh hC
  · have e : (cloFrom X.env.cells scope.names []).lookup y = some c := e
    exact I.freeC y c (cml e).1
  · have hp : p ∈ pn := by simpa using hp
    obtain ⟨h1, h2, h3, h4⟩ := hpn p hp
    exact ⟨h1, I.hok.fresh h2, h3, fun z => by
      rcases List.mem_cons.mp (I.stkSub p.1 z) with z | z
      · exact absurd (z ▸ I.lt) (Nat.not_lt_of_le h2)
      · exact I.nofs h2 z, h4⟩
end

/-- nothing but the table of generators has changed -/
structure Woke (s s' : Shared) : Prop where
  heap : s'.heap = s.heap
  os : s'.os = s.os
  bare : AllBare s'.gens
theorem inv_woke {X : Cx} {pins : List (Addr × Obj)} {σ : L2.St} {H : Hp} {s s' : Shared} (I : Inv X pins σ H s) (z : Woke s s') : Inv X pins σ H s' := by
  refine I.call' (ch := []) z.os (Un.kept fun b u e => by rw [z.heap]; exact e) (by rw [z.heap]; exact I.hok) z.bare fun b hb => absurd hb (by simp)

def gxEnd (X' : Cx) (σ0 : L2.St) (Qt : Hp → Prop) : GenEnd := fun n s₀ r s₁ => r = .ok .next ∧ ∃ H', Inv X' [] σ0 H' s₁ ∧ Qt H'
def gxOut (X' : Cx) (σ0 : L2.St) (Qf : Hp → Prop) : Protocol := fun n s₀ v s kap => ∃ (b : Bool) (H' : Hp), v = .bool b ∧ Inv X' [] σ0 H' s ∧ (b = false → Qf H') ∧ (b = true → ∀ s', Woke s s' → kap (.send .none) s')

/-- the turns of a generator expression of truth values: W by the turn and a measure -/
def gxTurns (J : It) (g : TG) (te : TE) (σ0 : L2.St) (vs : List Nat) (Qt Qf : Hp → Prop) (W : Nat → Nat → Hp → Prop) : Prop := ∀ i m H, W i m H →
  (J.stop i H ∧ Qt H) ∨ (J.go i H ∧ ∃ Nx : Hp → Prop, (∀ H', Nx H' → ∃ m', m' < m ∧ W (i + 1) m' H') ∧ ∀ x H', J.yld i H x H' → g x σ0 H' fun σ2 H2 => wipe σ2 vs = σ0 ∧ te σ2 H2 fun y H3 => ∃ b, y = .bl b ∧ (b = true → Nx H3) ∧ (b = false → Qf H3))

section
variable {X' : Cx} {A : Around} {elt tg iter : Expr} {scope : Scope} {pos : Pos} {it : Addr} {J : It} {fp : List Addr} {tn : Nat → Heap → Prop} {σ0 : L2.St} {vs : List Nat} {g : TG} {te : TE} {Qt Qf : Hp → Prop} {W : Nat → Nat → Hp → Prop}

theorem seg_gx (hA : X'.A = A.over (.compLoop (.GeneratorExp elt [⟨tg, iter, [], 0⟩] scope pos) 0 (.ref it) .none X'.env) []) (hc : X'.calm = true) (hco : X'.env.scope.isCoroutine = false) (hxe : X'.xe = fun _ _ => False) (hex : X'.ex = fp)
    (T : Turn X'.prog X'.w X'.K tg J fp it tn) (hg : PG X' tg g) (he : PE X' elt te) (hpn : ∀ b ∈ fp, ∀ p ∈ X'.pn, p.1 ≠ b) (hw : ∀ σ2 : L2.St, wipe σ2 vs = σ0 → ∀ (j : Nat) v, σ0[j]? = some (some v) → σ2[j]? = some (some v))
    (turn : gxTurns J g te σ0 vs Qt Qf W) :
    ∀ (m n i : Nat) (s₀ s : Shared) (H : Hp), m < n → Inv X' [] σ0 H s → tn i s.heap → (∀ b ∈ fp, H b = none) → W i m H →
      Seg (model X'.prog X'.w) A (gxEnd X' σ0 Qt) (gxOut X' σ0 Qf) n s₀ (.compLoop (.GeneratorExp elt [⟨tg, iter, [], 0⟩] scope pos) 0 (.ref it) .none X'.env)
        ((model X'.prog X'.w).den (.compLoop (.GeneratorExp elt [⟨tg, iter, [], 0⟩] scope pos) 0 (.ref it) .none X'.env)) [] s := by
  have stat : ∀ {σ' : L2.St} {H' : Hp} {s' : Shared}, Inv X' [] σ' H' s' → (∀ b ∈ fp, H' b = none) → ∀ b ∈ fp, FpOk X' [] H' b := fun {σ' H' s'} I' hn b hb =>
    ⟨hn b hb, (I'.ok.exf b (by rw [hex]; exact hb)).1, I'.ok.exfs b (by rw [hex]; exact hb), .inl (by rw [hex]; exact hb), fun x c e => (I'.ok.exf b (by rw [hex]; exact hb)).2 x c e, fun p hp => hpn b hb p (by simpa using hp)⟩
  intro m
  induction m using Nat.strongRecOn with
  | ind m ih =>
    intro n i s₀ s H hmn I st nf w
    show Seg _ A _ _ _ s₀ _ ((compTurn (.GeneratorExp elt [⟨tg, iter, [], 0⟩] scope pos) 0 (.ref it) .none X'.env).onRaise (leaving X'.env)) [] s
    rw [compTurn_gen, Sem.onRaise_eq_wrap]
    refine seg_bind_wrap (wpAny_standAt ?_)
    rcases turn i m H w with ⟨stop, qt⟩ | ⟨go, Nx, hNx, step⟩
    · refine seg_bind_wrap ?_
      rw [← hA]
      refine thnF (T.done X' rfl rfl rfl hc i [] s _ H (fun _ _ => False) I (stat I nf) st stop) fun r s1 ⟨hr, I1⟩ => ?_
      subst hr
      exact seg_end (.ok .next) ⟨rfl, H, I1, qt⟩
    · refine seg_bind_wrap ?_
      rw [← hA]
      refine thnF (T.item X' rfl rfl rfl hc i [] s _ H (fun _ _ => False) I (stat I nf) st go) fun r s1 ⟨u, hr, h1⟩ => ?_
      subst hr
      refine seg_bind_wrap ?_
      rw [← hA]
      refine thnF h1 fun _ s2 ⟨x, H2, I2, r2, y2, st2, nf2⟩ => ?_
      have I2' := I2.pinned (stat I2 nf2) (T.obj _ _ st2)
      refine seg_bind_wrap ?_
      rw [← hA]
      have pgr := hg.run _ s2 _ H2 x u _ I2' r2 (step x H2 y2)
      rw [hxe] at pgr
      refine thnF pgr fun _ s3 ⟨σ3, H3, I3, hw3, q3⟩ => ?_
      simp only [List.forIn_nil]
      refine seg_bind_wrap (wpAny_pure ?_)
      simp only [if_true]
      have hy : ∀ v, yieldOut X'.env v = yieldValue v := fun v => by simp only [yieldOut, hco, Bool.false_eq_true, if_false]
      simp only [hy]
      rw [Sem.bind_eq_wrap', Sem.bind_eq_wrap', Sem.wrap_wrap, Sem.wrap_wrap]
      refine seg_wrap ?_
      rw [← hA]
      have per := he.run _ s3 σ3 H3 _ I3 q3
      rw [hxe] at per
      refine thnF per fun v s4 ⟨y, H4, I4, r4, b, hb, hT, hF⟩ => ?_
      subst hb
      have hv : v = .bool b := r4
      subst hv
      have pin4 : ∀ c ∈ fp, ∀ o, s2.heap.get? c = some o → s4.heap.get? c = some o ∧ H4 c = none := fun c hb o e =>
        let z := I4.pin (c, o) (List.mem_append_right _ (List.mem_append_right _ (mem_pinsAt hb e)))
        ⟨z.1, z.2.1⟩
      have hl : σ0.length = σ3.length := by rw [← hw3, wipe_length]
      have I5 : Inv X' [] σ0 H4 s4 := (I4.unpinned (pins := [])).weak hl (hw σ3 hw3)
      have st5 : tn (i + 1) s4.heap := T.keep _ _ _ st2 fun c hb o e => (pin4 c hb o e).1
      have nf5 : ∀ c ∈ fp, H4 c = none := fun c hb => by
        obtain ⟨o, e, _⟩ := T.obj _ _ st2 c hb
        exact (pin4 c hb o e).2
      have hn : ∃ n', n = n' + 1 := ⟨n - 1, by omega⟩
      obtain ⟨n', rfl⟩ := hn
      refine seg_at (seg_yield rfl rfl rfl ⟨b, H4, rfl, I5, hF, fun hb s' z => ?_⟩)
      obtain ⟨m', hm', w'⟩ := hNx H4 (hT hb)
      refine seg_again rfl (ih m' hm' n' (i + 1) s' s' H4 (by omega) (inv_woke I5 z) ?_ nf5 w')
      rw [z.heap]; exact st5

theorem seg_gxStart (hA : X'.A = A.over (.compLoop (.GeneratorExp elt [⟨tg, iter, [], 0⟩] scope pos) 0 (.ref it) .none X'.env) []) (hc : X'.calm = true) (hco : X'.env.scope.isCoroutine = false) (hxe : X'.xe = fun _ _ => False) (hex : X'.ex = fp)
    (T : Turn X'.prog X'.w X'.K tg J fp it tn) (hg : PG X' tg g) (he : PE X' elt te) (hpn : ∀ b ∈ fp, ∀ p ∈ X'.pn, p.1 ≠ b) (hw : ∀ σ2 : L2.St, wipe σ2 vs = σ0 → ∀ (j : Nat) v, σ0[j]? = some (some v) → σ2[j]? = some (some v))
    (turn : gxTurns J g te σ0 vs Qt Qf W) (m n : Nat) (s₀ s : Shared) (H : Hp) (hmn : m < n) (I : Inv X' [] σ0 H s) (st : tn 0 s.heap) (nf : ∀ b ∈ fp, H b = none) (w : W 0 m H) :
    Seg (model X'.prog X'.w) A (gxEnd X' σ0 Qt) (gxOut X' σ0 Qf) n s₀ (.compStart (.GeneratorExp elt [⟨tg, iter, [], 0⟩] scope pos) 0 (.ref it) .none X'.env)
        ((model X'.prog X'.w).den (.compStart (.GeneratorExp elt [⟨tg, iter, [], 0⟩] scope pos) 0 (.ref it) .none X'.env)) [] s := by
  have loop := seg_gx (A := A) (iter := iter) (scope := scope) (pos := pos) hA hc hco hxe hex T hg he hpn hw turn m n 0 s₀ s H hmn I st nf w
  show Seg _ A _ _ _ s₀ _ ((compStart (.GeneratorExp elt [⟨tg, iter, [], 0⟩] scope pos) 0 (.ref it) .none X'.env).onRaise (leaving X'.env)) [] s
  unfold compStart
  rw [Sem.onRaise_eq_wrap]
  show Seg _ A _ _ _ s₀ _ ((ask >>= _).wrap _ _ _ _) [] s
  refine seg_bind_wrap (wpAny_askSetting ?_)
  split
  · exact seg_again rfl loop
  · first
      | exact seg_bind_wrap (wpAny_rule (seg_bind_wrap (wpAny_standAt (seg_bind_wrap (T.self _ 0 s _ _ st (seg_again rfl loop))))))
      | (refine seg_bind_wrap (wpAny_rule ?_); show Seg _ A _ _ _ s₀ _ ((standAt iter.pos >>= _).wrap _ _ _ _) [] s; exact seg_bind_wrap (wpAny_standAt (seg_bind_wrap (T.self _ 0 s _ _ st (seg_again rfl loop)))))
end

/-- a generator that waits: it goes on from here, n turns at most -/
def GxAt (P : Program) (w : World) (A : Around) (R : GenEnd) (Y : Protocol) (a : Addr) (g n : Nat) (s : Shared) : Prop :=
  s.heap.IsGen a g ∧ s.heap.NoLimit ∧ ∃ gs, s.gens[g]? = some gs ∧ gs.Goes (model P w) A R Y n (.send .none) (s.setGen g .running)

theorem bare_set {s : Shared} {g : Nat} {gs : GenState} (h : AllBare s.gens) (hb : gs.bare = true) : AllBare (s.setGen g gs).gens := by
  intro x hx
  have hx : x ∈ s.gens.setIfInBounds g gs := hx
  rcases Array.mem_or_eq_of_mem_setIfInBounds hx with h1 | h1
  · exact h x h1
  · rw [h1]; exact hb

theorem setGen_at {s : Shared} {g : Nat} {gs : GenState} (h : g < s.gens.size) : (s.setGen g gs).gens[g]? = some gs := by
  show (s.gens.setIfInBounds g gs)[g]? = some gs
  rw [Array.getElem?_setIfInBounds]
  simp [h]

theorem codeAny_all_gx {X' : Cx} {A : Around} {σ0 : L2.St} {Qt Qf : Hp → Prop} {a : Addr} {g : Nat} {Rz : Result → Shared → Prop} (hh : A.handled = none) (hroom : A.depth < recursionLimit)
    (hgen : ∀ σ H s, Inv X' [] σ H s → s.heap.IsGen a g)
    (fin : ∀ b H s, Inv X' [] σ0 H s → (b = true → Qt H) → (b = false → Qf H) → Rz (.ok (.ret (.bool b))) s) :
    ∀ (n : Nat) (s : Shared), AllBare s.gens → GxAt X'.prog X'.w A.in1.in1 (gxEnd X' σ0 Qt) (gxOut X' σ0 Qf) a g n s → codeAny (model X'.prog X'.w) A (.builtin "all.loop" ⟨[.ref a], []⟩) Rz s := by
  intro n
  induction n with
  | zero =>
    intro s hb0 ⟨hg, hl, gs, hgs, hgo⟩
    have hsz : g + 1 ≤ s.gens.size := by
      obtain ⟨h1, _⟩ := Array.getElem?_eq_some_iff.mp hgs
      exact h1
    refine codeAny_builtin F.entry_all_loop ?_
    rw [Around.under_plainId F.plain_all_loop _]
    show wpAny _ A.in1 (pyNext (.ref a) >>= _) _ _ s
    refine wpAny_bind (GenW.wpAny_gsz hsz (wpAny_pyNext_genexpQ (A := A.in1) (P := fun n s₀ s₁ => ∃ H', Inv X' [] σ0 H' s₁ ∧ Qt H') hh hl hroom hg hgs hgo (fun v s₁ gs' hb hv => ?_) (fun s₁ hp h' hk => ?_)))
    · obtain ⟨b, H', rfl, I', hF, hT⟩ := hv
      intro hsz1
      refine wpAny_bind (wpAny_holding (wpAny_truthy_bool ?_))
      refine wpAny_bind (wpAny_letGo ?_)
      cases b with
      | true => exact (hT rfl s₁ ⟨rfl, rfl, I'.bare⟩).elim
      | false =>
        simp only [Bool.false_eq_true, if_false]
        refine wpAny_bind (wpAny_rule (wpAny_pure ?_))
        exact fin false H' _ (inv_woke I' ⟨rfl, rfl, bare_set I'.bare hb⟩) (fun h => by cases h) hF
    · obtain ⟨H', I', q⟩ := hp
      intro hsz1
      refine wpAny_bind (wpAny_rule (wpAny_pure ?_))
      exact fin true H' _ ((inv_woke (s' := s₁.setGen g .finished) I' ⟨rfl, rfl, bare_set I'.bare rfl⟩).kept (t' := s₁.toks) hk) (fun _ => q) (fun h => by cases h)
  | succ n ih =>
    intro s hb0 ⟨hg, hl, gs, hgs, hgo⟩
    have hsz : g + 1 ≤ s.gens.size := by
      obtain ⟨h1, _⟩ := Array.getElem?_eq_some_iff.mp hgs
      exact h1
    refine codeAny_builtin F.entry_all_loop ?_
    rw [Around.under_plainId F.plain_all_loop _]
    show wpAny _ A.in1 (pyNext (.ref a) >>= _) _ _ s
    refine wpAny_bind (GenW.wpAny_gsz hsz (wpAny_pyNext_genexpQ (A := A.in1) (P := fun n s₀ s₁ => ∃ H', Inv X' [] σ0 H' s₁ ∧ Qt H') hh hl hroom hg hgs hgo (fun v s₁ gs' hb hv => ?_) (fun s₁ hp h' hk => ?_)))
    · obtain ⟨b, H', rfl, I', hF, hT⟩ := hv
      intro hsz1
      have hsz2 : g < s₁.gens.size := by
        have : (s₁.setGen g gs').gens.size = s₁.gens.size := GenW.setGen_size _ _ _
        omega
      refine wpAny_bind (wpAny_holding (wpAny_truthy_bool ?_))
      refine wpAny_bind (wpAny_letGo ?_)
      have I2 := inv_woke (s' := s₁.setGen g gs') I' ⟨rfl, rfl, bare_set I'.bare hb⟩
      cases b with
      | true =>
        simp only [if_true]
        refine wpAny_pure ⟨plainId_quiet F.plain_all_loop _, ih _ I2.bare ⟨hgen _ _ _ I2, I2.nolimit, gs', setGen_at hsz2, hT rfl _ ⟨rfl, rfl, bare_set I2.bare rfl⟩⟩⟩
      | false =>
        simp only [Bool.false_eq_true, if_false]
        refine wpAny_bind (wpAny_rule (wpAny_pure ?_))
        exact fin false H' _ I2 (fun h => by cases h) hF
    · obtain ⟨H', I', q⟩ := hp
      intro hsz1
      refine wpAny_bind (wpAny_rule (wpAny_pure ?_))
      exact fin true H' _ ((inv_woke (s' := s₁.setGen g .finished) I' ⟨rfl, rfl, bare_set I'.bare rfl⟩).kept (t' := s₁.toks) hk) (fun _ => q) (fun h => by cases h)

/-- all(elt for tg in iter): behind the making the def's table may have grown; then the turns -/
def tAllG (P : Addr) (wi : TI) (g : TG) (te : TE) (vs : List Nat) : TE := fun σ H Q => wi σ H fun J H1 => TabG H1 P ∧ ∀ H2, Tabbed P H1 H2 → ∃ W : Nat → Nat → Hp → Prop, (∃ m, W 0 m H2) ∧ gxTurns J g te (wipe σ vs) vs (Q (.bl true)) (Q (.bl false)) W

/-- what the generator's code asks of its scope -/
structure GxOk (scope : Scope) : Prop where
  co : scope.isCoroutine = false
  cell : ∀ y ∈ scope.names, y.2 ≠ .cell
  dot : scope.names.lookup (".0" : Str) = some NameKind.local

section
variable {X : Cx} {pins : List (Addr × Obj)} {σ : L2.St} {H : Hp} {s : Shared}
theorem gx_gen {c P : Addr} {elt tg iter : Expr} {gpos : Pos} {scope : Scope} {own : List (Str × Nat)} {wi : TI} {g : TG} {te : TE} {k : Nat} {Q' : Value → Shared → Prop} {Q : VK}
    (hr : Room (k + 1) X.A) (TB : TabB X.base X.mg c P) (hcode : X.env.code = .ref c) (hN : X.N.Nodup) (ok : BlkOk X.N X.env.scope scope own) (gk : GxOk scope) (hi : PI X tg iter wi)
    (hgt : ∀ (s : Shared) (H : Hp) (cl : List (Str × Addr)) (C : Addr) (code : Value) (A' : Around) (fp : List Addr) (pn : List (Addr × Obj)), Room k A' → PG (gxCx X s H scope (genEnv scope cl C code builtinsNs X.env) A' fp pn) tg g)
    (he : ∀ (s : Shared) (H : Hp) (cl : List (Str × Addr)) (C : Addr) (code : Value) (A' : Around) (fp : List Addr) (pn : List (Addr × Obj)), Room k A' → PE (gxCx X s H scope (genEnv scope cl C code builtinsNs X.env) A' fp pn) elt te)
    (hs : ∀ v, genFold iter X.env v = pure v) (I : Inv X pins σ H s) (h : tAllG P wi g te (own.map (·.2)) σ H Q)
    (hQ : ∀ (X' : Cx) (a : Addr) (gi n : Nat) (s5 : Shared), X'.prog = X.prog → X'.w = X.w → AllBare s5.gens → s5.heap.IsGen a gi → (∀ σ H s, Inv X' [] σ H s → s.heap.IsGen a gi) →
      GxAt X'.prog X'.w X.A.in1.in1 (gxEnd X' (wipe σ (own.map (·.2))) (Q (.bl true))) (gxOut X' (wipe σ (own.map (·.2))) (Q (.bl false))) a gi n s5 →
      (∀ σ' H' s', Inv X' [] σ' H' s' → Inv X pins σ H' s') → Q' (.ref a) s5) :
    wpAny (model X.prog X.w) X.A (eval (.GeneratorExp elt [⟨tg, iter, [], 0⟩] scope gpos) X.env) Q' X.xe s := by
  have hfree : ∀ y ∈ scope.names, y.2 = .free → ∃ c, X.env.cells.lookup y.1 = some c := fun y hy e => by
    rcases ok.free y hy e with k | k
    · exact I.ok.has _ (.inl k)
    · exact I.ok.has _ (.inr k)
  refine wpAny_GeneratorExp_make gk.co (closure_ok hfree) gk.cell gk.dot ok.kind (by have := hr.dp; omega) ?_ hs
  refine thn (hi.run pins s σ H _ I h) fun xv s1 hx => thn hx fun itv s2 ⟨it, fp, tn, J, H2, e, I2, T, st2, f2, ⟨ps, hP, ht⟩, q⟩ => ?_
  subst e
  have hPs : s2.heap.get? P = some { cls := .none, data := .fields ps } := I2.hok P _ hP
  have cd : PySem.W.CodeHd s2.heap c P := TB.code.keeps fun b u e => I2.bk b u e
  have szf : ∀ b ∈ fp, b < s2.heap.objs.size := fun b hb => by
    obtain ⟨o, e, _⟩ := T.obj _ _ st2 b hb
    exact Heap.lt_size e
  have cont : ∀ (code : Value) (h3 : Heap) (tk : Nat) (ps' : Array Value), Heap.ExtBut P s2.heap h3 → s2.heap.objs.size ≤ h3.objs.size → h3.get? P = some { cls := .none, data := .fields ps' } → (∃ more, ps' = ps ++ more) → TriplesOk ps'.toList →
      wpAny (model X.prog X.w) X.A (builtinsFor X.env.globals X.env.builtins) (fun bi s₄ =>
        ∀ h', h'.Ns s₄.heap.objs.size (fun y => if y = ".0" then some (.ref it) else none) → Heap.SameBut s₄.heap.objs.size (s₄.heap.push { cls := .type "frame", data := .dict #[] }) h' →
          Q' (.ref h'.objs.size) { s₄ with
            gens := s₄.gens.push (.fresh (.compStart (.GeneratorExp elt [⟨tg, iter, [], 0⟩] scope gpos) 0 (.ref it) .none (genEnv scope (cloFrom X.env.cells scope.names []) s₄.heap.objs.size code bi X.env))),
            toks := s₄.toks + 1 + 1 + 1,
            heap := h'.push { cls := .type "generator", data := .fields #[.int s₄.gens.size 0, .str "<genexpr>" (s₄.toks + 1), .str (X.env.qual ++ "<genexpr>") (s₄.toks + 1 + 1)] } }) X.xe { s2 with heap := h3, toks := tk } := by
    intro code h3 tk ps' hx hsz hP3 hmore ht3
    obtain ⟨more, em⟩ := hmore
    obtain ⟨bm, ob, e1, e2, e3, e4, e5, e6, e7, e8⟩ := TB.bm
    have I3 : Inv X pins σ (upd H2 P (.tbl (ps ++ more))) { s2 with heap := h3, toks := tk } :=
      inv_tab (more := more) (h' := h3) (g' := s2.gens) (d' := s2.drawn) (t' := tk) I2 hP (fun b u hb e => hx b u hb e) (by rw [← em]; exact hP3) I2.bare
    have hT : Tabbed P H2 (upd H2 P (.tbl (ps ++ more))) := ⟨⟨ps ++ more, upd_same, by rw [← em]; exact ht3⟩, fun b hb => upd_ne hb⟩
    generalize hH3 : upd H2 P (.tbl (ps ++ more)) = H3 at I3 hT
    obtain ⟨W, ⟨m0, w0⟩, turn⟩ := q H3 hT
    have fP : ∀ b ∈ fp, b ≠ P := fun b hb z => by
      have := (f2 b hb).1
      rw [z, hP] at this
      cases this
    have f3 : ∀ b ∈ fp, FpOk X pins H3 b ∧ b < h3.objs.size := fun b hb => ⟨⟨by rw [hT.2 b (fP b hb)]; exact (f2 b hb).1, (f2 b hb).2⟩, Nat.lt_of_lt_of_le (szf b hb) hsz⟩
    have st3 : tn 0 h3 := T.keep _ _ _ st2 fun b hb o e => hx b o (fP b hb) e
    refine wpAny_builtinsFor (m := X.mg) (by rw [I3.ok.glob]; exact I3.mod.glob.keeps I3.bk) e1 e2 (I3.bk _ _ e5) e6 e7 e8 ?_
    intro h' hns hsb
    generalize hs3 : ({ s2 with heap := h3, toks := tk } : Shared) = s3 at I3 hns hsb ⊢
    have hh3 : s3.heap = h3 := by rw [← hs3]
    have hsz' : h'.objs.size = s3.heap.objs.size + 1 := by rw [hsb.1, Heap.size_push]
    have keep' : ∀ b o, s3.heap.get? b = some o → h'.get? b = some o := fun b o e => hsb.extBut b o (Nat.ne_of_lt (Heap.lt_size e)) (Heap.get?_push_of_some _ e)
    generalize hgo : ({ cls := .type "generator", data := .fields #[.int s3.gens.size 0, .str "<genexpr>" (s3.toks + 1), .str (X.env.qual ++ "<genexpr>") (s3.toks + 1 + 1)] } : Obj) = go
    have hpushed : (h'.push go).get? h'.objs.size = some go := by
      rw [← hgo]
      exact Heap.get?_push_size _ rfl
    have hgen : ∀ h : Heap, h.get? h'.objs.size = some go → h.IsGen h'.objs.size s3.gens.size := fun h e => ⟨go, _, _, e, by rw [← hgo], by rw [← hgo], by rw [← hgo]⟩
    have kp : ∀ b o, s3.heap.get? b = some o → (h'.push go).get? b = some o := fun b o e => Heap.get?_push_of_some _ (keep' b o e)
    generalize hce : genEnv scope (cloFrom X.env.cells scope.names []) s3.heap.objs.size code builtinsNs X.env = ce
    have room' : Room k (X.A.in1.in1.over (.compLoop (.GeneratorExp elt [⟨tg, iter, [], 0⟩] scope gpos) 0 (.ref it) .none ce) []) :=
      ⟨hr.hd, by have := hr.dp; show X.A.depth + 0 + 1 + 3 * k + 5 < _; omega, by have := hr.un; show X.A.units + 1 + 1 + 0 + 3 + 16 * k + 200 < _; omega⟩
    have hbare : AllBare (s3.gens.push (.fresh (.compStart (.GeneratorExp elt [⟨tg, iter, [], 0⟩] scope gpos) 0 (.ref it) .none ce))) := I3.bare.push rfl
    have I5 : Inv (gxCx X s3 H3 scope ce (X.A.in1.in1.over (.compLoop (.GeneratorExp elt [⟨tg, iter, [], 0⟩] scope gpos) 0 (.ref it) .none ce) []) fp [(h'.objs.size, go)]) [] (wipe σ (own.map (·.2))) H3
        { s3 with heap := h'.push go, gens := s3.gens.push (.fresh (.compStart (.GeneratorExp elt [⟨tg, iter, [], 0⟩] scope gpos) 0 (.ref it) .none ce)), toks := s3.toks + 1 + 1 + 1 } := by
      rw [← hce]
      refine gx_start I3 ok gk.cell hN (fun b hb => by rw [hh3]; exact f3 b hb) (Nat.le_refl _) (hns.push _) kp (by rw [hce]; exact hbare) hr.hd ?_ fun p hp => ?_
      · rw [hce]
        show pushEnvs [ce] (pushEnvs [] X.A.frames) = _
        rw [I3.ok.frames]
        rfl
      · rw [List.mem_singleton.mp hp]
        refine ⟨hpushed, by show _ ≤ h'.objs.size; omega, by show h'.objs.size ≠ _; omega, fun v => by rw [← hgo]; intro z; cases z⟩
    have hA5 : ∀ b ∈ fp, ∀ p ∈ [(h'.objs.size, go)], p.1 ≠ b := fun b hb p hp => by
      rw [List.mem_singleton.mp hp]
      have h1 := (f3 b hb).2
      have h2 : s3.heap.objs.size = h3.objs.size := by rw [hh3]
      have h4 : s3.heap.objs.size ≤ h'.objs.size := by omega
      exact Nat.ne_of_gt (Nat.lt_of_lt_of_le h1 (by rw [← h2]; exact h4))
    have back : ∀ σ' H' s', Inv (gxCx X s3 H3 scope ce (X.A.in1.in1.over (.compLoop (.GeneratorExp elt [⟨tg, iter, [], 0⟩] scope gpos) 0 (.ref it) .none ce) []) fp [(h'.objs.size, go)]) [] σ' H' s' → Inv X pins σ H' s' := fun σ' H' s' I6 =>
      I3.call' (ch := fp) I6.os I6.base I6.hok I6.bare fun b hb => ⟨(f3 b hb).1.2.2.2.1, (f3 b hb).1.2.1, (f3 b hb).1.2.2.2.2.1, (f3 b hb).1.2.2.2.2.2⟩
    have genAt : ∀ σ H s, Inv (gxCx X s3 H3 scope ce (X.A.in1.in1.over (.compLoop (.GeneratorExp elt [⟨tg, iter, [], 0⟩] scope gpos) 0 (.ref it) .none ce) []) fp [(h'.objs.size, go)]) [] σ H s → s.heap.IsGen h'.objs.size s3.gens.size := fun σ H s I6 =>
      hgen _ (I6.pin (h'.objs.size, go) (by simp)).1
    refine hQ (gxCx X s3 H3 scope ce (X.A.in1.in1.over (.compLoop (.GeneratorExp elt [⟨tg, iter, [], 0⟩] scope gpos) 0 (.ref it) .none ce) []) fp [(h'.objs.size, go)]) h'.objs.size s3.gens.size (m0 + 1) _ rfl rfl hbare (hgen _ hpushed) genAt ⟨hgen _ hpushed, I5.nolimit, _, Array.getElem?_push_size .., rfl, ?_⟩ back
    refine seg_gxStart (X' := gxCx X s3 H3 scope ce (X.A.in1.in1.over (.compLoop (.GeneratorExp elt [⟨tg, iter, [], 0⟩] scope gpos) 0 (.ref it) .none ce) []) fp [(h'.objs.size, go)]) (vs := own.map (·.2)) (g := g) (te := te) (W := W) rfl rfl (by rw [← hce]; exact gk.co) rfl rfl T ?_ ?_ hA5
      (fun σ2 e j v z => by rw [← e] at z; exact (wipe_some z).1) turn m0 (m0 + 1) _ _ H3 (Nat.lt_succ_self _) (inv_woke I5 ⟨rfl, rfl, bare_set hbare rfl⟩) ?_ (fun b hb => (f3 b hb).1.1) w0
    · rw [← hce]
      exact hgt _ _ _ _ _ _ _ _ (by rw [hce]; exact room')
    · rw [← hce]
      exact he _ _ _ _ _ _ _ _ (by rw [hce]; exact room')
    · exact T.keep _ _ _ st3 fun b _ o e => kp b o (by rw [hh3]; exact e)
  refine ⟨I2.nolimit, ?_⟩
  cases hf : codeAmong gpos ps.toList with
  | none =>
    refine wpAny_genexprCodeX hcode (cd.code hPs ht) (cd.tab hPs) hf fun c' h' tk hx hge hlt hco' _ htab' _ => ?_
    obtain ⟨o1, vs, f1, tf, fl, tg, inF, tx, tt, op, _, _, _, _, _, _, _, _, _, htr, _⟩ := hco'
    exact cont _ h' tk _ hx (Nat.le_trans hge (Nat.le_of_lt hlt)) htab'.2 ⟨_, rfl⟩ htr
  | some cv =>
    refine wpAny_genexprCode_hit hcode (cd.code hPs ht) hf ?_
    exact cont cv s2.heap s2.toks ps (Heap.ExtBut.refl _ _) (Nat.le_refl _) hPs ⟨#[], by simp⟩ ht

theorem pe_allG {c P : Addr} {elt tg iter : Expr} {p pos gpos : Pos} {scope : Scope} {own : List (Str × Nat)} {wi : TI} {g : TG} {te : TE} {k : Nat}
    (hr : Room (k + 1) X.A) (hg : Gl X "all") (hm : X.mg "all" = none) (hb : bootBuiltins "all" = some (.builtin "all")) (TB : TabB X.base X.mg c P) (hcode : X.env.code = .ref c) (hN : X.N.Nodup) (ok : BlkOk X.N X.env.scope scope own) (gk : GxOk scope) (hi : PI X tg iter wi)
    (hgt : ∀ (s : Shared) (H : Hp) (cl : List (Str × Addr)) (C : Addr) (code : Value) (A' : Around) (fp : List Addr) (pn : List (Addr × Obj)), Room k A' → PG (gxCx X s H scope (genEnv scope cl C code builtinsNs X.env) A' fp pn) tg g)
    (he : ∀ (s : Shared) (H : Hp) (cl : List (Str × Addr)) (C : Addr) (code : Value) (A' : Around) (fp : List Addr) (pn : List (Addr × Obj)), Room k A' → PE (gxCx X s H scope (genEnv scope cl C code builtinsNs X.env) A' fp pn) elt te)
    (hs : ∀ v, genFold iter X.env v = pure v)
    (hse : starEach [.GeneratorExp elt [⟨tg, iter, [], 0⟩] scope gpos] X.env = (false, eval (.GeneratorExp elt [⟨tg, iter, [], 0⟩] scope gpos) X.env) :: starEach [] X.env := by rfl) :
    PE X (.Call (.Name "all" p) [.GeneratorExp elt [⟨tg, iter, [], 0⟩] scope gpos] [] pos) (tAllG P wi g te (own.map (·.2))) := by
  refine ⟨fun pins s σ H Q I h => ?_⟩
  refine wpAny_Call_Name_kw (ld_blt I hg hm hb ?_)
  refine PyProof.Rows.callWith_builtin1 ?_ hse (by rfl)
  rw [hse]
  show wpAny _ _ (spliced ((false, eval (.GeneratorExp elt [⟨tg, iter, [], 0⟩] scope gpos) X.env) :: backTo pos (starEach [] X.env))) _ _ s
  refine Calls.spliced_cons (gx_gen (Q := Q) hr TB hcode hN ok gk hi hgt he hs I h fun X' a gi n s5 hp hw hb5 hgi hgen hat back => ?_)
  refine Calls.spliced_nil ?_
  refine call_function_tree F.kind_all F.plain_all F.entry_all (F.args_all1 _) ?_
  unfold Builtin.«all»
  refine wpAny_bind (m := oneArg "all" _) (wpAny_pure ?_)
  refine wpAny_bind (wpAny_pyIter_gen hgi ?_)
  rw [← hp, ← hw]
  exact wpAny_pure ⟨plainId_quiet F.plain_all_loop _, codeAny_all_gx hr.hd (by have := hr.dp; omega) hgen (fun b H' s' I' hT hF => ⟨.bl b, H', back _ _ _ I', rfl, by cases b; exact hF rfl; exact hT rfl⟩) n s5 hb5 hat⟩
end
end Ow

set_option Elab.async false
set_option linter.all false
set_option maxRecDepth 100000
set_option maxHeartbeats 4000000
namespace Ow
open PySem PySem.Spec PyProof.Rows L2 GxR

/-! ### a generator expression that fills a list: the list stands at S -/
def goL (X' : Cx) (σ0 : L2.St) (S : Addr) : Protocol := fun n s₀ v s kap => ∃ (y : V) (H' : Hp) (acc : List V), RelV y v ∧ Inv X' [] σ0 H' s ∧ H' S = some (.lst acc) ∧ acc.length < sizeLine ∧
  ∀ s', Inv X' [] σ0 (upd H' S (.lst (acc ++ [y]))) s' → (∀ b o, b ≠ S → s.heap.get? b = some o → s'.heap.get? b = some o) → kap (.send .none) s'
def glTurns (S : Addr) (J : It) (g : TG) (tt : TT) (te : TE) (σ0 : L2.St) (vs : List Nat) (Qt : Hp → Prop) (W : Nat → Nat → Hp → Prop) : Prop := ∀ i m H, W i m H →
  (J.stop i H ∧ Qt H) ∨ (J.go i H ∧ ∃ Nx : Hp → Prop, (∀ H', Nx H' → ∃ m', m' < m ∧ W (i + 1) m' H') ∧ ∀ x H', J.yld i H x H' → g x σ0 H' fun σ2 H2 => wipe σ2 vs = σ0 ∧
    tt σ2 H2 fun b H3 => if b = true then te σ2 H3 fun y H4 => ∃ acc, H4 S = some (.lst acc) ∧ acc.length < sizeLine ∧ Nx (upd H4 S (.lst (acc ++ [y]))) else Nx H3)

section
variable {X' : Cx} {A : Around} {elt tg iter : Expr} {ifs : List Expr} {scope : Scope} {pos : Pos} {it : Addr} {J : It} {fp : List Addr} {tn : Nat → Heap → Prop} {σ0 : L2.St} {vs : List Nat} {g : TG} {tt : TT} {te : TE} {Qt : Hp → Prop} {S : Addr} {W : Nat → Nat → Hp → Prop}
theorem seg_gl (hA : X'.A = A.over (.compLoop (.GeneratorExp elt [⟨tg, iter, ifs, 0⟩] scope pos) 0 (.ref it) .none X'.env) []) (hc : X'.calm = true) (hco : X'.env.scope.isCoroutine = false) (hxe : X'.xe = fun _ _ => False) (hex : X'.ex = fp)
    (T : Turn X'.prog X'.w X'.K tg J fp it tn) (hg : PG X' tg g) (he : PE X' elt te) (hpn : ∀ b ∈ fp, ∀ p ∈ X'.pn, p.1 ≠ b) (hw : ∀ σ2 : L2.St, wipe σ2 vs = σ0 → ∀ (j : Nat) v, σ0[j]? = some (some v) → σ2[j]? = some (some v))
    (hts : PTs X' ifs tt) (hSf : S ∉ fp) (turn : glTurns S J g tt te σ0 vs Qt W) :
    ∀ (m n i : Nat) (s₀ s : Shared) (H : Hp), m < n → Inv X' [] σ0 H s → tn i s.heap → (∀ b ∈ fp, H b = none) → W i m H →
      Seg (model X'.prog X'.w) A (gxEnd X' σ0 Qt) (goL X' σ0 S) n s₀ (.compLoop (.GeneratorExp elt [⟨tg, iter, ifs, 0⟩] scope pos) 0 (.ref it) .none X'.env)
        ((model X'.prog X'.w).den (.compLoop (.GeneratorExp elt [⟨tg, iter, ifs, 0⟩] scope pos) 0 (.ref it) .none X'.env)) [] s := by
  have stat : ∀ {σ' : L2.St} {H' : Hp} {s' : Shared}, Inv X' [] σ' H' s' → (∀ b ∈ fp, H' b = none) → ∀ b ∈ fp, FpOk X' [] H' b := fun {σ' H' s'} I' hn b hb =>
    ⟨hn b hb, (I'.ok.exf b (by rw [hex]; exact hb)).1, I'.ok.exfs b (by rw [hex]; exact hb), .inl (by rw [hex]; exact hb), fun x c e => (I'.ok.exf b (by rw [hex]; exact hb)).2 x c e, fun p hp => hpn b hb p (by simpa using hp)⟩
  intro m
  induction m using Nat.strongRecOn with
  | ind m ih =>
    intro n i s₀ s H hmn I st nf w
    show Seg _ A _ _ _ s₀ _ ((compTurn (.GeneratorExp elt [⟨tg, iter, ifs, 0⟩] scope pos) 0 (.ref it) .none X'.env).onRaise (leaving X'.env)) [] s
    rw [compTurn_gen, Sem.onRaise_eq_wrap]
    refine seg_bind_wrap (wpAny_standAt ?_)
    rcases turn i m H w with ⟨stop, qt⟩ | ⟨go, Nx, hNx, step⟩
    · refine seg_bind_wrap ?_
      rw [← hA]
      refine thnF (T.done X' rfl rfl rfl hc i [] s _ H (fun _ _ => False) I (stat I nf) st stop) fun r s1 ⟨hr, I1⟩ => ?_
      subst hr
      exact seg_end (.ok .next) ⟨rfl, H, I1, qt⟩
    · refine seg_bind_wrap ?_
      rw [← hA]
      refine thnF (T.item X' rfl rfl rfl hc i [] s _ H (fun _ _ => False) I (stat I nf) st go) fun r s1 ⟨u, hr, h1⟩ => ?_
      subst hr
      refine seg_bind_wrap ?_
      rw [← hA]
      refine thnF h1 fun _ s2 ⟨x, H2, I2, r2, y2, st2, nf2⟩ => ?_
      have I2' := I2.pinned (stat I2 nf2) (T.obj _ _ st2)
      refine seg_bind_wrap ?_
      rw [← hA]
      have pgr := hg.run _ s2 _ H2 x u _ I2' r2 (step x H2 y2)
      rw [hxe] at pgr
      refine thnF pgr fun _ s3 ⟨σ3, H3, I3, hw3, q3⟩ => ?_
      refine seg_bind_wrap ?_
      rw [← hA]
      have ptr := hts.run _ s3 σ3 H3 _ I3 q3
      rw [hxe] at ptr
      have hl : σ0.length = σ3.length := by rw [← hw3, wipe_length]
      have pin2 : ∀ {H4 : Hp} {s4 : Shared}, Inv X' ([] ++ pinsAt fp s2.heap) σ3 H4 s4 → ∀ c ∈ fp, ∀ o, s2.heap.get? c = some o → s4.heap.get? c = some o ∧ H4 c = none := fun I4 c hb o e =>
        let z := I4.pin (c, o) (List.mem_append_right _ (List.mem_append_right _ (mem_pinsAt hb e)))
        ⟨z.1, z.2.1⟩
      have goes : ∀ {H4 : Hp} {s4 : Shared}, Inv X' ([] ++ pinsAt fp s2.heap) σ3 H4 s4 → Inv X' [] σ0 H4 s4 ∧ tn (i + 1) s4.heap ∧ ∀ c ∈ fp, H4 c = none := fun I4 =>
        ⟨(I4.unpinned (pins := [])).weak hl (hw σ3 hw3), T.keep _ _ _ st2 fun c hb o e => (pin2 I4 c hb o e).1, fun c hb => by
          obtain ⟨o, e, _⟩ := T.obj _ _ st2 c hb
          exact (pin2 I4 c hb o e).2⟩
      refine thnF ptr fun ok s4 ⟨H4, I4, hk⟩ => ?_
      cases ok with
      | false =>
        rw [if_neg Bool.false_ne_true] at hk
        simp only [Bool.false_eq_true, if_false]
        obtain ⟨I5, st5, nf5⟩ := goes I4
        obtain ⟨m', hm', w'⟩ := hNx H4 hk
        first
          | exact seg_again rfl (ih m' hm' n (i + 1) s₀ s4 H4 (by omega) I5 st5 nf5 w')
          | exact seg_wrap (wpAny_pure (seg_again rfl (ih m' hm' n (i + 1) s₀ s4 H4 (by omega) I5 st5 nf5 w')))
          | (refine seg_bind_wrap (wpAny_pure ?_); exact seg_again rfl (ih m' hm' n (i + 1) s₀ s4 H4 (by omega) I5 st5 nf5 w'))
      | true =>
        rw [if_pos rfl] at hk
        simp only [if_true]
        have hy : ∀ v, yieldOut X'.env v = yieldValue v := fun v => by simp only [yieldOut, hco, Bool.false_eq_true, if_false]
        simp only [hy]
        rw [Sem.bind_eq_wrap', Sem.bind_eq_wrap', Sem.wrap_wrap, Sem.wrap_wrap]
        refine seg_wrap ?_
        rw [← hA]
        have per := he.run _ s4 σ3 H4 _ I4 hk
        rw [hxe] at per
        refine thnF per fun v s5 ⟨y, H5, I5, r5, acc, hacc, hz, hN⟩ => ?_
        obtain ⟨I6, st6, nf6⟩ := goes I5
        have hn : ∃ n', n = n' + 1 := ⟨n - 1, by omega⟩
        obtain ⟨n', rfl⟩ := hn
        refine seg_at (seg_yield rfl rfl rfl ⟨y, H5, acc, r5, I6, hacc, hz, fun s' I7 kp => ?_⟩)
        obtain ⟨m', hm', w'⟩ := hNx _ hN
        refine seg_again rfl (ih m' hm' n' (i + 1) s' s' _ (by omega) I7 (T.keep _ _ _ st6 fun c hb o e => kp c o (fun z => hSf (z ▸ hb)) e) (fun c hb => ?_) w')
        have ne : c ≠ S := fun z => hSf (by rw [← z]; exact hb)
        rw [upd_ne ne]
        exact nf6 c hb

theorem seg_glStart (hA : X'.A = A.over (.compLoop (.GeneratorExp elt [⟨tg, iter, ifs, 0⟩] scope pos) 0 (.ref it) .none X'.env) []) (hc : X'.calm = true) (hco : X'.env.scope.isCoroutine = false) (hxe : X'.xe = fun _ _ => False) (hex : X'.ex = fp)
    (T : Turn X'.prog X'.w X'.K tg J fp it tn) (hg : PG X' tg g) (he : PE X' elt te) (hpn : ∀ b ∈ fp, ∀ p ∈ X'.pn, p.1 ≠ b) (hw : ∀ σ2 : L2.St, wipe σ2 vs = σ0 → ∀ (j : Nat) v, σ0[j]? = some (some v) → σ2[j]? = some (some v))
    (hts : PTs X' ifs tt) (hSf : S ∉ fp) (turn : glTurns S J g tt te σ0 vs Qt W) (m n : Nat) (s₀ s : Shared) (H : Hp) (hmn : m < n) (I : Inv X' [] σ0 H s) (st : tn 0 s.heap) (nf : ∀ b ∈ fp, H b = none) (w : W 0 m H) :
    Seg (model X'.prog X'.w) A (gxEnd X' σ0 Qt) (goL X' σ0 S) n s₀ (.compStart (.GeneratorExp elt [⟨tg, iter, ifs, 0⟩] scope pos) 0 (.ref it) .none X'.env)
        ((model X'.prog X'.w).den (.compStart (.GeneratorExp elt [⟨tg, iter, ifs, 0⟩] scope pos) 0 (.ref it) .none X'.env)) [] s := by
  have loop := seg_gl (A := A) (iter := iter) (scope := scope) (pos := pos) hA hc hco hxe hex T hg he hpn hw hts hSf turn m n 0 s₀ s H hmn I st nf w
  show Seg _ A _ _ _ s₀ _ ((compStart (.GeneratorExp elt [⟨tg, iter, ifs, 0⟩] scope pos) 0 (.ref it) .none X'.env).onRaise (leaving X'.env)) [] s
  unfold compStart
  rw [Sem.onRaise_eq_wrap]
  show Seg _ A _ _ _ s₀ _ ((ask >>= _).wrap _ _ _ _) [] s
  refine seg_bind_wrap (wpAny_askSetting ?_)
  split
  · exact seg_again rfl loop
  · first
      | exact seg_bind_wrap (wpAny_rule (seg_bind_wrap (wpAny_standAt (seg_bind_wrap (T.self _ 0 s _ _ st (seg_again rfl loop))))))
      | (refine seg_bind_wrap (wpAny_rule ?_); show Seg _ A _ _ _ s₀ _ ((standAt iter.pos >>= _).wrap _ _ _ _) [] s; exact seg_bind_wrap (wpAny_standAt (seg_bind_wrap (T.self _ 0 s _ _ st (seg_again rfl loop)))))
end

/-- a generator expression's object has been made, nothing of it has run -/
structure GxMade (X : Cx) (B : Around) (pins : List (Addr × Obj)) (σ : L2.St) (elt tg iter : Expr) (ifs : List Expr) (scope : Scope) (pos : Pos) (own : List (Str × Nat)) (g : TG) (tt : TT) (te : TE) (J : It) (H3 : Hp) (s5 : Shared) (X' : Cx) (it : Addr) (fp : List Addr) (tn : Nat → Heap → Prop) (a : Addr) (gi : Nat) : Prop where
  prog : X'.prog = X.prog
  w : X'.w = X.w
  hA : X'.A = B.over (.compLoop (.GeneratorExp elt [⟨tg, iter, ifs, 0⟩] scope pos) 0 (.ref it) .none X'.env) []
  calm : X'.calm = true
  co : X'.env.scope.isCoroutine = false
  xe : X'.xe = fun _ _ => False
  ex : X'.ex = fp
  T : Turn X'.prog X'.w X'.K tg J fp it tn
  hg : PG X' tg g
  hts : PTs X' ifs tt
  he : PE X' elt te
  pn : ∀ b ∈ fp, ∀ p ∈ X'.pn, p.1 ≠ b
  bare : AllBare s5.gens
  gens : s5.gens[gi]? = some (.fresh (.compStart (.GeneratorExp elt [⟨tg, iter, ifs, 0⟩] scope pos) 0 (.ref it) .none X'.env))
  gen : ∀ σ H s, Inv X' [] σ H s → s.heap.IsGen a gi
  lt : a < s5.heap.objs.size
  inv : Inv X' [] (wipe σ (own.map (·.2))) H3 s5
  back : ∀ σ' H' s', Inv X' [] σ' H' s' → Inv X pins σ H' s'
  free : ∀ b ∈ fp, H3 b = none ∧ b < s5.heap.objs.size
  st : tn 0 s5.heap

section
variable {X : Cx} {pins : List (Addr × Obj)} {σ : L2.St} {H : Hp} {s : Shared}
theorem GxMade.at {B : Around} {elt tg iter : Expr} {ifs : List Expr} {scope : Scope} {pos : Pos} {own : List (Str × Nat)} {g : TG} {tt : TT} {te : TE} {J : It} {H3 H6 : Hp} {s5 s6 : Shared} {X' : Cx} {it : Addr} {fp : List Addr} {tn : Nat → Heap → Prop} {a : Addr} {gi : Nat} {S : Addr} {Qt : Hp → Prop} {W : Nat → Nat → Hp → Prop} {m : Nat}
    (M : GxMade X B pins σ elt tg iter ifs scope pos own g tt te J H3 s5 X' it fp tn a gi) (hS : S ∉ fp) (I6 : Inv X' [] (wipe σ (own.map (·.2))) H6 s6) (hg : s6.gens = s5.gens) (kp : ∀ b ∈ fp, ∀ o, s5.heap.get? b = some o → s6.heap.get? b = some o) (nf : ∀ b ∈ fp, H6 b = none)
    (turn : glTurns S J g tt te (wipe σ (own.map (·.2))) (own.map (·.2)) Qt W) (w : W 0 m H6) : GxAt X'.prog X'.w B (gxEnd X' (wipe σ (own.map (·.2))) Qt) (goL X' (wipe σ (own.map (·.2))) S) a gi (m + 1) s6 := by
  refine ⟨M.gen _ _ _ I6, I6.nolimit, .fresh _, by rw [hg]; exact M.gens, rfl, ?_⟩
  refine seg_glStart (W := W) M.hA M.calm M.co M.xe M.ex M.T M.hg M.he M.pn (fun σ2 e j v z => by rw [← e] at z; exact (wipe_some z).1) M.hts hS turn m (m + 1) _ _ H6 (Nat.lt_succ_self _) (inv_woke I6 ⟨rfl, rfl, bare_set I6.bare rfl⟩) ?_ nf w
  exact M.T.keep _ _ _ M.st fun b hb o e => kp b hb o e
theorem gx_makes {B : Around} {c P : Addr} {elt tg iter : Expr} {ifs : List Expr} {gpos : Pos} {scope : Scope} {own : List (Str × Nat)} {wi : TI} {g : TG} {tt : TT} {te : TE} {k : Nat} {Q' : Value → Shared → Prop} {KJ : It → Hp → Prop}
    (hr : Room (k + 1) X.A) (hB1 : B.handled = none) (hB2 : B.frames = X.A.frames) (hB3 : ∀ it ce, Room k (B.over (.compLoop (.GeneratorExp elt [⟨tg, iter, ifs, 0⟩] scope gpos) 0 (.ref it) .none ce) [])) (TB : TabB X.base X.mg c P) (hcode : X.env.code = .ref c) (hN : X.N.Nodup) (ok : BlkOk X.N X.env.scope scope own) (gk : GxOk scope) (hi : PI X tg iter wi)
    (hgt : ∀ (s : Shared) (H : Hp) (cl : List (Str × Addr)) (C : Addr) (code : Value) (A' : Around) (fp : List Addr) (pn : List (Addr × Obj)), Room k A' → PG (gxCx X s H scope (genEnv scope cl C code builtinsNs X.env) A' fp pn) tg g)
    (hts : ∀ (s : Shared) (H : Hp) (cl : List (Str × Addr)) (C : Addr) (code : Value) (A' : Around) (fp : List Addr) (pn : List (Addr × Obj)), Room k A' → PTs (gxCx X s H scope (genEnv scope cl C code builtinsNs X.env) A' fp pn) ifs tt)
    (he : ∀ (s : Shared) (H : Hp) (cl : List (Str × Addr)) (C : Addr) (code : Value) (A' : Around) (fp : List Addr) (pn : List (Addr × Obj)), Room k A' → PE (gxCx X s H scope (genEnv scope cl C code builtinsNs X.env) A' fp pn) elt te)
    (hs : ∀ v, genFold iter X.env v = pure v) (I : Inv X pins σ H s) (h : wi σ H fun J H1 => TabG H1 P ∧ ∀ H2, Tabbed P H1 H2 → KJ J H2)
    (hQ : ∀ (J : It) (H3 : Hp) (s5 : Shared) (X' : Cx) (it : Addr) (fp : List Addr) (tn : Nat → Heap → Prop) (a : Addr) (gi : Nat), KJ J H3 → GxMade X B pins σ elt tg iter ifs scope gpos own g tt te J H3 s5 X' it fp tn a gi → Q' (.ref a) s5) :
    wpAny (model X.prog X.w) X.A (eval (.GeneratorExp elt [⟨tg, iter, ifs, 0⟩] scope gpos) X.env) Q' X.xe s := by
  have hfree : ∀ y ∈ scope.names, y.2 = .free → ∃ c, X.env.cells.lookup y.1 = some c := fun y hy e => by
    rcases ok.free y hy e with k | k
    · exact I.ok.has _ (.inl k)
    · exact I.ok.has _ (.inr k)
  refine wpAny_GeneratorExp_make gk.co (closure_ok hfree) gk.cell gk.dot ok.kind (by have := hr.dp; omega) ?_ hs
  refine thn (hi.run pins s σ H _ I h) fun xv s1 hx => thn hx fun itv s2 ⟨it, fp, tn, J, H2, e, I2, T, st2, f2, ⟨ps, hP, ht⟩, q⟩ => ?_
  subst e
  have hPs : s2.heap.get? P = some { cls := .none, data := .fields ps } := I2.hok P _ hP
  have cd : PySem.W.CodeHd s2.heap c P := TB.code.keeps fun b u e => I2.bk b u e
  have szf : ∀ b ∈ fp, b < s2.heap.objs.size := fun b hb => by
    obtain ⟨o, e, _⟩ := T.obj _ _ st2 b hb
    exact Heap.lt_size e
  have cont : ∀ (code : Value) (h3 : Heap) (tk : Nat) (ps' : Array Value), Heap.ExtBut P s2.heap h3 → s2.heap.objs.size ≤ h3.objs.size → h3.get? P = some { cls := .none, data := .fields ps' } → (∃ more, ps' = ps ++ more) → TriplesOk ps'.toList →
      wpAny (model X.prog X.w) X.A (builtinsFor X.env.globals X.env.builtins) (fun bi s₄ =>
        ∀ h', h'.Ns s₄.heap.objs.size (fun y => if y = ".0" then some (.ref it) else none) → Heap.SameBut s₄.heap.objs.size (s₄.heap.push { cls := .type "frame", data := .dict #[] }) h' →
          Q' (.ref h'.objs.size) { s₄ with
            gens := s₄.gens.push (.fresh (.compStart (.GeneratorExp elt [⟨tg, iter, ifs, 0⟩] scope gpos) 0 (.ref it) .none (genEnv scope (cloFrom X.env.cells scope.names []) s₄.heap.objs.size code bi X.env))),
            toks := s₄.toks + 1 + 1 + 1,
            heap := h'.push { cls := .type "generator", data := .fields #[.int s₄.gens.size 0, .str "<genexpr>" (s₄.toks + 1), .str (X.env.qual ++ "<genexpr>") (s₄.toks + 1 + 1)] } }) X.xe { s2 with heap := h3, toks := tk } := by
    intro code h3 tk ps' hx hsz hP3 hmore ht3
    obtain ⟨more, em⟩ := hmore
    obtain ⟨bm, ob, e1, e2, e3, e4, e5, e6, e7, e8⟩ := TB.bm
    have I3 : Inv X pins σ (upd H2 P (.tbl (ps ++ more))) { s2 with heap := h3, toks := tk } :=
      inv_tab (more := more) (h' := h3) (g' := s2.gens) (d' := s2.drawn) (t' := tk) I2 hP (fun b u hb e => hx b u hb e) (by rw [← em]; exact hP3) I2.bare
    have hT : Tabbed P H2 (upd H2 P (.tbl (ps ++ more))) := ⟨⟨ps ++ more, upd_same, by rw [← em]; exact ht3⟩, fun b hb => upd_ne hb⟩
    generalize hH3 : upd H2 P (.tbl (ps ++ more)) = H3 at I3 hT
    have kj := q H3 hT
    have fP : ∀ b ∈ fp, b ≠ P := fun b hb z => by
      have := (f2 b hb).1
      rw [z, hP] at this
      cases this
    have f3 : ∀ b ∈ fp, FpOk X pins H3 b ∧ b < h3.objs.size := fun b hb => ⟨⟨by rw [hT.2 b (fP b hb)]; exact (f2 b hb).1, (f2 b hb).2⟩, Nat.lt_of_lt_of_le (szf b hb) hsz⟩
    have st3 : tn 0 h3 := T.keep _ _ _ st2 fun b hb o e => hx b o (fP b hb) e
    refine wpAny_builtinsFor (m := X.mg) (by rw [I3.ok.glob]; exact I3.mod.glob.keeps I3.bk) e1 e2 (I3.bk _ _ e5) e6 e7 e8 ?_
    intro h' hns hsb
    generalize hs3 : ({ s2 with heap := h3, toks := tk } : Shared) = s3 at I3 hns hsb ⊢
    have hh3 : s3.heap = h3 := by rw [← hs3]
    have hsz' : h'.objs.size = s3.heap.objs.size + 1 := by rw [hsb.1, Heap.size_push]
    have keep' : ∀ b o, s3.heap.get? b = some o → h'.get? b = some o := fun b o e => hsb.extBut b o (Nat.ne_of_lt (Heap.lt_size e)) (Heap.get?_push_of_some _ e)
    generalize hgo : ({ cls := .type "generator", data := .fields #[.int s3.gens.size 0, .str "<genexpr>" (s3.toks + 1), .str (X.env.qual ++ "<genexpr>") (s3.toks + 1 + 1)] } : Obj) = go
    have hpushed : (h'.push go).get? h'.objs.size = some go := by
      rw [← hgo]
      exact Heap.get?_push_size _ rfl
    have hgen : ∀ h : Heap, h.get? h'.objs.size = some go → h.IsGen h'.objs.size s3.gens.size := fun h e => ⟨go, _, _, e, by rw [← hgo], by rw [← hgo], by rw [← hgo]⟩
    have kp : ∀ b o, s3.heap.get? b = some o → (h'.push go).get? b = some o := fun b o e => Heap.get?_push_of_some _ (keep' b o e)
    generalize hce : genEnv scope (cloFrom X.env.cells scope.names []) s3.heap.objs.size code builtinsNs X.env = ce
    have room' : Room k (B.over (.compLoop (.GeneratorExp elt [⟨tg, iter, ifs, 0⟩] scope gpos) 0 (.ref it) .none ce) []) := hB3 _ _
    have hbare : AllBare (s3.gens.push (.fresh (.compStart (.GeneratorExp elt [⟨tg, iter, ifs, 0⟩] scope gpos) 0 (.ref it) .none ce))) := I3.bare.push rfl
    have I5 : Inv (gxCx X s3 H3 scope ce (B.over (.compLoop (.GeneratorExp elt [⟨tg, iter, ifs, 0⟩] scope gpos) 0 (.ref it) .none ce) []) fp [(h'.objs.size, go)]) [] (wipe σ (own.map (·.2))) H3
        { s3 with heap := h'.push go, gens := s3.gens.push (.fresh (.compStart (.GeneratorExp elt [⟨tg, iter, ifs, 0⟩] scope gpos) 0 (.ref it) .none ce)), toks := s3.toks + 1 + 1 + 1 } := by
      rw [← hce]
      refine gx_start I3 ok gk.cell hN (fun b hb => by rw [hh3]; exact f3 b hb) (Nat.le_refl _) (hns.push _) kp (by rw [hce]; exact hbare) hB1 ?_ fun p hp => ?_
      · rw [hce]
        show pushEnvs [ce] (pushEnvs [] B.frames) = _
        rw [hB2, I3.ok.frames]
        rfl
      · rw [List.mem_singleton.mp hp]
        refine ⟨hpushed, by show _ ≤ h'.objs.size; omega, by show h'.objs.size ≠ _; omega, fun v => by rw [← hgo]; intro z; cases z⟩
    have hA5 : ∀ b ∈ fp, ∀ p ∈ [(h'.objs.size, go)], p.1 ≠ b := fun b hb p hp => by
      rw [List.mem_singleton.mp hp]
      have h1 := (f3 b hb).2
      have h2 : s3.heap.objs.size = h3.objs.size := by rw [hh3]
      have h4 : s3.heap.objs.size ≤ h'.objs.size := by omega
      exact Nat.ne_of_gt (Nat.lt_of_lt_of_le h1 (by rw [← h2]; exact h4))
    have back : ∀ σ' H' s', Inv (gxCx X s3 H3 scope ce (B.over (.compLoop (.GeneratorExp elt [⟨tg, iter, ifs, 0⟩] scope gpos) 0 (.ref it) .none ce) []) fp [(h'.objs.size, go)]) [] σ' H' s' → Inv X pins σ H' s' := fun σ' H' s' I6 =>
      I3.call' (ch := fp) I6.os I6.base I6.hok I6.bare fun b hb => ⟨(f3 b hb).1.2.2.2.1, (f3 b hb).1.2.1, (f3 b hb).1.2.2.2.2.1, (f3 b hb).1.2.2.2.2.2⟩
    have genAt : ∀ σ H s, Inv (gxCx X s3 H3 scope ce (B.over (.compLoop (.GeneratorExp elt [⟨tg, iter, ifs, 0⟩] scope gpos) 0 (.ref it) .none ce) []) fp [(h'.objs.size, go)]) [] σ H s → s.heap.IsGen h'.objs.size s3.gens.size := fun σ H s I6 =>
      hgen _ (I6.pin (h'.objs.size, go) (by simp)).1
    refine hQ J H3 _ (gxCx X s3 H3 scope ce (B.over (.compLoop (.GeneratorExp elt [⟨tg, iter, ifs, 0⟩] scope gpos) 0 (.ref it) .none ce) []) fp [(h'.objs.size, go)]) it fp tn h'.objs.size s3.gens.size kj
      ⟨rfl, rfl, rfl, rfl, by rw [← hce]; exact gk.co, rfl, rfl, T, ?_, ?_, ?_, hA5, hbare, Array.getElem?_push_size .., genAt, ?_, I5, back, fun b hb => ⟨(f3 b hb).1.1, Nat.lt_of_lt_of_le (f3 b hb).2 ?_⟩, ?_⟩
    · rw [← hce]
      exact hgt _ _ _ _ _ _ _ _ (by rw [hce]; exact room')
    · rw [← hce]
      exact hts _ _ _ _ _ _ _ _ (by rw [hce]; exact room')
    · rw [← hce]
      exact he _ _ _ _ _ _ _ _ (by rw [hce]; exact room')
    · show h'.objs.size < (h'.push go).objs.size
      rw [Heap.size_push]
      exact Nat.lt_succ_self _
    · show h3.objs.size ≤ (h'.push go).objs.size
      rw [Heap.size_push, hsz', hh3]
      omega
    · exact T.keep _ _ _ st3 fun b _ o e => kp b o (by rw [hh3]; exact e)
  refine ⟨I2.nolimit, ?_⟩
  cases hf : codeAmong gpos ps.toList with
  | none =>
    refine wpAny_genexprCodeX hcode (cd.code hPs ht) (cd.tab hPs) hf fun c' h' tk hx hge hlt hco' _ htab' _ => ?_
    obtain ⟨o1, vs, f1, tf, fl, tg, inF, tx, tt, op, _, _, _, _, _, _, _, _, _, htr, _⟩ := hco'
    exact cont _ h' tk _ hx (Nat.le_trans hge (Nat.le_of_lt hlt)) htab'.2 ⟨_, rfl⟩ htr
  | some cv =>
    refine wpAny_genexprCode_hit hcode (cd.code hPs ht) hf ?_
    exact cont cv s2.heap s2.toks ps (Heap.ExtBut.refl _ _) (Nat.le_refl _) hPs ⟨#[], by simp⟩ ht
end

/-- the list takes what the generator gives, turn by turn -/
theorem ext_gx {X' : Cx} {A : Around} {σ0 : L2.St} {Qt : Hp → Prop} {a S : Addr} {g : Nat} {res : Value} {Rz : Result → Shared → Prop} (hh : A.handled = none) (hroom : A.depth < recursionLimit)
    (hgen : ∀ σ H s, Inv X' [] σ H s → s.heap.IsGen a g) (fin : ∀ H s, Inv X' [] σ0 H s → Qt H → Rz (.ok (.ret res)) s) :
    ∀ (n : Nat) (s : Shared), AllBare s.gens → GxAt X'.prog X'.w A.in1.in1 (gxEnd X' σ0 Qt) (goL X' σ0 S) a g n s → codeAny (model X'.prog X'.w) A (.builtin "list.extend.loop" ⟨[.ref S, .ref a, res], []⟩) Rz s := by
  intro n
  induction n with
  | zero =>
    intro s hb0 ⟨hg, hl, gs, hgs, hgo⟩
    have hsz : g + 1 ≤ s.gens.size := (Array.getElem?_eq_some_iff.mp hgs).1
    refine codeAny_builtin PySem.F.entry_extend_loop ?_
    rw [Around.under_plainId PySem.F.plain_extend_loop _]
    show wpAny _ A.in1 (pyNext (.ref a) >>= _) _ _ s
    refine wpAny_bind (GenW.wpAny_gsz hsz (wpAny_pyNext_genexpQ (A := A.in1) (P := fun n s₀ s₁ => ∃ H', Inv X' [] σ0 H' s₁ ∧ Qt H') hh hl hroom hg hgs hgo (fun v s₁ gs' hb hv => ?_) (fun s₁ hp h' hk => ?_)))
    · obtain ⟨y, H', acc, ry, I', hS, hz, hkap⟩ := hv
      obtain ⟨zz, its, nn, rr, hl2, e⟩ := I'.lstM hS
      intro _
      exact (hkap { s₁ with heap := s₁.heap.update S (Obj.mapSeq (·.push v)), toks := s₁.toks } (I'.lset (its' := its ++ [v]) hS e (by simp) (rr.append (.cons ry .nil)) (by rw [List.length_append, List.length_singleton]; omega)) fun b o hbS e2 => (Heap.get?_update_other _ _ (Ne.symm hbS)).trans e2).elim
    · obtain ⟨H', I', q⟩ := hp
      intro _
      exact wpAny_pure (fin H' _ ((inv_woke (s' := s₁.setGen g .finished) I' ⟨rfl, rfl, bare_set I'.bare rfl⟩).kept (t' := s₁.toks) hk) q)
  | succ n ih =>
    intro s hb0 ⟨hg, hl, gs, hgs, hgo⟩
    have hsz : g + 1 ≤ s.gens.size := (Array.getElem?_eq_some_iff.mp hgs).1
    refine codeAny_builtin PySem.F.entry_extend_loop ?_
    rw [Around.under_plainId PySem.F.plain_extend_loop _]
    show wpAny _ A.in1 (pyNext (.ref a) >>= _) _ _ s
    refine wpAny_bind (GenW.wpAny_gsz hsz (wpAny_pyNext_genexpQ (A := A.in1) (P := fun n s₀ s₁ => ∃ H', Inv X' [] σ0 H' s₁ ∧ Qt H') hh hl hroom hg hgs hgo (fun v s₁ gs' hb hv => ?_) (fun s₁ hp h' hk => ?_)))
    · obtain ⟨y, H', acc, ry, I', hS, hz, hkap⟩ := hv
      intro hsz1
      have hsz2 : g < s₁.gens.size := by
        have : (s₁.setGen g gs').gens.size = s₁.gens.size := GenW.setGen_size _ _ _
        omega
      have I2 := inv_woke (s' := s₁.setGen g gs') I' ⟨rfl, rfl, bare_set I'.bare hb⟩
      obtain ⟨zz, its, nn, rr, hl2, e⟩ := I2.lstM hS
      have hasz : its.toArray.size < sizeLine := by rw [List.size_toArray]; omega
      have I3 := I2.lset (t' := (s₁.setGen g gs').toks) (its' := its ++ [v]) (f := (·.push v)) hS e (by simp) (rr.append (.cons ry .nil)) (by rw [List.length_append, List.length_singleton]; omega)
      have keep3 : ∀ b o, b ≠ S → s₁.heap.get? b = some o → (s₁.heap.update S (Obj.mapSeq (·.push v))).get? b = some o := fun b o hbS e2 => (Heap.get?_update_other _ _ (Ne.symm hbS)).trans e2
      show wpAny _ A.in1 (updateSeq S (·.push v) >>= _) _ _ _
      refine wpAny_bind (wpAny_updateSeq e rfl (wpAny_pure ⟨plainId_quiet PySem.F.plain_extend_loop _, ?_⟩) (Nat.le_of_lt hasz) (by show (its.toArray.push v).size ≤ sizeLine + 1; rw [Array.size_push]; omega))
      refine ih _ I3.bare ⟨hgen _ _ _ I3, I3.nolimit, gs', setGen_at hsz2, ?_⟩
      exact hkap _ (inv_woke I3 ⟨rfl, rfl, bare_set I3.bare rfl⟩) keep3
    · obtain ⟨H', I', q⟩ := hp
      intro _
      exact wpAny_pure (fin H' _ ((inv_woke (s' := s₁.setGen g .finished) I' ⟨rfl, rfl, bare_set I'.bare rfl⟩).kept (t' := s₁.toks) hk) q)

section
variable {X : Cx} {pins : List (Addr × Obj)} {σ : L2.St} {elt tg iter : Expr} {ifs : List Expr} {scope : Scope} {pos : Pos} {own : List (Str × Nat)} {g : TG} {tt : TT} {te : TE} {J : It} {H3 : Hp} {s5 : Shared} {X' : Cx} {it : Addr} {fp : List Addr} {tn : Nat → Heap → Prop} {a : Addr} {gi : Nat} {A : Around} {E : Value → Shared → Prop}
/-- what the list's turns must show -/
def GlFill (X' : Cx) (σ0 : L2.St) (vs : List Nat) (J : It) (g : TG) (tt : TT) (te : TE) (H3 : Hp) (Q : List Value → Shared → Prop) : Prop :=
  ∀ S, H3 S = none → ∃ Qt W m, glTurns S J g tt te σ0 vs Qt W ∧ W 0 m (upd H3 S (.lst [])) ∧ ∀ H' s', Inv X' [] σ0 H' s' → Qt H' → ∃ ys, H' S = some (.lst ys) ∧ ∀ items, Vals ys items → Q items s'
theorem GlFill.mono {σ0 : L2.St} {vs : List Nat} {Q Q' : List Value → Shared → Prop} (h : GlFill X' σ0 vs J g tt te H3 Q) (k : ∀ items s, Q items s → Q' items s) : GlFill X' σ0 vs J g tt te H3 Q' := fun S hS => by
  obtain ⟨Qt, W, m, a1, a2, a3⟩ := h S hS
  exact ⟨Qt, W, m, a1, a2, fun H' s' I' q => by
    obtain ⟨ys, b1, b2⟩ := a3 H' s' I' q
    exact ⟨ys, b1, fun items v => k _ _ (b2 items v)⟩⟩
theorem collect_gx {Q : List Value → Shared → Prop} (M : GxMade X A.in1.in1 pins σ elt tg iter ifs scope pos own g tt te J H3 s5 X' it fp tn a gi) (hh : A.handled = none) (hroom : A.depth < recursionLimit)
    (hf : GlFill X' (wipe σ (own.map (·.2))) (own.map (·.2)) J g tt te H3 Q) : wpAny (model X'.prog X'.w) A (collect (.ref a)) Q E s5 := by
  have hSf : s5.heap.objs.size ∉ fp := fun hm => Nat.lt_irrefl _ (M.free _ hm).2
  have hSa : s5.heap.objs.size ≠ a := Nat.ne_of_gt M.lt
  have hSH : H3 s5.heap.objs.size = none := M.inv.fresh
  obtain ⟨Qt, W, m, turn, w0, fin⟩ := hf _ hSH
  have I1 := M.inv.lnew (t' := s5.toks) (ys := []) (its := []) .nil (Nat.zero_le _)
  have e1 : (s5.heap.push { cls := .type "list", data := .seq ([] : List Value).toArray }).get? s5.heap.objs.size = some { cls := .type "list", data := .seq ([] : List Value).toArray } := Heap.get?_push_size _ rfl
  have I2 := I1.lset (t' := s5.toks) (l := s5.heap.objs.size) (ys := [.non]) (its' := [Value.none]) (f := (·.push Value.none)) upd_same e1 rfl (.cons rfl .nil) (by decide)
  have e2 := Heap.get?_update_self (Obj.mapSeq (·.push Value.none)) e1 rfl
  have I3 := I2.lset (t' := s5.toks) (l := s5.heap.objs.size) (ys := []) (its := [Value.none]) (its' := []) (f := (·.pop)) upd_same e2 rfl .nil (Nat.zero_le _)
  rw [upd_upd, upd_upd] at I3
  have oth : ∀ b o, b ≠ s5.heap.objs.size → s5.heap.get? b = some o → (((s5.heap.push { cls := .type "list", data := .seq ([] : List Value).toArray }).update s5.heap.objs.size (Obj.mapSeq (·.push Value.none))).update s5.heap.objs.size (Obj.mapSeq (·.pop))).get? b = some o :=
    fun b o hb e => (Heap.get?_update_other _ _ (Ne.symm hb)).trans ((Heap.get?_update_other _ _ (Ne.symm hb)).trans (Heap.get?_push_of_some _ e))
  have hgt := fun H' s' (I' : Inv X' [] (wipe σ (own.map (·.2))) H' s') => Heap.IsGen.typeIs (M.gen _ _ _ I')
  unfold collect
  refine wpAny_bind (wpAny_runValue (codeAny_builtin PySem.F.entry_proto_collect ?_))
  rw [Around.under_plainId PySem.F.plain_proto_collect _]
  show wpAny _ A.in1 (newList [] >>= fun l => again (.builtin "list.__iadd__" ⟨[l, .ref a], []⟩)) _ _ s5
  refine wpAny_bind (wpAny_newObj_type ?_)
  refine wpAny_pure ⟨plainId_quiet PySem.F.plain_list_iadd _, codeAny_builtin PySem.F.entry_list_iadd ?_⟩
  rw [Around.under_plainId PySem.F.plain_list_iadd _]
  show wpAny _ A.in1 (Builtin.List.listExtendWith (.ref s5.heap.objs.size) (.ref a) (.ref s5.heap.objs.size)) _ _ _
  unfold Builtin.List.listExtendWith
  refine wpAny_bind (wpAny_typeOf (hgt _ _ I1) ?_)
  have n1 : Builtin.List.listSameRef (.ref s5.heap.objs.size) (.ref a) = false := by simp [Builtin.List.listSameRef, hSa]
  have n2 : (Value.type "generator" == Value.type "list") = false := by decide
  have n3 : (Value.type "generator" == Value.type "tuple") = false := by decide
  simp only [n1, n2, n3, Bool.or_false, Bool.false_eq_true, if_false]
  refine wpAny_bind (wpAny_pyIter_gen (M.gen _ _ _ I1) ?_)
  refine wpAny_bind (wpAny_holding ?_)
  unfold Builtin.List.listLengthHint
  refine wpAny_bind (wpAny_specialOf (hgt _ _ I1) PySem.F.gen_no_len ?_)
  show wpAny _ A.in1 (specialOf (Value.ref a) (Str.ofString "__length_hint__") >>= _) _ _ _
  refine wpAny_bind (wpAny_specialOf (hgt _ _ I1) PySem.F.gen_no_hint ?_)
  refine wpAny_pure ?_
  show wpAny _ A.in1 (rule "list.extend.makes-room" >>= fun _ => Builtin.List.listTouch (.ref s5.heap.objs.size) >>= fun _ => again (.builtin "list.extend.loop" ⟨[.ref s5.heap.objs.size, .ref a, .ref s5.heap.objs.size], []⟩)) _ _ _
  refine wpAny_bind (wpAny_rule (wpAny_bind ?_))
  show wpAny _ A.in1 (updateSeq s5.heap.objs.size (·.push .none) >>= fun _ => updateSeq s5.heap.objs.size (·.pop)) _ _ _
  refine wpAny_bind (wpAny_updateSeq e1 rfl ?_)
  refine wpAny_updateSeq e2 rfl ?_
  refine wpAny_pure ⟨plainId_quiet PySem.F.plain_extend_loop _, ?_⟩
  refine ext_gx hh hroom M.gen (fun H' s' I' qt => ?_) (m + 1) _ I3.bare (M.at hSf I3 rfl (fun b hb o e => oth b o (fun z => hSf (by rw [← z]; exact hb)) e) (fun b hb => ?_) turn w0)
  · obtain ⟨ys, hS, q⟩ := fin H' s' I' qt
    obtain ⟨zz, its, nn, rr, hl2, e⟩ := I'.lstM hS
    show wpAny _ A (load s5.heap.objs.size >>= _) _ _ s'
    refine wpAny_bind (wpAny_load e ?_)
    exact wpAny_pure (q its rr)
  · have ne : b ≠ s5.heap.objs.size := fun z => hSf (by rw [← z]; exact hb)
    rw [upd_ne ne]
    exact (M.free b hb).1
end

section
variable {X : Cx} {pins : List (Addr × Obj)} {σ : L2.St} {elt tg iter : Expr} {ifs : List Expr} {scope : Scope} {pos : Pos} {own : List (Str × Nat)} {g : TG} {tt : TT} {te : TE} {J : It} {H3 : Hp} {s5 : Shared} {X' : Cx} {it : Addr} {fp : List Addr} {tn : Nat → Heap → Prop} {a : Addr} {gi : Nat} {A : Around} {E : Value → Shared → Prop}
open AutoSeq1 (wpAny_loadPart') in
/-- tuple(generator) -/
theorem call_tuple_gx {Q : Value → Shared → Prop} (M : GxMade X A.in1.in1.in1.in1 pins σ elt tg iter ifs scope pos own g tt te J H3 s5 X' it fp tn a gi) (hh : A.handled = none) (hroom : A.depth < recursionLimit)
    (hf : GlFill X' (wipe σ (own.map (·.2))) (own.map (·.2)) J g tt te H3 fun items s' => items.length ≤ sizeLine ∧ Q (.ref s'.heap.objs.size) { s' with heap := s'.heap.push { cls := .type "tuple", data := .seq items.toArray } }) :
    wpAny (model X'.prog X'.w) A (call (.type "tuple") [.ref a]) Q E s5 := by
  have hTI := Heap.IsGen.typeIs (M.gen _ _ _ M.inv)
  refine callType_codes (Q₁ := fun obj s₁ => s₁.TypeIs obj "tuple" ∧ Q obj s₁) PySem.F.called_tuple (PySem.F.typeCall_tuple_1 _) PySem.F.entry_object_init ?_ fun obj s₁ h₁ =>
    ⟨h₁.1, PySem.F.args_object_init_2 obj _, object_init_meets PySem.F.called_tuple.init.lookup PySem.F.called_tuple.made (by decide) X'.prog X'.w A.in1 _ s₁ ⟨h₁.1, rfl, h₁.2⟩⟩
  refine codeAny_of_tree ?_
  show wpAny _ A.in1.in1 (do checkBuiltinCall "tuple.__new__" ⟨[.type "tuple", .ref a], []⟩; again (.builtin "tuple.__new__" ⟨[.type "tuple", .ref a], []⟩)) _ _ s5
  refine wpAny_bind (wpAny_of_eq (PySem.F.newCall_tuple_1 _) (wpAny_pure ⟨plainId_quiet PySem.F.plain_tuple_new _, codeAny_builtin PySem.F.entry_tuple_new ?_⟩))
  rw [Around.under_plainId PySem.F.plain_tuple_new _]
  have hsub := sub_tuple_self
  have hinit := init_tuple_lookup
  have hmh := madeHere_tuple
  wp_walk using wpAny_typeOf hTI, collect_gx (A := A.in1.in1) M hh hroom
  refine hf.mono fun items s' ⟨hz, hq⟩ => ?_
  show wpAny _ _ (Builtin.Tuple.tupleExact items.toArray >>= fun v => ret v) _ _ _
  unfold Builtin.Tuple.tupleExact
  refine wpAny_bind (wpAny_newObj_type ?_ (by show items.toArray.size ≤ sizeLine; rw [List.size_toArray]; exact hz))
  exact wpAny_pure ⟨⟨_, Heap.get?_push_size _ rfl, rfl⟩, hq⟩
end

/-- tuple(elt for tg in iter if ..) -/
def tTupG (P : Addr) (wi : TI) (g : TG) (tt : TT) (te : TE) (vs : List Nat) : TE := fun σ H Q => wi σ H fun J H1 => TabG H1 P ∧ ∀ H2, Tabbed P H1 H2 → ∀ S, H2 S = none → ∃ W : Nat → Nat → Hp → Prop, (∃ m, W 0 m (upd H2 S (.lst []))) ∧
  glTurns S J g tt te (wipe σ vs) vs (fun H' => ∃ ys, H' S = some (.lst ys) ∧ ys.length ≤ sizeLine ∧ ∀ T, H' T = none → Q (.ref T) (upd H' T (.tup ys))) W
section
variable {X : Cx}
theorem pe_tupG {c P : Addr} {elt tg iter : Expr} {ifs : List Expr} {p pos gpos : Pos} {scope : Scope} {own : List (Str × Nat)} {wi : TI} {g : TG} {tt : TT} {te : TE} {k : Nat}
    (hr : Room (k + 1) X.A) (hg : Gl X "tuple") (hm : X.mg "tuple" = none) (hb : bootBuiltins "tuple" = some (.type "tuple")) (TB : TabB X.base X.mg c P) (hcode : X.env.code = .ref c) (hN : X.N.Nodup) (ok : BlkOk X.N X.env.scope scope own) (gk : GxOk scope) (hi : PI X tg iter wi)
    (hgt : ∀ (s : Shared) (H : Hp) (cl : List (Str × Addr)) (C : Addr) (code : Value) (A' : Around) (fp : List Addr) (pn : List (Addr × Obj)), Room k A' → PG (gxCx X s H scope (genEnv scope cl C code builtinsNs X.env) A' fp pn) tg g)
    (hts : ∀ (s : Shared) (H : Hp) (cl : List (Str × Addr)) (C : Addr) (code : Value) (A' : Around) (fp : List Addr) (pn : List (Addr × Obj)), Room k A' → PTs (gxCx X s H scope (genEnv scope cl C code builtinsNs X.env) A' fp pn) ifs tt)
    (he : ∀ (s : Shared) (H : Hp) (cl : List (Str × Addr)) (C : Addr) (code : Value) (A' : Around) (fp : List Addr) (pn : List (Addr × Obj)), Room k A' → PE (gxCx X s H scope (genEnv scope cl C code builtinsNs X.env) A' fp pn) elt te)
    (hs : ∀ v, genFold iter X.env v = pure v)
    (hse : starEach [.GeneratorExp elt [⟨tg, iter, ifs, 0⟩] scope gpos] X.env = (false, eval (.GeneratorExp elt [⟨tg, iter, ifs, 0⟩] scope gpos) X.env) :: starEach [] X.env := by rfl) :
    PE X (.Call (.Name "tuple" p) [.GeneratorExp elt [⟨tg, iter, ifs, 0⟩] scope gpos] [] pos) (tTupG P wi g tt te (own.map (·.2))) := by
  refine ⟨fun pins s σ H Q I h => ?_⟩
  refine wpAny_Call_Name_kw (ld_blt I hg hm hb ?_)
  refine PyProof.Rows.callWith_type1 ?_ hse (by rfl)
  rw [hse]
  show wpAny _ _ (spliced ((false, eval (.GeneratorExp elt [⟨tg, iter, ifs, 0⟩] scope gpos) X.env) :: backTo pos (starEach [] X.env))) _ _ s
  refine Calls.spliced_cons (gx_makes (own := own) (B := X.A.in1.in1.in1.in1) (KJ := fun J H2 => ∀ S, H2 S = none → ∃ W : Nat → Nat → Hp → Prop, (∃ m, W 0 m (upd H2 S (.lst []))) ∧
    glTurns S J g tt te (wipe σ (own.map fun y : Str × Nat => y.2)) (own.map fun y : Str × Nat => y.2) (fun H' => ∃ ys, H' S = some (.lst ys) ∧ ys.length ≤ sizeLine ∧ ∀ T, H' T = none → Q (.ref T) (upd H' T (.tup ys))) W) hr hr.hd rfl (fun _ _ => ?_) TB hcode hN ok gk hi hgt hts he hs I h fun J H3 s5 X' it fp tn a gi kj M => ?_)
  · exact ⟨hr.hd, by have := hr.dp; show X.A.depth + 0 + 1 + 3 * k + 5 < _; omega, by have := hr.un; show X.A.units + 1 + 1 + 1 + 1 + 0 + 3 + 16 * k + 200 < _; omega⟩
  · refine Calls.spliced_nil ?_
    rw [← M.prog, ← M.w]
    refine call_tuple_gx M hr.hd (by have := hr.dp; omega) fun S hS => ?_
    obtain ⟨W, ⟨m, w0⟩, turn⟩ := kj S hS
    refine ⟨_, W, m, turn, w0, fun H' s' I' ⟨ys, hys, hz, q⟩ => ⟨ys, hys, fun items hv => ⟨by rw [← hv.length]; exact hz, ?_⟩⟩⟩
    have I5 := M.back _ _ _ I'
    exact ⟨.ref s'.heap.objs.size, _, I5.laid (t' := s'.toks) (o := .tup ys) (fun b ob z => Heap.get?_push_of_some _ z) (Nat.le_refl _) ⟨hz, _, hv, IsTup.new _ _⟩, rfl, q _ (I5.hok.fresh (Nat.le_refl _))⟩
end
end Ow

set_option Elab.async false
set_option linter.all false
set_option maxRecDepth 100000
set_option maxHeartbeats 4000000
namespace Ow
open PySem PySem.Spec PyProof.Rows L2 GxR

/-! ### immutable data -/
inductive D where
  | non | bl (b : Bool) | int (i : Int) | str (x : Str) | tup (ds : List D)

mutual
inductive Im (H : Hp) : V → D → Prop
  | non : Im H .non .non
  | bl (b : Bool) : Im H (.bl b) (.bl b)
  | int (i : Int) : Im H (.int i) (.int i)
  | str (x : Str) (h : x.length ≤ 1000000) : Im H (.str x) (.str x)
  | tup {a : Addr} {xs : List V} {ds : List D} : H a = some (.tup xs) → ImAll H xs ds → Im H (.ref a) (.tup ds)
inductive ImAll (H : Hp) : List V → List D → Prop
  | nil : ImAll H [] []
  | cons {v : V} {vs : List V} {d : D} {ds : List D} : Im H v d → ImAll H vs ds → ImAll H (v :: vs) (d :: ds)
end

/-! ### how a heap goes on -/
def nt : HO → Bool
  | .tbl _ => false
  | _ => true
/-- all that was tracked stands but what ch names; the tables may have grown -/
structure Fr (ch : List Addr) (H H' : Hp) : Prop where
  keep : ∀ a o, H a = some o → nt o = true → a ∉ ch → H' a = some o
  tup : ∀ a xs, H a = some (.tup xs) → H' a = some (.tup xs)
  frz : ∀ a o u, H a = some (.frz o u) → H' a = some (.frz o u)
  tab : ∀ a, TabG H a → TabG H' a
  there : ∀ a o, H a = some o → ∃ o', H' a = some o'

theorem Fr.refl {ch : List Addr} {H : Hp} : Fr ch H H := ⟨fun _ _ h _ _ => h, fun _ _ h => h, fun _ _ _ h => h, fun _ h => h, fun _ o h => ⟨o, h⟩⟩
theorem Fr.free {ch : List Addr} {H H' : Hp} (f : Fr ch H H') {a : Addr} (h : H' a = none) : H a = none := by
  cases q : H a with
  | none => rfl
  | some o =>
    obtain ⟨o', e⟩ := f.there a o q
    rw [h] at e
    cases e
theorem Fr.snoc {ch c : List Addr} {H H1 H2 : Hp} (f : Fr ch H H1) (g : Fr c H1 H2) (hc : ∀ a ∈ c, a ∈ ch ∨ H a = none) : Fr ch H H2 :=
  ⟨fun a o h n hn => g.keep a o (f.keep a o h n hn) n fun hm => (hc a hm).elim hn fun z => (by rw [h] at z; cases z),
   fun a xs h => g.tup a xs (f.tup a xs h), fun a o u h => g.frz a o u (f.frz a o u h), fun a h => g.tab a (f.tab a h),
   fun a o h => by obtain ⟨o1, h1⟩ := f.there a o h; exact g.there a o1 h1⟩
theorem sub_nil {ch : List Addr} {H : Hp} : ∀ a ∈ ([] : List Addr), a ∈ ch ∨ H a = none := fun _ h => absurd h List.not_mem_nil
theorem sub_cons {ch c : List Addr} {H : Hp} {p : Addr} (h : p ∈ ch ∨ H p = none) (k : ∀ a ∈ c, a ∈ ch ∨ H a = none) : ∀ a ∈ p :: c, a ∈ ch ∨ H a = none := fun a ha => by
  rcases List.mem_cons.mp ha with e | e
  · rw [e]; exact h
  · exact k a e
theorem Fr.wide {ch ch' : List Addr} {H H' : Hp} (f : Fr ch H H') (h : ∀ a ∈ ch, a ∈ ch') : Fr ch' H H' :=
  ⟨fun a o e n hn => f.keep a o e n fun hm => hn (h a hm), f.tup, f.frz, f.tab, f.there⟩
theorem Fr.lay {ch : List Addr} {H : Hp} {p : Addr} {o : HO} (h : H p = none) : Fr ch H (upd H p o) :=
  ⟨fun a u e _ _ => by rw [upd_ne (ne_of_none e h)]; exact e, fun a xs e => by rw [upd_ne (ne_of_none e h)]; exact e, fun a o u e => by rw [upd_ne (ne_of_none e h)]; exact e,
   fun a ⟨ps, e, t⟩ => ⟨ps, by rw [upd_ne (ne_of_none e h)]; exact e, t⟩, fun a u e => ⟨u, by rw [upd_ne (ne_of_none e h)]; exact e⟩⟩
theorem Fr.put {ch : List Addr} {H : Hp} {p : Addr} {o o' : HO} (h : H p = some o) (m : Mut (some o)) (hp : p ∈ ch) : Fr ch H (upd H p o') :=
  ⟨fun a u e _ hn => by rw [upd_ne (show a ≠ p from fun z => hn (by rw [z]; exact hp))]; exact e,
   fun a xs e => by rw [upd_ne (show a ≠ p from fun z => by rw [z, h] at e; cases e; exact m)]; exact e,
   fun a o u e => by rw [upd_ne (show a ≠ p from fun z => by rw [z, h] at e; cases e; exact m)]; exact e,
   fun a ⟨ps, e, t⟩ => ⟨ps, by rw [upd_ne (show a ≠ p from fun z => by rw [z, h] at e; cases e; exact m)]; exact e, t⟩,
   fun a u e => by
    by_cases hb : a = p
    · exact ⟨o', by rw [hb]; exact upd_same⟩
    · exact ⟨u, by rw [upd_ne hb]; exact e⟩⟩
theorem Fr.tabbed {ch : List Addr} {H H' : Hp} {P : Addr} (h : TabG H P) (t : Tabbed P H H') : Fr ch H H' := by
  obtain ⟨ps, e, tr⟩ := h
  obtain ⟨⟨ps', e', tr'⟩, k⟩ := t
  have ne : ∀ a o, H a = some o → nt o = true → a ≠ P := fun a o h n z => by
    rw [z, e] at h
    cases h
    cases n
  refine ⟨fun a o h n _ => by rw [k a (ne a o h n)]; exact h, fun a xs h => by rw [k a (ne a _ h rfl)]; exact h, fun a o u h => by rw [k a (ne a _ h rfl)]; exact h, fun a ⟨qs, h, tq⟩ => ?_, fun a o h => ?_⟩
  · by_cases hb : a = P
    · subst hb
      exact ⟨ps', e', tr'⟩
    · exact ⟨qs, by rw [k a hb]; exact h, tq⟩
  · by_cases hb : a = P
    · subst hb
      exact ⟨_, e'⟩
    · exact ⟨o, by rw [k a hb]; exact h⟩
theorem Fr.lst {ch : List Addr} {H H' : Hp} (f : Fr ch H H') {a : Addr} {o : HO} (h : H a = some o) (n : nt o = true) (hc : a ∉ ch) : H' a = some o := f.keep a o h n hc
theorem Fr.seqT {ch : List Addr} {K : PySem.W.Frag} {H H' : Hp} (f : Fr ch H H') {a : Addr} {xs : List V} (h : SqT K H a xs) : SqT K H' a xs := by
  rcases h with (h | ⟨o, h⟩) | h
  · exact .inl (.inl (f.tup _ _ h))
  · exact .inl (.inr ⟨o, f.frz _ _ _ h⟩)
  · exact .inr h

mutual
theorem Im.fr {ch : List Addr} {H H' : Hp} (f : Fr ch H H') : ∀ (d : D) (v : V), Im H v d → Im H' v d
  | .non, _, h => by cases h; exact .non
  | .bl b, _, h => by cases h; exact .bl b
  | .int i, _, h => by cases h; exact .int i
  | .str x, _, h => by
    cases h with
    | str _ hl => exact .str x hl
  | .tup ds, _, h => by
    cases h with
    | tup e ha => exact .tup (f.tup _ _ e) (ImAll.fr f ds _ ha)
theorem ImAll.fr {ch : List Addr} {H H' : Hp} (f : Fr ch H H') : ∀ (ds : List D) (vs : List V), ImAll H vs ds → ImAll H' vs ds
  | [], _, h => by cases h; exact .nil
  | d :: ds, _, h => by
    cases h with
    | cons h1 h2 => exact .cons (Im.fr f d _ h1) (ImAll.fr f ds _ h2)
end
theorem Im.go {ch : List Addr} {H H' : Hp} {v : V} {d : D} (h : Im H v d) (f : Fr ch H H') : Im H' v d := Im.fr f d v h
theorem ImAll.go {ch : List Addr} {H H' : Hp} {vs : List V} {ds : List D} (h : ImAll H vs ds) (f : Fr ch H H') : ImAll H' vs ds := ImAll.fr f ds vs h
theorem ImAll.length {H : Hp} : ∀ {vs : List V} {ds : List D}, ImAll H vs ds → vs.length = ds.length
  | _, _, .nil => rfl
  | _, _, .cons _ h => by rw [List.length_cons, List.length_cons, ImAll.length h]
theorem ImAll.get {H : Hp} : ∀ {vs : List V} {ds : List D}, ImAll H vs ds → ∀ {i : Nat} {v : V}, vs[i]? = some v → ∃ d, ds[i]? = some d ∧ Im H v d
  | _, _, .nil, i, v, e => by simp at e
  | _, _, .cons h _, 0, v, e => by simp at e; subst e; exact ⟨_, rfl, h⟩
  | _, _, .cons _ h, i + 1, v, e => by
    obtain ⟨d, h1, h2⟩ := ImAll.get h (i := i) (v := v) (by simpa using e)
    exact ⟨d, by simpa using h1, h2⟩
theorem ImAll.getD {H : Hp} {vs : List V} {ds : List D} (h : ImAll H vs ds) {i : Nat} {d : D} (e : ds[i]? = some d) : ∃ v, vs[i]? = some v ∧ Im H v d := by
  have hl := h.length
  obtain ⟨hi, _⟩ := List.getElem?_eq_some_iff.mp e
  have hv : vs[i]? = some vs[i] := List.getElem?_eq_getElem (by omega)
  obtain ⟨d', h1, h2⟩ := h.get hv
  rw [e] at h1
  cases h1
  exact ⟨_, hv, h2⟩
theorem ImAll.append {H : Hp} : ∀ {vs ws : List V} {ds es : List D}, ImAll H vs ds → ImAll H ws es → ImAll H (vs ++ ws) (ds ++ es)
  | _, _, _, _, .nil, h => h
  | _, _, _, _, .cons h k, h2 => .cons h (ImAll.append k h2)
theorem ImAll.take {H : Hp} : ∀ {vs : List V} {ds : List D} (n : Nat), ImAll H vs ds → ImAll H (vs.take n) (ds.take n)
  | _, _, 0, _ => .nil
  | _, _, n + 1, .nil => .nil
  | _, _, n + 1, .cons h k => .cons h (ImAll.take n k)
theorem ImAll.drop {H : Hp} : ∀ {vs : List V} {ds : List D} (n : Nat), ImAll H vs ds → ImAll H (vs.drop n) (ds.drop n)
  | _, _, 0, h => h
  | _, _, n + 1, .nil => .nil
  | _, _, n + 1, .cons _ k => ImAll.drop n k
theorem ImAll.snoc {H : Hp} {vs : List V} {ds : List D} {v : V} {d : D} (h : ImAll H vs ds) (k : Im H v d) : ImAll H (vs ++ [v]) (ds ++ [d]) := h.append (.cons k .nil)
theorem ImAll.tyl {H : Hp} {vs : List V} {ns : List Int} (h : ImAll H vs (ns.map D.int)) : vs = ns.map V.int := by
  induction ns generalizing vs with
  | nil => cases h; rfl
  | cons n ns ih =>
    cases h with
    | cons h1 h2 =>
      cases h1
      rw [List.map_cons, ih h2]
theorem ImAll.ints {H : Hp} (ns : List Int) : ImAll H (ns.map V.int) (ns.map D.int) := by
  induction ns with
  | nil => exact .nil
  | cons n ns ih => exact .cons (.int n) ih

/-! ### the kind of a value -/
def tyD : D → String
  | .non => "NoneType"
  | .bl _ => "bool"
  | .int _ => "int"
  | .str _ => "str"
  | .tup _ => "tuple"
theorem Im.ty {K : PySem.W.Frag} {H : Hp} {v : V} {d : D} (h : Im H v d) : TyX K H v (.type (tyD d)) := by
  cases h with
  | non => exact .base .non
  | bl b => exact .base (.bl b)
  | int i => exact .base (.int i)
  | str x _ => exact .base (.str x)
  | tup e _ => exact .base (.tup e)
end Ow

set_option Elab.async false
set_option linter.all false
set_option maxRecDepth 100000
set_option maxHeartbeats 4000000
namespace Ow
open PySem PySem.Spec PyProof.Rows L2 GxR

/-! ### calls, with their callee's promise -/
structure Ca (P : Program) (w : World) (K : PySem.W.Frag) (mg : Str → Option Value) (base : Heap) (k : Nat) (x : Str) (sp : Sp) : Prop where
  ex : ∃ (f : Addr) (fd : FuncData) (ps : List Str), FnOk P w K mg base (L2.CX P w) k f fd ps sp ∧ mg x = some (.ref f) ∧ PySem.W.keepIn K (.ref f) = true ∧ Binds K fd ps []
structure Me (P : Program) (w : World) (K : PySem.W.Frag) (mg : Str → Option Value) (base : Heap) (k : Nat) (C : Addr) (m : Str) (sp : Sp) : Prop where
  ex : ∃ (f : Addr) (fd : FuncData) (ps : List Str), Cls K C ∧ Meth K C m f ∧ FnOk P w K mg base (L2.CX P w) k f fd ps sp ∧ Binds K fd ps []
structure Ma (P : Program) (w : World) (K : PySem.W.Frag) (mg : Str → Option Value) (base : Heap) (k : Nat) (x : Str) (C : Addr) (sp : Sp) : Prop where
  ex : ∃ (f : Addr) (fd : FuncData) (ps : List Str), Mk K C f ∧ FnOk P w K mg base (L2.CX P w) k f fd ps sp ∧ mg x = some (.ref C) ∧ Binds K fd ps []
def tCa (sp : Sp) (E : XK) (t : TA) : TE := fun σ H Q => t σ H fun vs H1 => sp vs H1 Q E
def tMe (C : Addr) (m : Str) (sp : Sp) (E : XK) (ta : TE) (t : TA) : TE := fun σ H Q => ta σ H fun x H1 => ∃ a dx fs, x = .ref a ∧ H1 a = some (.ins C dx fs) ∧ fs.lookup m = none ∧ t σ H1 fun vs H2 => sp (x :: vs) H2 Q E
def tMa (C : Addr) (sp : Sp) (E : XK) (t : TA) : TE := fun σ H Q => t σ H fun vs H1 => ∀ x dx, H1 x = none → H1 dx = none → dx ≠ x → sp (.ref x :: vs) (upd (upd H1 dx (.own x)) x (.ins C dx [])) (fun v H2 => v = .non ∧ Q (.ref x) H2) E
theorem sp_nil {sp : Sp} {Q : VK} {E : XK} : (fun (vs : List V) H1 => sp (vs ++ []) H1 Q E) = fun vs H1 => sp vs H1 Q E := by
  funext vs H1
  rw [List.append_nil]
section
variable {X : Cx} {k j : Nat} {x m : Str} {C : Addr} {sp : Sp} {p pos apos : Pos} {e o : Expr} {es : List Expr} {t : TA} {ta : TE} {E : XK}
theorem pe_caX (c : Ca X.prog X.w X.K X.mg X.base k x sp) (hr : Room j X.A) (hk : k ≤ j) (hg : Gl X x) (hx : Passes (L2.CX X.prog X.w) X E) (ha : PA X (e :: es) t)
    (hdb : (x == ("__debug__" : Str)) = false := by decide) (he : starEach (e :: es) X.env = (false, eval e X.env) :: starEach es X.env := by rfl) (hpl : (backTo pos (starEach es X.env)).any (·.1) = false := by rfl) :
    PE X (.Call (.Name x p) (e :: es) [] pos) (tCa sp E t) := by
  obtain ⟨f, fd, ps, F, hm, kp, b⟩ := c.ex
  refine ⟨fun pins s σ H Q I h => (pe_call F (hr.mono hk) hg hm kp b .nil hx ha hdb he hpl).run pins s σ H Q I ?_⟩
  show t σ H fun vs H1 => sp (vs ++ []) H1 Q E
  rw [sp_nil]
  exact h
theorem pe_ca (c : Ca X.prog X.w X.K X.mg X.base k x sp) (hr : Room j X.A) (hk : k ≤ j) (hg : Gl X x) (ha : PA X (e :: es) t)
    (hdb : (x == ("__debug__" : Str)) = false := by decide) (he : starEach (e :: es) X.env = (false, eval e X.env) :: starEach es X.env := by rfl) (hpl : (backTo pos (starEach es X.env)).any (·.1) = false := by rfl) :
    PE X (.Call (.Name x p) (e :: es) [] pos) (tCa sp E0 t) := pe_caX c hr hk hg passL ha hdb he hpl
theorem pe_ca0 (c : Ca X.prog X.w X.K X.mg X.base k x sp) (hr : Room j X.A) (hk : k ≤ j) (hg : Gl X x) (hdb : (x == ("__debug__" : Str)) = false := by decide) :
    PE X (.Call (.Name x p) [] [] pos) (tCa sp E0 tNil) := by
  obtain ⟨f, fd, ps, F, hm, kp, b⟩ := c.ex
  exact ⟨fun pins s σ H Q I h => (pe_call0 F (hr.mono hk) hg hm kp b .nil passL hdb).run pins s σ H Q I h⟩
theorem pe_meX {pl : Sem Bool} (c : Me X.prog X.w X.K X.mg X.base k C m sp) (hr : Room j X.A) (hk : k ≤ j) (he : PE X o ta) (hx : Passes (L2.CX X.prog X.w) X E) (ha : PA X (e :: es) t)
    (hst : starEach (e :: es) X.env = (false, eval e X.env) :: starEach es X.env := by rfl) (hpl : (backTo pos (starEach es X.env)).any (·.1) = false := by rfl)
    (ht : eval (.Call (.Attribute o m apos) (e :: es) [] pos) X.env = (do
      let ov ← eval o X.env
      standAt apos.atName
      let (f, first) ← holding [ov] (getMethod ov m pl)
      callWith pos f first (backTo pos (starEach (e :: es) X.env)) (backToKw pos (keywordEach [] X.env))) := by rfl) :
    PE X (.Call (.Attribute o m apos) (e :: es) [] pos) (tMe C m sp E ta t) := by
  obtain ⟨f, fd, ps, cl, me, F, b⟩ := c.ex
  refine ⟨fun pins s σ H Q I h => (pe_meth he cl me F (hr.mono hk) b .nil hx ha hst hpl ht).run pins s σ H Q I ?_⟩
  have e : tMeth C m sp [] E ta t σ H Q = tMe C m sp E ta t σ H Q := by
    unfold tMeth tMe
    congr 1
    funext x H1
    simp only [List.append_nil]
  rw [e]
  exact h
theorem pe_me {pl : Sem Bool} (c : Me X.prog X.w X.K X.mg X.base k C m sp) (hr : Room j X.A) (hk : k ≤ j) (he : PE X o ta) (ha : PA X (e :: es) t)
    (hst : starEach (e :: es) X.env = (false, eval e X.env) :: starEach es X.env := by rfl) (hpl : (backTo pos (starEach es X.env)).any (·.1) = false := by rfl)
    (ht : eval (.Call (.Attribute o m apos) (e :: es) [] pos) X.env = (do
      let ov ← eval o X.env
      standAt apos.atName
      let (f, first) ← holding [ov] (getMethod ov m pl)
      callWith pos f first (backTo pos (starEach (e :: es) X.env)) (backToKw pos (keywordEach [] X.env))) := by rfl) :
    PE X (.Call (.Attribute o m apos) (e :: es) [] pos) (tMe C m sp E0 ta t) := pe_meX c hr hk he passL ha hst hpl ht
theorem pe_me0 {pl : Sem Bool} (c : Me X.prog X.w X.K X.mg X.base k C m sp) (hr : Room j X.A) (hk : k ≤ j) (he : PE X o ta)
    (ht : eval (.Call (.Attribute o m apos) [] [] pos) X.env = (do
      let ov ← eval o X.env
      standAt apos.atName
      let (f, first) ← holding [ov] (getMethod ov m pl)
      callWith pos f first [] (backToKw pos (keywordEach [] X.env))) := by rfl) :
    PE X (.Call (.Attribute o m apos) [] [] pos) (tMe C m sp E0 ta tNil) := by
  obtain ⟨f, fd, ps, cl, me, F, b⟩ := c.ex
  exact ⟨fun pins s σ H Q I h => (pe_meth0 he cl me F (hr.mono hk) b .nil passL ht).run pins s σ H Q I h⟩
theorem pe_ma0 (c : Ma X.prog X.w X.K X.mg X.base k x C sp) (hr : Room j X.A) (hk : k + 1 ≤ j) (hg : Gl X x) (hdb : (x == ("__debug__" : Str)) = false := by decide) :
    PE X (.Call (.Name x p) [] [] pos) (tMa C sp E0 tNil) := by
  obtain ⟨f, fd, ps, M, F, hm, b⟩ := c.ex
  exact ⟨fun pins s σ H Q I h => (pe_make0 M F (hr.mono hk) hg hm b .nil passL hdb).run pins s σ H Q I h⟩
theorem pe_ma (c : Ma X.prog X.w X.K X.mg X.base k x C sp) (hr : Room j X.A) (hk : k + 1 ≤ j) (hg : Gl X x) (ha : PA X (e :: es) t)
    (hdb : (x == ("__debug__" : Str)) = false := by decide) (he : starEach (e :: es) X.env = (false, eval e X.env) :: starEach es X.env := by rfl) (hpl : (backTo pos (starEach es X.env)).any (·.1) = false := by rfl) :
    PE X (.Call (.Name x p) (e :: es) [] pos) (tMa C sp E0 t) := by
  obtain ⟨f, fd, ps, M, F, hm, b⟩ := c.ex
  refine ⟨fun pins s σ H Q I h => (pe_make M F (hr.mono hk) hg hm b .nil passL ha hdb he hpl).run pins s σ H Q I ?_⟩
  have e : tMake C sp [] E0 t σ H Q = tMa C sp E0 t σ H Q := by
    unfold tMake tMa
    simp only [List.append_nil]
  rw [e]
  exact h
end
/-- calls within a try: what is wished of an exception may speak of the slots -/
def tMeS (C : Addr) (m : Str) (sp : Sp) (E : L2.St → XK) (ta : TE) (t : TA) : TE := fun σ H Q => ta σ H fun x H1 => ∃ a dx fs, x = .ref a ∧ H1 a = some (.ins C dx fs) ∧ fs.lookup m = none ∧ t σ H1 fun vs H2 => sp (x :: vs) H2 Q (E σ)
def tCaS (sp : Sp) (E : L2.St → XK) (t : TA) : TE := fun σ H Q => t σ H fun vs H1 => sp vs H1 Q (E σ)
section
variable {X : Cx} {k j : Nat} {x m : Str} {C : Addr} {sp : Sp} {p pos apos : Pos} {e o : Expr} {es : List Expr} {t : TA} {ta : TE} {E : L2.St → XK}
theorem pe_meS {pl : Sem Bool} (c : Me X.prog X.w X.K X.mg X.base k C m sp) (hr : Room j X.A) (hk : k ≤ j) (he : PE X o ta) (hx : ∀ σ, PassesAt (L2.CX X.prog X.w) X σ (E σ)) (ha : PA X (e :: es) t)
    (hst : starEach (e :: es) X.env = (false, eval e X.env) :: starEach es X.env := by rfl) (hpl : (backTo pos (starEach es X.env)).any (·.1) = false := by rfl)
    (ht : eval (.Call (.Attribute o m apos) (e :: es) [] pos) X.env = (do
      let ov ← eval o X.env
      standAt apos.atName
      let (f, first) ← holding [ov] (getMethod ov m pl)
      callWith pos f first (backTo pos (starEach (e :: es) X.env)) (backToKw pos (keywordEach [] X.env))) := by rfl) :
    PE X (.Call (.Attribute o m apos) (e :: es) [] pos) (tMeS C m sp E ta t) := by
  obtain ⟨f, fd, ps, cl, hm, F, b⟩ := c.ex
  refine ⟨fun pins s σ H Q I h => ?_⟩
  refine PySem.W.methodCall_KW (pl := pl) (thn (he.run pins s σ H _ I h) fun u s1 ⟨x, H1, I1, rx, a, dx, fs, ex, ea, l, q⟩ => ?_) ht
  subst ex
  have rx : u = Value.ref a := rx
  subst rx
  refine getmeth_ok I1 ea cl hm l (PySem.W.callWith_K (first := [.ref a]) (h₀ := X.base) I.ok.mod.kin hm.kp (thn (ha.run pos pins s1 σ H1 _ I1 q) fun us s2 ⟨vs, H2, I2, r, q2⟩ => ⟨I2.kIn, ?_⟩) hst hpl)
  exact run_fnS (us := .ref a :: us) (vs := .ref a :: vs) F (hr.mono hk) b (hx σ) I2 (.cons rfl r) q2
theorem pe_caS (c : Ca X.prog X.w X.K X.mg X.base k x sp) (hr : Room j X.A) (hk : k ≤ j) (hg : Gl X x) (hx : ∀ σ, PassesAt (L2.CX X.prog X.w) X σ (E σ)) (ha : PA X (e :: es) t)
    (hdb : (x == ("__debug__" : Str)) = false := by decide) (he : starEach (e :: es) X.env = (false, eval e X.env) :: starEach es X.env := by rfl) (hpl : (backTo pos (starEach es X.env)).any (·.1) = false := by rfl) :
    PE X (.Call (.Name x p) (e :: es) [] pos) (tCaS sp E t) := by
  obtain ⟨f, fd, ps, F, hm, kp, b⟩ := c.ex
  exact pe_callS F (hr.mono hk) hg hm kp b hx ha hdb he hpl
end
theorem hu65 {A : Around} {k : Nat} (hr : Room k A) : A.units + 65 < cLine := by have := hr.un; omega
theorem pe_gi {X : Cx} {x : Str} {pos : Pos} {v : V} (hg : Gl X x) (h : ∃ u, X.mg x = some u ∧ RelV v u) (hd : (x == ("__debug__" : Str)) = false := by decide) : PE X (.Name x pos) (tC v) := by
  obtain ⟨u, hm, r⟩ := h
  exact pe_glob hg hm r hd

/-! ### one rule for an operator, whatever the values -/
section
variable {X : Cx}
def rAddU (K : PySem.W.Frag) : R2 := fun x y H Q => rI0 (fun i j => .int (i + j)) x y H Q ∨ rCatA K x y H Q ∨ rCat x y H Q ∨ (∃ i j, x = .str i ∧ y = .str j ∧ i.length + j.length ≤ sizeLine ∧ Q (.str (i ++ j)) H)
theorem opU_add : OpR X (binaryOp .Add) (rAddU X.K) := op_add.or (op_catA.or (op_cat.or op_add_str))
def rMulU (K : PySem.W.Frag) : R2 := fun x y H Q => rI CMul (fun i j => .int (i * j)) x y H Q ∨ rRepT K x y H Q ∨ rRep x y H Q
theorem opU_mul : OpR X (binaryOp .Mult) (rMulU X.K) := op_mul.or (op_repT.or op_rep)
def rLeU : R2 := fun x y H Q => rI0 (fun i j => .bl (decide (i ≤ j))) x y H Q ∨ (∃ i j, x = .str i ∧ y = .str j ∧ Q (.bl (!decide (j.cps.toList < i.cps.toList))) H)
theorem opU_le : OpR X (compareOp .LtE) rLeU := op_le.or op_le_str
def rLtU : R2 := rI0 (fun i j => .bl (decide (i < j)))
theorem opU_lt : OpR X (compareOp .Lt) rLtU := op_lt
def rGeU : R2 := rI0 (fun i j => .bl (decide (j ≤ i)))
theorem opU_ge : OpR X (compareOp .GtE) rGeU := op_ge
def rGtU : R2 := rI0 (fun i j => .bl (decide (j < i)))
theorem opU_gt : OpR X (compareOp .Gt) rGtU := op_gt
def rEqU (K : PySem.W.Frag) : R2 := fun x y H Q => rEq x y H Q ∨ rEqD K x y H Q
theorem opU_eq (hu : X.A.units + 64 < cLine) : OpR X (compareOp .Eq) (rEqU X.K) := op_eq.or (op_eqD hu)
def rNeU (K : PySem.W.Frag) : R2 := fun x y H Q => rNe x y H Q ∨ rNeD K x y H Q
theorem opU_ne (hu : X.A.units + 64 < cLine) : OpR X (compareOp .NotEq) (rNeU X.K) := op_ne.or (op_neD hu)
theorem opU_in_list (hu : X.A.units + 65 < cLine) : OpR X (compareOp .In) (rInD X.K) := op_inD hu
theorem opU_notin_list (hu : X.A.units + 65 < cLine) : OpR X (compareOp .NotIn) (rNotInD X.K) := op_notInD hu
theorem opU_is : OpR X (compareOp .Is) rIsB := op_isBl
theorem opU_isnot : OpR X (compareOp .IsNot) rNotB := op_notBl
theorem ixU : IxR X (rIx X.K) := ix_seq
def rSlU (K : PySem.W.Frag) : V → Option Int → Option Int → Hp → VK → Prop := fun x lo hi H Q => rSlL K x lo hi H Q ∨ rSlA K x lo hi H Q ∨ rSlS x lo hi H Q
theorem slU : SlR X (rSlU X.K) := sl_list.or (sl_tupA.or sl_str)
def rLenU (K : PySem.W.Frag) : List V → Hp → VK → Prop := fun xs H Q => ∃ x n, xs = [x] ∧ LenV K x H n ∧ Q (.int n) H
theorem lenU : CallR X (.builtin "len") (rLenU X.K) := call_len
def rListU (K : PySem.W.Frag) : List V → Hp → VK → Prop := fun xs H Q => ∃ p ys, xs = [.ref p] ∧ (SqL K H p ys ∨ SqT K H p ys) ∧ ∀ l, H l = none → Q (.ref l) (upd H l (.lst ys))
theorem listU : CallR X (.type "list") (rListU X.K) := call_list_of
def rTupleU (K : PySem.W.Frag) : List V → Hp → VK → Prop := fun xs H Q => ∃ p ys, xs = [.ref p] ∧ ((SqL K H p ys ∧ ∀ l, H l = none → Q (.ref l) (upd H l (.tup ys))) ∨ (SqT K H p ys ∧ Q (.ref p) H))
theorem tupleU : CallR X (.type "tuple") (rTupleU X.K) := call_tuple_of
def rIntU : List V → Hp → VK → Prop := fun xs H Q => (∃ i, xs = [.int i] ∧ Q (.int i) H) ∨ ∃ k, xs = [.bl k] ∧ Q (.int (if k then 1 else 0)) H
theorem intU : CallR X (.type "int") rIntU := call_int1
theorem gxOk_by {scope : Scope} (h1 : scope.isCoroutine = false := by rfl) (h2 : ∀ y ∈ scope.names, y.2 ≠ .cell := by decide +kernel) (h3 : scope.names.lookup (".0" : Str) = some NameKind.local := by decide +kernel) : GxOk scope := ⟨h1, h2, h3⟩
end

/-! ### readings, rule by rule; heaps that come are new letters -/
section
variable {K : PySem.W.Frag} {σ : L2.St} {H H1 : Hp} {Q : VK} {D : Ends} {ta tb tc te : TE} {t : TA} {ts tu : TS} {g : TG} {E : XK}
theorem rd_var {i : Nat} {v : V} (h : σ[i]? = some (some v)) (q : Q v H) : tVar i σ H Q := ⟨v, h, q⟩
theorem rd_c {v : V} (q : Q v H) : tC v σ H Q := q
theorem rd_op {r : R2} (h : ta σ H fun x H1 => tb σ H1 fun y H2 => r x y H2 Q) : tOp r ta tb σ H Q := h
theorem rd_un {r : V → Hp → VK → Prop} (h : ta σ H fun x H1 => r x H1 Q) : tUn r ta σ H Q := h
theorem rd_chain {r r' : R2} (h : ta σ H fun x H1 => tb σ H1 fun y H2 => r x y H2 fun z H3 => ∃ k, z = .bl k ∧ (if k = true then tc σ H3 fun w' H4 => r' y w' H4 Q else Q (.bl false) H3)) : tChain r r' ta tb tc σ H Q := h
theorem rd_k {P : Bool → Prop} {b : Bool} (h : P b) : ∃ k, V.bl b = V.bl k ∧ P k := ⟨b, rfl, h⟩
theorem rd_I0 {gg : Int → Int → V} {i j : Int} (q : Q (gg i j) H) : rI0 gg (.int i) (.int j) H Q := ⟨i, j, rfl, rfl, q⟩
theorem rd_I {C : Int → Int → Prop} {gg : Int → Int → V} {i j : Int} (c : C i j) (q : Q (gg i j) H) : rI C gg (.int i) (.int j) H Q := ⟨i, j, rfl, rfl, c, q⟩
theorem rd_addI {i j : Int} (q : Q (.int (i + j)) H) : rAddU K (.int i) (.int j) H Q := .inl ⟨i, j, rfl, rfl, q⟩
theorem rd_addS {i j : Str} (l : i.length + j.length ≤ sizeLine) (q : Q (.str (i ++ j)) H) : rAddU K (.str i) (.str j) H Q := .inr (.inr (.inr ⟨i, j, rfl, rfl, l, q⟩))
theorem rd_mulI {i j : Int} (c : CMul i j) (q : Q (.int (i * j)) H) : rMulU K (.int i) (.int j) H Q := .inl ⟨i, j, rfl, rfl, c, q⟩
theorem rd_leI {i j : Int} (q : Q (.bl (decide (i ≤ j))) H) : rLeU (.int i) (.int j) H Q := .inl ⟨i, j, rfl, rfl, q⟩
theorem rd_leS {i j : Str} (q : Q (.bl (!decide (j.cps.toList < i.cps.toList))) H) : rLeU (.str i) (.str j) H Q := .inr ⟨i, j, rfl, rfl, q⟩
theorem rd_ltI {i j : Int} (q : Q (.bl (decide (i < j))) H) : rLtU (.int i) (.int j) H Q := ⟨i, j, rfl, rfl, q⟩
theorem rd_geI {i j : Int} (q : Q (.bl (decide (j ≤ i))) H) : rGeU (.int i) (.int j) H Q := ⟨i, j, rfl, rfl, q⟩
theorem rd_gtI {i j : Int} (q : Q (.bl (decide (j < i))) H) : rGtU (.int i) (.int j) H Q := ⟨i, j, rfl, rfl, q⟩
theorem rd_eqI {i j : Int} (q : Q (.bl (decide (i = j))) H) : rEqU K (.int i) (.int j) H Q := .inl ⟨rfl, by
  have e : decide (V.int i = V.int j) = decide (i = j) := by simp
  rw [e]; exact q⟩
theorem rd_eqS {i j : Str} (q : Q (.bl (decide (i = j))) H) : rEqU K (.str i) (.str j) H Q := .inl ⟨rfl, by
  have e : decide (V.str i = V.str j) = decide (i = j) := by simp
  rw [e]; exact q⟩
theorem rd_eqB {i j : Bool} (q : Q (.bl (decide (i = j))) H) : rEqU K (.bl i) (.bl j) H Q := .inl ⟨rfl, by
  have e : decide (V.bl i = V.bl j) = decide (i = j) := by simp
  rw [e]; exact q⟩
theorem rd_neI {i j : Int} (q : Q (.bl (!decide (i = j))) H) : rNeU K (.int i) (.int j) H Q := .inl ⟨rfl, by
  have e : decide (V.int i = V.int j) = decide (i = j) := by simp
  rw [e]; exact q⟩
theorem rd_neS {i j : Str} (q : Q (.bl (!decide (i = j))) H) : rNeU K (.str i) (.str j) H Q := .inl ⟨rfl, by
  have e : decide (V.str i = V.str j) = decide (i = j) := by simp
  rw [e]; exact q⟩
theorem rd_isN {x : V} (q : Q (.bl (decide (x = .non))) H) : (fun x y H Q => y = V.non ∧ Q (.bl (decide (x = .non))) H : R2) x .non H Q := ⟨rfl, q⟩
theorem rd_neg {i : Int} (q : Q (.int (-i)) H) : rU (fun i => .int (-i)) (.int i) H Q := ⟨i, rfl, q⟩
theorem rd_andV (h : ta σ H fun x H1 => ∃ c, x = .bl c ∧ if c = true then tb σ H1 Q else Q (.bl false) H1) : tAndV ta tb σ H Q := h
theorem rd_orV (h : ta σ H fun x H1 => ∃ c, x = .bl c ∧ if c = true then Q (.bl true) H1 else tb σ H1 Q) : tOrV ta tb σ H Q := h
theorem rd_notV (h : ta σ H fun x H1 => ∃ c, x = .bl c ∧ Q (.bl (!c)) H1) : tNotV ta σ H Q := h
theorem rd_if {tt : TT} (h : tt σ H fun c H1 => if c = true then ta σ H1 Q else tb σ H1 Q) : tIf tt ta tb σ H Q := h
theorem rd_test {R : Bool → Hp → Prop} (h : te σ H fun x H' => ∃ k, x = .bl k ∧ R k H') : tTest te σ H R := h
theorem rd_tB {R : Bool → Hp → Prop} (h : te σ H fun x H1 => ∃ c, x = .bl c ∧ R c H1) : tB te σ H R := h
theorem rd_tand {t u : TT} {R : Bool → Hp → Prop} (h : t σ H fun c H1 => if c = true then u σ H1 R else R false H1) : tAnd t u σ H R := h
theorem rd_tor {t u : TT} {R : Bool → Hp → Prop} (h : t σ H fun c H1 => if c = true then R true H1 else u σ H1 R) : tOr t u σ H R := h
theorem rd_tnot {t : TT} {R : Bool → Hp → Prop} (h : t σ H fun c H1 => R (!c) H1) : tNot t σ H R := h
theorem rd_seq (h : ts { D with nx := tu D } σ H) : tSeq ts tu D σ H := h
theorem rd_next (h : D.nx σ H) : tNext D σ H := h
theorem rd_asg (h : te σ H fun x H1 => g x σ H1 D.nx) : tAsg te g D σ H := h
theorem rd_name {i : Nat} {v : V} {R : L2.St → Hp → Prop} (h : R (σ.set i (some v)) H) : gName i v σ H R := h
theorem rd_gsub {to ti : TE} {tset : TSet} {v : V} {R : L2.St → Hp → Prop} (h : to σ H fun o H1 => ti σ H1 fun i H2 => tset o i v H2 fun H3 => R σ H3) : gSub to ti tset v σ H R := h
theorem rd_ret (h : te σ H D.rt) : tRet te D σ H := h
theorem rd_retN (h : D.rt .non H) : tRetN D σ H := h
theorem rd_drop (h : te σ H fun _ H1 => D.nx σ H1) : tDrop te D σ H := h
theorem rd_ifS {c : TT} (h : c σ H fun b H1 => if b = true then ts D σ H1 else tu D σ H1) : tIfS c ts tu D σ H := h
theorem rd_cons {tr : TA} {R : List V → Hp → Prop} (h : ta σ H fun x H1 => tr σ H1 fun xs H2 => R (x :: xs) H2) : tCons ta tr σ H R := h
theorem rd_nil {R : List V → Hp → Prop} (h : R [] H) : tNil σ H R := h
theorem rd_ca {sp : Sp} (h : t σ H fun vs H1 => sp vs H1 Q E) : tCa sp E t σ H Q := h
theorem rd_cb {r : List V → Hp → VK → Prop} (h : t σ H fun vs H1 => r vs H1 Q) : tCB r t σ H Q := h
theorem rd_me {C : Addr} {m : Str} {sp : Sp} (h : ta σ H fun x H1 => ∃ a dx fs, x = .ref a ∧ H1 a = some (.ins C dx fs) ∧ fs.lookup m = none ∧ t σ H1 fun vs H2 => sp (x :: vs) H2 Q E) : tMe C m sp E ta t σ H Q := h
theorem rd_me2 {C : Addr} {m : Str} {a dx : Addr} {fs : List (Str × V)} {R : Prop} (h : H a = some (.ins C dx fs)) (l : fs.lookup m = none) (q : R) : ∃ a' dx fs, V.ref a = .ref a' ∧ H a' = some (.ins C dx fs) ∧ fs.lookup m = none ∧ R := ⟨a, dx, fs, rfl, h, l, q⟩
theorem rd_meS {C : Addr} {m : Str} {sp : Sp} {E : L2.St → XK} (h : ta σ H fun x H1 => ∃ a dx fs, x = .ref a ∧ H1 a = some (.ins C dx fs) ∧ fs.lookup m = none ∧ t σ H1 fun vs H2 => sp (x :: vs) H2 Q (E σ)) : tMeS C m sp E ta t σ H Q := h
theorem rd_caS {sp : Sp} {E : L2.St → XK} (h : t σ H fun vs H1 => sp vs H1 Q (E σ)) : tCaS sp E t σ H Q := h
/-- what follows when a new thing is laid, folded -/
def kMa (C : Addr) (sp : Sp) (E : XK) (Q : VK) : List V → Hp → Prop := fun vs H1 => ∀ x dx, H1 x = none → H1 dx = none → dx ≠ x → sp (.ref x :: vs) (upd (upd H1 dx (.own x)) x (.ins C dx [])) (fun v H2 => v = .non ∧ Q (.ref x) H2) E
def kTup (Q : VK) : List V → Hp → Prop := fun xs H1 => xs.length ≤ sizeLine ∧ ∀ p, H1 p = none → Q (.ref p) (upd H1 p (.tup xs))
def kLst (Q : VK) : List V → Hp → Prop := fun xs H1 => xs.length ≤ sizeLine ∧ ∀ p, H1 p = none → Q (.ref p) (upd H1 p (.lst xs))
theorem rd_ma {C : Addr} {sp : Sp} (h : t σ H (kMa C sp E Q)) : tMa C sp E t σ H Q := h
theorem rd_kMa {C : Addr} {sp : Sp} {vs : List V} (h : ∀ x dx H2, H1 x = none → H1 dx = none → H2 x = some (.ins C dx []) → Fr [] H1 H2 → sp (.ref x :: vs) H2 (fun v H3 => v = .non ∧ Q (.ref x) H3) E) : kMa C sp E Q vs H1 := fun x dx h1 h2 h3 =>
  h x dx _ h1 h2 upd_same ((Fr.lay (ch := []) h2).snoc (Fr.lay (ch := []) (by rw [upd_ne (Ne.symm h3)]; exact h1)) fun _ z => absurd z (by simp))
theorem rd_tup (h : t σ H (kTup Q)) : tTup t σ H Q := h
theorem rd_lst (h : t σ H (kLst Q)) : tLst t σ H Q := h
theorem rd_kTup {xs : List V} (hl : xs.length ≤ sizeLine) (h : ∀ p H2, H1 p = none → H2 p = some (.tup xs) → Fr [] H1 H2 → Q (.ref p) H2) : kTup Q xs H1 := ⟨hl, fun p hp => h p _ hp upd_same (Fr.lay hp)⟩
theorem rd_kLst {xs : List V} (hl : xs.length ≤ sizeLine) (h : ∀ p H2, H1 p = none → H2 p = some (.lst xs) → Fr [] H1 H2 → Q (.ref p) H2) : kLst Q xs H1 := ⟨hl, fun p hp => h p _ hp upd_same (Fr.lay hp)⟩
theorem rd_new {o : HO} {P : V → Hp → Prop} (h : ∀ p H2, H1 p = none → H2 p = some o → Fr [] H1 H2 → P (.ref p) H2) : ∀ p, H1 p = none → P (.ref p) (upd H1 p o) :=
  fun p hp => h p _ hp upd_same (Fr.lay hp)
theorem rd_dT (h : ∀ p H2, H p = none → H2 p = some (.dT []) → Fr [] H H2 → Q (.ref p) H2) : tDNewT σ H Q := rd_new (P := Q) h
theorem rd_dK (h : ∀ p H2, H p = none → H2 p = some (.dK []) → Fr [] H H2 → Q (.ref p) H2) : tDNewK σ H Q := rd_new (P := Q) h
theorem rd_fld {f : Str} (h : ta σ H fun x H1 => ∃ a C dx fs v, x = .ref a ∧ H1 a = some (.ins C dx fs) ∧ Cls K C ∧ NoAttr K C f ∧ fs.lookup f = some v ∧ Q v H1) : tFld K ta f σ H Q := h
theorem rd_fld2 {f : Str} {a C dx : Addr} {fs : List (Str × V)} {v : V} (h : H a = some (.ins C dx fs)) (c : Cls K C) (n : NoAttr K C f) (l : fs.lookup f = some v) (q : Q v H) :
    ∃ a' C dx fs v, V.ref a = .ref a' ∧ H a' = some (.ins C dx fs) ∧ Cls K C ∧ NoAttr K C f ∧ fs.lookup f = some v ∧ Q v H := ⟨a, C, dx, fs, v, rfl, h, c, n, l, q⟩
theorem rd_sfld {f : Str} {tv : TE} (h : tv σ H fun y H1 => ta σ H1 fun x H2 => ∃ a C dx fs, x = .ref a ∧ H2 a = some (.ins C dx fs) ∧ Cls K C ∧ NoAttr K C f ∧ fs.length < 1000 ∧ D.nx σ (upd H2 a (.ins C dx (putF f y fs)))) : sFld K ta tv f D σ H := h
theorem rd_sfld2 {f : Str} {a C dx : Addr} {fs : List (Str × V)} {y : V} {P : Hp → Prop} (h : H a = some (.ins C dx fs)) (c : Cls K C) (n : NoAttr K C f) (l : fs.length < 1000)
    (q : ∀ H2, H2 a = some (.ins C dx (putF f y fs)) → Fr [a] H H2 → P H2) : ∃ a' C dx fs, V.ref a = .ref a' ∧ H a' = some (.ins C dx fs) ∧ Cls K C ∧ NoAttr K C f ∧ fs.length < 1000 ∧ P (upd H a' (.ins C dx (putF f y fs))) :=
  ⟨a, C, dx, fs, rfl, h, c, n, l, q _ upd_same (Fr.put h trivial List.mem_cons_self)⟩
theorem rd_sfaug {f : Str} {tv : TE} {rd : V → V → Hp → VK → Prop} (h : ta σ H fun x H1 => ∃ a C dx fs v, x = .ref a ∧ H1 a = some (.ins C dx fs) ∧ Cls K C ∧ NoAttr K C f ∧ fs.lookup f = some v ∧
    tv σ H1 fun y H2 => rd v y H2 fun z H3 => ∃ dx' fs', H3 a = some (.ins C dx' fs') ∧ fs'.length < 1000 ∧ D.nx σ (upd H3 a (.ins C dx' (putF f z fs')))) : sFldAug K ta tv rd f D σ H := h
theorem rd_sfaug2 {f : Str} {a C dx : Addr} {fs : List (Str × V)} {v : V} {R : Addr → Addr → Addr → V → Prop} (h : H a = some (.ins C dx fs)) (c : Cls K C) (n : NoAttr K C f) (l : fs.lookup f = some v) (q : R a C dx v) :
    ∃ a' C dx fs v, V.ref a = .ref a' ∧ H a' = some (.ins C dx fs) ∧ Cls K C ∧ NoAttr K C f ∧ fs.lookup f = some v ∧ R a' C dx v := ⟨a, C, dx, fs, v, rfl, h, c, n, l, q⟩
theorem rd_sfaug3 {f : Str} {a C dx : Addr} {fs : List (Str × V)} {z : V} {P : Hp → Prop} (h : H a = some (.ins C dx fs)) (l : fs.length < 1000) (q : ∀ H2, H2 a = some (.ins C dx (putF f z fs)) → Fr [a] H H2 → P H2) :
    ∃ dx' fs', H a = some (.ins C dx' fs') ∧ fs'.length < 1000 ∧ P (upd H a (.ins C dx' (putF f z fs'))) := ⟨dx, fs, h, l, q _ upd_same (Fr.put h trivial List.mem_cons_self)⟩
theorem rd_inadd {i j : Int} (q : Q (.int (i + j)) H) : rAdd (.int i) (.int j) H Q := ⟨i, j, rfl, rfl, q⟩
theorem rd_bm {T : String} {r : V → List V → Hp → VK → Prop} {to : TE} (h : to σ H fun x H1 => tyV K T x H1 ∧ t σ H1 fun xs H2 => r x xs H2 Q) : tBM K T r to t σ H Q := h
theorem rd_bm0 {T : String} {r : V → List V → Hp → VK → Prop} {to : TE} (h : to σ H fun x H1 => tyV K T x H1 ∧ r x [] H1 Q) : tBM0 K T r to σ H Q := h
theorem rd_tyL {p : Addr} {xs : List V} {R : Prop} (h : SqL K H p xs) (q : R) : tyV K "list" (.ref p) H ∧ R := ⟨.inl ⟨rfl, xs, h⟩, q⟩
theorem rd_app {l : Addr} {xs : List V} {y : V} (h : H l = some (.lst xs)) (n : xs.length < sizeLine) (q : ∀ H2, H2 l = some (.lst (xs ++ [y])) → Fr [l] H H2 → Q .non H2) : rAppend (.ref l) [y] H Q :=
  ⟨l, xs, y, rfl, rfl, h, n, q _ upd_same (Fr.put h trivial List.mem_cons_self)⟩
theorem rd_pop0 {l : Addr} {x : V} {xs : List V} (h : H l = some (.lst (x :: xs))) (q : ∀ H2, H2 l = some (.lst xs) → Fr [l] H H2 → Q x H2) : rPopAt (.ref l) [.int 0] H Q :=
  ⟨l, x :: xs, 0, 0, x, rfl, rfl, h, by decide, by decide, by simp [seqIndex?], rfl, q _ upd_same (Fr.put h trivial List.mem_cons_self)⟩
theorem rd_setL {p : Addr} {xs : List V} {k : Int} {j : Nat} {v : V} {P : Hp → Prop} (h : H p = some (.lst xs)) (hj : ixN xs.length k = some j) (q : ∀ H2, H2 p = some (.lst (xs.set j v)) → Fr [p] H H2 → P H2) : rSetL (.ref p) (.int k) v H P :=
  ⟨p, xs, k, j, rfl, rfl, h, hj, q _ upd_same (Fr.put h trivial List.mem_cons_self)⟩
theorem rd_ixL {p : Addr} {xs : List V} {i : Int} {v : V} (h : SqL K H p xs) (e : atI xs i = some v) (q : Q v H) : rIx K (.ref p) (.int i) H Q := .inl ⟨p, xs, i, v, rfl, rfl, h, e, q⟩
theorem rd_ixT {p : Addr} {xs : List V} {i : Int} {v : V} (h : SqT K H p xs) (e : atI xs i = some v) (q : Q v H) : rIx K (.ref p) (.int i) H Q := .inr (.inl ⟨p, xs, i, v, rfl, rfl, h, e, q⟩)
theorem rd_lenS {x : Str} (h : x.length ≤ sizeLine) (q : Q (.int x.length) H) : rLenU K [.str x] H Q := ⟨_, _, rfl, ⟨h, rfl⟩, q⟩
theorem rd_lenL {p : Addr} {xs : List V} (h : SqL K H p xs) (q : Q (.int xs.length) H) : rLenU K [.ref p] H Q := ⟨_, _, rfl, .inl ⟨xs, h, rfl⟩, q⟩
theorem rd_lenT {p : Addr} {xs : List V} (h : SqT K H p xs) (q : Q (.int xs.length) H) : rLenU K [.ref p] H Q := ⟨_, _, rfl, .inr ⟨xs, h, rfl⟩, q⟩
theorem rd_listL {p : Addr} {ys : List V} (h : SqL K H p ys) (q : ∀ l H2, H l = none → H2 l = some (.lst ys) → Fr [] H H2 → Q (.ref l) H2) : rListU K [.ref p] H Q := ⟨p, ys, rfl, .inl h, rd_new q⟩
theorem rd_listT {p : Addr} {ys : List V} (h : SqT K H p ys) (q : ∀ l H2, H l = none → H2 l = some (.lst ys) → Fr [] H H2 → Q (.ref l) H2) : rListU K [.ref p] H Q := ⟨p, ys, rfl, .inr h, rd_new q⟩
theorem rd_tupL {p : Addr} {ys : List V} (h : SqL K H p ys) (q : ∀ l H2, H l = none → H2 l = some (.tup ys) → Fr [] H H2 → Q (.ref l) H2) : rTupleU K [.ref p] H Q := ⟨p, ys, rfl, .inl ⟨h, rd_new q⟩⟩
theorem rd_int {i : Int} (q : Q (.int i) H) : rIntU [.int i] H Q := .inl ⟨i, rfl, q⟩
theorem rd_isi {v : V} {d : Ow.D} {T : String} {b : Bool} (h : Im H v d) (e : kitB (tyD d) T = some b) (q : Q (.bl b) H) : rIsi K [v, .ty T] H Q := ⟨v, .ty T, _, _, b, rfl, .ty T, h.ty, kit_ty e, q⟩
theorem rd_iteT {A B : Prop} (h : A) : if true = true then A else B := by simpa using h
theorem rd_iteF {A B : Prop} (h : B) : if false = true then A else B := by simpa using h
theorem rd_not {A B : Prop} (h : B) : if (!true) = true then A else B := by simpa using h
theorem rd_nof {A B : Prop} (h : A) : if (!false) = true then A else B := by simpa using h
theorem rd_ite {p : Prop} [Decidable p] {A B : Prop} (h1 : p → A) (h2 : ¬ p → B) : if decide p = true then A else B := by
  by_cases h : p
  · simpa [h] using h1 h
  · simpa [h] using h2 h
theorem rd_iteN {p : Prop} [Decidable p] {A B : Prop} (h1 : ¬ p → A) (h2 : p → B) : if (!decide p) = true then A else B := by
  by_cases h : p
  · simpa [h] using h2 h
  · simpa [h] using h1 h
theorem rd_iteB {b : Bool} {A B : Prop} (h1 : b = true → A) (h2 : b = false → B) : if b = true then A else B := by
  cases b with
  | true => simpa using h1 rfl
  | false => simpa using h2 rfl
theorem rd_iteNB {b : Bool} {A B : Prop} (h1 : b = false → A) (h2 : b = true → B) : if (!b) = true then A else B := by
  cases b with
  | true => simpa using h2 rfl
  | false => simpa using h1 rfl
end

/-! ### all(.. for ..) over n items that stay -/
section
variable {K : PySem.W.Frag} {σ : L2.St} {H : Hp} {Q : VK} {te : TE} {g : TG} {vs : List Nat}
theorem gx_run {J : It} {P : Addr} {n : Nat} (item : Nat → V → Prop) (pb : Nat → Bool) (hT : TabG H P) (stop : ∀ H', Fr [] H H' → J.stop n H') (go : ∀ i H', i < n → Fr [] H H' → J.go i H')
    (yld : ∀ i H' x H'', i < n → Fr [] H H' → J.yld i H' x H'' → H'' = H' ∧ item i x)
    (step : ∀ i x H' (R : VK), i < n → item i x → Fr [] H H' → (∀ H3, Fr [] H H3 → R (.bl (pb i)) H3) → g x (wipe σ vs) H' fun σ2 H2 => wipe σ2 vs = wipe σ vs ∧ te σ2 H2 R)
    (yes : (∀ i, i < n → pb i = true) → ∀ H', Fr [] H H' → Q (.bl true) H') (no : ∀ i, i < n → pb i = false → ∀ H', Fr [] H H' → Q (.bl false) H') :
    TabG H P ∧ ∀ H2, Tabbed P H H2 → ∃ W : Nat → Nat → Hp → Prop, (∃ m, W 0 m H2) ∧ gxTurns J g te (wipe σ vs) vs (Q (.bl true)) (Q (.bl false)) W := by
  refine ⟨hT, fun H2 ht => ⟨fun i m H' => m = n - i ∧ i ≤ n ∧ Fr [] H H' ∧ ∀ j, j < i → pb j = true, ⟨n, by simp, Nat.zero_le _, Fr.tabbed hT ht, fun j hj => absurd hj (Nat.not_lt_zero _)⟩, ?_⟩⟩
  rintro i m H' ⟨rfl, hi, f, hp⟩
  by_cases hlt : i < n
  · refine .inr ⟨go i H' hlt f, fun H'' => Fr [] H H'' ∧ pb i = true, fun H'' ⟨f', hb⟩ => ⟨n - (i + 1), by omega, rfl, hlt, f', fun j hj => ?_⟩, fun x H'' y => ?_⟩
    · by_cases e : j = i
      · rw [e]; exact hb
      · exact hp j (by omega)
    · obtain ⟨e, hx⟩ := yld i H' x H'' hlt f y
      subst e
      exact step i x H'' _ hlt hx f fun H4 f4 => ⟨pb i, rfl, fun hb => ⟨f4, hb⟩, fun hb => no i hlt hb H4 f4⟩
  · have e : i = n := by omega
    subst e
    exact .inl ⟨stop H' f, yes (fun j hj => hp j hj) H' f⟩

def gxBody (P : Addr) (g : TG) (te : TE) (vs : List Nat) (σ : L2.St) (Q : VK) : It → Hp → Prop := fun J H1 => TabG H1 P ∧ ∀ H2, Tabbed P H1 H2 → ∃ W : Nat → Nat → Hp → Prop, (∃ m, W 0 m H2) ∧ gxTurns J g te (wipe σ vs) vs (Q (.bl true)) (Q (.bl false)) W
theorem rd_allG {P : Addr} {wi : TI} (h : wi σ H (gxBody P g te vs σ Q)) : tAllG P wi g te vs σ H Q := h
theorem rd_iStr {R : It → Hp → Prop} {ta : TE} (h : ta σ H fun v H1 => ∃ x, v = .str x ∧ R (Its x) H1) : iStr ta σ H R := h
theorem rd_iStr2 {R : It → Hp → Prop} {x : Str} (h : R (Its x) H) : ∃ y, V.str x = .str y ∧ R (Its y) H := ⟨x, rfl, h⟩
theorem rd_iTup {R : It → Hp → Prop} {ta : TE} (h : ta σ H fun x H1 => ∃ a, x = .ref a ∧ (∃ xs, SqT K H1 a xs) ∧ R (Itt K a) H1) : iTup K ta σ H R := h
theorem rd_iTup2 {R : It → Hp → Prop} {a : Addr} {xs : List V} (k : SqT K H a xs) (h : R (Itt K a) H) : ∃ b, V.ref a = .ref b ∧ (∃ xs, SqT K H b xs) ∧ R (Itt K b) H := ⟨a, rfl, ⟨xs, k⟩, h⟩
theorem gx_str {P : Addr} {x : Str} (pb : Nat → Bool) (hT : TabG H P)
    (step : ∀ c H' (R : VK), Fr [] H H' → (∀ H3, Fr [] H H3 → R (.bl (pb c)) H3) → g (.str ⟨#[c]⟩) (wipe σ vs) H' fun σ2 H2 => wipe σ2 vs = wipe σ vs ∧ te σ2 H2 R)
    (fin : ∀ H', Fr [] H H' → Q (.bl (x.cps.toList.all pb)) H') : gxBody P g te vs σ Q (Its x) H := by
  have hn : x.cps.size = x.cps.toList.length := by simp

  refine gx_run (n := x.cps.size) (fun i v => ∃ c, x.cps[i]? = some c ∧ v = .str ⟨#[c]⟩) (fun i => match x.cps[i]? with | some c => pb c | none => false) hT (fun _ _ => Nat.le_refl _) (fun _ _ h _ => h) (fun i H' y H'' _ _ h => h) ?_ ?_ ?_
  · rintro i v H' R hi ⟨c, hc, rfl⟩ f k
    refine step c H' R f fun H3 f3 => ?_
    have := k H3 f3
    simp only [hc] at this
    exact this
  · intro hall H' f
    have e : x.cps.toList.all pb = true := List.all_eq_true.mpr fun c hc => by
      obtain ⟨j, hj, e⟩ := List.getElem_of_mem hc
      have hj' : j < x.cps.size := by omega
      have h1 : x.cps[j]? = some c := by rw [Array.getElem?_eq_getElem hj']; simpa using e
      have := hall j hj'
      simpa only [h1] using this
    have := fin H' f
    rw [e] at this
    exact this
  · intro i hi hb H' f
    have h1 : x.cps[i]? = some x.cps[i] := Array.getElem?_eq_getElem hi
    simp only [h1] at hb
    have e : x.cps.toList.all pb = false := by
      rw [List.all_eq_false]
      exact ⟨x.cps[i], by simp, by simp [hb]⟩
    have := fin H' f
    rw [e] at this
    exact this
theorem gx_tup {P a : Addr} {xs : List V} {ds : List D} (pb : D → Bool) (hT : TabG H P) (hx : H a = some (.tup xs)) (hd : ImAll H xs ds)
    (step : ∀ v d H' (R : VK), Im H' v d → Fr [] H H' → (∀ H3, Fr [] H H3 → R (.bl (pb d)) H3) → g v (wipe σ vs) H' fun σ2 H2 => wipe σ2 vs = wipe σ vs ∧ te σ2 H2 R)
    (fin : ∀ H', Fr [] H H' → Q (.bl (ds.all pb)) H') : gxBody P g te vs σ Q (Itt K a) H := by
  have hl := hd.length
  refine gx_run (n := xs.length) (fun i v => xs[i]? = some v) (fun i => match ds[i]? with | some d => pb d | none => false) hT (fun H' f => ⟨xs, f.seqT (SqT.of hx), Nat.le_refl _⟩) (fun i H' h f => ⟨xs, xs[i], f.seqT (SqT.of hx), List.getElem?_eq_getElem h⟩) (fun i H' y H'' _ f h => ⟨h.1, h.2 xs (f.seqT (SqT.of hx))⟩) ?_ ?_ ?_
  · intro i v H' R hi hv f k
    obtain ⟨d, hd1, hd2⟩ := hd.get hv
    refine step v d H' R (hd2.go f) f fun H3 f3 => ?_
    have := k H3 f3
    simp only [hd1] at this
    exact this
  · intro hall H' f
    have e : ds.all pb = true := List.all_eq_true.mpr fun c hc => by
      obtain ⟨j, hj, e⟩ := List.getElem_of_mem hc
      have h1 : ds[j]? = some c := by rw [List.getElem?_eq_getElem hj, e]
      have := hall j (by omega)
      simpa only [h1] using this
    have := fin H' f
    rw [e] at this
    exact this
  · intro i hi hb H' f
    have hi' : i < ds.length := by omega
    have h1 : ds[i]? = some ds[i] := List.getElem?_eq_getElem hi'
    simp only [h1] at hb
    have e : ds.all pb = false := by
      rw [List.all_eq_false]
      exact ⟨ds[i], by simp, by simp [hb]⟩
    have := fin H' f
    rw [e] at this
    exact this
end
end Ow

set_option Elab.async false
set_option linter.all false
set_option maxRecDepth 100000
set_option maxHeartbeats 4000000
namespace Ow
open PySem PySem.Spec PyProof.Rows L2 GxR
/-! ### text * int -/
def repS (z : Str) (k : Int) : Str := ⟨(List.replicate k.toNat z.cps).foldl (· ++ ·) #[]⟩
def rRepS : R2 := fun x y H Q => ∃ z k, x = .str z ∧ y = .int k ∧ 2 ≤ k ∧ k ≤ 1000 ∧ 1 ≤ z.length ∧ z.length ≤ 1000 ∧ Q (.str (repS z k)) H
theorem op_repS {X : Cx} : OpR X (binaryOp .Mult) rRepS := by
  intro pins s σ H x y v u Q I rx ry h
  obtain ⟨z, k, rfl, rfl, h1, h2, h3, h4, q⟩ := h
  obtain ⟨t, rfl⟩ := rx
  obtain ⟨t', rfl⟩ := ry
  have c : (k == 1 || z.length == 0) = false := by
    have e1 : (k == 1) = false := beq_eq_false_iff_ne.mpr (by omega)
    have e2 : (z.length == 0) = false := beq_eq_false_iff_ne.mpr (by omega)
    rw [e1, e2]; rfl
  have hm : z.length * k.toNat ≤ 1000 * 1000 := Nat.mul_le_mul h4 (by omega)
  refine PySem.P.mul_str ?_ (fun _ _ => ?_) (fun _ _ => ?_) ?_
  · rw [decide_eq_false (by omega), decide_eq_false (by omega)]; rfl
  · have : (1000 : Int) ≤ (2 ^ 63 - 1) / k := by
      rw [Int.le_ediv_iff_mul_le (by omega)]
      omega
    omega
  · unfold Builtin.Str.tooLong
    rw [sizeLine_eq]
    exact decide_eq_false (by omega)
  · rw [if_neg (by omega), if_neg (by rw [c]; exact Bool.false_ne_true)]
    have hlen : (repS z k).length ≤ sizeLine := by
      have e : ∀ (n : Nat) (acc : Array Nat), ((List.replicate n z.cps).foldl (· ++ ·) acc).size = acc.size + n * z.length := by
        intro n
        induction n with
        | zero => intro acc; simp
        | succ n ih =>
          intro acc
          rw [List.replicate_succ, List.foldl_cons, ih, Array.size_append, Nat.succ_mul]
          show acc.size + z.length + n * z.length = _
          omega
      show ((List.replicate k.toNat z.cps).foldl (· ++ ·) #[]).size ≤ _
      rw [e, sizeLine_eq]
      have : k.toNat * z.length = z.length * k.toNat := Nat.mul_comm _ _
      simp
      omega
    exact ⟨hlen, .str (repS z k), H, I.tok _, ⟨_, rfl⟩, q⟩
/-- * of any -/
def rMulV (K : PySem.W.Frag) : R2 := fun x y H Q => rMulU K x y H Q ∨ rRepS x y H Q
theorem opV_mul {X : Cx} : OpR X (binaryOp .Mult) (rMulV X.K) := opU_mul.or op_repS
section
variable {K : PySem.W.Frag} {σ : L2.St} {H H1 : Hp} {Q : VK} {D : Ends} {ta tb tc te : TE} {t : TA} {ts tu tb' : TS} {g : TG} {E : XK} {wi : TI} {tt : TT}
theorem rv_mulI {i j : Int} (c : CMul i j) (q : Q (.int (i * j)) H) : rMulV K (.int i) (.int j) H Q := .inl (rd_mulI c q)
theorem rv_mulS {z : Str} {k : Int} (h : 2 ≤ k ∧ k ≤ 1000 ∧ 1 ≤ z.length ∧ z.length ≤ 1000) (q : Q (.str (repS z k)) H) : rMulV K (.str z) (.int k) H Q := .inr ⟨z, k, rfl, rfl, h.1, h.2.1, h.2.2.1, h.2.2.2, q⟩
theorem rv_mulT {p : Addr} {xs : List V} {k : Int} (h : SqT K H p xs) (h2 : xs ≠ [] ∧ 2 ≤ k ∧ k ≤ 1000 ∧ xs.length ≤ 1000) (q : ∀ p2 H2, H p2 = none → H2 p2 = some (.tup (List.replicate k.toNat xs).flatten) → Fr [] H H2 → Q (.ref p2) H2) : rMulV K (.ref p) (.int k) H Q :=
  .inl (.inr (.inl ⟨p, k, xs, rfl, rfl, h, h2.1, h2.2.1, h2.2.2.1, h2.2.2.2, rd_new (P := Q) q⟩))

theorem rd_subI {i j : Int} (q : Q (.int (i - j)) H) : rI0 (fun i j => .int (i - j)) (.int i) (.int j) H Q := ⟨i, j, rfl, rfl, q⟩
theorem cdivW_of {i m : Int} (h0 : 0 < m) (h : m < 1000000000000000000) : CDivW i m := ⟨h0, by
  have : m.natAbs < 2 ^ 60 := by omega
  have := (Nat.log2_lt (by omega)).mpr this
  omega⟩
theorem Fr.seqL {ch : List Addr} {K : PySem.W.Frag} {H H' : Hp} (f : Fr ch H H') {a : Addr} {xs : List V} (hc : a ∉ ch) (h : SqL K H a xs) : SqL K H' a xs := by
  rcases h with (h | ⟨o, h⟩) | h
  · exact .inl (.inl (f.lst h rfl hc))
  · exact .inl (.inr ⟨o, f.frz _ _ _ h⟩)
  · exact .inr h
theorem rd_nn {R : Prop} (q : R) : V.non = V.non ∧ R := ⟨rfl, q⟩
/-! ### loops -/
def kF (g : TG) (tb : TS) (D : Ends) (σ : L2.St) : It → Hp → Prop := fun J H1 => ∃ W : Nat → Nat → L2.St → Hp → Prop, (∃ m, W 0 m σ H1) ∧ ∀ i m σ H, W i m σ H →
  (J.stop i H ∧ D.nx σ H) ∨ (J.go i H ∧ ∃ N : L2.St → Hp → Prop, (∀ σ' H', N σ' H' → ∃ m', m' < m ∧ W (i + 1) m' σ' H') ∧ ∀ x H', J.yld i H x H' → g x σ H' fun σ2 H2 => tb { D with nx := N, ct := N, bk := D.nx } σ2 H2)
theorem rd_for (h : wi σ H (kF g tb' D σ)) : tFor wi g tb' D σ H := h
theorem kF_range {lo : Int} {n : Nat} (Pv : Nat → L2.St → Hp → Prop) (h0 : Pv 0 σ H)
    (hs : ∀ i σ H, i < n → Pv i σ H → g (.int (lo + i)) σ H fun σ2 H2 => tb' { D with nx := Pv (i + 1), ct := Pv (i + 1), bk := D.nx } σ2 H2) (hd : ∀ σ H, Pv n σ H → D.nx σ H) : kF g tb' D σ (Itr lo n) H := for_range Pv h0 hs hd
theorem rd_rng1 {R : It → Hp → Prop} (h : t σ H fun vs H1 => ∃ j : Int, vs = [.int j] ∧ -(2 ^ 62) ≤ j ∧ j < 2 ^ 62 ∧ R (Itr 0 j.toNat) H1) : iRng1 t σ H R := h
theorem rd_rng1b {R : It → Hp → Prop} {j : Int} (h : -(2 ^ 62) ≤ j ∧ j < 2 ^ 62) (q : R (Itr 0 j.toNat) H) : ∃ i : Int, [V.int j] = [.int i] ∧ -(2 ^ 62) ≤ i ∧ i < 2 ^ 62 ∧ R (Itr 0 i.toNat) H := ⟨j, rfl, h.1, h.2, q⟩
/-! ### list comprehensions over ranges, without a condition -/
def kLc (g : TG) (tt : TT) (te : TE) (vs : List Nat) (σ : L2.St) (Q : VK) : It → Hp → Prop := fun J H1 => ∀ D, H1 D = none → ∃ W : Nat → Nat → Hp → Prop, (∃ m, W 0 m (upd H1 D (.lst []))) ∧ ∀ i m H, W i m H →
  (J.stop i H ∧ Q (.ref D) H) ∨ (J.go i H ∧ ∃ Nx : Hp → Prop, (∀ H', Nx H' → ∃ m', m' < m ∧ W (i + 1) m' H') ∧ ∀ x H', J.yld i H x H' → g x (wipe σ vs) H' fun σ2 H2 => wipe σ2 vs = wipe σ vs ∧ tt σ2 H2 fun b H3 =>
    if b = true then te σ2 H3 fun y H4 => ∃ acc, H4 D = some (.lst acc) ∧ acc.length < sizeLine ∧ Nx (upd H4 D (.lst (acc ++ [y]))) else Nx H3)
theorem rd_lc {vs : List Nat} (h : wi σ H (kLc g tt te vs σ Q)) : tLc wi g tt te vs σ H Q := h
/-- I: what holds of the list so far and the heap -/
theorem kLc_range {lo : Int} {n : Nat} {vs : List Nat} (I : Addr → Nat → List V → Hp → Prop) (h0 : ∀ D H2, H1 D = none → H2 D = some (.lst []) → Fr [] H1 H2 → I D 0 [] H2)
    (hs : ∀ D i acc H (R : V → Hp → Prop), H1 D = none → i < n → H D = some (.lst acc) → I D i acc H → (∀ y H4, H4 D = some (.lst acc) → acc.length < sizeLine → (∀ H5, H5 D = some (.lst (acc ++ [y])) → Fr [D] H4 H5 → I D (i + 1) (acc ++ [y]) H5) → R y H4) →
      g (.int (lo + i)) (wipe σ vs) H fun σ2 H2 => wipe σ2 vs = wipe σ vs ∧ tt σ2 H2 fun b H3 => if b = true then te σ2 H3 R else False)
    (hd : ∀ D acc H, H1 D = none → H D = some (.lst acc) → I D n acc H → Q (.ref D) H)
    (mono : ∀ x σ2 H2 (R R' : L2.St → Hp → Prop), (∀ σ H, R σ H → R' σ H) → g x σ2 H2 R → g x σ2 H2 R')
    (mtt : ∀ σ2 H2 (R R' : Bool → Hp → Prop), (∀ b H, R b H → R' b H) → tt σ2 H2 R → tt σ2 H2 R') : kLc g tt te vs σ Q (Itr lo n) H1 := fun D hD => by
  refine lc_range (fun i H => ∃ acc, H D = some (.lst acc) ∧ I D i acc H) ⟨[], upd_same, h0 D _ hD upd_same (Fr.lay hD)⟩ (fun i H hi ⟨acc, ha, hI⟩ => ?_) (fun H ⟨acc, ha, hI⟩ => hd D acc H hD ha hI)
  have h := hs D i acc H (fun y H4 => ∃ acc, H4 D = some (.lst acc) ∧ acc.length < sizeLine ∧ ∃ acc', (upd H4 D (.lst (acc ++ [y]))) D = some (.lst acc') ∧ I D (i + 1) acc' (upd H4 D (.lst (acc ++ [y])))) hD hi ha hI
    (fun y H4 h4 hl k => ⟨acc, h4, hl, acc ++ [y], upd_same, k _ upd_same (Fr.put h4 trivial List.mem_cons_self)⟩)
  refine mono _ _ _ _ _ (fun σ2 H2 z => ⟨z.1, mtt _ _ _ _ (fun b H3 q => ?_) z.2⟩) h
  cases b with
  | true => simpa using q
  | false => exact absurd q (by simp)
end
end Ow

set_option Elab.async false
set_option linter.all false
set_option maxRecDepth 100000
set_option maxHeartbeats 4000000
namespace Ow
open PySem PySem.Spec PyProof.Rows L2 GxR
section
variable {K : PySem.W.Frag} {σ : L2.St} {H H1 : Hp} {Q : VK} {ta te : TE} {t : TA} {g : TG} {tt : TT} {vs : List Nat}
/-- a comprehension, whatever it walks over; I: what holds of the list so far and the heap -/
theorem kLc_run {J : It} {n : Nat} (item : Nat → V → Prop) (I : Addr → Nat → List V → Hp → Prop) (h0 : ∀ D H2, H1 D = none → H2 D = some (.lst []) → Fr [] H1 H2 → I D 0 [] H2)
    (hJ : ∀ D i acc H, H1 D = none → i ≤ n → H D = some (.lst acc) → I D i acc H → (i < n → J.go i H) ∧ (i = n → J.stop i H) ∧ ∀ x H', i < n → J.yld i H x H' → H' = H ∧ item i x)
    (hs : ∀ D i acc H x (R : V → Hp → Prop) (Rn : Hp → Prop), H1 D = none → i < n → H D = some (.lst acc) → I D i acc H → item i x →
      (∀ y H4, H4 D = some (.lst acc) → acc.length < sizeLine → (∀ H5, H5 D = some (.lst (acc ++ [y])) → Fr [D] H4 H5 → I D (i + 1) (acc ++ [y]) H5) → R y H4) → (∀ H4, H4 D = some (.lst acc) → I D (i + 1) acc H4 → Rn H4) →
      g x (wipe σ vs) H fun σ2 H2 => wipe σ2 vs = wipe σ vs ∧ tt σ2 H2 fun b H3 => if b = true then te σ2 H3 R else Rn H3)
    (hd : ∀ D acc H, H1 D = none → H D = some (.lst acc) → I D n acc H → Q (.ref D) H) : kLc g tt te vs σ Q J H1 := fun D hD => by
  refine ⟨fun i m H => m = n - i ∧ i ≤ n ∧ ∃ acc, H D = some (.lst acc) ∧ I D i acc H, ⟨n, by simp, Nat.zero_le _, [], upd_same, h0 D _ hD upd_same (Fr.lay hD)⟩, ?_⟩
  rintro i m H ⟨rfl, hi, acc, ha, hI⟩
  obtain ⟨a1, a2, a3⟩ := hJ D i acc H hD hi ha hI
  by_cases hlt : i < n
  · refine .inr ⟨a1 hlt, fun H' => ∃ acc', H' D = some (.lst acc') ∧ I D (i + 1) acc' H', fun H' ⟨acc', x1, x2⟩ => ⟨n - (i + 1), by omega, rfl, hlt, acc', x1, x2⟩, fun x H' y => ?_⟩
    obtain ⟨e, hx⟩ := a3 x H' hlt y
    subst e
    exact hs D i acc _ x _ _ hD hlt ha hI hx (fun y H4 h4 hl k => ⟨acc, h4, hl, acc ++ [y], upd_same, k _ upd_same (Fr.put h4 trivial List.mem_cons_self)⟩) fun H3 h3 k => ⟨acc, h3, k⟩
  · have e : i = n := by omega
    subst e
    exact .inl ⟨a2 rfl, hd D acc H hD ha hI⟩
theorem itt_J {K : PySem.W.Frag} {a : Addr} {xs : List V} {H : Hp} {i : Nat} (h : SqT K H a xs) (hi : i ≤ xs.length) : (i < xs.length → (Itt K a).go i H) ∧ (i = xs.length → (Itt K a).stop i H) ∧ ∀ x H', i < xs.length → (Itt K a).yld i H x H' → H' = H ∧ xs[i]? = some x :=
  ⟨fun z => ⟨xs, xs[i], h, List.getElem?_eq_getElem z⟩, fun z => ⟨xs, h, by omega⟩, fun x H' _ y => ⟨y.1, y.2 xs h⟩⟩
theorem its_J {x : Str} {H : Hp} {i : Nat} (hi : i ≤ x.cps.size) : (i < x.cps.size → (Its x).go i H) ∧ (i = x.cps.size → (Its x).stop i H) ∧ ∀ v H', i < x.cps.size → (Its x).yld i H v H' → H' = H ∧ ∃ c, x.cps[i]? = some c ∧ v = .str ⟨#[c]⟩ :=
  ⟨fun z => z, fun z => by show x.cps.size ≤ i; omega, fun v H' _ y => y⟩
theorem itr_J {n : Nat} {H : Hp} {i : Nat} (hi : i ≤ n) : (i < n → (Itr 0 n).go i H) ∧ (i = n → (Itr 0 n).stop i H) ∧ ∀ v H', i < n → (Itr 0 n).yld i H v H' → H' = H ∧ v = .int ((0 : Int) + (i : Nat)) :=
  ⟨fun z => z, fun z => by show n ≤ i; omega, fun v H' _ y => y⟩
theorem rd_ixS {z : Str} {i : Int} {c : Nat} (l : z.length ≤ sizeLine) (e : atI z.cps.toList i = some c) (q : Q (.str ⟨#[c]⟩) H) : rIx K (.str z) (.int i) H Q := .inr (.inr ⟨z, i, c, rfl, rfl, l, e, q⟩)
theorem rd_join {to : TE} (h : to σ H fun x H1 => (∃ a, x = .str a) ∧ ta σ H1 fun y H2 => ∃ a p, ∃ ys : List Str, x = .str a ∧ [y] = [.ref p] ∧ (SqL K H2 p (ys.map V.str) ∨ SqT K H2 p (ys.map V.str)) ∧ (ys.map (·.length)).sum + ys.length * a.length ≤ 16777216 ∧ Q (.str (Txt.join a ys)) H2) :
    tM1 (fun x xs H Q => ∃ a p, ∃ ys : List Str, x = .str a ∧ xs = [.ref p] ∧ (SqL K H p (ys.map V.str) ∨ SqT K H p (ys.map V.str)) ∧ (ys.map (·.length)).sum + ys.length * a.length ≤ 16777216 ∧ Q (.str (Txt.join a ys)) H) to ta σ H Q := h
theorem rd_jS {x : Str} {R : Prop} (q : R) : (∃ a, V.str x = .str a) ∧ R := ⟨⟨x, rfl⟩, q⟩
theorem rd_jL {K : PySem.W.Frag} {p : Addr} {a : Str} {ys : List Str} (h : SqL K H p (ys.map V.str)) (l : (ys.map (·.length)).sum + ys.length * a.length ≤ 16777216) (q : Q (.str (Txt.join a ys)) H) :
    ∃ a' p', ∃ ys' : List Str, V.str a = .str a' ∧ [V.ref p] = [.ref p'] ∧ (SqL K H p' (ys'.map V.str) ∨ SqT K H p' (ys'.map V.str)) ∧ (ys'.map (·.length)).sum + ys'.length * a'.length ≤ 16777216 ∧ Q (.str (Txt.join a' ys')) H := ⟨a, p, ys, rfl, rfl, .inl h, l, q⟩
theorem len_app (a b : Str) : (a ++ b).length = a.length + b.length := Array.size_append
theorem join_len : ∀ (ys : List Str), (∀ y ∈ ys, y.length = 1) → (Txt.join "" ys).length = ys.length := by
  intro ys h
  rw [TL.join_eq]
  induction ys with
  | nil => rfl
  | cons y ys ih =>
    have h1 := h y List.mem_cons_self
    have h2 := ih fun z hz => h z (List.mem_cons_of_mem _ hz)
    cases ys with
    | nil =>
      rw [Str.join.eq_2, h1]; rfl
    | cons z zs =>
      rw [Str.join.eq_3 ("" : Str) y (z :: zs) (by intro e; cases e), len_app, len_app, h1, h2]
      show 1 + 0 + _ = _
      simp
      omega
theorem sum_one : ∀ (ys : List Str), (∀ y ∈ ys, y.length = 1) → (ys.map (·.length)).sum = ys.length
  | [], _ => rfl
  | y :: ys, h => by
    rw [List.map_cons, List.sum_cons, h y List.mem_cons_self, sum_one ys fun z hz => h z (List.mem_cons_of_mem _ hz), List.length_cons]
    omega
theorem rd_allL {p : Addr} {bs : List Bool} (h : SqL K H p (bs.map V.bl)) (q : Q (.bl (bs.all id)) H) : rAll K [.ref p] H Q := ⟨p, bs, rfl, h, q⟩
theorem yes_of2 {P : Hp → Prop} {R : VK} (h : te σ H R) : tYes σ H fun b H3 => if b = true then te σ H3 R else P H3 := by
  show (if true = true then te σ H R else P H)
  simpa using h
theorem take_next {α : Type} {l : List α} {i : Nat} {x : α} (h : l[i]? = some x) : l.take (i + 1) = l.take i ++ [x] := by
  rw [List.take_add_one, h]; rfl
end
end Ow

set_option Elab.async false
set_option linter.all false
set_option maxRecDepth 100000
set_option maxHeartbeats 4000000
namespace Sd
open PySem PySem.Spec PyProof.Rows L2 GxR

/-! ### data: tuples are values; what may change stands at an address -/
inductive D where
  | non | bl (b : Bool) | int (i : Int) | str (x : Str) | tup (ds : List D) | ctup (ds : List D) | ref (a : Addr) | scr | ty (n : String)
  deriving Inhabited
/-- what stands at an address -/
inductive O where
  | lst (ds : List D) | dK (kvs : List (Key × D)) | dT (kvs : List (List Key × D)) | ins (C : Addr) (nm : List Str) (ds : List D)
  | fK (kvs : List (Key × D)) | fT (kvs : List (List Key × D))
  | box (c : Addr) | cells
abbrev Sto := Addr → Option O
def sup (S : Sto) (a : Addr) (o : O) : Sto := fun b => if b = a then some o else S b
theorem sup_same {S : Sto} {a : Addr} {o : O} : sup S a o a = some o := by unfold sup; rw [if_pos rfl]
theorem sup_ne {S : Sto} {a b : Addr} {o : O} (h : b ≠ a) : sup S a o b = S b := by unfold sup; rw [if_neg h]
theorem sup_sup {S : Sto} {a : Addr} {o u : O} : sup (sup S a o) a u = sup S a u := by funext b; unfold sup; split <;> rfl
theorem sup_comm {S : Sto} {a b : Addr} {o u : O} (h : a ≠ b) : sup (sup S a o) b u = sup (sup S b u) a o := by
  funext c
  unfold sup
  by_cases h1 : c = b
  · by_cases h2 : c = a
    · exact absurd (h2.symm.trans h1) h
    · simp [h1, Ne.symm h]
  · by_cases h2 : c = a
    · simp [h2, h]
    · simp [h1, h2]
theorem sup_id {S : Sto} {a : Addr} {o : O} (h : S a = some o) : sup S a o = S := by
  funext b; unfold sup; split
  · rename_i e; rw [e, h]
  · rfl
theorem sne {S : Sto} {a b : Addr} {o : O} (h : S a = some o) (h' : S b = none) : a ≠ b := by
  intro e; subst e; rw [h] at h'; cases h'

/-- what is fixed through a law: the written part, the tables, the script -/
structure Gm where
  K : PySem.W.Frag
  tabs : List Addr
  scr : Addr
  ns : List Int

/-- a text of a size that all rules take -/
def okS (x : Str) : Prop := x.length ≤ 1000000 ∧ PyData.strOk x = true
mutual
inductive Im (G : Gm) (H : Hp) : V → D → Prop
  | non : Im G H .non .non
  | bl (b : Bool) : Im G H (.bl b) (.bl b)
  | int (i : Int) : Im G H (.int i) (.int i)
  | str (x : Str) (h : okS x) : Im G H (.str x) (.str x)
  | tup {a : Addr} {xs : List V} {ds : List D} : H a = some (.tup xs) → ImAll G H xs ds → Im G H (.ref a) (.tup ds)
  | ctup {a : Addr} {xs : List V} {ds : List D} {o : Obj} : (∀ H1, SqT G.K H1 a xs) → G.K.lookup a = some o → o.cls = .type "tuple" → o.dict = none → ImAll G H xs ds → Im G H (.ref a) (.ctup ds)
  | ref (a : Addr) : Im G H (.ref a) (.ref a)
  | scr : Im G H (.ref G.scr) .scr
  | ty (n : String) : Im G H (.ty n) (.ty n)
inductive ImAll (G : Gm) (H : Hp) : List V → List D → Prop
  | nil : ImAll G H [] []
  | cons {v : V} {vs : List V} {d : D} {ds : List D} : Im G H v d → ImAll G H vs ds → ImAll G H (v :: vs) (d :: ds)
end
/-- pairs: the same keys, values that are the data -/
inductive KvAll (G : Gm) (H : Hp) {κ : Type} : List (κ × V) → List (κ × D) → Prop
  | nil : KvAll G H [] []
  | cons {k : κ} {v : V} {d : D} {r : List (κ × V)} {s : List (κ × D)} : Im G H v d → KvAll G H r s → KvAll G H ((k, v) :: r) ((k, d) :: s)

def nt : HO → Bool
  | .tbl _ => false
  | _ => true

/-- what the store says of the heap -/
def RO (G : Gm) (S : Sto) (H : Hp) (a : Addr) : O → Prop
  | .lst ds => ∃ xs, H a = some (.lst xs) ∧ ImAll G H xs ds
  | .dK kvs => ∃ ks, H a = some (.dK ks) ∧ KvAll G H ks kvs
  | .dT kvs => ∃ ks, H a = some (.dT ks) ∧ KvAll G H ks kvs
  | .ins C nm ds => ∃ dx gs, H a = some (.ins C dx gs) ∧ KvAll G H gs (nm.zip ds) ∧ ds.length ≤ nm.length ∧ nm.length ≤ 999
  | .fK kvs => ∃ o ks, H a = some (.frz o (.dK ks)) ∧ KvAll G H ks kvs
  | .fT kvs => ∃ o ks, H a = some (.frz o (.dT ks)) ∧ KvAll G H ks kvs
  | .box c => ∃ v1 v2 nd, H a = some (.lst [.ref c, .int v1, .int v2, nd]) ∧ S c = some .cells ∧ c ≠ a
  | .cells => ∃ ns : List Int, H a = some (.lst (ns.map V.int))

/-- a list of the store -/
def atL (S : Sto) (a : Addr) (k : List D → Prop) : Prop := match S a with | some (.lst ds) => k ds | _ => False
theorem atL_of {S : Sto} {a : Addr} {k : List D → Prop} (h : atL S a k) : ∃ ds, S a = some (.lst ds) ∧ k ds := by
  unfold atL at h
  split at h
  · exact ⟨_, by assumption, h⟩
  · exact h.elim
theorem atL_to {S : Sto} {a : Addr} {k : List D → Prop} {ds : List D} (h : S a = some (.lst ds)) (q : k ds) : atL S a k := by unfold atL; rw [h]; exact q
/-- an instance of the store -/
def atO (S : Sto) (a : Addr) (C : Addr) (nm : List Str) (k : List D → Prop) : Prop := match S a with | some (.ins C' nm' ds) => C' = C ∧ nm' = nm ∧ k ds | _ => False
theorem atO_of {S : Sto} {a C : Addr} {nm : List Str} {k : List D → Prop} (h : atO S a C nm k) : ∃ ds, S a = some (.ins C nm ds) ∧ k ds := by
  unfold atO at h
  split at h
  · obtain ⟨rfl, rfl, h⟩ := h
    exact ⟨_, by assumption, h⟩
  · exact h.elim
theorem atO_to {S : Sto} {a C : Addr} {nm : List Str} {k : List D → Prop} {ds : List D} (h : S a = some (.ins C nm ds)) (q : k ds) : atO S a C nm k := by unfold atO; rw [h]; exact ⟨rfl, rfl, q⟩
def asRef (x : D) (k : Addr → Prop) : Prop := match x with | .ref a => k a | _ => False
theorem asRef_of {x : D} {k : Addr → Prop} (h : asRef x k) : ∃ a, x = .ref a ∧ k a := by
  cases x <;> first | exact ⟨_, rfl, h⟩ | exact h.elim
/-- the place of a name -/
structure FIx (nm : List Str) (f : Str) (i : Nat) : Prop where
  at_ : nm[i]? = some f
  no : f ∉ nm.take i

/-- how a heap grows: what was tracked stands -/
structure Ext (H H' : Hp) : Prop where
  keep : ∀ a o, H a = some o → nt o = true → H' a = some o
  tab : ∀ P, TabG H P → TabG H' P
  there : ∀ a, H a ≠ none → H' a ≠ none
/-- tuples stand -/
def Tu (H H' : Hp) : Prop := ∀ a xs, H a = some (.tup xs) → H' a = some (.tup xs)
theorem Ext.tu {H H' : Hp} (e : Ext H H') : Tu H H' := fun a xs h => e.keep a _ h rfl

section
variable {G : Gm} {S S' : Sto} {H H' : Hp}
mutual
theorem Im.tu (t : Tu H H') : ∀ (d : D) (v : V), Im G H v d → Im G H' v d
  | .non, _, h => by cases h; exact .non
  | .bl b, _, h => by cases h; exact .bl b
  | .int i, _, h => by cases h; exact .int i
  | .str x, _, h => by
    cases h with
    | str _ hl => exact .str x hl
  | .tup ds, _, h => by
    cases h with
    | tup e ha => exact .tup (t _ _ e) (ImAll.tu t ds _ ha)
  | .ctup ds, _, h => by
    cases h with
    | ctup e k1 k2 k3 ha => exact .ctup e k1 k2 k3 (ImAll.tu t ds _ ha)
  | .ref a, _, h => by cases h; exact .ref a
  | .scr, _, h => by cases h; exact .scr
  | .ty n, _, h => by cases h; exact .ty n
theorem ImAll.tu (t : Tu H H') : ∀ (ds : List D) (vs : List V), ImAll G H vs ds → ImAll G H' vs ds
  | [], _, h => by cases h; exact .nil
  | d :: ds, _, h => by
    cases h with
    | cons h1 h2 => exact .cons (Im.tu t d _ h1) (ImAll.tu t ds _ h2)
end
theorem Im.go {v : V} {d : D} (h : Im G H v d) (t : Tu H H') : Im G H' v d := Im.tu t d v h
theorem ImAll.go {vs : List V} {ds : List D} (h : ImAll G H vs ds) (t : Tu H H') : ImAll G H' vs ds := ImAll.tu t ds vs h
theorem KvAll.go {κ : Type} {r : List (κ × V)} {s : List (κ × D)} (h : KvAll G H r s) (t : Tu H H') : KvAll G H' r s := by
  induction h with
  | nil => exact .nil
  | cons h _ ih => exact .cons (h.go t) ih
theorem ImAll.length : ∀ {vs : List V} {ds : List D}, ImAll G H vs ds → vs.length = ds.length
  | _, _, .nil => rfl
  | _, _, .cons _ h => by rw [List.length_cons, List.length_cons, ImAll.length h]
theorem ImAll.get : ∀ {vs : List V} {ds : List D}, ImAll G H vs ds → ∀ {i : Nat} {v : V}, vs[i]? = some v → ∃ d, ds[i]? = some d ∧ Im G H v d
  | _, _, .nil, i, v, e => by simp at e
  | _, _, .cons h _, 0, v, e => by simp at e; subst e; exact ⟨_, rfl, h⟩
  | _, _, .cons _ h, i + 1, v, e => by
    obtain ⟨d, h1, h2⟩ := ImAll.get h (i := i) (v := v) (by simpa using e)
    exact ⟨d, by simpa using h1, h2⟩
theorem ImAll.getD {vs : List V} {ds : List D} (h : ImAll G H vs ds) {i : Nat} {d : D} (e : ds[i]? = some d) : ∃ v, vs[i]? = some v ∧ Im G H v d := by
  have hl := h.length
  obtain ⟨hi, _⟩ := List.getElem?_eq_some_iff.mp e
  have hv : vs[i]? = some vs[i] := List.getElem?_eq_getElem (by omega)
  obtain ⟨d', h1, h2⟩ := h.get hv
  rw [e] at h1
  cases h1
  exact ⟨_, hv, h2⟩
theorem ImAll.append : ∀ {vs ws : List V} {ds es : List D}, ImAll G H vs ds → ImAll G H ws es → ImAll G H (vs ++ ws) (ds ++ es)
  | _, _, _, _, .nil, h => h
  | _, _, _, _, .cons h k, h2 => .cons h (ImAll.append k h2)
theorem ImAll.take : ∀ {vs : List V} {ds : List D} (n : Nat), ImAll G H vs ds → ImAll G H (vs.take n) (ds.take n)
  | _, _, 0, _ => .nil
  | _, _, n + 1, .nil => .nil
  | _, _, n + 1, .cons h k => .cons h (ImAll.take n k)
theorem ImAll.drop : ∀ {vs : List V} {ds : List D} (n : Nat), ImAll G H vs ds → ImAll G H (vs.drop n) (ds.drop n)
  | _, _, 0, h => h
  | _, _, n + 1, .nil => .nil
  | _, _, n + 1, .cons _ k => ImAll.drop n k
theorem ImAll.set : ∀ {vs : List V} {ds : List D} (i : Nat) {v : V} {d : D}, ImAll G H vs ds → Im G H v d → ImAll G H (vs.set i v) (ds.set i d)
  | _, _, _, _, _, .nil, _ => .nil
  | _, _, 0, _, _, .cons _ t, h => .cons h t
  | _, _, i + 1, _, _, .cons q t, h => .cons q (ImAll.set i t h)
theorem ImAll.snoc {vs : List V} {ds : List D} {v : V} {d : D} (h : ImAll G H vs ds) (k : Im G H v d) : ImAll G H (vs ++ [v]) (ds ++ [d]) := h.append (.cons k .nil)
theorem ImAll.ints (ns : List Int) : ImAll G H (ns.map V.int) (ns.map D.int) := by
  induction ns with
  | nil => exact .nil
  | cons n ns ih => exact .cons (.int n) ih
theorem ImAll.reverse {vs : List V} {ds : List D} (h : ImAll G H vs ds) : ImAll G H vs.reverse ds.reverse := by
  have gen : ∀ {vs : List V} {ds : List D}, ImAll G H vs ds → ∀ {ws es}, ImAll G H ws es → ImAll G H (vs.reverseAux ws) (ds.reverseAux es) := by
    intro vs ds h
    induction vs generalizing ds with
    | nil => intro ws es k; cases h; exact k
    | cons v vs ih =>
      intro ws es k
      cases h with
      | cons h1 h2 => exact ih h2 (.cons h1 k)
  exact gen h .nil
theorem ImAll.rep {v : V} {d : D} (h : Im G H v d) : ∀ n, ImAll G H (List.replicate n v) (List.replicate n d)
  | 0 => .nil
  | n + 1 => by rw [List.replicate_succ, List.replicate_succ]; exact .cons h (ImAll.rep h n)
theorem ImAll.repL {vs : List V} {ds : List D} (h : ImAll G H vs ds) : ∀ n, ImAll G H (List.replicate n vs).flatten (List.replicate n ds).flatten
  | 0 => .nil
  | n + 1 => by rw [List.replicate_succ, List.replicate_succ, List.flatten_cons, List.flatten_cons]; exact h.append (ImAll.repL h n)
theorem KvAll.keys {κ : Type} {r : List (κ × V)} {s : List (κ × D)} (h : KvAll G H r s) : r.map (·.1) = s.map (·.1) := by
  induction h with
  | nil => rfl
  | cons _ _ ih => simp [ih]
theorem KvAll.length {κ : Type} {r : List (κ × V)} {s : List (κ × D)} (h : KvAll G H r s) : r.length = s.length := by
  have := congrArg List.length h.keys
  simpa using this

/-- the store is held -/
structure Sim (G : Gm) (S : Sto) (H : Hp) : Prop where
  ob : ∀ a o, S a = some o → RO G S H a o
  tab : ∀ P ∈ G.tabs, TabG H P
  scr : (S G.scr = none ∧ Rd H G.scr (.lst (G.ns.map V.int))) ∨ ∀ H1, SqL G.K H1 G.scr (G.ns.map V.int)

/-- from one state to a later one: what the store does not name stands -/
structure Up (S S' : Sto) (H H' : Hp) : Prop where
  keep : ∀ a o, H a = some o → nt o = true → S a = none → H' a = some o
  dom : ∀ a, S a = none → H a ≠ none → S' a = none
  there : ∀ a, H a ≠ none → H' a ≠ none
theorem Up.refl : Up S S H H := ⟨fun _ _ h _ _ => h, fun _ h _ => h, fun _ h => h⟩
theorem Up.trans {S S1 S2 : Sto} {H H1 H2 : Hp} (u : Up S S1 H H1) (v : Up S1 S2 H1 H2) : Up S S2 H H2 :=
  ⟨fun a o h n z => v.keep a o (u.keep a o h n z) n (u.dom a z (by rw [h]; simp)), fun a z h => v.dom a (u.dom a z h) (u.there a h), fun a h => v.there a (u.there a h)⟩

/-- the kind of a tracked thing is none of these -/
theorem Sim.has (s : Sim G S H) {a : Addr} {o : O} (h : S a = some o) : ∃ u, H a = some u ∧ nt u = true ∧ ∀ xs, u ≠ .tup xs := by
  have r := s.ob a o h
  cases o with
  | lst ds => obtain ⟨_, e, _⟩ := r; exact ⟨_, e, rfl, fun _ z => by cases z⟩
  | dK ds => obtain ⟨_, e, _⟩ := r; exact ⟨_, e, rfl, fun _ z => by cases z⟩
  | dT ds => obtain ⟨_, e, _⟩ := r; exact ⟨_, e, rfl, fun _ z => by cases z⟩
  | ins C nm fs => obtain ⟨_, _, e, _⟩ := r; exact ⟨_, e, rfl, fun _ z => by cases z⟩
  | fK ds => obtain ⟨_, _, e, _⟩ := r; exact ⟨_, e, rfl, fun _ z => by cases z⟩
  | fT ds => obtain ⟨_, _, e, _⟩ := r; exact ⟨_, e, rfl, fun _ z => by cases z⟩
  | box c => obtain ⟨_, _, _, e, _⟩ := r; exact ⟨_, e, rfl, fun _ z => by cases z⟩
  | cells => obtain ⟨_, e⟩ := r; exact ⟨_, e, rfl, fun _ z => by cases z⟩
theorem Sim.free (s : Sim G S H) {a : Addr} (h : H a = none) : S a = none := by
  cases q : S a with
  | none => rfl
  | some o =>
    obtain ⟨u, e, _⟩ := s.has q
    rw [h] at e; cases e
theorem Sim.notup (s : Sim G S H) {a : Addr} {xs : List V} (h : H a = some (.tup xs)) : S a = none := by
  cases q : S a with
  | none => rfl
  | some o =>
    obtain ⟨u, e, _, n⟩ := s.has q
    rw [h] at e; cases e
    exact absurd rfl (n xs)
theorem Up.tu (s : Sim G S H) (u : Up S S' H H') : Tu H H' := fun a xs h => u.keep a _ h rfl (s.notup h)
theorem Up.of_ext (e : Ext H H') : Up S S H H' := ⟨fun a o h n _ => e.keep a o h n, fun _ h _ => h, e.there⟩
theorem Ext.refl : Ext H H := ⟨fun _ _ h _ => h, fun _ h => h, fun _ h => h⟩
theorem Ext.lay {p : Addr} {o : HO} (h : H p = none) : Ext H (upd H p o) :=
  ⟨fun a u e _ => by rw [upd_ne (ne_of_none e h)]; exact e, fun P ⟨ps, e, t⟩ => ⟨ps, by rw [upd_ne (ne_of_none e h)]; exact e, t⟩, fun a z => by
    by_cases e : a = p
    · rw [e, upd_same]; simp
    · rw [upd_ne e]; exact z⟩
theorem Ext.tabbed {P : Addr} (h : TabG H P) (t : Tabbed P H H') : Ext H H' := by
  obtain ⟨ps, e, tr⟩ := h
  obtain ⟨⟨ps', e', tr'⟩, k⟩ := t
  refine ⟨fun a o h n => ?_, fun Q hQ => ?_, fun a z => ?_⟩
  · rw [k a (fun z => by rw [z, e] at h; cases h; cases n)]; exact h
  · by_cases z : Q = P
    · exact ⟨ps', by rw [z]; exact e', tr'⟩
    · obtain ⟨qs, e2, t2⟩ := hQ
      exact ⟨qs, by rw [k Q z]; exact e2, t2⟩
  · by_cases y : a = P
    · rw [y, e']; simp
    · rw [k a y]; exact z
/-- a tracked thing's word, where it and the tuples stand -/
theorem RO.go {a : Addr} {o : O} (r : RO G S H a o) (he : ∀ u, H a = some u → nt u = true → H' a = some u) (t : Tu H H') (hc : ∀ c, S c = some .cells → S' c = some .cells) : RO G S' H' a o := by
  cases o with
  | lst ds => obtain ⟨xs, e, i⟩ := r; exact ⟨xs, he _ e rfl, i.go t⟩
  | dK ds => obtain ⟨xs, e, i⟩ := r; exact ⟨xs, he _ e rfl, i.go t⟩
  | dT ds => obtain ⟨xs, e, i⟩ := r; exact ⟨xs, he _ e rfl, i.go t⟩
  | ins C nm fs => obtain ⟨dx, gs, e, i, l⟩ := r; exact ⟨dx, gs, he _ e rfl, i.go t, l⟩
  | fK ds => obtain ⟨o, xs, e, i⟩ := r; exact ⟨o, xs, he _ e rfl, i.go t⟩
  | fT ds => obtain ⟨o, xs, e, i⟩ := r; exact ⟨o, xs, he _ e rfl, i.go t⟩
  | box c => obtain ⟨v1, v2, nd, e, i, n⟩ := r; exact ⟨v1, v2, nd, he _ e rfl, hc c i, n⟩
  | cells => obtain ⟨ns, e⟩ := r; exact ⟨ns, he _ e rfl⟩
theorem Sim.ext (s : Sim G S H) (e : Ext H H') : Sim G S H' := by
  refine ⟨fun a o h => (s.ob a o h).go (fun u hu n => e.keep a u hu n) e.tu fun _ z => z, fun P hP => e.tab P (s.tab P hP), ?_⟩
  rcases s.scr with ⟨h1, h2⟩ | h
  · refine .inl ⟨h1, ?_⟩
    rcases h2 with h2 | ⟨o, h2⟩
    · exact .inl (e.keep _ _ h2 rfl)
    · exact .inr ⟨o, e.keep _ _ h2 rfl⟩
  · exact .inr h
/-- a new thing -/
theorem Sim.lay {p : Addr} {o : O} {ho : HO} (s : Sim G S H) (hp : H p = none) (r : RO G (sup S p o) (upd H p ho) p o) : Sim G (sup S p o) (upd H p ho) ∧ Up S (sup S p o) H (upd H p ho) := by
  have e := Ext.lay (o := ho) hp
  have s2 := s.ext e
  have hS := s.free hp
  have hc : ∀ c, S c = some .cells → (sup S p o) c = some .cells := fun c z => by rw [sup_ne (sne z hS)]; exact z
  refine ⟨⟨fun a u h => ?_, s2.tab, ?_⟩, ⟨fun a u h n _ => e.keep a u h n, fun a h z => ?_, e.there⟩⟩
  · by_cases y : a = p
    · subst y
      rw [sup_same] at h
      cases h
      exact r
    · rw [sup_ne y] at h
      exact (s2.ob a u h).go (fun _ z _ => z) (fun _ _ z => z) hc
  · rcases s.scr with ⟨h1, h2⟩ | h
    · have np : G.scr ≠ p := by
        rcases h2 with h2 | ⟨o, h2⟩ <;> exact ne_of_none h2 hp
      refine .inl ⟨by rw [sup_ne np]; exact h1, ?_⟩
      rcases h2 with h2 | ⟨o, h2⟩
      · exact .inl (by rw [upd_ne np]; exact h2)
      · exact .inr ⟨o, by rw [upd_ne np]; exact h2⟩
    · exact .inr h
  · rw [sup_ne (fun y => z (by rw [y]; exact hp))]; exact h
/-- a thing that changes -/
theorem Sim.put {a : Addr} {o0 o : O} {ho : HO} (s : Sim G S H) (h0 : S a = some o0) (hn : o0 ≠ .cells) (hno : nt ho = true) (r : RO G (sup S a o) (upd H a ho) a o) : Sim G (sup S a o) (upd H a ho) ∧ Up S (sup S a o) H (upd H a ho) := by
  obtain ⟨u0, e0, n0, nt0⟩ := s.has h0
  have hc : ∀ c, S c = some .cells → (sup S a o) c = some .cells := fun c z => by rw [sup_ne (fun y => by rw [y, h0] at z; exact hn (Option.some.inj z))]; exact z
  have t : Tu H (upd H a ho) := fun b xs h => by rw [upd_ne (fun y => by rw [y, e0] at h; exact nt0 xs (Option.some.inj h))]; exact h
  refine ⟨⟨fun b u h => ?_, fun P hP => ?_, ?_⟩, ⟨fun b u h n z => ?_, fun b h z => ?_, fun b z => ?_⟩⟩
  · by_cases y : b = a
    · subst y
      rw [sup_same] at h
      cases h
      exact r
    · rw [sup_ne y] at h
      exact (s.ob b u h).go (fun _ z _ => by rw [upd_ne y]; exact z) t hc
  · obtain ⟨ps, e, tr⟩ := s.tab P hP
    exact ⟨ps, by rw [upd_ne (fun y => by rw [y, e0] at e; cases e; cases n0)]; exact e, tr⟩
  · rcases s.scr with ⟨h1, h2⟩ | h
    · have np : G.scr ≠ a := Ne.symm (sne h0 h1)
      refine .inl ⟨by rw [sup_ne np]; exact h1, ?_⟩
      rcases h2 with h2 | ⟨o, h2⟩
      · exact .inl (by rw [upd_ne np]; exact h2)
      · exact .inr ⟨o, by rw [upd_ne np]; exact h2⟩
    · exact .inr h
  · rw [upd_ne (Ne.symm (sne h0 z))]; exact h
  · rw [sup_ne (Ne.symm (sne h0 h))]; exact h
  · by_cases y : b = a
    · rw [y, upd_same]; simp
    · rw [upd_ne y]; exact z
end

/-! ### where one stands -/
abbrev DV := List (Option D)
/-- the slots -/
structure Sl (G : Gm) (H : Hp) (σ : L2.St) (δ : DV) : Prop where
  len : σ.length = δ.length
  at_ : ∀ (i : Nat) (d : D), δ[i]? = some (some d) → ∃ v, σ[i]? = some (some v) ∧ Im G H v d
theorem Sl.go {G : Gm} {H H' : Hp} {σ : L2.St} {δ : DV} (h : Sl G H σ δ) (t : Tu H H') : Sl G H' σ δ := ⟨h.len, fun i d e => by obtain ⟨v, h1, h2⟩ := h.at_ i d e; exact ⟨v, h1, h2.go t⟩⟩
theorem Sl.set {G : Gm} {H : Hp} {σ : L2.St} {δ : DV} (h : Sl G H σ δ) (i : Nat) {v : V} {d : D} (k : Im G H v d) : Sl G H (σ.set i (some v)) (δ.set i (some d)) := by
  refine ⟨by rw [List.length_set, List.length_set]; exact h.len, fun j e hj => ?_⟩
  rw [List.getElem?_set] at hj ⊢
  by_cases y : i = j
  · subst y
    rw [if_pos rfl] at hj ⊢
    have hl := h.len
    by_cases z : i < δ.length
    · rw [if_pos z] at hj
      rw [if_pos (by omega)]
      cases hj
      exact ⟨v, rfl, k⟩
    · rw [if_neg z] at hj; cases hj
  · rw [if_neg y] at hj ⊢
    exact h.at_ j e hj
/-- the state at a def's entry -/
structure En where
  S : Sto
  H : Hp
structure Rel (G : Gm) (N : En) (σ : L2.St) (δ : DV) (S : Sto) (H : Hp) : Prop where
  sl : Sl G H σ δ
  sim : Sim G S H
  up : Up N.S S N.H H
section
variable {G : Gm} {N : En} {σ : L2.St} {δ : DV} {S S' : Sto} {H H' : Hp}
theorem Rel.go (r : Rel G N σ δ S H) (s : Sim G S' H') (u : Up S S' H H') : Rel G N σ δ S' H' := ⟨r.sl.go (u.tu r.sim), s, r.up.trans u⟩
theorem Rel.set (r : Rel G N σ δ S H) (i : Nat) {v : V} {d : D} (k : Im G H v d) : Rel G N (σ.set i (some v)) (δ.set i (some d)) S H := ⟨r.sl.set i k, r.sim, r.up⟩
end
end Sd

set_option Elab.async false
set_option linter.all false
set_option maxRecDepth 100000
set_option maxHeartbeats 4000000
namespace Sd
open PySem PySem.Spec PyProof.Rows L2 GxR

abbrev DK := D → Sto → Prop
abbrev DE := DV → Sto → DK → Prop
abbrev DT := DV → Sto → (Bool → Sto → Prop) → Prop
abbrev DA := DV → Sto → (List D → Sto → Prop) → Prop
structure DN where
  nx : DV → Sto → Prop
  rt : DK
  bk : DV → Sto → Prop := fun _ _ => False
  ct : DV → Sto → Prop := fun _ _ => False
abbrev DS := DN → DV → Sto → Prop
/-- an operator by values -/
abbrev B2 := D → D → Sto → DK → Prop
abbrev B1 := D → Sto → DK → Prop
abbrev BL := List D → Sto → DK → Prop
/-- a def: arguments, store, what follows, what is raised (class, fields of the error) -/
abbrev XD := Addr → List (Str × D) → Sto → Prop
abbrev WF := List D → Sto → DK → XD → Prop

section
variable (G : Gm) (N : En)
def SE (t : TE) (f : DE) : Prop := ∀ (σ : L2.St) (δ : DV) (H : Hp) (S : Sto) (Q : DK) (R : VK), Rel G N σ δ S H → f δ S Q → (∀ v d H' S', Im G H' v d → Rel G N σ δ S' H' → Up S S' H H' → Q d S' → R v H') → t σ H R
def ST (t : TT) (f : DT) : Prop := ∀ (σ : L2.St) (δ : DV) (H : Hp) (S : Sto) (Q : Bool → Sto → Prop) (R : Bool → Hp → Prop), Rel G N σ δ S H → f δ S Q → (∀ b H' S', Rel G N σ δ S' H' → Up S S' H H' → Q b S' → R b H') → t σ H R
def SA (t : TA) (f : DA) : Prop := ∀ (σ : L2.St) (δ : DV) (H : Hp) (S : Sto) (Q : List D → Sto → Prop) (R : List V → Hp → Prop), Rel G N σ δ S H → f δ S Q → (∀ vs ds H' S', ImAll G H' vs ds → Rel G N σ δ S' H' → Up S S' H H' → Q ds S' → R vs H') → t σ H R
/-- what must be shown behind a statement -/
structure EOk (S : Sto) (H : Hp) (D : DN) (E : Ends) : Prop where
  nx : ∀ σ δ H' S', Rel G N σ δ S' H' → Up S S' H H' → D.nx δ S' → E.nx σ H'
  bk : ∀ σ δ H' S', Rel G N σ δ S' H' → Up S S' H H' → D.bk δ S' → E.bk σ H'
  ct : ∀ σ δ H' S', Rel G N σ δ S' H' → Up S S' H H' → D.ct δ S' → E.ct σ H'
  rt : ∀ v d H' S', Im G H' v d → Sim G S' H' → Up N.S S' N.H H' → D.rt d S' → E.rt v H'
def SS (t : TS) (f : DS) : Prop := ∀ (σ : L2.St) (δ : DV) (H : Hp) (S : Sto) (D : DN) (E : Ends), Rel G N σ δ S H → f D δ S → EOk G N S H D E → t E σ H
def S2 (r : R2) (rd : B2) : Prop := ∀ x y d e H S Q (R : VK), Im G H x d → Im G H y e → Sim G S H → rd d e S Q → (∀ v d' H' S', Im G H' v d' → Sim G S' H' → Up S S' H H' → Q d' S' → R v H') → r x y H R
def S1 (r : V → Hp → VK → Prop) (rd : B1) : Prop := ∀ x d H S Q (R : VK), Im G H x d → Sim G S H → rd d S Q → (∀ v d' H' S', Im G H' v d' → Sim G S' H' → Up S S' H H' → Q d' S' → R v H') → r x H R
def SL (r : List V → Hp → VK → Prop) (rd : BL) : Prop := ∀ xs ds H S Q (R : VK), ImAll G H xs ds → Sim G S H → rd ds S Q → (∀ v d' H' S', Im G H' v d' → Sim G S' H' → Up S S' H H' → Q d' S' → R v H') → r xs H R
end

/-! ### words of the data's side -/
def eVar (i : Nat) : DE := fun δ S Q => match δ[i]? with | some (some d) => Q d S | _ => False
def eC (d : D) : DE := fun _ S Q => Q d S
def eOp (r : B2) (a b : DE) : DE := fun δ S Q => a δ S fun x S1 => b δ S1 fun y S2 => r x y S2 Q
def eUn (r : B1) (a : DE) : DE := fun δ S Q => a δ S fun x S1 => r x S1 Q
/-- both ways of a test -/
def br (b : Bool) (p q : Prop) : Prop := (b = true → p) ∧ (b = false → q)
def asB (d : D) (k : Bool → Prop) : Prop := match d with | .bl b => k b | _ => False
def eAnd (a b : DE) : DE := fun δ S Q => a δ S fun x S1 => asB x fun c => br c (b δ S1 Q) (Q (.bl false) S1)
def eOr (a b : DE) : DE := fun δ S Q => a δ S fun x S1 => asB x fun c => br c (Q (.bl true) S1) (b δ S1 Q)
def eNot (a : DE) : DE := fun δ S Q => a δ S fun x S1 => asB x fun c => Q (.bl (!c)) S1
def eIf (t : DT) (a b : DE) : DE := fun δ S Q => t δ S fun c S1 => br c (a δ S1 Q) (b δ S1 Q)
def eChain (r r' : B2) (a b c : DE) : DE := fun δ S Q => a δ S fun x S1 => b δ S1 fun y S2 => r x y S2 fun z S3 => asB z fun k => br k (c δ S3 fun w S4 => r' y w S4 Q) (Q (.bl false) S3)
def tV (a : DE) : DT := fun δ S Q => a δ S fun x S1 => asB x fun c => Q c S1
def tAnd' (t u : DT) : DT := fun δ S Q => t δ S fun c S1 => br c (u δ S1 Q) (Q false S1)
def tOr' (t u : DT) : DT := fun δ S Q => t δ S fun c S1 => br c (Q true S1) (u δ S1 Q)
def tNot' (t : DT) : DT := fun δ S Q => t δ S fun c S1 => Q (!c) S1
def aNil : DA := fun _ S Q => Q [] S
def aCons (a : DE) (r : DA) : DA := fun δ S Q => a δ S fun x S1 => r δ S1 fun xs S2 => Q (x :: xs) S2
def eTup (a : DA) : DE := fun δ S Q => a δ S fun xs S1 => xs.length ≤ 1000000 ∧ Q (.tup xs) S1
def eLst (a : DA) : DE := fun δ S Q => a δ S fun xs S1 => xs.length ≤ 1000000 ∧ ∀ p, S1 p = none → Q (.ref p) (sup S1 p (.lst xs))
def eCB (r : BL) (a : DA) : DE := fun δ S Q => a δ S fun xs S1 => r xs S1 Q
def eDK : DE := fun _ S Q => ∀ p, S p = none → Q (.ref p) (sup S p (.dK []))
def eDT : DE := fun _ S Q => ∀ p, S p = none → Q (.ref p) (sup S p (.dT []))
/-- o.f, the field at the place i -/
def eFld (C : Addr) (nm : List Str) (i : Nat) (a : DE) : DE := fun δ S Q => a δ S fun x S1 => asRef x fun o => atO S1 o C nm fun ds => match ds[i]? with | some v => Q v S1 | none => False

theorem le_line {n : Nat} (h : n ≤ 1000000) : n ≤ sizeLine := Nat.le_trans h (by decide)
section
variable {G : Gm} {N : En} {ta tb tc : TE} {fa fb fc : DE} {t u : TT} {f g : DT} {r r' : R2} {rd rd' : B2}
theorem se_var {i : Nat} : SE G N (tVar i) (eVar i) := by
  intro σ δ H S Q R r h k
  unfold eVar at h
  split at h
  · rename_i d e
    obtain ⟨v, h1, h2⟩ := r.sl.at_ i d e
    exact ⟨v, h1, k v d H S h2 r .refl h⟩
  · exact h.elim
theorem se_c {v : V} {d : D} (i : ∀ H, Im G H v d) : SE G N (tC v) (eC d) := fun σ δ H S Q R r h k => k v d H S (i H) r .refl h
theorem se_int {i : Int} : SE G N (tC (.int i)) (eC (.int i)) := se_c fun _ => .int i
theorem se_bl {b : Bool} : SE G N (tC (.bl b)) (eC (.bl b)) := se_c fun _ => .bl b
theorem se_non : SE G N (tC .non) (eC .non) := se_c fun _ => .non
theorem se_str {x : Str} (h : okS x) : SE G N (tC (.str x)) (eC (.str x)) := se_c fun _ => .str x h
theorem se_ty {n : String} : SE G N (tC (.ty n)) (eC (.ty n)) := se_c fun _ => .ty n
theorem se_ref {a : Addr} : SE G N (tC (.ref a)) (eC (.ref a)) := se_c fun _ => .ref a
theorem se_op (ho : S2 G r rd) (ha : SE G N ta fa) (hb : SE G N tb fb) : SE G N (tOp r ta tb) (eOp rd fa fb) := by
  intro σ δ H S Q R rl h k
  refine ha σ δ H S _ _ rl h fun x d H1 S1 i1 r1 u1 q1 => ?_
  refine hb σ δ H1 S1 _ _ r1 q1 fun y e H2 S2 i2 r2 u2 q2 => ?_
  exact ho x y d e H2 S2 Q R (i1.go (u2.tu r1.sim)) i2 r2.sim q2 fun v d' H' S' i3 s3 u3 q3 => k v d' H' S' i3 (r2.go s3 u3) (u1.trans (u2.trans u3)) q3
theorem se_un {r1 : V → Hp → VK → Prop} {rd1 : B1} (ho : S1 G r1 rd1) (ha : SE G N ta fa) : SE G N (tUn r1 ta) (eUn rd1 fa) := by
  intro σ δ H S Q R rl h k
  refine ha σ δ H S _ _ rl h fun x d H1 S1 i1 r1 u1 q1 => ?_
  exact ho x d H1 S1 Q R i1 r1.sim q1 fun v d' H' S' i3 s3 u3 q3 => k v d' H' S' i3 (r1.go s3 u3) (u1.trans u3) q3
theorem asB_of {d : D} {k : Bool → Prop} (h : asB d k) : ∃ b, d = .bl b ∧ k b := by
  cases d <;> first | exact ⟨_, rfl, h⟩ | exact h.elim
theorem im_bl {H : Hp} {v : V} {b : Bool} (h : Im G H v (.bl b)) : v = .bl b := by cases h; rfl
theorem se_and (ha : SE G N ta fa) (hb : SE G N tb fb) : SE G N (tAndV ta tb) (eAnd fa fb) := by
  intro σ δ H S Q R rl h k
  refine ha σ δ H S _ _ rl h fun x d H1 S1 i1 r1 u1 q1 => ?_
  obtain ⟨c, rfl, q⟩ := asB_of q1
  refine ⟨c, im_bl i1, ?_⟩
  cases c with
  | true => rw [if_pos rfl]; exact hb σ δ H1 S1 _ _ r1 (q.1 rfl) fun v d' H' S' i2 r2 u2 q2 => k v d' H' S' i2 r2 (u1.trans u2) q2
  | false => rw [if_neg Bool.false_ne_true]; exact k _ _ H1 S1 (.bl false) r1 u1 (q.2 rfl)
theorem se_or (ha : SE G N ta fa) (hb : SE G N tb fb) : SE G N (tOrV ta tb) (eOr fa fb) := by
  intro σ δ H S Q R rl h k
  refine ha σ δ H S _ _ rl h fun x d H1 S1 i1 r1 u1 q1 => ?_
  obtain ⟨c, rfl, q⟩ := asB_of q1
  refine ⟨c, im_bl i1, ?_⟩
  cases c with
  | true => rw [if_pos rfl]; exact k _ _ H1 S1 (.bl true) r1 u1 (q.1 rfl)
  | false => rw [if_neg Bool.false_ne_true]; exact hb σ δ H1 S1 _ _ r1 (q.2 rfl) fun v d' H' S' i2 r2 u2 q2 => k v d' H' S' i2 r2 (u1.trans u2) q2
theorem se_not (ha : SE G N ta fa) : SE G N (tNotV ta) (eNot fa) := by
  intro σ δ H S Q R rl h k
  refine ha σ δ H S _ _ rl h fun x d H1 S1 i1 r1 u1 q1 => ?_
  obtain ⟨c, rfl, q⟩ := asB_of q1
  exact ⟨c, im_bl i1, k _ _ H1 S1 (.bl _) r1 u1 q⟩
theorem se_if (ht : ST G N t f) (ha : SE G N ta fa) (hb : SE G N tb fb) : SE G N (tIf t ta tb) (eIf f fa fb) := by
  intro σ δ H S Q R rl h k
  refine ht σ δ H S _ _ rl h fun c H1 S1 r1 u1 q => ?_
  cases c with
  | true => rw [if_pos rfl]; exact ha σ δ H1 S1 _ _ r1 (q.1 rfl) fun v d' H' S' i2 r2 u2 q2 => k v d' H' S' i2 r2 (u1.trans u2) q2
  | false => rw [if_neg Bool.false_ne_true]; exact hb σ δ H1 S1 _ _ r1 (q.2 rfl) fun v d' H' S' i2 r2 u2 q2 => k v d' H' S' i2 r2 (u1.trans u2) q2
theorem se_chain (ho : S2 G r rd) (ho' : S2 G r' rd') (ha : SE G N ta fa) (hb : SE G N tb fb) (hc : SE G N tc fc) : SE G N (tChain r r' ta tb tc) (eChain rd rd' fa fb fc) := by
  intro σ δ H S Q R rl h k
  refine ha σ δ H S _ _ rl h fun x d H1 S1 i1 r1 u1 q1 => ?_
  refine hb σ δ H1 S1 _ _ r1 q1 fun y e H2 S2 i2 r2 u2 q2 => ?_
  refine ho x y d e H2 S2 _ _ (i1.go (u2.tu r1.sim)) i2 r2.sim q2 fun v d' H3 S3 i3 s3 u3 q3 => ?_
  obtain ⟨c, rfl, q⟩ := asB_of q3
  refine ⟨c, im_bl i3, ?_⟩
  have r3 := r2.go s3 u3
  cases c with
  | true =>
    rw [if_pos rfl]
    refine hc σ δ H3 S3 _ _ r3 (q.1 rfl) fun z e4 H4 S4 i4 r4 u4 q4 => ?_
    exact ho' y z e e4 H4 S4 Q R ((i2.go (u3.tu r2.sim)).go (u4.tu r3.sim)) i4 r4.sim q4 fun v d' H' S' i5 s5 u5 q5 => k v d' H' S' i5 (r4.go s5 u5) (u1.trans (u2.trans (u3.trans (u4.trans u5)))) q5
  | false => rw [if_neg Bool.false_ne_true]; exact k _ _ H3 S3 (.bl false) r3 (u1.trans (u2.trans u3)) (q.2 rfl)
/-! tests -/
theorem st_tB (ha : SE G N ta fa) : ST G N (tB ta) (tV fa) := by
  intro σ δ H S Q R rl h k
  refine ha σ δ H S _ _ rl h fun x d H1 S1 i1 r1 u1 q1 => ?_
  obtain ⟨c, rfl, q⟩ := asB_of q1
  exact ⟨c, im_bl i1, k c H1 S1 r1 u1 q⟩
theorem st_test (ha : SE G N ta fa) : ST G N (tTest ta) (tV fa) := st_tB ha
theorem st_and (ha : ST G N t f) (hb : ST G N u g) : ST G N (tAnd t u) (tAnd' f g) := by
  intro σ δ H S Q R rl h k
  refine ha σ δ H S _ _ rl h fun c H1 S1 r1 u1 q => ?_
  cases c with
  | true => rw [if_pos rfl]; exact hb σ δ H1 S1 _ _ r1 (q.1 rfl) fun c' H' S' r2 u2 q2 => k c' H' S' r2 (u1.trans u2) q2
  | false => rw [if_neg Bool.false_ne_true]; exact k _ H1 S1 r1 u1 (q.2 rfl)
theorem st_or (ha : ST G N t f) (hb : ST G N u g) : ST G N (tOr t u) (tOr' f g) := by
  intro σ δ H S Q R rl h k
  refine ha σ δ H S _ _ rl h fun c H1 S1 r1 u1 q => ?_
  cases c with
  | true => rw [if_pos rfl]; exact k _ H1 S1 r1 u1 (q.1 rfl)
  | false => rw [if_neg Bool.false_ne_true]; exact hb σ δ H1 S1 _ _ r1 (q.2 rfl) fun c' H' S' r2 u2 q2 => k c' H' S' r2 (u1.trans u2) q2
theorem st_not (ha : ST G N t f) : ST G N (tNot t) (tNot' f) := fun σ δ H S Q R rl h k => ha σ δ H S _ _ rl h fun c H1 S1 r1 u1 q => k _ H1 S1 r1 u1 q
/-! arguments, displays -/
variable {tl : TA} {fl : DA}
theorem sa_nil : SA G N tNil aNil := fun σ δ H S Q R rl h k => k [] [] H S .nil rl .refl h
theorem sa_cons (ha : SE G N ta fa) (hl : SA G N tl fl) : SA G N (tCons ta tl) (aCons fa fl) := by
  intro σ δ H S Q R rl h k
  refine ha σ δ H S _ _ rl h fun x d H1 S1 i1 r1 u1 q1 => ?_
  refine hl σ δ H1 S1 _ _ r1 q1 fun vs ds H2 S2 i2 r2 u2 q2 => ?_
  exact k _ _ H2 S2 (.cons (i1.go (u2.tu r1.sim)) i2) r2 (u1.trans u2) q2
theorem new_tup {S : Sto} {H : Hp} {p : Addr} {xs : List V} {ds : List D} (s : Sim G S H) (hp : H p = none) (i : ImAll G H xs ds) : Im G (upd H p (.tup xs)) (.ref p) (.tup ds) ∧ Sim G S (upd H p (.tup xs)) ∧ Up S S H (upd H p (.tup xs)) :=
  let e := Ext.lay (o := .tup xs) hp
  ⟨.tup upd_same (i.go e.tu), s.ext e, Up.of_ext e⟩
theorem se_tup (hl : SA G N tl fl) : SE G N (tTup tl) (eTup fl) := by
  intro σ δ H S Q R rl h k
  refine hl σ δ H S _ _ rl h fun vs ds H1 S1 i1 r1 u1 ⟨z, q⟩ => ⟨by rw [i1.length]; exact le_line z, fun p hp => ?_⟩
  obtain ⟨a1, a2, a3⟩ := new_tup r1.sim hp i1
  exact k _ _ _ S1 a1 (r1.go a2 a3) (u1.trans a3) q
theorem new_lst {S : Sto} {H : Hp} {p : Addr} {xs : List V} {ds : List D} (s : Sim G S H) (hp : H p = none) (i : ImAll G H xs ds) : S p = none ∧ Sim G (sup S p (.lst ds)) (upd H p (.lst xs)) ∧ Up S (sup S p (.lst ds)) H (upd H p (.lst xs)) :=
  ⟨s.free hp, s.lay hp ⟨xs, upd_same, i.go (Ext.lay (o := .lst xs) hp).tu⟩⟩
theorem se_lst (hl : SA G N tl fl) : SE G N (tLst tl) (eLst fl) := by
  intro σ δ H S Q R rl h k
  refine hl σ δ H S _ _ rl h fun vs ds H1 S1 i1 r1 u1 ⟨z, q⟩ => ⟨by rw [i1.length]; exact le_line z, fun p hp => ?_⟩
  obtain ⟨a1, a2, a3⟩ := new_lst r1.sim hp i1
  exact k _ _ _ _ (.ref p) (r1.go a2 a3) (u1.trans a3) (q p a1)
theorem se_dK : SE G N tDNewK eDK := fun σ δ H S Q R rl h k p hp =>
  let a := rl.sim.lay (o := .dK []) (ho := .dK []) hp ⟨[], upd_same, .nil⟩
  k _ _ _ _ (.ref p) (rl.go a.1 a.2) a.2 (h p (rl.sim.free hp))
theorem se_dT : SE G N tDNewT eDT := fun σ δ H S Q R rl h k p hp =>
  let a := rl.sim.lay (o := .dT []) (ho := .dT []) hp ⟨[], upd_same, .nil⟩
  k _ _ _ _ (.ref p) (rl.go a.1 a.2) a.2 (h p (rl.sim.free hp))
theorem se_cb {rl : List V → Hp → VK → Prop} {rb : BL} (ho : SL G rl rb) (hl : SA G N tl fl) : SE G N (tCB rl tl) (eCB rb fl) := by
  intro σ δ H S Q R rl h k
  refine hl σ δ H S _ _ rl h fun vs ds H1 S1 i1 r1 u1 q => ?_
  exact ho vs ds H1 S1 Q R i1 r1.sim q fun v d' H' S' i3 s3 u3 q3 => k v d' H' S' i3 (r1.go s3 u3) (u1.trans u3) q3
theorem kv_look {κ : Type} [BEq κ] {H : Hp} {gs : List (κ × V)} {fs : List (κ × D)} (h : KvAll G H gs fs) {f : κ} {d : D} (e : fs.lookup f = some d) : ∃ v, gs.lookup f = some v ∧ Im G H v d := by
  induction h with
  | nil => cases e
  | @cons k v d' r s hi _ ih =>
    rw [List.lookup_cons] at e ⊢
    split at e
    · rename_i hk
      cases e
      exact ⟨v, rfl, hi⟩
    · rename_i hk
      exact ih e
theorem kv_none {κ : Type} [BEq κ] {H : Hp} {gs : List (κ × V)} {fs : List (κ × D)} (h : KvAll G H gs fs) {f : κ} (e : fs.lookup f = none) : gs.lookup f = none := by
  induction h with
  | nil => rfl
  | @cons k v d' r s hi _ ih =>
    rw [List.lookup_cons] at e ⊢
    split at e
    · cases e
    · rename_i hk
      exact ih e
theorem im_ref {H : Hp} {v : V} {a : Addr} (h : Im G H v (.ref a)) : v = .ref a := by cases h; rfl
theorem zip_look {f : Str} : ∀ {nm : List Str} {i : Nat} {ds : List D}, FIx nm f i → (nm.zip ds).lookup f = ds[i]?
  | [], _, _, h => by have := h.at_; simp at this
  | n :: nm, 0, [], h => by simp
  | n :: nm, 0, d :: ds, h => by
    have : n = f := by simpa using h.at_
    subst this
    simp
  | n :: nm, i + 1, [], h => by simp
  | n :: nm, i + 1, d :: ds, h => by
    have hn : f ≠ n := fun e => h.no (by rw [List.take_succ_cons, e]; exact List.mem_cons_self)
    rw [List.zip_cons_cons, List.lookup_cons, beq_eq_false_iff_ne.mpr hn]
    simp only [List.getElem?_cons_succ]
    exact zip_look ⟨by simpa using h.at_, fun z => h.no (by rw [List.take_succ_cons]; exact List.mem_cons_of_mem _ z)⟩
theorem se_fld {C : Addr} {f' : Str} {nm : List Str} {i : Nat} (c : Cls G.K C) (n : NoAttr G.K C f') (x : FIx nm f' i) (ha : SE G N ta fa) : SE G N (tFld G.K ta f') (eFld C nm i fa) := by
  intro σ δ H S Q R rl h k
  refine ha σ δ H S _ _ rl h fun x' d H1 S1 i1 r1 u1 q1 => ?_
  obtain ⟨o, rfl, q2⟩ := asRef_of q1
  obtain ⟨ds, ho, q⟩ := atO_of q2
  obtain ⟨dx, gs, hH, kv, _⟩ := r1.sim.ob o _ ho
  split at q
  · rename_i v hv
    obtain ⟨w, hw, iw⟩ := kv_look kv (f := f') (d := v) (by rw [zip_look x]; exact hv)
    exact ⟨o, C, dx, gs, w, im_ref i1, hH, c, n, hw, k w v H1 S1 iw r1 u1 q⟩
  · exact q.elim
end
end Sd

set_option Elab.async false
set_option linter.all false
set_option maxRecDepth 100000
set_option maxHeartbeats 4000000
namespace Sd
open PySem PySem.Spec PyProof.Rows L2
/-! ### a tuple times 0, 1, or less than 0 (own; the library's rule begins with 2) -/
theorem tupMul0 (l : Addr) (its : Array Value) (n : Nat) (dd : Option Addr) (sl : Array (Option Value)) (x : Int) (u : Tok) (c0 : (decide (x < -(2 ^ 63)) || decide (x ≥ 2 ^ 63)) = false)
    (c1 : (its.isEmpty || x == 1) = false) (c2 : (decide (x ≤ 0) || its.isEmpty) = true) :
    Meets (Builtin.«tuple.__mul__» ⟨[.ref l, .int x u], []⟩) (fun _ R s => s.heap.get? l = some ⟨.type "tuple", dd, .seq its n, sl⟩ ∧
      R (.ok (.ret (.ref s.heap.objs.size))) ⟨s.heap.push { cls := .type "tuple", data := .seq #[] }, s.gens, s.drawn, s.toks, s.os⟩) :=
  .of_wp fun prog w A R s h => by
    obtain ⟨hp, g, d, tk, os⟩ := s
    obtain ⟨hl, h⟩ := h
    have ix := AutoSeq1.idx_int
    wp_walk using wpAny_loadPart' hl
    repeat first
      | refine wpAny_ite_false (decide_eq_false (by rw [c0]; decide)) ?_; wp_walk using wpAny_loadPart' hl
      | refine wpAny_ite_false (decide_eq_false (by rw [c1]; decide)) ?_; wp_walk using wpAny_loadPart' hl
      | refine wpAny_ite_true (decide_eq_true (by rw [c2])) ?_; wp_walk using wpAny_loadPart' hl
    exact ⟨_, rfl, h⟩
theorem tupMul1 (l : Addr) (its : Array Value) (n : Nat) (dd : Option Addr) (sl : Array (Option Value)) (x : Int) (u : Tok) (c0 : (decide (x < -(2 ^ 63)) || decide (x ≥ 2 ^ 63)) = false) (c1 : (its.isEmpty || x == 1) = true) :
    Meets (Builtin.«tuple.__mul__» ⟨[.ref l, .int x u], []⟩) (fun _ R s => s.heap.get? l = some ⟨.type "tuple", dd, .seq its n, sl⟩ ∧ R (.ok (.ret (.ref l))) s) :=
  .of_wp fun prog w A R s h => by
    obtain ⟨hp, g, d, tk, os⟩ := s
    obtain ⟨hl, h⟩ := h
    have ix := AutoSeq1.idx_int
    wp_walk using wpAny_loadPart' hl
    repeat first
      | refine wpAny_ite_false (decide_eq_false (by rw [c0]; decide)) ?_; wp_walk using wpAny_loadPart' hl
      | refine wpAny_ite_true (decide_eq_true (by rw [c1])) ?_; wp_walk using wpAny_loadPart' hl
    exact ⟨_, rfl, h⟩
def rTm0 (K : PySem.W.Frag) : R2 := fun x y H Q => ∃ l k xs, x = .ref l ∧ y = .int k ∧ SqT K H l xs ∧ xs ≠ [] ∧ -(2 ^ 62) ≤ k ∧ k ≤ 0 ∧ ∀ p, H p = none → Q (.ref p) (upd H p (.tup []))
def rTm1 (K : PySem.W.Frag) : R2 := fun x y H Q => ∃ l xs, x = .ref l ∧ y = .int 1 ∧ SqT K H l xs ∧ Q (.ref l) H
section
variable {X : Cx}
theorem op_tm0 : OpR X (binaryOp .Mult) (rTm0 X.K) := by
  intro pins s σ H x y v u Q I rx ry h
  obtain ⟨l, k, xs, rfl, rfl, hT, hne, k1, k2, q⟩ := h
  cases rx
  obtain ⟨t, rfl⟩ := ry
  obtain ⟨its, r, ⟨⟨cls, dd, data, sl⟩, ho, hc, n, hd⟩, hs⟩ := I.tuple hT
  simp only at hc hd
  subst hc hd
  have e0 : its.toArray.isEmpty = false := by
    cases its with
    | nil => exact absurd (List.eq_nil_of_length_eq_zero r.length) hne
    | cons _ _ => rfl
  have d0 : (decide (k < -(2 ^ 63)) || decide (k ≥ 2 ^ 63)) = false := by simp; omega
  have d1 : (its.toArray.isEmpty || k == 1) = false := by rw [e0, Bool.false_or]; exact beq_eq_false_iff_ne.mpr (by omega)
  have d2 : (decide (k ≤ 0) || its.toArray.isEmpty) = true := by rw [decide_eq_true k2]; rfl
  have ty : s.TypeIs (.ref l) "tuple" := ⟨_, ho, rfl⟩
  refine wpAny_binaryOp_repeat_ref (T := "tuple") (U := "int") (by decide) ty (fun z => typeIs_int z k t) noFill_tuple_mul F.fills_int_mul F.slot_int_rmul repeat_tuple F.slot_int_index.lookup ?_
  refine call_meets F.slot_int_rmul (typeIs_int s k t) F.entry_int_rmul (F.args_int_rmul_2 _ _) (int_rmul_tuple k t l its.toArray n dd sl) ⟨ho, rfl, ty, ?_⟩
  refine call_meets F.slot_tuple_mul ty F.entry_tuple_mul (F.args_tuple_mul_2 _ _) (tupMul0 l its.toArray n dd sl k t d0 d1 d2) ⟨ho, ?_⟩
  refine ⟨.ref s.heap.objs.size, _, I.laid (t' := s.toks) (o := .tup []) (fun b ob z => Heap.get?_push_of_some _ z) (Nat.le_refl _) ?_, rfl, q _ (I.hok.fresh (Nat.le_refl _))⟩
  exact ⟨Nat.zero_le _, _, .nil, IsTup.new _ _⟩
theorem op_tm1 : OpR X (binaryOp .Mult) (rTm1 X.K) := by
  intro pins s σ H x y v u Q I rx ry h
  obtain ⟨l, xs, rfl, rfl, hT, q⟩ := h
  cases rx
  obtain ⟨t, rfl⟩ := ry
  obtain ⟨its, r, ⟨⟨cls, dd, data, sl⟩, ho, hc, n, hd⟩, hs⟩ := I.tuple hT
  simp only at hc hd
  subst hc hd
  have d1 : (its.toArray.isEmpty || (1 : Int) == 1) = true := by simp
  have ty : s.TypeIs (.ref l) "tuple" := ⟨_, ho, rfl⟩
  refine wpAny_binaryOp_repeat_ref (T := "tuple") (U := "int") (by decide) ty (fun z => typeIs_int z 1 t) noFill_tuple_mul F.fills_int_mul F.slot_int_rmul repeat_tuple F.slot_int_index.lookup ?_
  refine call_meets F.slot_int_rmul (typeIs_int s 1 t) F.entry_int_rmul (F.args_int_rmul_2 _ _) (int_rmul_tuple 1 t l its.toArray n dd sl) ⟨ho, rfl, ty, ?_⟩
  refine call_meets F.slot_tuple_mul ty F.entry_tuple_mul (F.args_tuple_mul_2 _ _) (tupMul1 l its.toArray n dd sl 1 t (by decide) d1) ⟨ho, ?_⟩
  exact ⟨.ref l, H, I, rfl, q⟩
/-- a tuple, many times -/
def rTm2 (K : PySem.W.Frag) : R2 := fun x y H Q => ∃ l k xs, x = .ref l ∧ y = .int k ∧ SqT K H l xs ∧ xs ≠ [] ∧ 2 ≤ k ∧ k ≤ 4000 ∧ xs.length ≤ 200 ∧ ∀ p, H p = none → Q (.ref p) (upd H p (.tup (List.replicate k.toNat xs).flatten))
theorem op_tm2 : OpR X (binaryOp .Mult) (rTm2 X.K) := by
  intro pins s σ H x y v u Q I rx ry h
  obtain ⟨l, k, xs, rfl, rfl, hT, hne, k1, k2, k3, q⟩ := h
  cases rx
  obtain ⟨t, rfl⟩ := ry
  obtain ⟨its, r, ⟨⟨cls, dd, data, sl⟩, ho, hc, n, hd⟩, hs⟩ := I.tuple hT
  simp only at hc hd
  subst hc hd
  have hlen : its.length = xs.length := r.length.symm
  have e0 : its.toArray.isEmpty = false := by
    cases its with
    | nil => exact absurd (List.eq_nil_of_length_eq_zero r.length) hne
    | cons _ _ => rfl
  have big : k.toNat * xs.length ≤ 4000 * 200 := Nat.mul_le_mul (by omega) k3
  have big2 : ((its.toArray.size : Nat) : Int) * k ≤ 800000 := by
    rw [List.size_toArray, hlen]
    have e : ((k.toNat * xs.length : Nat) : Int) = (xs.length : Int) * k := by
      rw [Int.natCast_mul, Int.toNat_of_nonneg (by omega), Int.mul_comm]
    rw [← e]
    omega
  have fl : (List.replicate k.toNat its).flatten.length ≤ 800000 := by
    rw [PyProof.Rows.lm_len_rep_flat, hlen]
    exact big
  have sl8 : (800000 : Nat) ≤ sizeLine := by decide
  have d0 : (decide (k < -(2 ^ 63)) || decide (k ≥ 2 ^ 63)) = false := by simp; omega
  have d1 : (its.toArray.isEmpty || k == 1) = false := by rw [e0, Bool.false_or]; exact beq_eq_false_iff_ne.mpr (by omega)
  have d2 : (decide (k ≤ 0) || its.toArray.isEmpty) = false := by rw [e0, Bool.or_false]; exact decide_eq_false (by omega)
  have d4 : Builtin.Tuple.tupleTooMany (((its.toArray.size : Nat) : Int) * k) = false := by
    unfold Builtin.Tuple.tupleTooMany
    have e : ((800000 : Nat) : Int) ≤ (sizeLine : Int) := by exact_mod_cast sl8
    exact decide_eq_false (by omega)
  have ty : s.TypeIs (.ref l) "tuple" := ⟨_, ho, rfl⟩
  refine wpAny_binaryOp_repeat_ref (T := "tuple") (U := "int") (by decide) ty (fun z => typeIs_int z k t) noFill_tuple_mul F.fills_int_mul F.slot_int_rmul repeat_tuple F.slot_int_index.lookup ?_
  refine call_meets F.slot_int_rmul (typeIs_int s k t) F.entry_int_rmul (F.args_int_rmul_2 _ _) (int_rmul_tuple k t l its.toArray n dd sl) ⟨ho, rfl, ty, ?_⟩
  refine call_meets F.slot_tuple_mul ty F.entry_tuple_mul (F.args_tuple_mul_2 _ _) (tuple_mulW l its.toArray n dd sl k t d0 d1 d2 (by omega) d4 (by rw [size_rep, List.size_toArray]; exact Nat.le_trans fl sl8)) ⟨ho, ?_⟩
  rw [size_rep]
  refine ⟨.ref s.heap.objs.size, _, I.laid (t' := s.toks) (o := .tup (List.replicate k.toNat xs).flatten) (fun b ob z => Heap.get?_push_of_some _ z) (Nat.le_refl _) ?_, rfl, q _ (I.hok.fresh (Nat.le_refl _))⟩
  refine ⟨?_, _, r.rep k.toNat, IsTup.new _ _⟩
  rw [PyProof.Rows.lm_len_rep_flat]
  exact Nat.le_trans big sl8
def rMulW (K : PySem.W.Frag) : R2 := fun x y H Q => Ow.rMulV K x y H Q ∨ rTm0 K x y H Q ∨ rTm1 K x y H Q ∨ rTm2 K x y H Q
theorem opW_mul : OpR X (binaryOp .Mult) (rMulW X.K) := Ow.opV_mul.or (op_tm0.or (op_tm1.or op_tm2))
end
end Sd

set_option Elab.async false
set_option linter.all false
set_option maxRecDepth 100000
set_option maxHeartbeats 4000000
namespace Sd
open PySem PySem.Spec PyProof.Rows L2 GxR

/-! ### operators by values -/
def dAdd : B2 := fun x y S Q => match x, y with
  | .int i, .int j => Q (.int (i + j)) S
  | .str a, .str b => a.length + b.length ≤ 1000000 ∧ Q (.str (a ++ b)) S
  | .tup xs, .tup ys => xs.length + ys.length ≤ 1000000 ∧ Q (.tup (xs ++ ys)) S
  | .ref a, .ref b => atL S a fun xs => atL S b fun ys => xs.length + ys.length ≤ 1000000 ∧ ∀ p, S p = none → Q (.ref p) (sup S p (.lst (xs ++ ys)))
  | _, _ => False
def dI (C : Int → Int → Prop) (f : Int → Int → D) : B2 := fun x y S Q => match x, y with
  | .int i, .int j => C i j ∧ Q (f i j) S
  | _, _ => False
def dSub : B2 := fun x y S Q => (dI (fun _ _ => True) fun i j => .int (i - j)) x y S Q
def dMod : B2 := fun x y S Q => (dI (fun _ j => 0 < j) fun i j => .int (i % j)) x y S Q
def dDiv : B2 := fun x y S Q => (dI CDivW fun i j => .int (i / j)) x y S Q
def dXor : B2 := fun x y S Q => (dI (fun _ _ => True) fun i j => .int (Builtin.bitXor i j)) x y S Q
def dShl : B2 := fun x y S Q => (dI CPow fun i j => .int (i * 2 ^ j.toNat)) x y S Q
def dShr : B2 := fun x y S Q => (dI (fun _ j => 0 ≤ j) fun i j => .int (i / 2 ^ j.toNat)) x y S Q
def dMul : B2 := fun x y S Q => match x, y with
  | .int i, .int j => CMul i j ∧ Q (.int (i * j)) S
  | .tup xs, .int k => xs ≠ [] ∧ -(2 ^ 62) ≤ k ∧ k ≤ 4000 ∧ xs.length ≤ 200 ∧ Q (.tup (List.replicate k.toNat xs).flatten) S
  | .str z, .int k => 2 ≤ k ∧ k ≤ 1000 ∧ 1 ≤ z.length ∧ z.length ≤ 1000 ∧ Q (.str (Ow.repS z k)) S
  | .ref a, .int k => atL S a fun xs => -(2 ^ 62) ≤ k ∧ k < 2 ^ 62 ∧ xs.length * k.toNat ≤ 1000000 ∧ ∀ p, S p = none → Q (.ref p) (sup S p (.lst (List.replicate k.toNat xs).flatten))
  | _, _ => False
def sLt (a b : Str) : Bool := decide (a.cps.toList < b.cps.toList)
def dCmp (p : Int → Int → Bool) (q : Str → Str → Bool) : B2 := fun x y S Q => match x, y with
  | .int i, .int j => Q (.bl (p i j)) S
  | .str i, .str j => Q (.bl (q i j)) S
  | _, _ => False
def dLe : B2 := fun x y S Q => (dCmp (fun i j => decide (i ≤ j)) fun i j => !sLt j i) x y S Q
def dLt : B2 := fun x y S Q => (dCmp (fun i j => decide (i < j)) fun i j => sLt i j) x y S Q
def dGe : B2 := fun x y S Q => (dCmp (fun i j => decide (j ≤ i)) fun i j => !sLt i j) x y S Q
def dGt : B2 := fun x y S Q => (dCmp (fun i j => decide (j < i)) fun i j => sLt j i) x y S Q

mutual
/-- data without addresses, as the library has it -/
def py : D → PyData
  | .non => .none
  | .bl b => .bool b
  | .int i => .int i
  | .str x => .str x
  | .tup ds => .tuple (pys ds)
  | .ctup ds => .tuple (pys ds)
  | .ref _ => .none
  | .scr => .none
  | .ty _ => .none
def pys : List D → List PyData
  | [] => []
  | d :: ds => py d :: pys ds
end
mutual
/-- pure data, at most n deep -/
def dat : Nat → D → Bool
  | _, .non => true
  | _, .bl _ => true
  | _, .int _ => true
  | _, .str _ => true
  | 0, .tup _ => false
  | n + 1, .tup ds => decide (ds.length ≤ 1000000) && dats n ds
  | _, .ctup _ => false
  | _, .ref _ => false
  | _, .scr => false
  | _, .ty _ => false
def dats : Nat → List D → Bool
  | _, [] => true
  | n, d :: ds => dat n d && dats n ds
end
def eqD (x y : D) : Bool := PyData.eqv (py x) (py y)
/-- a constant tuple read as a tuple -/
def unC : D → D
  | .ctup ds => .tup ds
  | .tup ds => .tup ds
  | .int i => .int i
  | .str x => .str x
  | .bl b => .bl b
  | .non => .non
  | .ref a => .ref a
  | .scr => .scr
  | .ty n => .ty n
def dEq : B2 := fun x y S Q => dat 60 (unC x) = true ∧ dat 60 (unC y) = true ∧ Q (.bl (eqD x y)) S
def dNe : B2 := fun x y S Q => dat 60 (unC x) = true ∧ dat 60 (unC y) = true ∧ Q (.bl (!eqD x y)) S
def flatD : D → Bool
  | .non => true | .bl _ => true | .int _ => true | .str _ => true | _ => false
def dIn (neg : Bool) : B2 := fun x y S Q => match y with
  | .tup ds => flatD x = true ∧ ds.all flatD = true ∧ Q (.bl (if neg then !ds.any fun z => eqD z x else ds.any fun z => eqD z x)) S
  | .ctup ds => flatD x = true ∧ ds.all flatD = true ∧ Q (.bl (if neg then !ds.any fun z => eqD z x else ds.any fun z => eqD z x)) S
  | .ref a => atL S a fun ds => dat 60 x = true ∧ dats 60 ds = true ∧ Q (.bl (if neg then !ds.any fun z => eqD z x else ds.any fun z => eqD z x)) S
  | _ => False
def isNon : D → Bool
  | .non => true
  | _ => false
def dIsN (neg : Bool) : B2 := fun x y S Q => match y with
  | .non => Q (.bl (if neg then !isNon x else isNon x)) S
  | _ => False
def dIx : B2 := fun x y S Q => match y with
  | .int i => (match x with
    | .tup ds => (match atI ds i with | some d => Q d S | none => False)
    | .ctup ds => (match atI ds i with | some d => Q d S | none => False)
    | .str z => (match atI z.cps.toList i with | some c => Q (.str ⟨#[c]⟩) S | none => False)
    | .ref a => atL S a fun ds => (match atI ds i with | some d => Q d S | none => False)
    | _ => False)
  | _ => False
def dNeg : B1 := fun x S Q => match x with | .int i => Q (.int (-i)) S | _ => False
def dLen : BL := fun xs S Q => match xs with
  | [.str x] => Q (.int x.length) S
  | [.tup ds] => Q (.int ds.length) S
  | [.ctup ds] => Q (.int ds.length) S
  | [.ref a] => atL S a fun ds => Q (.int ds.length) S
  | _ => False
def dList : BL := fun xs S Q => match xs with
  | [.ref a] => atL S a fun ds => ∀ l, S l = none → Q (.ref l) (sup S l (.lst ds))
  | [.tup ds] => ∀ l, S l = none → Q (.ref l) (sup S l (.lst ds))
  | [.ctup ds] => ∀ l, S l = none → Q (.ref l) (sup S l (.lst ds))
  | _ => False
def dTuple : BL := fun xs S Q => match xs with
  | [.ref a] => atL S a fun ds => Q (.tup ds) S
  | [.tup ds] => Q (.tup ds) S
  | [.ctup ds] => Q (.ctup ds) S
  | _ => False
def dInt : BL := fun xs S Q => match xs with
  | [.int i] => Q (.int i) S
  | [.bl k] => Q (.int (if k then 1 else 0)) S
  | _ => False
/-- the name of a value's type -/
def tyD (S : Sto) : D → Option String
  | .non => some "NoneType"
  | .bl _ => some "bool"
  | .int _ => some "int"
  | .str _ => some "str"
  | .tup _ => some "tuple"
  | .ctup _ => some "tuple"
  | .ref a => (match S a with | some (.lst _) => some "list" | some (.dK _) => some "dict" | some (.dT _) => some "dict" | _ => none)
  | _ => none
def tyNames : List String := ["NoneType", "bool", "int", "str", "tuple", "list", "dict"]
def isTy (n T : String) : Bool := n == T || (n == "bool" && T == "int")
def tyKn (T : String) : Bool := T == "int" || T == "bool" || T == "str" || T == "tuple" || T == "list" || T == "dict"
theorem tyKn_mem {T : String} (h : tyKn T = true) : T ∈ ["int", "bool", "str", "tuple", "list", "dict"] := by
  simp only [tyKn, Bool.or_eq_true, beq_iff_eq] at h
  rcases h with ((((rfl | rfl) | rfl) | rfl) | rfl) | rfl <;> decide
def dIsi : BL := fun xs S Q => match xs with
  | [d, .ty T] => (match tyD S d with | some n => tyKn T = true ∧ Q (.bl (isTy n T)) S | none => False)
  | _ => False
def isBl : D → Bool
  | .bl _ => true
  | _ => false
def isTr : D → Bool
  | .bl true => true
  | _ => false
def dAll : BL := fun xs S Q => match xs with
  | [.ref a] => atL S a fun ds => ds.all isBl = true ∧ Q (.bl (ds.all isTr)) S
  | _ => False

section
variable {G : Gm} {H : Hp} {S : Sto}
theorem im_int {v : V} {i : Int} (h : Im G H v (.int i)) : v = .int i := by cases h; rfl
theorem im_str {v : V} {x : Str} (h : Im G H v (.str x)) : v = .str x ∧ okS x := by cases h; exact ⟨rfl, by assumption⟩
theorem im_non {v : V} (h : Im G H v .non) : v = .non := by cases h; rfl
theorem im_ty {v : V} {n : String} (h : Im G H v (.ty n)) : v = .ty n := by cases h; rfl
theorem im_tup {v : V} {ds : List D} (h : Im G H v (.tup ds)) : ∃ a xs, v = .ref a ∧ H a = some (.tup xs) ∧ ImAll G H xs ds := by cases h; exact ⟨_, _, rfl, by assumption, by assumption⟩
theorem im_seq {v : V} {ds : List D} (h : Im G H v (.tup ds) ∨ Im G H v (.ctup ds)) : ∃ a xs, v = .ref a ∧ SqT G.K H a xs ∧ ImAll G H xs ds := by
  rcases h with h | h
  · obtain ⟨a, xs, e, h1, h2⟩ := im_tup h
    exact ⟨a, xs, e, SqT.of h1, h2⟩
  · match h with
    | .ctup h1 _ _ _ h2 => exact ⟨_, _, rfl, h1 H, h2⟩
theorem okS_app {a b : Str} (ha : okS a) (hb : okS b) (h : a.length + b.length ≤ 1000000) : okS (a ++ b) := by
  refine ⟨by rw [Ow.len_app]; exact h, ?_⟩
  show (a.cps ++ b.cps).all _ = true
  rw [Array.all_append]
  have h1 := ha.2
  have h2 := hb.2
  unfold PyData.strOk at h1 h2
  simp [h1, h2]
theorem s2_add : S2 G (Ow.rAddU G.K) dAdd := by
  intro x y d e H S Q R hx hy s h k
  unfold dAdd at h
  split at h
  · cases im_int hx; cases im_int hy
    exact .inl ⟨_, _, rfl, rfl, k _ _ H S (.int _) s .refl h⟩
  · obtain ⟨rfl, o1⟩ := im_str hx
    obtain ⟨rfl, o2⟩ := im_str hy
    exact .inr (.inr (.inr ⟨_, _, rfl, rfl, le_line h.1, k _ _ H S (.str _ (okS_app o1 o2 h.1)) s .refl h.2⟩))
  · obtain ⟨a, vs, rfl, h1, i1⟩ := im_tup hx
    obtain ⟨b, ws, rfl, h2, i2⟩ := im_tup hy
    refine .inr (.inl ⟨a, b, vs, ws, rfl, rfl, SqT.of h1, SqT.of h2, by rw [i1.length, i2.length]; exact le_line h.1, fun z => ?_, fun _ z => ?_, fun _ _ p hp => ?_⟩)
    · subst z
      cases i1
      exact k _ _ H S (.tup h2 i2) s .refl h.2
    · subst z
      cases i2
      have q := h.2
      rw [List.append_nil] at q
      exact k _ _ H S (.tup h1 i1) s .refl q
    · obtain ⟨a1, a2, a3⟩ := new_tup s hp (i1.append i2)
      exact k _ _ _ S a1 a2 a3 h.2
  · cases im_ref hx; cases im_ref hy
    obtain ⟨xs, h1, h⟩ := atL_of h
    obtain ⟨ys, h2, hl, q⟩ := atL_of h
    obtain ⟨vs, e1, i1⟩ := s.ob _ _ h1
    obtain ⟨ws, e2, i2⟩ := s.ob _ _ h2
    refine .inr (.inr (.inl ⟨_, _, vs, ws, rfl, rfl, e1, e2, by rw [i1.length, i2.length]; exact le_line hl, fun p hp => ?_⟩))
    obtain ⟨a1, a2, a3⟩ := new_lst s hp (i1.append i2)
    exact k _ _ _ _ (.ref p) a2 a3 (q p a1)
  · exact h.elim
theorem s2_I {C : Int → Int → Prop} {g : Int → Int → V} {f : Int → Int → D} (hf : ∀ H i j, Im G H (g i j) (f i j)) : S2 G (rI C g) (dI C f) := by
  intro x y d e H S Q R hx hy s h k
  unfold dI at h
  split at h
  · cases im_int hx; cases im_int hy
    exact ⟨_, _, rfl, rfl, h.1, k _ _ H S (hf H _ _) s .refl h.2⟩
  · exact h.elim
theorem s2_I0 {g : Int → Int → V} {f : Int → Int → D} (hf : ∀ H i j, Im G H (g i j) (f i j)) : S2 G (rI0 g) (dI (fun _ _ => True) f) := by
  intro x y d e H S Q R hx hy s h k
  unfold dI at h
  split at h
  · cases im_int hx; cases im_int hy
    exact ⟨_, _, rfl, rfl, k _ _ H S (hf H _ _) s .refl h.2⟩
  · exact h.elim
theorem s2_sub : S2 G (rI0 fun i j => .int (i - j)) dSub := s2_I0 fun _ _ _ => .int _
theorem s2_mod : S2 G (rI (fun _ j => 0 < j) fun i j => .int (i % j)) dMod := s2_I fun _ _ _ => .int _
theorem s2_div : S2 G (rI CDivW fun i j => .int (i / j)) dDiv := s2_I fun _ _ _ => .int _
theorem s2_xor : S2 G (rI0 fun i j => .int (Builtin.bitXor i j)) dXor := s2_I0 fun _ _ _ => .int _
theorem s2_shl : S2 G (rI CPow fun i j => .int (i * 2 ^ j.toNat)) dShl := s2_I fun _ _ _ => .int _
theorem s2_shr : S2 G (rI (fun _ j => 0 ≤ j) fun i j => .int (i / 2 ^ j.toNat)) dShr := s2_I fun _ _ _ => .int _
theorem okS_rep {z : Str} {k : Int} (h : okS z) (h1 : 1 ≤ z.length) (h2 : z.length ≤ 1000) (h3 : k ≤ 1000) : okS (Ow.repS z k) := by
  have e : ∀ (n : Nat) (acc : Array Nat), ((List.replicate n z.cps).foldl (· ++ ·) acc).size = acc.size + n * z.length ∧ (acc.all (· < 0x110000) = true → ((List.replicate n z.cps).foldl (· ++ ·) acc).all (· < 0x110000) = true) := by
    intro n
    induction n with
    | zero => intro acc; simp
    | succ n ih =>
      intro acc
      rw [List.replicate_succ, List.foldl_cons]
      obtain ⟨a1, a2⟩ := ih (acc ++ z.cps)
      refine ⟨?_, fun ha => a2 ?_⟩
      · rw [a1, Array.size_append, Nat.succ_mul]
        show acc.size + z.length + n * z.length = _
        omega
      · rw [Array.all_append, ha]
        exact h.2
  obtain ⟨a1, a2⟩ := e k.toNat #[]
  refine ⟨?_, a2 (by simp)⟩
  show ((List.replicate k.toNat z.cps).foldl (· ++ ·) #[]).size ≤ _
  rw [a1]
  have : k.toNat * z.length ≤ 1000 * 1000 := Nat.mul_le_mul (by omega) h2
  simp
  omega
theorem s2_mul : S2 G (rMulW G.K) dMul := by
  intro x y d e H S Q R hx hy s h k
  unfold dMul at h
  split at h
  · cases im_int hx; cases im_int hy
    exact .inl <| .inl <| .inl ⟨_, _, rfl, rfl, h.1, k _ _ H S (.int _) s .refl h.2⟩
  · cases im_int hy
    obtain ⟨a, vs, rfl, h1, i1⟩ := im_tup hx
    obtain ⟨c1, c2, c3, c4, q⟩ := h
    have hl := i1.length
    have vne : vs ≠ [] := fun z => by
      subst z
      cases i1
      exact c1 rfl
    rename_i ki
    by_cases k2 : 2 ≤ ki
    · refine .inr <| .inr <| .inr ⟨a, _, vs, rfl, rfl, SqT.of h1, vne, k2, c3, by omega, fun p hp => ?_⟩
      obtain ⟨a1, a2, a3⟩ := new_tup s hp (i1.repL _)
      exact k _ _ _ S a1 a2 a3 q
    · by_cases k1 : ki = 1
      · subst k1
        refine .inr <| .inr <| .inl ⟨a, vs, rfl, rfl, SqT.of h1, ?_⟩
        have e : (List.replicate (Int.toNat 1) ‹List D›).flatten = ‹List D› := by simp
        rw [e] at q
        exact k _ _ H S (.tup h1 i1) s .refl q
      · refine .inr <| .inl ⟨a, ki, vs, rfl, rfl, SqT.of h1, vne, c2, by omega, fun p hp => ?_⟩
        obtain ⟨a1, a2, a3⟩ := new_tup s hp (xs := []) (ds := []) .nil
        have e : ki.toNat = 0 := by omega
        rw [e] at q
        exact k _ _ _ S a1 a2 a3 q
  · cases im_int hy
    obtain ⟨rfl, o⟩ := im_str hx
    obtain ⟨c1, c2, c3, c4, q⟩ := h
    exact .inl <| .inr ⟨_, _, rfl, rfl, c1, c2, c3, c4, k _ _ H S (.str _ (okS_rep o c3 c4 c2)) s .refl q⟩
  · cases im_int hy; cases im_ref hx
    obtain ⟨xs, h1, c1, c2, c3, q⟩ := atL_of h
    obtain ⟨vs, e1, i1⟩ := s.ob _ _ h1
    have hl := i1.length
    refine .inl <| .inl <| .inr (.inr ⟨_, _, vs, rfl, rfl, e1, by omega, by omega, by rw [hl]; exact le_line c3, fun p hp => ?_⟩)
    obtain ⟨a1, a2, a3⟩ := new_lst s hp (i1.repL _)
    exact k _ _ _ _ (.ref p) a2 a3 (q p a1)
  · exact h.elim
theorem s2_cmp {r : R2} {p : Int → Int → Bool} {q : Str → Str → Bool} (h1 : ∀ i j H (Q : VK), Q (.bl (p i j)) H → r (.int i) (.int j) H Q) (h2 : ∀ i j H (Q : VK), Q (.bl (q i j)) H → r (.str i) (.str j) H Q) : S2 G r (dCmp p q) := by
  intro x y d e H S Q R hx hy s h k
  unfold dCmp at h
  split at h
  · cases im_int hx; cases im_int hy
    exact h1 _ _ _ _ (k _ _ H S (.bl _) s .refl h)
  · obtain ⟨rfl, o1⟩ := im_str hx
    obtain ⟨rfl, o2⟩ := im_str hy
    exact h2 _ _ _ _ (k _ _ H S (.bl _) s .refl h)
  · exact h.elim
def rLtV : R2 := fun x y H Q => rI0 (fun i j => .bl (decide (i < j))) x y H Q ∨ ∃ i j, x = .str i ∧ y = .str j ∧ Q (.bl (decide (i.cps.toList < j.cps.toList))) H
theorem opV_lt {X : Cx} : OpR X (compareOp .Lt) rLtV := op_lt.or op_lt_str
def rGeV : R2 := fun x y H Q => rI0 (fun i j => .bl (decide (j ≤ i))) x y H Q ∨ ∃ i j, x = .str i ∧ y = .str j ∧ Q (.bl (!decide (i.cps.toList < j.cps.toList))) H
theorem opV_ge {X : Cx} : OpR X (compareOp .GtE) rGeV := op_ge.or op_ge_str
def rGtV : R2 := fun x y H Q => rI0 (fun i j => .bl (decide (j < i))) x y H Q ∨ ∃ i j, x = .str i ∧ y = .str j ∧ Q (.bl (decide (j.cps.toList < i.cps.toList))) H
theorem opV_gt {X : Cx} : OpR X (compareOp .Gt) rGtV := op_gt.or op_gt_str
theorem s2_le : S2 G Ow.rLeU dLe := s2_cmp (fun i j H Q q => .inl ⟨i, j, rfl, rfl, q⟩) fun i j H Q q => .inr ⟨i, j, rfl, rfl, q⟩
theorem s2_lt : S2 G rLtV dLt := s2_cmp (fun i j H Q q => .inl ⟨i, j, rfl, rfl, q⟩) fun i j H Q q => .inr ⟨i, j, rfl, rfl, q⟩
theorem s2_ge : S2 G rGeV dGe := s2_cmp (fun i j H Q q => .inl ⟨i, j, rfl, rfl, q⟩) fun i j H Q q => .inr ⟨i, j, rfl, rfl, q⟩
theorem s2_gt : S2 G rGtV dGt := s2_cmp (fun i j H Q q => .inl ⟨i, j, rfl, rfl, q⟩) fun i j H Q q => .inr ⟨i, j, rfl, rfl, q⟩

/-! equality -/
mutual
theorem dp_of : ∀ (n : Nat) (d : D) (v : V), dat n d = true → Im G H v d → Dp G.K H v (py d) ∧ (py d).canLay0 = true ∧ (py d).depth ≤ n + 1
  | _, .non, _, _, h => by cases h; exact ⟨.non, by simp [py, PyData.canLay0], by simp [py, PyData.depth]⟩
  | _, .bl b, _, _, h => by cases h; exact ⟨.bl b, by simp [py, PyData.canLay0], by simp [py, PyData.depth]⟩
  | _, .int i, _, _, h => by cases h; exact ⟨.int i, by simp [py, PyData.canLay0], by simp [py, PyData.depth]⟩
  | _, .str x, _, _, h => by
    obtain ⟨rfl, o⟩ := im_str h
    exact ⟨.str x, by simp [py, PyData.canLay0, o.2], by simp [py, PyData.depth]⟩
  | 0, .tup ds, _, z, _ => by simp [dat] at z
  | n + 1, .tup ds, _, z, h => by
    rw [dat, Bool.and_eq_true] at z
    replace z := z.2
    obtain ⟨a, xs, rfl, h1, h2⟩ := im_seq (.inl h)
    obtain ⟨k1, k2, k3⟩ := dps_of n ds xs z h2
    exact ⟨by rw [py]; exact .tup h1 k1, by rw [py, PyData.canLay0]; exact k2, by rw [py, PyData.depth]; omega⟩
  | n, .ctup a, _, z, _ => by cases n <;> simp [dat] at z
  | n, .ref a, _, z, _ => by cases n <;> simp [dat] at z
  | n, .scr, _, z, _ => by cases n <;> simp [dat] at z
  | n, .ty t, _, z, _ => by cases n <;> simp [dat] at z
theorem dps_of : ∀ (n : Nat) (ds : List D) (vs : List V), dats n ds = true → ImAll G H vs ds → DpAll G.K H vs (pys ds) ∧ PyData.canLayAll0 (pys ds) = true ∧ PyData.depthAll (pys ds) ≤ n + 1
  | _, [], _, _, h => by cases h; exact ⟨.nil, by simp [pys, PyData.canLayAll0], by simp [pys, PyData.depthAll]⟩
  | n, d :: ds, _, z, h => by
    rw [dats, Bool.and_eq_true] at z
    cases h with
    | cons h1 h2 =>
      obtain ⟨a1, a2, a3⟩ := dp_of n d _ z.1 h1
      obtain ⟨b1, b2, b3⟩ := dps_of n ds _ z.2 h2
      refine ⟨by rw [pys]; exact .cons a1 b1, by rw [pys, PyData.canLayAll0, a2, b2]; rfl, by rw [pys, PyData.depthAll]; omega⟩
end
theorem dpC_of {n : Nat} {d : D} {v : V} (h : dat n (unC d) = true) (i : Im G H v d) : Dp G.K H v (py d) ∧ (py d).canLay0 = true ∧ (py d).depth ≤ n + 1 := by
  cases d with
  | ctup ds =>
    cases n with
    | zero => simp [unC, dat] at h
    | succ n =>
      rw [unC, dat, Bool.and_eq_true] at h
      obtain ⟨a, xs, rfl, h1, h2⟩ := im_seq (.inr i)
      obtain ⟨k1, k2, k3⟩ := dps_of n ds xs h.2 h2
      exact ⟨by rw [py]; exact .tup h1 k1, by rw [py, PyData.canLay0]; exact k2, by rw [py, PyData.depth]; omega⟩
  | _ => exact dp_of n _ v h i
theorem shaped_of {d : PyData} (h : d.canLay0 = true) (k : d.depth ≤ 64) : SeqAt.shaped d = true := by
  show (d.canLay0 && decide (d.depth ≤ 64)) = true
  rw [h, decide_eq_true k]; rfl
theorem s2_eq : S2 G (Ow.rEqU G.K) dEq := by
  intro x y d e H S Q R hx hy s ⟨h1, h2, h⟩ k
  obtain ⟨a1, a2, a3⟩ := dpC_of h1 hx
  obtain ⟨b1, b2, b3⟩ := dpC_of h2 hy
  exact .inr ⟨py d, py e, a1, b1, shaped_of a2 (by omega), shaped_of b2 (by omega), k _ _ H S (.bl _) s .refl h⟩
theorem s2_ne : S2 G (Ow.rNeU G.K) dNe := by
  intro x y d e H S Q R hx hy s ⟨h1, h2, h⟩ k
  obtain ⟨a1, a2, a3⟩ := dpC_of h1 hx
  obtain ⟨b1, b2, b3⟩ := dpC_of h2 hy
  exact .inr ⟨py d, py e, a1, b1, shaped_of a2 (by omega), shaped_of b2 (by omega), k _ _ H S (.bl _) s .refl h⟩
/-! in, not in -/
def rInV (K : PySem.W.Frag) : R2 := fun x y H Q => rInD K x y H Q ∨ rIn K false x y H Q
theorem opV_in {X : Cx} (hu : X.A.units + 65 < cLine) : OpR X (compareOp .In) (rInV X.K) := (op_inD hu).or op_in_seq
def rNotInV (K : PySem.W.Frag) : R2 := fun x y H Q => rNotInD K x y H Q ∨ rIn K true x y H Q
theorem opV_notin {X : Cx} (hu : X.A.units + 65 < cLine) : OpR X (compareOp .NotIn) (rNotInV X.K) := (op_notInD hu).or op_notIn_seq
theorem flat_im {d : D} {v : V} (h : flatD d = true) (i : Im G H v d) : flatV v = true := by
  cases d <;> first | (cases i; rfl) | cases h
theorem flats_im : ∀ {ds : List D} {vs : List V}, ds.all flatD = true → ImAll G H vs ds → vs.all flatV = true
  | _, _, _, .nil => rfl
  | _, _, h, .cons h1 h2 => by
    rw [List.all_cons, Bool.and_eq_true] at h
    rw [List.all_cons, flat_im h.1 h1, flats_im h.2 h2]; rfl
theorem eqV_im {d e : D} {v w : V} (hd : flatD d = true) (he : flatD e = true) (i : Im G H v d) (j : Im G H w e) : eqV v w = eqD d e := by
  cases d <;> first | cases hd | skip
  all_goals cases e <;> first | cases he | skip
  all_goals cases i <;> cases j <;> simp [eqV, eqD, py, PyData.eqv]
theorem any_im {x : D} {v : V} (hx : flatD x = true) (i : Im G H v x) : ∀ {ds : List D} {vs : List V}, ds.all flatD = true → ImAll G H vs ds → inV v vs = ds.any fun z => eqD z x
  | _, _, _, .nil => rfl
  | _, _, h, .cons h1 h2 => by
    rw [List.all_cons, Bool.and_eq_true] at h
    rw [List.any_cons, ← any_im hx i h.2 h2, ← eqV_im h.1 hx h1 i]
    rfl
theorem pys_map : ∀ ds : List D, pys ds = ds.map py
  | [] => rfl
  | d :: ds => by rw [pys, pys_map ds]; rfl
theorem any_py (x : D) (ds : List D) : ((pys ds).any fun z => PyData.eqv z (py x)) = ds.any fun z => eqD z x := by
  rw [pys_map, List.any_map]
  rfl
theorem s2_inB {neg : Bool} {r : R2} (h1 : ∀ x y d ds H (Q : VK), Dp G.K H x d → Dp G.K H y (.list ds) → SeqAt.shaped d = true → SeqAt.shaped (.list ds) = true → Q (.bl (if neg then !(ds.any fun z => PyData.eqv z d) else ds.any fun z => PyData.eqv z d)) H → r x y H Q)
    (h2 : ∀ x y H (Q : VK), rIn G.K neg x y H Q → r x y H Q) : S2 G r (dIn neg) := by
  intro x y d e H S Q R hx hy s h k
  unfold dIn at h
  have seq : ∀ {ds : List D}, Im G H y (.tup ds) ∨ Im G H y (.ctup ds) → flatD d = true ∧ ds.all flatD = true ∧ Q (.bl (if neg then !ds.any fun z => eqD z d else ds.any fun z => eqD z d)) S → r x y H R := by
    intro ds hy ⟨c1, c2, q⟩
    obtain ⟨a, vs, rfl, e1, i1⟩ := im_seq hy
    refine h2 _ _ _ _ ⟨a, vs, rfl, .inr e1, flat_im c1 hx, flats_im c2 i1, ?_⟩
    rw [any_im c1 hx c2 i1]
    exact k _ _ H S (.bl _) s .refl q
  split at h
  · exact seq (.inl hy) h
  · exact seq (.inr hy) h
  · cases im_ref hy
    obtain ⟨ds, e1, c1, c2, q⟩ := atL_of h
    obtain ⟨vs, hv, i1⟩ := s.ob _ _ e1
    obtain ⟨a1, a2, a3⟩ := dp_of 60 d x c1 hx
    obtain ⟨b1, b2, b3⟩ := dps_of 60 ds vs c2 i1
    refine h1 _ _ _ _ _ _ a1 (.lst (SqL.of hv) b1) (shaped_of a2 (by omega)) (shaped_of (by rw [PyData.canLay0]; exact b2) (by rw [PyData.depth]; omega)) ?_
    rw [any_py]
    exact k _ _ H S (.bl _) s .refl q
  · exact h.elim
theorem s2_in : S2 G (rInV G.K) (dIn false) := s2_inB (fun x y d ds H Q a b c e q => .inl ⟨d, ds, a, b, c, e, q⟩) fun x y H Q q => .inr q
theorem s2_notin : S2 G (rNotInV G.K) (dIn true) := s2_inB (fun x y d ds H Q a b c e q => .inl ⟨d, ds, a, b, c, e, q⟩) fun x y H Q q => .inr q
theorem isNon_im {d : D} {v : V} (i : Im G H v d) : decide (v = .non) = isNon d := by
  cases i <;> simp [isNon]
theorem s2_isN : S2 G (fun x y H Q => y = .non ∧ Q (.bl (decide (x = .non))) H) (dIsN false) := by
  intro x y d e H S Q R hx hy s h k
  unfold dIsN at h
  split at h
  · cases im_non hy
    refine ⟨rfl, ?_⟩
    rw [isNon_im hx]
    exact k _ _ H S (.bl _) s .refl h
  · exact h.elim
theorem s2_notN : S2 G (fun x y H Q => y = .non ∧ Q (.bl (!decide (x = .non))) H) (dIsN true) := by
  intro x y d e H S Q R hx hy s h k
  unfold dIsN at h
  split at h
  · cases im_non hy
    refine ⟨rfl, ?_⟩
    rw [isNon_im hx]
    exact k _ _ H S (.bl _) s .refl h
  · exact h.elim
/-! places -/
theorem at_im {ds : List D} {vs : List V} {i : Int} {d : D} (h : ImAll G H vs ds) (e : atI ds i = some d) : ∃ v, atI vs i = some v ∧ Im G H v d := by
  unfold atI at e ⊢
  rw [h.length]
  cases q : ixN ds.length i with
  | none => rw [q] at e; cases e
  | some j =>
    rw [q] at e
    exact h.getD e
theorem okS_sign {z : Str} {c : Nat} (h : okS z) (hc : c ∈ z.cps.toList) : okS ⟨#[c]⟩ := by
  refine ⟨by show 1 ≤ 1000000; decide, ?_⟩
  have := h.2
  unfold PyData.strOk at this ⊢
  rw [Array.all_eq_true] at this
  simp only [List.size_toArray]
  obtain ⟨i, hi, e⟩ := List.getElem_of_mem hc
  have h1 := this i (by simpa using hi)
  have h2 : z.cps[i]'(by simpa using hi) = c := by simpa using e
  rw [h2] at h1
  simpa using h1
theorem atI_mem {α : Type} {xs : List α} {i : Int} {c : α} (h : atI xs i = some c) : c ∈ xs := by
  obtain ⟨j, _, h2, _⟩ := atI_get h
  exact List.mem_of_getElem? h2
theorem s2_ix : S2 G (rIx G.K) dIx := by
  intro x y d e H S Q R hx hy s h k
  unfold dIx at h
  split at h
  · cases im_int hy
    split at h
    · split at h
      · rename_i ds _ c hc
        obtain ⟨a, vs, rfl, e1, i1⟩ := im_seq (.inl hx)
        obtain ⟨v, hv, iv⟩ := at_im i1 hc
        exact .inr (.inl ⟨a, vs, _, v, rfl, rfl, e1, hv, k v c H S iv s .refl h⟩)
      · exact h.elim
    · split at h
      · rename_i ds _ c hc
        obtain ⟨a, vs, rfl, e1, i1⟩ := im_seq (.inr hx)
        obtain ⟨v, hv, iv⟩ := at_im i1 hc
        exact .inr (.inl ⟨a, vs, _, v, rfl, rfl, e1, hv, k v c H S iv s .refl h⟩)
      · exact h.elim
    · split at h
      · rename_i z _ c hc
        obtain ⟨rfl, o⟩ := im_str hx
        exact .inr (.inr ⟨z, _, c, rfl, rfl, le_line o.1, hc, k _ _ H S (.str _ (okS_sign o (atI_mem hc))) s .refl h⟩)
      · exact h.elim
    · cases im_ref hx
      obtain ⟨ds, e1, q⟩ := atL_of h
      obtain ⟨vs, hv, i1⟩ := s.ob _ _ e1
      split at q
      · rename_i c hc
        obtain ⟨v, hv2, iv⟩ := at_im i1 hc
        exact .inl ⟨_, vs, _, v, rfl, rfl, SqL.of hv, hv2, k v c H S iv s .refl q⟩
      · exact q.elim
    · exact h.elim
  · exact h.elim
theorem s1_neg : S1 G (rU fun i => .int (-i)) dNeg := by
  intro x d H S Q R hx s h k
  unfold dNeg at h
  split at h
  · cases im_int hx
    exact ⟨_, rfl, k _ _ H S (.int _) s .refl h⟩
  · exact h.elim
/-! builtins -/
theorem ia1 {vs : List V} {d : D} (h : ImAll G H vs [d]) : ∃ v, vs = [v] ∧ Im G H v d := by
  cases h with
  | cons h1 h2 => cases h2; exact ⟨_, rfl, h1⟩
theorem ia2 {vs : List V} {d e : D} (h : ImAll G H vs [d, e]) : ∃ v w, vs = [v, w] ∧ Im G H v d ∧ Im G H w e := by
  cases h with
  | cons h1 h2 =>
    obtain ⟨w, rfl, h3⟩ := ia1 h2
    exact ⟨_, w, rfl, h1, h3⟩
theorem sl_len : SL G (Ow.rLenU G.K) dLen := by
  intro xs ds H S Q R hx s h k
  unfold dLen at h
  split at h
  · obtain ⟨v, rfl, i⟩ := ia1 hx
    obtain ⟨rfl, o⟩ := im_str i
    exact ⟨_, _, rfl, ⟨le_line o.1, rfl⟩, k _ _ H S (.int _) s .refl h⟩
  · obtain ⟨v, rfl, i⟩ := ia1 hx
    obtain ⟨a, vs, rfl, e1, i1⟩ := im_seq (.inl i)
    exact ⟨_, _, rfl, .inr ⟨vs, e1, rfl⟩, by rw [i1.length]; exact k _ _ H S (.int _) s .refl h⟩
  · obtain ⟨v, rfl, i⟩ := ia1 hx
    obtain ⟨a, vs, rfl, e1, i1⟩ := im_seq (.inr i)
    exact ⟨_, _, rfl, .inr ⟨vs, e1, rfl⟩, by rw [i1.length]; exact k _ _ H S (.int _) s .refl h⟩
  · obtain ⟨v, rfl, i⟩ := ia1 hx
    cases im_ref i
    obtain ⟨ds, e1, q⟩ := atL_of h
    obtain ⟨vs, hv, i1⟩ := s.ob _ _ e1
    exact ⟨_, _, rfl, .inl ⟨vs, SqL.of hv, rfl⟩, by rw [i1.length]; exact k _ _ H S (.int _) s .refl q⟩
  · exact h.elim
theorem sl_list : SL G (Ow.rListU G.K) dList := by
  intro xs ds H S Q R hx s h k
  unfold dList at h
  split at h
  · obtain ⟨v, rfl, i⟩ := ia1 hx
    cases im_ref i
    obtain ⟨ds, e1, q⟩ := atL_of h
    obtain ⟨vs, hv, i1⟩ := s.ob _ _ e1
    refine ⟨_, vs, rfl, .inl (SqL.of hv), fun l hl => ?_⟩
    obtain ⟨a1, a2, a3⟩ := new_lst s hl i1
    exact k _ _ _ _ (.ref l) a2 a3 (q l a1)
  · obtain ⟨v, rfl, i⟩ := ia1 hx
    obtain ⟨a, vs, rfl, e1, i1⟩ := im_seq (.inl i)
    refine ⟨_, vs, rfl, .inr e1, fun l hl => ?_⟩
    obtain ⟨a1, a2, a3⟩ := new_lst s hl i1
    exact k _ _ _ _ (.ref l) a2 a3 (h l a1)
  · obtain ⟨v, rfl, i⟩ := ia1 hx
    obtain ⟨a, vs, rfl, e1, i1⟩ := im_seq (.inr i)
    refine ⟨_, vs, rfl, .inr e1, fun l hl => ?_⟩
    obtain ⟨a1, a2, a3⟩ := new_lst s hl i1
    exact k _ _ _ _ (.ref l) a2 a3 (h l a1)
  · exact h.elim
theorem sl_tuple : SL G (Ow.rTupleU G.K) dTuple := by
  intro xs ds H S Q R hx s h k
  unfold dTuple at h
  split at h
  · obtain ⟨v, rfl, i⟩ := ia1 hx
    cases im_ref i
    obtain ⟨ds, e1, q⟩ := atL_of h
    obtain ⟨vs, hv, i1⟩ := s.ob _ _ e1
    refine ⟨_, vs, rfl, .inl ⟨SqL.of hv, fun l hl => ?_⟩⟩
    obtain ⟨a1, a2, a3⟩ := new_tup s hl i1
    exact k _ _ _ S a1 a2 a3 q
  · obtain ⟨v, rfl, i⟩ := ia1 hx
    have i' := i
    obtain ⟨a, vs, rfl, e1, i1⟩ := im_seq (.inl i)
    exact ⟨_, vs, rfl, .inr ⟨e1, k _ _ H S i' s .refl h⟩⟩
  · obtain ⟨v, rfl, i⟩ := ia1 hx
    have i' := i
    obtain ⟨a, vs, rfl, e1, i1⟩ := im_seq (.inr i)
    exact ⟨_, vs, rfl, .inr ⟨e1, k _ _ H S i' s .refl h⟩⟩
  · exact h.elim
theorem sl_int : SL G Ow.rIntU dInt := by
  intro xs ds H S Q R hx s h k
  unfold dInt at h
  split at h
  · obtain ⟨v, rfl, i⟩ := ia1 hx
    cases im_int i
    exact .inl ⟨_, rfl, k _ _ H S (.int _) s .refl h⟩
  · obtain ⟨v, rfl, i⟩ := ia1 hx
    cases im_bl i
    exact .inr ⟨_, rfl, k _ _ H S (.int _) s .refl h⟩
  · exact h.elim
theorem ty_im {S : Sto} {d : D} {v : V} {n : String} (s : Sim G S H) (i : Im G H v d) (e : tyD S d = some n) : TyX G.K H v (.type n) ∧ n ∈ tyNames := by
  cases i with
  | non => cases e; exact ⟨.base .non, by decide⟩
  | bl b => cases e; exact ⟨.base (.bl b), by decide⟩
  | int i => cases e; exact ⟨.base (.int i), by decide⟩
  | str x _ => cases e; exact ⟨.base (.str x), by decide⟩
  | tup h1 _ => cases e; exact ⟨.base (.tup h1), by decide⟩
  | ctup _ h2 h3 _ _ => cases e; exact ⟨.kTuple h2 h3, by decide⟩
  | ref a =>
    simp only [tyD] at e
    split at e
    · rename_i ds hs
      cases e
      obtain ⟨vs, hv, _⟩ := s.ob _ _ hs
      exact ⟨.base (.lst hv), by decide⟩
    · rename_i ds hs
      cases e
      obtain ⟨vs, hv, _⟩ := s.ob _ _ hs
      exact ⟨.base (.dK hv), by decide⟩
    · rename_i ds hs
      cases e
      obtain ⟨vs, hv, _⟩ := s.ob _ _ hs
      exact ⟨.base (.dT hv), by decide⟩
    · cases e
  | scr => cases e
  | ty n => cases e
theorem kit_tab {n T : String} (h1 : n ∈ tyNames) (h2 : T ∈ ["int", "bool", "str", "tuple", "list", "dict"]) : kitB n T = some (isTy n T) := by
  simp only [tyNames, List.mem_cons, List.not_mem_nil, or_false] at h1 h2
  rcases h1 with rfl | rfl | rfl | rfl | rfl | rfl | rfl <;> rcases h2 with rfl | rfl | rfl | rfl | rfl | rfl <;> rfl
theorem sl_isi : SL G (rIsi G.K) dIsi := by
  intro xs ds H S Q R hx s h k
  unfold dIsi at h
  split at h
  · obtain ⟨v, w, rfl, i, j⟩ := ia2 hx
    cases im_ty j
    split at h
    · rename_i n hn
      obtain ⟨t, m⟩ := ty_im s i hn
      exact ⟨v, _, _, _, _, rfl, .ty _, t, kit_ty (kit_tab m (tyKn_mem h.1)), k _ _ H S (.bl _) s .refl h.2⟩
    · exact h.elim
  · exact h.elim
theorem im_bls : ∀ {bs : List Bool} {vs : List V}, ImAll G H vs (bs.map D.bl) → vs = bs.map V.bl
  | [], _, h => by cases h; rfl
  | b :: bs, _, h => by
    cases h with
    | cons h1 h2 => cases im_bl h1; rw [im_bls h2]; rfl
theorem bls_of : ∀ {ds : List D}, ds.all isBl = true → ∃ bs : List Bool, ds = bs.map D.bl
  | [], _ => ⟨[], rfl⟩
  | d :: ds, h => by
    rw [List.all_cons, Bool.and_eq_true] at h
    obtain ⟨bs, rfl⟩ := bls_of h.2
    cases d <;> first | exact ⟨_ :: bs, rfl⟩ | cases h.1
theorem all_bls : ∀ bs : List Bool, (bs.map D.bl).all isTr = bs.all id
  | [] => rfl
  | b :: bs => by
    rw [List.map_cons, List.all_cons, List.all_cons, all_bls bs]
    cases b <;> rfl
theorem sl_all : SL G (rAll G.K) dAll := by
  intro xs ds H S Q R hx s h k
  unfold dAll at h
  split at h
  · obtain ⟨v, rfl, i⟩ := ia1 hx
    cases im_ref i
    obtain ⟨ds, e1, c1, q⟩ := atL_of h
    obtain ⟨bs, rfl⟩ := bls_of c1
    obtain ⟨vs, hv, i1⟩ := s.ob _ _ e1
    cases im_bls i1
    rw [all_bls] at q
    exact ⟨_, bs, rfl, SqL.of hv, k _ _ H S (.bl _) s .refl q⟩
  · exact h.elim
/-! slices -/
abbrev DO := DV → Sto → (Option Int → Sto → Prop) → Prop
def oNone : DO := fun _ S Q => Q none S
def oSome (a : DE) : DO := fun δ S Q => a δ S fun x S1 => match x with | .int i => Q (some i) S1 | _ => False
def SO (G : Gm) (N : En) (t : TO) (f : DO) : Prop := ∀ (σ : L2.St) (δ : DV) (H : Hp) (S : Sto) (Q : Option Int → Sto → Prop) (R : Option Int → Hp → Prop), Rel G N σ δ S H → f δ S Q → (∀ b H' S', Rel G N σ δ S' H' → Up S S' H H' → Q b S' → R b H') → t σ H R
def cutD (xs : List D) (lo hi : Option Int) : List D := (xs.drop (HT.sIx xs.length 0 lo)).take (HT.sIx xs.length xs.length hi - HT.sIx xs.length 0 lo)
def dSl (x : D) (lo hi : Option Int) : Sto → DK → Prop := fun S Q => match x with
  | .tup ds => Q (.tup (cutD ds lo hi)) S
  | .ref a => atL S a fun ds => ∀ p, S p = none → Q (.ref p) (sup S p (.lst (cutD ds lo hi)))
  | _ => False
def eSl (a : DE) (l u : DO) : DE := fun δ S Q => a δ S fun x S1 => l δ S1 fun lo S2 => u δ S2 fun hi S3 => dSl x lo hi S3 Q
theorem so_none {N : En} : SO G N tNoPart oNone := fun σ δ H S Q R rl h k => k none H S rl .refl h
theorem so_some {N : En} {ta : TE} {fa : DE} (ha : SE G N ta fa) : SO G N (tPart ta) (oSome fa) := by
  intro σ δ H S Q R rl h k
  refine ha σ δ H S _ _ rl h fun x d H1 S1 i1 r1 u1 q1 => ?_
  cases d <;> first | exact q1.elim | skip
  exact ⟨_, im_int i1, k _ H1 S1 r1 u1 q1⟩
theorem cut_im {xs : List V} {ds : List D} (h : ImAll G H xs ds) (lo hi : Option Int) : ImAll G H (cutV xs lo hi) (cutD ds lo hi) := by
  unfold cutV cutD
  rw [h.length]
  exact (h.drop _).take _
theorem cut_whole {xs : List D} {lo hi : Option Int} (h : HT.sIx xs.length 0 lo = 0 ∧ HT.sIx xs.length xs.length hi = xs.length) : cutD xs lo hi = xs := by
  unfold cutD
  rw [h.1, h.2]
  simp
theorem se_sl {N : En} {ta : TE} {fa : DE} {tl tu : TO} {fl fu : DO} (ha : SE G N ta fa) (hl : SO G N tl fl) (hu : SO G N tu fu) : SE G N (tSl (Ow.rSlU G.K) ta tl tu) (eSl fa fl fu) := by
  intro σ δ H S Q R rl h k
  refine ha σ δ H S _ _ rl h fun x d H1 S1 i1 r1 u1 q1 => ?_
  refine hl σ δ H1 S1 _ _ r1 q1 fun lo H2 S2 r2 u2 q2 => ?_
  refine hu σ δ H2 S2 _ _ r2 q2 fun hi H3 S3 r3 u3 q3 => ?_
  have i3 := (i1.go (u2.tu r1.sim)).go (u3.tu r2.sim)
  have uu := u1.trans (u2.trans u3)
  unfold dSl at q3
  split at q3
  · rename_i ds
    have i3' := i3
    obtain ⟨a, vs, rfl, e1, j1⟩ := im_tup i3
    refine .inr (.inl ⟨a, vs, rfl, SqT.of e1, fun z => ?_, fun z p hp => ?_⟩)
    · rw [j1.length] at z
      rw [cut_whole z] at q3
      exact k _ _ H3 S3 i3' r3 uu q3
    · obtain ⟨a1, a2, a3⟩ := new_tup r3.sim hp (cut_im j1 lo hi)
      exact k _ _ _ S3 a1 (r3.go a2 a3) (uu.trans a3) q3
  · cases im_ref i3
    obtain ⟨ds, e1, q⟩ := atL_of q3
    obtain ⟨vs, hv, j1⟩ := r3.sim.ob _ _ e1
    refine .inl ⟨_, vs, rfl, SqL.of hv, fun p hp => ?_⟩
    obtain ⟨a1, a2, a3⟩ := new_lst r3.sim hp (cut_im j1 lo hi)
    exact k _ _ _ _ (.ref p) (r3.go a2 a3) (uu.trans a3) (q p a1)
  · exact q3.elim
end
end Sd

set_option Elab.async false
set_option linter.all false
set_option maxRecDepth 100000
set_option maxHeartbeats 4000000
namespace Sd
open PySem PySem.Spec PyProof.Rows L2 GxR

/-! ### slots forgotten -/
def wipeD (δ : DV) : List Nat → DV
  | [] => δ
  | v :: vs => (wipeD δ vs).set v none
theorem wipeD_length (δ : DV) : ∀ vs : List Nat, (wipeD δ vs).length = δ.length
  | [] => rfl
  | v :: vs => by unfold wipeD; rw [List.length_set, wipeD_length δ vs]
theorem Sl.wipe {G : Gm} {H : Hp} {σ : L2.St} {δ : DV} (h : Sl G H σ δ) : ∀ vs, Sl G H (L2.wipe σ vs) (wipeD δ vs)
  | [] => h
  | v :: vs => by
    have ih := Sl.wipe h vs
    unfold L2.wipe wipeD
    refine ⟨by rw [List.length_set, List.length_set]; exact ih.len, fun j e hj => ?_⟩
    rw [List.getElem?_set] at hj ⊢
    by_cases y : v = j
    · rw [if_pos y] at hj
      split at hj <;> cases hj
    · rw [if_neg y] at hj ⊢
      exact ih.at_ j e hj
theorem wipe_set {σ : L2.St} {i : Nat} {x : Option V} : ∀ {vs : List Nat}, i ∈ vs → L2.wipe (σ.set i x) vs = L2.wipe σ vs
  | [], h => by cases h
  | v :: vs, h => by
    unfold L2.wipe
    by_cases e : i ∈ vs
    · rw [wipe_set e]
    · have hv : i = v := by
        rcases List.mem_cons.mp h with h | h
        · exact h
        · exact absurd h e
      subst hv
      have : ∀ ws : List Nat, i ∉ ws → L2.wipe (σ.set i x) ws = (L2.wipe σ ws).set i x := by
        intro ws
        induction ws with
        | nil => intro _; rfl
        | cons w ws ih =>
          intro hw
          rw [List.mem_cons, not_or] at hw
          unfold L2.wipe
          rw [ih hw.2, List.set_comm _ _ hw.1]
      rw [this vs e, List.set_set]
theorem wipeD_set {δ : DV} {i : Nat} {x : Option D} : ∀ {vs : List Nat}, i ∈ vs → wipeD (δ.set i x) vs = wipeD δ vs
  | [], h => by cases h
  | v :: vs, h => by
    unfold wipeD
    by_cases e : i ∈ vs
    · rw [wipeD_set e]
    · have hv : i = v := by
        rcases List.mem_cons.mp h with h | h
        · exact h
        · exact absurd h e
      subst hv
      have : ∀ ws : List Nat, i ∉ ws → wipeD (δ.set i x) ws = (wipeD δ ws).set i x := by
        intro ws
        induction ws with
        | nil => intro _; rfl
        | cons w ws ih =>
          intro hw
          rw [List.mem_cons, not_or] at hw
          unfold wipeD
          rw [ih hw.2, List.set_comm _ _ hw.1]
      rw [this vs e, List.set_set]
theorem wipe_wipe (σ : L2.St) : ∀ vs : List Nat, L2.wipe (L2.wipe σ vs) vs = L2.wipe σ vs := by
  have gen : ∀ ws vs : List Nat, (∀ v ∈ ws, v ∈ vs) → L2.wipe (L2.wipe σ ws) vs = L2.wipe σ vs := by
    intro ws
    induction ws with
    | nil => intro vs _; rfl
    | cons w ws ih =>
      intro vs h
      show L2.wipe ((L2.wipe σ ws).set w none) vs = _
      rw [wipe_set (h w List.mem_cons_self), ih vs fun v hv => h v (List.mem_cons_of_mem _ hv)]
  intro vs
  exact gen vs vs fun _ h => h
theorem wipeD_wipe (δ : DV) : ∀ vs : List Nat, wipeD (wipeD δ vs) vs = wipeD δ vs := by
  have gen : ∀ ws vs : List Nat, (∀ v ∈ ws, v ∈ vs) → wipeD (wipeD δ ws) vs = wipeD δ vs := by
    intro ws
    induction ws with
    | nil => intro vs _; rfl
    | cons w ws ih =>
      intro vs h
      show wipeD ((wipeD δ ws).set w none) vs = _
      rw [wipeD_set (h w List.mem_cons_self), ih vs fun v hv => h v (List.mem_cons_of_mem _ hv)]
  intro vs
  exact gen vs vs fun _ h => h

/-! ### targets -/
abbrev DG := D → DV → Sto → (DV → Sto → Prop) → Prop
abbrev DGs := List D → DV → Sto → (DV → Sto → Prop) → Prop
def SG (G : Gm) (N : En) (ws : List Nat) (t : TG) (g : DG) : Prop := ∀ (v : V) (d : D) (σ : L2.St) (δ : DV) (H : Hp) (S : Sto) (Q : DV → Sto → Prop) (R : L2.St → Hp → Prop), Rel G N σ δ S H → Im G H v d → g d δ S Q →
  (∀ σ' δ' H' S', Rel G N σ' δ' S' H' → Up S S' H H' → (∀ vs, (∀ i ∈ ws, i ∈ vs) → L2.wipe σ' vs = L2.wipe σ vs ∧ wipeD δ' vs = wipeD δ vs) → Q δ' S' → R σ' H') → t v σ H R
def SGs (G : Gm) (N : En) (ws : List Nat) (t : TGs) (g : DGs) : Prop := ∀ (v : List V) (d : List D) (σ : L2.St) (δ : DV) (H : Hp) (S : Sto) (Q : DV → Sto → Prop) (R : L2.St → Hp → Prop), Rel G N σ δ S H → ImAll G H v d → g d δ S Q →
  (∀ σ' δ' H' S', Rel G N σ' δ' S' H' → Up S S' H H' → (∀ vs, (∀ i ∈ ws, i ∈ vs) → L2.wipe σ' vs = L2.wipe σ vs ∧ wipeD δ' vs = wipeD δ vs) → Q δ' S' → R σ' H') → t v σ H R
def xName (i : Nat) : DG := fun d δ S Q => Q (δ.set i (some d)) S
def xNil : DGs := fun ds δ S Q => ds = [] ∧ Q δ S
def xCons (t : DG) (u : DGs) : DGs := fun ds δ S Q => match ds with | d :: r => t d δ S fun δ' S' => u r δ' S' Q | [] => False
def xTup (n : Nat) (t : DGs) : DG := fun d δ S Q => match d with | .tup ds => ds.length = n ∧ t ds δ S Q | .ctup ds => ds.length = n ∧ t ds δ S Q | _ => False
section
variable {G : Gm} {N : En} {ws us : List Nat}
theorem sg_name {i : Nat} : SG G N [i] (gName i) (xName i) := by
  intro v d σ δ H S Q R rl im h k
  refine k _ _ H S (rl.set i im) .refl (fun vs hv => ⟨wipe_set (hv i List.mem_cons_self), wipeD_set (hv i List.mem_cons_self)⟩) h
theorem sgs_nil : SGs G N [] gNil xNil := by
  intro v d σ δ H S Q R rl im ⟨e, h⟩ k
  subst e
  cases im
  exact ⟨rfl, k σ δ H S rl .refl (fun _ _ => ⟨rfl, rfl⟩) h⟩
theorem sgs_cons {t : TG} {g : DG} {ts : TGs} {gs : DGs} (h1 : SG G N ws t g) (h2 : SGs G N us ts gs) : SGs G N (ws ++ us) (gCons t ts) (xCons g gs) := by
  intro v d σ δ H S Q R rl im h k
  cases im with
  | nil => exact h.elim
  | @cons v vs d ds i1 i2 =>
    refine ⟨v, vs, rfl, h1 v d σ δ H S _ _ rl i1 h fun σ1 δ1 H1 S1 r1 u1 w1 q1 => ?_⟩
    refine h2 vs ds σ1 δ1 H1 S1 _ _ r1 (i2.go (u1.tu rl.sim)) q1 fun σ2 δ2 H2 S2 r2 u2 w2 q2 => ?_
    refine k _ _ H2 S2 r2 (u1.trans u2) (fun ws' hw => ?_) q2
    obtain ⟨a1, a2⟩ := w1 ws' fun i hi => hw i (List.mem_append_left _ hi)
    obtain ⟨b1, b2⟩ := w2 ws' fun i hi => hw i (List.mem_append_right _ hi)
    exact ⟨b1.trans a1, b2.trans a2⟩
theorem sg_tup {n : Nat} {ts : TGs} {gs : DGs} (h1 : SGs G N ws ts gs) : SG G N ws (gTup G.K n ts) (xTup n gs) := by
  intro v d σ δ H S Q R rl im h k
  unfold xTup at h
  split at h
  · obtain ⟨a, xs, rfl, e1, i1⟩ := im_seq (.inl im)
    exact ⟨a, xs, rfl, e1, by rw [i1.length]; exact h.1, h1 xs _ σ δ H S Q R rl i1 h.2 k⟩
  · obtain ⟨a, xs, rfl, e1, i1⟩ := im_seq (.inr im)
    exact ⟨a, xs, rfl, e1, by rw [i1.length]; exact h.1, h1 xs _ σ δ H S Q R rl i1 h.2 k⟩
  · exact h.elim
end
/-- o[i] = v of a list -/
def xSub (fo fi : DE) : DG := fun d δ S Q => fo δ S fun o S1 => fi δ S1 fun i S2 => match o, i with
  | .ref a, .int k => atL S2 a fun ds => (match ixN ds.length k with | some j => Q δ (sup S2 a (.lst (ds.set j d))) | none => False)
  | _, _ => False

/-! ### statements -/
section
variable {G : Gm} {N : En}
theorem EOk.go {S S1 : Sto} {H H1 : Hp} {D : DN} {E : Ends} (k : EOk G N S H D E) (u : Up S S1 H H1) : EOk G N S1 H1 D E :=
  ⟨fun σ δ H' S' r v => k.nx σ δ H' S' r (u.trans v), fun σ δ H' S' r v => k.bk σ δ H' S' r (u.trans v), fun σ δ H' S' r v => k.ct σ δ H' S' r (u.trans v), k.rt⟩
def sNext : DS := fun D δ S => D.nx δ S
/-- what follows, folded -/
noncomputable def NX (u : DS) (D : DN) : DV → Sto → Prop := Classical.choose (⟨_, rfl⟩ : ∃ X : DV → Sto → Prop, X = fun δ S => u D δ S)
theorem NX_eq (u : DS) (D : DN) : NX u D = fun δ S => u D δ S := Classical.choose_spec (⟨_, rfl⟩ : ∃ X : DV → Sto → Prop, X = fun δ S => u D δ S)
theorem nx_go {u : DS} {D : DN} {δ : DV} {S : Sto} (h : u D δ S) : NX u D δ S := by rw [NX_eq]; exact h
theorem nx_of {u : DS} {D : DN} {δ : DV} {S : Sto} (h : NX u D δ S) : u D δ S := by rw [NX_eq] at h; exact h
noncomputable def sSeq (t u : DS) : DS := fun D δ S => t { D with nx := NX u D } δ S
def sBreak : DS := fun D δ S => D.bk δ S
def sCont : DS := fun D δ S => D.ct δ S
def sDrop (e : DE) : DS := fun D δ S => e δ S fun _ S1 => D.nx δ S1
def sRet (e : DE) : DS := fun D δ S => e δ S D.rt
def sRetN : DS := fun D _ S => D.rt .non S
def sIf (c : DT) (t u : DS) : DS := fun D δ S => c δ S fun b S1 => br b (t D δ S1) (u D δ S1)
def sAsg (e : DE) (g : DG) : DS := fun D δ S => e δ S fun x S1 => g x δ S1 D.nx
def sAug (i : Nat) (e : DE) (r : B2) : DS := fun D δ S => match δ[i]? with | some (some x) => e δ S fun y S1 => r x y S1 fun z S2 => D.nx (δ.set i (some z)) S2 | _ => False
def sNever : DS := fun _ _ _ => False
variable {te : TE} {fe : DE} {ts us : TS} {ft fu : DS} {tc : TT} {fc : DT}
theorem ss_next : SS G N tNext sNext := fun σ δ H S D E r h k => k.nx σ δ H S r .refl h
theorem ss_seq (h1 : SS G N ts ft) (h2 : SS G N us fu) : SS G N (tSeq ts us) (sSeq ft fu) := fun σ δ H S D E r h k =>
  h1 σ δ H S _ _ r h ⟨fun σ' δ' H' S' r' u q => h2 σ' δ' H' S' D E r' (nx_of q) (k.go u), k.bk, k.ct, k.rt⟩
theorem ss_break : SS G N tBreak sBreak := fun σ δ H S D E r h k => k.bk σ δ H S r .refl h
theorem ss_cont : SS G N tCont sCont := fun σ δ H S D E r h k => k.ct σ δ H S r .refl h
theorem ss_drop (he : SE G N te fe) : SS G N (tDrop te) (sDrop fe) := fun σ δ H S D E r h k => he σ δ H S _ _ r h fun v d H' S' i r' u q => k.nx σ δ H' S' r' u q
theorem ss_ret (he : SE G N te fe) : SS G N (tRet te) (sRet fe) := fun σ δ H S D E r h k => he σ δ H S _ _ r h fun v d H' S' i r' u q => k.rt v d H' S' i r'.sim r'.up q
theorem ss_retN : SS G N tRetN sRetN := fun σ δ H S D E r h k => k.rt .non .non H S .non r.sim r.up h
theorem ss_if (hc : ST G N tc fc) (h1 : SS G N ts ft) (h2 : SS G N us fu) : SS G N (tIfS tc ts us) (sIf fc ft fu) := by
  intro σ δ H S D E r h k
  refine hc σ δ H S _ _ r h fun b H1 S1 r1 u1 q => ?_
  cases b with
  | true => rw [if_pos rfl]; exact h1 σ δ H1 S1 D E r1 (q.1 rfl) (k.go u1)
  | false => rw [if_neg Bool.false_ne_true]; exact h2 σ δ H1 S1 D E r1 (q.2 rfl) (k.go u1)
theorem ss_asg {ws : List Nat} {tg : TG} {g : DG} (he : SE G N te fe) (hg : SG G N ws tg g) : SS G N (tAsg te tg) (sAsg fe g) := by
  intro σ δ H S D E r h k
  refine he σ δ H S _ _ r h fun v d H1 S1 i1 r1 u1 q1 => ?_
  exact hg v d σ δ H1 S1 _ _ r1 i1 q1 fun σ2 δ2 H2 S2 r2 u2 _ q2 => k.nx σ2 δ2 H2 S2 r2 (u1.trans u2) q2
theorem ss_aug {i : Nat} {tip : TIp} {rd : B2} (ho : S2 G tip rd) (he : SE G N te fe) : SS G N (tAug i te tip) (sAug i fe rd) := by
  intro σ δ H S D E r h k
  unfold sAug at h
  split at h
  · rename_i x e
    obtain ⟨v, hv, iv⟩ := r.sl.at_ i x e
    refine ⟨v, hv, he σ δ H S _ _ r h fun w d H1 S1 i1 r1 u1 q1 => ?_⟩
    exact ho v w x d H1 S1 _ _ (iv.go (u1.tu r.sim)) i1 r1.sim q1 fun z d2 H2 S2 i2 s2 u2 q2 => k.nx _ _ H2 S2 ((r1.go s2 u2).set i i2) (u1.trans u2) q2
  · exact h.elim
theorem s2_ipadd : S2 G (ipI fun i j => i + j) (dI (fun _ _ => True) fun i j => .int (i + j)) := by
  intro x y d e H S Q R hx hy s h k
  unfold dI at h
  split at h
  · cases im_int hx; cases im_int hy
    exact ⟨_, _, rfl, rfl, k _ _ H S (.int _) s .refl h.2⟩
  · exact h.elim
theorem s2_ipsub : S2 G (ipI fun i j => i - j) (dI (fun _ _ => True) fun i j => .int (i - j)) := by
  intro x y d e H S Q R hx hy s h k
  unfold dI at h
  split at h
  · cases im_int hx; cases im_int hy
    exact ⟨_, _, rfl, rfl, k _ _ H S (.int _) s .refl h.2⟩
  · exact h.elim
theorem ss_never : SS G N tNever sNever := fun _ _ _ _ _ _ _ h _ => h.elim
theorem sg_sub {to ti : TE} {fo fi : DE} (ho : SE G N to fo) (hi : SE G N ti fi) : SG G N [] (gSub to ti rSetL) (xSub fo fi) := by
  intro v d σ δ H S Q R rl im h k
  refine ho σ δ H S _ _ rl h fun o o' H1 S1 i1 r1 u1 q1 => ?_
  refine hi σ δ H1 S1 _ _ r1 q1 fun i i' H2 S2 i2 r2 u2 q2 => ?_
  have io := i1.go (u2.tu r1.sim)
  split at q2
  · rename_i a k'
    cases im_ref io
    cases im_int i2
    obtain ⟨ds, e1, q⟩ := atL_of q2
    obtain ⟨xs, hx, ix⟩ := r2.sim.ob _ _ e1
    split at q
    · rename_i j hj
      have i3 := (im.go (u1.tu rl.sim)).go (u2.tu r1.sim)
      have t : Tu H2 (upd H2 a (.lst (xs.set j v))) := fun b ys hb => by rw [upd_ne (fun y => by rw [y, hx] at hb; cases hb)]; exact hb
      obtain ⟨s3, u3⟩ := r2.sim.put (o := .lst (ds.set j d)) (ho := .lst (xs.set j v)) e1 (by simp) rfl ⟨_, upd_same, (ix.set j i3).go t⟩
      exact ⟨a, xs, k', j, rfl, rfl, hx, by rw [ix.length]; exact hj, k σ δ _ _ (r2.go s3 u3) (u1.trans (u2.trans u3)) (fun _ _ => ⟨rfl, rfl⟩) q⟩
    · exact q.elim
  · exact q2.elim
end

/-! ### what is walked -/
structure Src where
  items : List D
  ok : Sto → Prop
abbrev DI := DV → Sto → (Src → Sto → Prop) → Prop
def JOk (G : Gm) (J : It) (src : Src) (S : Sto) (H : Hp) : Prop := ∀ S2 H2, Sim G S2 H2 → Up S S2 H H2 → src.ok S2 → ∀ i, i ≤ src.items.length →
  (i < src.items.length → J.go i H2) ∧ (i = src.items.length → J.stop i H2) ∧ ∀ x H', i < src.items.length → J.yld i H2 x H' → ∃ d, src.items[i]? = some d ∧ Im G H' x d ∧ Sim G S2 H' ∧ Up S2 S2 H2 H' ∧ Ext H2 H'
def SI (G : Gm) (N : En) (t : TI) (f : DI) : Prop := ∀ (σ : L2.St) (δ : DV) (H : Hp) (S : Sto) (Q : Src → Sto → Prop) (R : It → Hp → Prop), Rel G N σ δ S H → f δ S Q → (∀ J src H' S', JOk G J src S' H' → Rel G N σ δ S' H' → Up S S' H H' → Q src S' → R J H') → t σ H R
def forD (ok : Sto → Prop) (g : DG) (tb : DS) : List D → DS
  | [] => fun D δ S => ok S ∧ D.nx δ S
  | x :: xs => fun D δ S => ok S ∧ g x δ S fun δ' S' => tb { D with nx := forD ok g tb xs D, ct := forD ok g tb xs D, bk := D.nx } δ' S'
def sFor (wi : DI) (g : DG) (tb : DS) : DS := fun D δ S => wi δ S fun src S' => forD src.ok g tb src.items D δ S'
def whN (c : DT) (tb : DS) : Nat → DS
  | 0 => fun _ _ _ => False
  | n + 1 => fun D δ S => c δ S fun b S1 => br b (tb { D with nx := whN c tb n D, ct := whN c tb n D, bk := D.nx } δ S1) (D.nx δ S1)
def sWhile (c : DT) (tb : DS) : DS := fun D δ S => ∃ n, whN c tb n D δ S
section
variable {G : Gm} {N : En}
theorem ss_for {ws : List Nat} {twi : TI} {wi : DI} {tg : TG} {g : DG} {tb : TS} {fb : DS} (hi : SI G N twi wi) (hg : SG G N ws tg g) (hb : SS G N tb fb) : SS G N (tFor twi tg tb) (sFor wi g fb) := by
  intro σ δ H S D E r h k
  refine hi σ δ H S _ _ r h fun J src H1 S1 jk r1 u1 q1 => ?_
  refine ⟨fun i m σ' H' => m = src.items.length - i ∧ i ≤ src.items.length ∧ ∃ δ' S', Rel G N σ' δ' S' H' ∧ Up S1 S' H1 H' ∧ forD src.ok g fb (src.items.drop i) D δ' S', ⟨src.items.length, by simp, Nat.zero_le _, δ, S1, r1, .refl, by simpa using q1⟩, ?_⟩
  rintro i m σ' H' ⟨rfl, hi', δ', S', r', u', q'⟩
  by_cases hlt : i < src.items.length
  · rw [List.drop_eq_getElem_cons hlt] at q'
    obtain ⟨a1, _, a3⟩ := jk S' H' r'.sim u' q'.1 i hi'
    refine .inr ⟨a1 hlt, fun σ2 H2 => ∃ δ2 S2, Rel G N σ2 δ2 S2 H2 ∧ Up S1 S2 H1 H2 ∧ forD src.ok g fb (src.items.drop (i + 1)) D δ2 S2, fun σ2 H2 ⟨δ2, S2, x1, x2, x3⟩ => ⟨src.items.length - (i + 1), by omega, rfl, hlt, δ2, S2, x1, x2, x3⟩, fun x H2 y => ?_⟩
    obtain ⟨d, hd, im, s2, u2, _⟩ := a3 x H2 hlt y
    rw [List.getElem?_eq_getElem hlt] at hd
    cases hd
    refine hg x _ σ' δ' H2 S' _ _ (r'.go s2 u2) im q'.2 fun σ3 δ3 H3 S3 r3 u3 _ q3 => ?_
    have uu := u'.trans (u2.trans u3)
    exact hb σ3 δ3 H3 S3 _ _ r3 q3 ⟨fun σ4 δ4 H4 S4 r4 u4 q4 => ⟨δ4, S4, r4, uu.trans u4, q4⟩, fun σ4 δ4 H4 S4 r4 u4 q4 => k.nx σ4 δ4 H4 S4 r4 (u1.trans (uu.trans u4)) q4, fun σ4 δ4 H4 S4 r4 u4 q4 => ⟨δ4, S4, r4, uu.trans u4, q4⟩, k.rt⟩
  · have e : i = src.items.length := by omega
    subst e
    rw [List.drop_length] at q'
    obtain ⟨_, a2, _⟩ := jk S' H' r'.sim u' q'.1 _ (Nat.le_refl _)
    exact .inl ⟨a2 rfl, k.nx σ' δ' H' S' r' (u1.trans u') q'.2⟩
theorem ss_while {tc : TT} {fc : DT} {tb : TS} {fb : DS} (hc : ST G N tc fc) (hb : SS G N tb fb) : SS G N (tWhile tc tb) (sWhile fc fb) := by
  rintro σ δ H S D E r ⟨n, h⟩ k
  refine ⟨fun m σ' H' => ∃ δ' S', Rel G N σ' δ' S' H' ∧ Up S S' H H' ∧ whN fc fb m D δ' S', ⟨n, δ, S, r, .refl, h⟩, ?_⟩
  rintro m σ' H' ⟨δ', S', r', u', q'⟩
  cases m with
  | zero => exact q'.elim
  | succ m =>
    refine hc σ' δ' H' S' _ _ r' q' fun b H1 S1 r1 u1 q1 => ?_
    cases b with
    | true =>
      rw [if_pos rfl]
      refine ⟨fun σ2 H2 => ∃ δ2 S2, Rel G N σ2 δ2 S2 H2 ∧ Up S S2 H H2 ∧ whN fc fb m D δ2 S2, fun σ2 H2 ⟨δ2, S2, x⟩ => ⟨m, Nat.lt_succ_self m, δ2, S2, x⟩, ?_⟩
      have uu := u'.trans u1
      exact hb σ' δ' H1 S1 _ _ r1 (q1.1 rfl) ⟨fun σ4 δ4 H4 S4 r4 u4 q4 => ⟨δ4, S4, r4, uu.trans u4, q4⟩, fun σ4 δ4 H4 S4 r4 u4 q4 => k.nx σ4 δ4 H4 S4 r4 (uu.trans u4) q4, fun σ4 δ4 H4 S4 r4 u4 q4 => ⟨δ4, S4, r4, uu.trans u4, q4⟩, k.rt⟩
    | false =>
      rw [if_neg Bool.false_ne_true]
      exact k.nx σ' δ' H1 S1 r1 (u'.trans u1) (q1.2 rfl)

/-! what is walked, kind by kind -/
def iL (e : DE) : DI := fun δ S Q => e δ S fun x S1 => match x with | .ref a => atL S1 a fun ds => Q ⟨ds, fun S2 => S2 a = some (.lst ds)⟩ S1 | _ => False
def iT (e : DE) : DI := fun δ S Q => e δ S fun x S1 => match x with | .tup ds => Q ⟨ds, fun _ => True⟩ S1 | .ctup ds => Q ⟨ds, fun _ => True⟩ S1 | _ => False
def signs (z : Str) : List D := z.cps.toList.map fun c => .str ⟨#[c]⟩
def iS (e : DE) : DI := fun δ S Q => e δ S fun x S1 => match x with | .str z => Q ⟨signs z, fun _ => True⟩ S1 | _ => False
def upto (lo : Int) (n : Nat) : List D := (List.range n).map fun i => .int (lo + (i : Nat))
def iR1 (a : DA) : DI := fun δ S Q => a δ S fun xs S1 => match xs with | [.int j] => -(2 ^ 62) ≤ j ∧ j < 2 ^ 62 ∧ Q ⟨upto 0 j.toNat, fun _ => True⟩ S1 | _ => False
def iR2 (a : DA) : DI := fun δ S Q => a δ S fun xs S1 => match xs with | [.int i, .int j] => -(2 ^ 62) ≤ i ∧ i < 2 ^ 62 ∧ -(2 ^ 62) ≤ j ∧ j < 2 ^ 62 ∧ Q ⟨upto i (j - i).toNat, fun _ => True⟩ S1 | _ => False
variable {te : TE} {fe : DE}
theorem si_list (he : SE G N te fe) : SI G N (iList G.K te) (iL fe) := by
  intro σ δ H S Q R r h k
  refine he σ δ H S _ _ r h fun v d H1 S1 i1 r1 u1 q1 => ?_
  split at q1
  · rename_i a
    cases im_ref i1
    obtain ⟨ds, e1, q⟩ := atL_of q1
    obtain ⟨xs, hx, ix⟩ := r1.sim.ob _ _ e1
    refine ⟨a, rfl, ⟨xs, SqL.of hx⟩, k _ ⟨ds, fun S2 => S2 a = some (.lst ds)⟩ H1 S1 (fun S2 H2 s2 u2 ok i hi => ?_) r1 u1 q⟩
    obtain ⟨ys, hy, iy⟩ := s2.ob _ _ ok
    have hl := iy.length
    refine ⟨fun z => ⟨ys, ys[i], SqL.of hy, List.getElem?_eq_getElem (by show i < ys.length; rw [hl]; exact z)⟩, fun z => ⟨ys, SqL.of hy, by rw [hl]; exact Nat.le_of_eq z.symm⟩, fun x H' z y => ?_⟩
    obtain ⟨rfl, y⟩ := y
    obtain ⟨e, he2, ie⟩ := iy.get (y ys (SqL.of hy))
    exact ⟨e, he2, ie, s2, .refl, .refl⟩
  · exact q1.elim
theorem jok_tup {a : Addr} {xs : List V} {ds : List D} {S : Sto} {H : Hp} (s : Sim G S H) (e1 : H a = some (.tup xs) ∨ ∀ H1, SqT G.K H1 a xs) (i1 : ImAll G H xs ds) : JOk G (Itt G.K a) ⟨ds, fun _ => True⟩ S H := by
  intro S2 H2 s2 u2 _ i hi
  have hl := i1.length
  have t := u2.tu s
  have e2 : SqT G.K H2 a xs := by
    rcases e1 with e1 | e1
    · exact SqT.of (t _ _ e1)
    · exact e1 H2
  refine ⟨fun z => ⟨xs, xs[i], e2, List.getElem?_eq_getElem (by show i < xs.length; rw [hl]; exact z)⟩, fun z => ⟨xs, e2, by rw [hl]; exact Nat.le_of_eq z.symm⟩, fun x H' z y => ?_⟩
  obtain ⟨rfl, y⟩ := y
  obtain ⟨e, he2, ie⟩ := i1.get (y xs e2)
  exact ⟨e, he2, ie.go t, s2, .refl, .refl⟩
theorem si_tup (he : SE G N te fe) : SI G N (iTup G.K te) (iT fe) := by
  intro σ δ H S Q R r h k
  refine he σ δ H S _ _ r h fun v d H1 S1 i1 r1 u1 q1 => ?_
  split at q1
  · obtain ⟨a, xs, rfl, e1, j1⟩ := im_tup i1
    exact ⟨a, rfl, ⟨xs, SqT.of e1⟩, k _ _ H1 S1 (jok_tup r1.sim (.inl e1) j1) r1 u1 q1⟩
  · match i1 with
    | .ctup h1 _ _ _ h2 => exact ⟨_, rfl, ⟨_, h1 H1⟩, k _ _ H1 S1 (jok_tup r1.sim (.inr h1) h2) r1 u1 q1⟩
  · exact q1.elim
theorem si_str (he : SE G N te fe) : SI G N (iStr te) (iS fe) := by
  intro σ δ H S Q R r h k
  refine he σ δ H S _ _ r h fun v d H1 S1 i1 r1 u1 q1 => ?_
  split at q1
  · rename_i z
    obtain ⟨rfl, o⟩ := im_str i1
    refine ⟨z, rfl, k _ _ H1 S1 (fun S2 H2 s2 u2 _ i hi => ?_) r1 u1 q1⟩
    have hl : (signs z).length = z.cps.size := by simp [signs]
    simp only [hl] at hi ⊢
    refine ⟨fun y => y, fun y => by show z.cps.size ≤ i; omega, fun x H' y w => ?_⟩
    obtain ⟨rfl, c, hc, rfl⟩ := w
    refine ⟨.str ⟨#[c]⟩, ?_, .str _ (okS_sign o ?_), s2, .refl, .refl⟩
    · have : z.cps.toList[i]? = some c := by simpa using hc
      simp [signs, this]
    · have : z.cps.toList[i]? = some c := by simpa using hc
      exact List.mem_of_getElem? this
  · exact q1.elim
theorem jok_ints {lo : Int} {n : Nat} {S : Sto} {H : Hp} : JOk G (Itr lo n) ⟨upto lo n, fun _ => True⟩ S H := by
  intro S2 H2 s2 u2 _ i hi
  have hl : (upto lo n).length = n := by simp [upto]
  simp only [hl] at hi ⊢
  refine ⟨fun y => y, fun y => by show n ≤ i; omega, fun x H' y w => ?_⟩
  obtain ⟨rfl, rfl⟩ := w
  exact ⟨.int (lo + (i : Nat)), by simp [upto, y], .int _, s2, .refl, .refl⟩
theorem si_r1 {tl : TA} {fl : DA} (ha : SA G N tl fl) : SI G N (iRng1 tl) (iR1 fl) := by
  intro σ δ H S Q R r h k
  refine ha σ δ H S _ _ r h fun vs ds H1 S1 i1 r1 u1 q1 => ?_
  split at q1
  · obtain ⟨v, rfl, i⟩ := ia1 i1
    cases im_int i
    exact ⟨_, rfl, q1.1, q1.2.1, k _ _ H1 S1 jok_ints r1 u1 q1.2.2⟩
  · exact q1.elim
theorem si_r2 {tl : TA} {fl : DA} (ha : SA G N tl fl) : SI G N (iRng2 tl) (iR2 fl) := by
  intro σ δ H S Q R r h k
  refine ha σ δ H S _ _ r h fun vs ds H1 S1 i1 r1 u1 q1 => ?_
  split at q1
  · obtain ⟨v, w, rfl, i, j⟩ := ia2 i1
    cases im_int i
    cases im_int j
    exact ⟨_, _, rfl, ⟨q1.1, q1.2.1, q1.2.2.1, q1.2.2.2.1⟩, k _ _ H1 S1 jok_ints r1 u1 q1.2.2.2.2⟩
  · exact q1.elim
end
end Sd

set_option Elab.async false
set_option linter.all false
set_option maxRecDepth 100000
set_option maxHeartbeats 4000000
namespace Sd
open PySem PySem.Spec PyProof.Rows L2 GxR

/-! ### list comprehensions -/
def tYes' : DT := fun _ S Q => Q true S
def lcD (ok : Sto → Prop) (g : DG) (tt : DT) (te : DE) (δ : DV) : List D → List D → Sto → (List D → Sto → Prop) → Prop
  | [], acc, S, Q => ok S ∧ Q acc S
  | x :: xs, acc, S, Q => ok S ∧ g x δ S fun δ2 S2 => tt δ2 S2 fun b S3 => br b (te δ2 S3 fun y S4 => acc.length < 1000000 ∧ lcD ok g tt te δ xs (acc ++ [y]) S4 Q) (lcD ok g tt te δ xs acc S3 Q)
def eLc (wi : DI) (g : DG) (tt : DT) (te : DE) (vs : List Nat) : DE := fun δ S Q => wi δ S fun src S1 => lcD src.ok g tt te (wipeD δ vs) src.items [] S1 fun ys S2 => ∀ p, S2 p = none → Q (.ref p) (sup S2 p (.lst ys))
/-- all(.. for ..) -/
def allD (ok : Sto → Prop) (g : DG) (te : DE) (δ : DV) : List D → Sto → (Bool → Sto → Prop) → Prop
  | [], S, Q => ok S ∧ Q true S
  | x :: xs, S, Q => ok S ∧ g x δ S fun δ2 S2 => te δ2 S2 fun y S3 => asB y fun b => br b (allD ok g te δ xs S3 Q) (Q false S3)
def eAll (wi : DI) (g : DG) (te : DE) (vs : List Nat) : DE := fun δ S Q => wi δ S fun src S1 => allD src.ok g te (wipeD δ vs) src.items S1 fun b S2 => Q (.bl b) S2
section
variable {G : Gm} {N : En}
theorem st_yes : ST G N tYes tYes' := fun σ δ H S Q R r h k => k true H S r .refl h
/-- a list that the store does not name grows -/
theorem Sim.side {S : Sto} {H : Hp} {p : Addr} {acc acc' : List V} (s : Sim G S H) (hp : H p = some (.lst acc)) (hS : S p = none) (hs : G.scr ≠ p ∨ ∀ H1, SqL G.K H1 G.scr (G.ns.map V.int)) : Sim G S (upd H p (.lst acc')) ∧ Tu H (upd H p (.lst acc')) := by
  have t : Tu H (upd H p (.lst acc')) := fun b xs h => by rw [upd_ne (fun y => by rw [y, hp] at h; cases h)]; exact h
  refine ⟨⟨fun a o h => ?_, fun P hP => ?_, ?_⟩, t⟩
  · have ne : a ≠ p := sne h hS
    exact (s.ob a o h).go (fun _ z _ => by rw [upd_ne ne]; exact z) t fun _ z => z
  · obtain ⟨ps, e, tr⟩ := s.tab P hP
    exact ⟨ps, by rw [upd_ne (fun y => by rw [y, hp] at e; cases e)]; exact e, tr⟩
  · rcases s.scr with ⟨h1, h2⟩ | h
    · rcases hs with np | h
      · refine .inl ⟨h1, ?_⟩
        rcases h2 with h2 | ⟨o, h2⟩
        · exact .inl (by rw [upd_ne np]; exact h2)
        · exact .inr ⟨o, by rw [upd_ne np]; exact h2⟩
      · exact .inr h
    · exact .inr h
theorem Up.side {S S' : Sto} {H H' : Hp} {p : Addr} {o : HO} (u : Up S S' H H') (hp : H p = none) : Up S S' H (upd H' p o) :=
  ⟨fun a v h n z => by rw [upd_ne (ne_of_none h hp)]; exact u.keep a v h n z, u.dom, fun a z => by
    by_cases y : a = p
    · rw [y, upd_same]; simp
    · rw [upd_ne y]; exact u.there a z⟩
/-- a list that stands comes into the store -/
theorem Sim.take {S : Sto} {H : Hp} {p : Addr} {xs : List V} {ds : List D} (s : Sim G S H) (hp : H p = some (.lst xs)) (hS : S p = none) (i : ImAll G H xs ds) (hs : G.scr ≠ p ∨ ∀ H1, SqL G.K H1 G.scr (G.ns.map V.int)) : Sim G (sup S p (.lst ds)) H := by
  refine ⟨fun a o h => ?_, s.tab, ?_⟩
  · by_cases y : a = p
    · subst y
      rw [sup_same] at h
      cases h
      exact ⟨xs, hp, i⟩
    · rw [sup_ne y] at h
      exact (s.ob a o h).go (fun _ z _ => z) (fun _ _ z => z) fun c z => by rw [sup_ne (sne z hS)]; exact z
  · rcases s.scr with ⟨h1, h2⟩ | h
    · rcases hs with np | h
      · exact .inl ⟨by rw [sup_ne np]; exact h1, h2⟩
      · exact .inr h
    · exact .inr h
theorem Up.take {S S' : Sto} {H H' : Hp} {p : Addr} {o : O} (u : Up S S' H H') (hp : H p = none) : Up S (sup S' p o) H H' :=
  ⟨u.keep, fun a h z => by rw [sup_ne (fun y => z (by rw [y]; exact hp))]; exact u.dom a h z, u.there⟩
theorem Sim.scrNe {S : Sto} {H : Hp} {p : Addr} (s : Sim G S H) (hp : H p = none) : G.scr ≠ p ∨ ∀ H1, SqL G.K H1 G.scr (G.ns.map V.int) := by
  rcases s.scr with ⟨_, h2⟩ | h
  · refine .inl fun y => ?_
    rcases h2 with h2 | ⟨o, h2⟩ <;> (rw [y, hp] at h2; cases h2)
  · exact .inr h
theorem se_lc {ws vs : List Nat} {twi : TI} {wi : DI} {tg : TG} {g : DG} {tt : TT} {ft : DT} {te : TE} {fe : DE} (hi : SI G N twi wi) (hg : SG G N ws tg g) (ht : ST G N tt ft) (he : SE G N te fe) (hw : ∀ i ∈ ws, i ∈ vs) :
    SE G N (tLc twi tg tt te vs) (eLc wi g ft fe vs) := by
  intro σ δ H S Q R r h k
  refine hi σ δ H S _ _ r h fun J src H1 S1 jk r1 u1 q1 => fun p hp => ?_
  have hsc := r1.sim.scrNe hp
  have e0 := Ext.lay (o := HO.lst []) hp
  have hN : N.H p = none := by
    cases z : N.H p with
    | none => rfl
    | some o => exact absurd hp (r1.up.there p (by rw [z]; simp))
  have hH : H p = none := by
    cases z : H p with
    | none => rfl
    | some o => exact absurd hp (u1.there p (by rw [z]; simp))
  refine ⟨fun i m H' => m = src.items.length - i ∧ i ≤ src.items.length ∧ ∃ S' acc ds, Rel G N σ δ S' H' ∧ Up S1 S' H1 H' ∧ H' p = some (.lst acc) ∧ ImAll G H' acc ds ∧ S' p = none ∧ lcD src.ok g ft fe (wipeD δ vs) (src.items.drop i) ds S' (fun ys S2 => ∀ p, S2 p = none → Q (.ref p) (sup S2 p (.lst ys))),
    ⟨src.items.length, by simp, Nat.zero_le _, S1, [], [], ⟨r1.sl.go e0.tu, r1.sim.ext e0, r1.up.trans (Up.of_ext e0)⟩, Up.of_ext e0, upd_same, .nil, r1.sim.free hp, by simpa using q1⟩, ?_⟩
  rintro i m H' ⟨rfl, hi', S', acc, ds, r', u', hacc, iacc, hS', q'⟩
  by_cases hlt : i < src.items.length
  · rw [List.drop_eq_getElem_cons hlt] at q'
    obtain ⟨a1, _, a3⟩ := jk S' H' r'.sim u' q'.1 i hi'
    refine .inr ⟨a1 hlt, fun H2 => ∃ S2 acc2 ds2, Rel G N σ δ S2 H2 ∧ Up S1 S2 H1 H2 ∧ H2 p = some (.lst acc2) ∧ ImAll G H2 acc2 ds2 ∧ S2 p = none ∧ lcD src.ok g ft fe (wipeD δ vs) (src.items.drop (i + 1)) ds2 S2 (fun ys S2 => ∀ p, S2 p = none → Q (.ref p) (sup S2 p (.lst ys))),
      fun H2 ⟨S2, acc2, ds2, x⟩ => ⟨src.items.length - (i + 1), by omega, rfl, hlt, S2, acc2, ds2, x⟩, fun x H2 y => ?_⟩
    obtain ⟨d, hd, im, s2, u2, e2⟩ := a3 x H2 hlt y
    rw [List.getElem?_eq_getElem hlt] at hd
    cases hd
    have r2 : Rel G N (L2.wipe σ vs) (wipeD δ vs) S' H2 := ⟨(r'.sl.go e2.tu).wipe vs, s2, r'.up.trans u2⟩
    refine hg x _ _ _ H2 S' _ _ r2 im q'.2 fun σ3 δ3 H3 S3 r3 u3 w3 q3 => ⟨by rw [(w3 vs hw).1, wipe_wipe], ?_⟩
    refine ht σ3 δ3 H3 S3 _ _ r3 q3 fun b H4 S4 r4 u4 q4 => ?_
    have up4 := u2.trans (u3.trans u4)
    have hp4 : H4 p = some (.lst acc) := up4.keep p _ hacc rfl hS'
    have hS4 : S4 p = none := up4.dom p hS' (by rw [hacc]; simp)
    have t4 := up4.tu r'.sim
    have rel4 : Rel G N σ δ S4 H4 := ⟨r'.sl.go t4, r4.sim, r4.up⟩
    cases b with
    | true =>
      rw [if_pos rfl]
      refine he σ3 δ3 H4 S4 _ _ r4 (q4.1 rfl) fun v e5 H5 S5 i5 r5 u5 ⟨l5, q5⟩ => ?_
      have up5 := up4.trans u5
      have hp5 : H5 p = some (.lst acc) := up5.keep p _ hacc rfl hS'
      have hS5 : S5 p = none := up5.dom p hS' (by rw [hacc]; simp)
      have t5 := up5.tu r'.sim
      refine ⟨acc, hp5, Nat.lt_of_lt_of_le (by rw [iacc.length]; exact l5) (le_line (Nat.le_refl _)), ?_⟩
      obtain ⟨s6, t6⟩ := r5.sim.side (acc' := acc ++ [v]) hp5 hS5 hsc
      exact ⟨S5, acc ++ [v], ds ++ [e5], ⟨(r'.sl.go t5).go t6, s6, r5.up.side hN⟩, (u'.trans up5).side hp, upd_same, ((iacc.go t5).snoc i5).go t6, hS5, q5⟩
    | false =>
      rw [if_neg Bool.false_ne_true]
      exact ⟨S4, acc, ds, rel4, u'.trans up4, hp4, iacc.go t4, hS4, q4.2 rfl⟩
  · have e : i = src.items.length := by omega
    subst e
    rw [List.drop_length] at q'
    obtain ⟨_, a2, _⟩ := jk S' H' r'.sim u' q'.1 _ (Nat.le_refl _)
    refine .inl ⟨a2 rfl, k _ (.ref p) H' (sup S' p (.lst ds)) (.ref p) ⟨r'.sl, r'.sim.take hacc hS' iacc hsc, r'.up.take hN⟩ ((u1.trans u').take hH) (q'.2 p hS')⟩
theorem se_all {P : Addr} {ws vs : List Nat} {twi : TI} {wi : DI} {tg : TG} {g : DG} {te : TE} {fe : DE} (hP : P ∈ G.tabs) (hi : SI G N twi wi) (hg : SG G N ws tg g) (he : SE G N te fe) (hw : ∀ i ∈ ws, i ∈ vs) :
    SE G N (Ow.tAllG P twi tg te vs) (eAll wi g fe vs) := by
  intro σ δ H S Q R r h k
  refine hi σ δ H S _ _ r h fun J src H1 S1 jk r1 u1 q1 => ⟨r1.sim.tab P hP, fun H2 ht => ?_⟩
  have e0 := Ext.tabbed (r1.sim.tab P hP) ht
  refine ⟨fun i m H' => m = src.items.length - i ∧ i ≤ src.items.length ∧ ∃ S', Rel G N σ δ S' H' ∧ Up S1 S' H1 H' ∧ allD src.ok g fe (wipeD δ vs) (src.items.drop i) S' (fun b S2 => Q (.bl b) S2),
    ⟨src.items.length, by simp, Nat.zero_le _, S1, ⟨r1.sl.go e0.tu, r1.sim.ext e0, r1.up.trans (Up.of_ext e0)⟩, Up.of_ext e0, by simpa using q1⟩, ?_⟩
  rintro i m H' ⟨rfl, hi', S', r', u', q'⟩
  by_cases hlt : i < src.items.length
  · rw [List.drop_eq_getElem_cons hlt] at q'
    obtain ⟨a1, _, a3⟩ := jk S' H' r'.sim u' q'.1 i hi'
    refine .inr ⟨a1 hlt, fun H2 => ∃ S2, Rel G N σ δ S2 H2 ∧ Up S1 S2 H1 H2 ∧ allD src.ok g fe (wipeD δ vs) (src.items.drop (i + 1)) S2 (fun b S2 => Q (.bl b) S2),
      fun H2 ⟨S2, x⟩ => ⟨src.items.length - (i + 1), by omega, rfl, hlt, S2, x⟩, fun x H2 y => ?_⟩
    obtain ⟨d, hd, im, s2, u2, e2⟩ := a3 x H2 hlt y
    rw [List.getElem?_eq_getElem hlt] at hd
    cases hd
    have r2 : Rel G N (L2.wipe σ vs) (wipeD δ vs) S' H2 := ⟨(r'.sl.go e2.tu).wipe vs, s2, r'.up.trans u2⟩
    refine hg x _ _ _ H2 S' _ _ r2 im q'.2 fun σ3 δ3 H3 S3 r3 u3 w3 q3 => ⟨by rw [(w3 vs hw).1, wipe_wipe], ?_⟩
    refine he σ3 δ3 H3 S3 _ _ r3 q3 fun v e5 H5 S5 i5 r5 u5 q5 => ?_
    obtain ⟨b, rfl, q⟩ := asB_of q5
    have up5 := u2.trans (u3.trans u5)
    have rel5 : Rel G N σ δ S5 H5 := ⟨r'.sl.go (up5.tu r'.sim), r5.sim, r5.up⟩
    exact ⟨b, im_bl i5, fun hb => ⟨S5, rel5, u'.trans up5, q.1 hb⟩, fun hb => k _ _ H5 S5 (.bl false) rel5 (u1.trans (u'.trans up5)) (q.2 hb)⟩
  · have e : i = src.items.length := by omega
    subst e
    rw [List.drop_length] at q'
    obtain ⟨_, a2, _⟩ := jk S' H' r'.sim u' q'.1 _ (Nat.le_refl _)
    exact .inl ⟨a2 rfl, k _ _ H' S' (.bl true) r' (u1.trans u') q'.2⟩
end

/-! ### fields -/
def setO (ds : List D) (i : Nat) (d : D) : List D := if i < ds.length then ds.set i d else ds ++ [d]
def sFldD (C : Addr) (nm : List Str) (i : Nat) (fa fv : DE) : DS := fun D δ S => fv δ S fun y S1 => fa δ S1 fun x S2 => asRef x fun a => atO S2 a C nm fun ds => i ≤ ds.length ∧ D.nx δ (sup S2 a (.ins C nm (setO ds i y)))
def sFldAugD (C : Addr) (nm : List Str) (i : Nat) (rd : B2) (fa fv : DE) : DS := fun D δ S => fa δ S fun x S1 => asRef x fun a => atO S1 a C nm fun ds => match ds[i]? with
  | some v => fv δ S1 fun y S2 => rd v y S2 fun z S3 => atO S3 a C nm fun ds' => i ≤ ds'.length ∧ D.nx δ (sup S3 a (.ins C nm (setO ds' i z)))
  | none => False
section
variable {G : Gm} {N : En}
theorem KvAll.putF {H : Hp} {f : Str} {v : V} {d : D} (im : Im G H v d) : ∀ {nm : List Str} {i : Nat} {gs : List (Str × V)} {ds : List D}, FIx nm f i → i ≤ ds.length → KvAll G H gs (nm.zip ds) → KvAll G H (L2.putF f v gs) (nm.zip (setO ds i d))
  | [], _, _, _, x, _, _ => by have := x.at_; simp at this
  | n :: nm, 0, gs, [], x, _, h => by
    have : n = f := by simpa using x.at_
    subst this
    simp only [List.zip_nil_right] at h
    cases h
    show KvAll G H [(n, v)] ((n :: nm).zip [d])
    simp only [List.zip_cons_cons, List.zip_nil_right]
    exact .cons im .nil
  | n :: nm, 0, gs, e :: ds, x, _, h => by
    have : n = f := by simpa using x.at_
    subst this
    rw [List.zip_cons_cons] at h
    cases h with
    | cons h1 h2 =>
      unfold L2.putF
      rw [if_pos rfl]
      show KvAll G H _ ((n :: nm).zip (d :: ds))
      rw [List.zip_cons_cons]
      exact .cons im h2
  | n :: nm, i + 1, gs, [], x, l, h => by simp at l
  | n :: nm, i + 1, gs, e :: ds, x, l, h => by
    have hn : n ≠ f := fun e => x.no (by rw [List.take_succ_cons, e]; exact List.mem_cons_self)
    have x' : FIx nm f i := ⟨by simpa using x.at_, fun z => x.no (by rw [List.take_succ_cons]; exact List.mem_cons_of_mem _ z)⟩
    rw [List.zip_cons_cons] at h
    cases h with
    | cons h1 h2 =>
      unfold L2.putF
      rw [if_neg hn]
      have e : setO (e :: ds) (i + 1) d = e :: setO ds i d := by
        unfold setO
        by_cases z : i < ds.length
        · rw [if_pos z, if_pos (by simpa using z)]; rfl
        · rw [if_neg z, if_neg (by simpa using z)]; rfl
      rw [e, List.zip_cons_cons]
      exact .cons h1 (KvAll.putF im x' (by simpa using l) h2)
theorem setO_len {nm : List Str} {f : Str} {i : Nat} {ds : List D} {d : D} (x : FIx nm f i) (l : i ≤ ds.length) (h : ds.length ≤ nm.length) : (setO ds i d).length ≤ nm.length := by
  have hi := (List.getElem?_eq_some_iff.mp x.at_).1
  unfold setO
  split
  · rw [List.length_set]; exact h
  · rw [List.length_append]; simp; omega
theorem put_ins {S : Sto} {H : Hp} {a C dx : Addr} {gs gs' : List (Str × V)} {nm : List Str} {fs fs' : List D} (s : Sim G S H) (e : S a = some (.ins C nm fs)) (h : H a = some (.ins C dx gs)) (i : KvAll G H gs' (nm.zip fs')) (l : fs'.length ≤ nm.length) (l2 : nm.length ≤ 999) : Sim G (sup S a (.ins C nm fs')) (upd H a (.ins C dx gs')) ∧ Up S (sup S a (.ins C nm fs')) H (upd H a (.ins C dx gs')) := by
  have t : Tu H (upd H a (.ins C dx gs')) := fun b ys hb => by rw [upd_ne (fun y => by rw [y, h] at hb; cases hb)]; exact hb
  exact s.put e (by simp) rfl ⟨dx, gs', upd_same, i.go t, l, l2⟩
theorem kv_len {H : Hp} {nm : List Str} {gs : List (Str × V)} {ds : List D} (kv : KvAll G H gs (nm.zip ds)) (l : nm.length ≤ 999) : gs.length < 1000 := by
  rw [kv.length, List.length_zip]; omega
theorem ss_fld {C : Addr} {f : Str} {nm : List Str} {i : Nat} {ta tv : TE} {fa fv : DE} (c : Cls G.K C) (n : NoAttr G.K C f) (x : FIx nm f i) (ha : SE G N ta fa) (hv : SE G N tv fv) : SS G N (sFld G.K ta tv f) (sFldD C nm i fa fv) := by
  intro σ δ H S D E r h k
  refine hv σ δ H S _ _ r h fun v d H1 S1 i1 r1 u1 q1 => ?_
  refine ha σ δ H1 S1 _ _ r1 q1 fun x' e H2 S2 i2 r2 u2 q2 => ?_
  obtain ⟨a, rfl, q3⟩ := asRef_of q2
  obtain ⟨fs, e2, l, q⟩ := atO_of q3
  obtain ⟨dx, gs, hg, kv, l1, l2⟩ := r2.sim.ob _ _ e2
  obtain ⟨s3, u3⟩ := put_ins r2.sim e2 hg (KvAll.putF (i1.go (u2.tu r1.sim)) x l kv) (setO_len x l l1) l2
  exact ⟨a, C, dx, gs, im_ref i2, hg, c, n, kv_len kv l2, k.nx σ δ _ _ (r2.go s3 u3) (u1.trans (u2.trans u3)) q⟩
theorem ss_fldaug {C : Addr} {f : Str} {nm : List Str} {i : Nat} {ta tv : TE} {fa fv : DE} {rr : V → V → Hp → VK → Prop} {rd : B2} (c : Cls G.K C) (n : NoAttr G.K C f) (x : FIx nm f i) (ho : S2 G rr rd) (ha : SE G N ta fa) (hv : SE G N tv fv) : SS G N (sFldAug G.K ta tv rr f) (sFldAugD C nm i rd fa fv) := by
  intro σ δ H S D E r h k
  refine ha σ δ H S _ _ r h fun x' e H1 S1 i1 r1 u1 q1 => ?_
  obtain ⟨a, rfl, q2⟩ := asRef_of q1
  obtain ⟨fs, e1, q⟩ := atO_of q2
  obtain ⟨dx, gs, hg, kv, l1, l2⟩ := r1.sim.ob _ _ e1
  split at q
  · rename_i w hw0
    obtain ⟨w', hw, iw⟩ := kv_look kv (f := f) (d := w) (by rw [zip_look x]; exact hw0)
    refine ⟨a, C, dx, gs, w', im_ref i1, hg, c, n, hw, ?_⟩
    refine hv σ δ H1 S1 _ _ r1 q fun v d H2 S2 i2 r2 u2 q2 => ?_
    refine ho w' v w d H2 S2 _ _ (iw.go (u2.tu r1.sim)) i2 r2.sim q2 fun z d3 H3 S3 i3 s3 u3 q3 => ?_
    obtain ⟨fs', e3, l3, q3⟩ := atO_of q3
    obtain ⟨dx', gs', hg', kv', m1, m2⟩ := s3.ob _ _ e3
    obtain ⟨s4, u4⟩ := put_ins s3 e3 hg' (KvAll.putF i3 x l3 kv') (setO_len x l3 m1) m2
    exact ⟨dx', gs', hg', kv_len kv' m2, k.nx σ δ _ _ ((r2.go s3 u3).go s4 u4) (u1.trans (u2.trans (u3.trans u4))) q3⟩
  · exact q.elim
theorem s2_inadd : S2 G rAdd (dI (fun _ _ => True) fun i j => .int (i + j)) := s2_ipadd
theorem s2_insub : S2 G rSub (dI (fun _ _ => True) fun i j => .int (i - j)) := s2_ipsub
end

/-! ### methods of lists -/
def eBM0 (r : D → List D → Sto → DK → Prop) (fo : DE) : DE := fun δ S Q => fo δ S fun x S1 => r x [] S1 Q
def eBM (r : D → List D → Sto → DK → Prop) (fo : DE) (fa : DA) : DE := fun δ S Q => fo δ S fun x S1 => (asRef x fun a => atL S1 a fun _ => True) ∧ fa δ S1 fun xs S2 => r x xs S2 Q
def dAppend : D → List D → Sto → DK → Prop := fun x xs S Q => match x, xs with | .ref a, [y] => atL S a fun ds => ds.length < 1000000 ∧ Q .non (sup S a (.lst (ds ++ [y]))) | _, _ => False
def dPopAt : D → List D → Sto → DK → Prop := fun x xs S Q => match x, xs with | .ref a, [.int i] => atL S a fun ds => -(2 ^ 62) ≤ i ∧ i < 2 ^ 62 ∧ (match ixN ds.length i with | some j => (match ds[j]? with | some d => Q d (sup S a (.lst (ds.eraseIdx j))) | none => False) | none => False) | _, _ => False
def dIndex : D → List D → Sto → DK → Prop := fun x xs S Q => match x, xs with
  | .ref a, [y] => atL S a fun ds => ∃ j, dat 60 y = true ∧ dats 60 ds = true ∧ (∃ z, ds[j]? = some z ∧ eqD z y = true) ∧ (∀ m z, m < j → ds[m]? = some z → eqD z y = false) ∧ Q (.int (j : Nat)) S
  | _, _ => False
section
variable {G : Gm} {N : En}
def SM (G : Gm) (r : V → List V → Hp → VK → Prop) (rd : D → List D → Sto → DK → Prop) : Prop := ∀ x d xs ds H S Q (R : VK), Im G H x d → ImAll G H xs ds → Sim G S H → rd d ds S Q → (∀ v d' H' S', Im G H' v d' → Sim G S' H' → Up S S' H H' → Q d' S' → R v H') → r x xs H R
theorem se_bmL {to : TE} {fo : DE} {tl : TA} {fl : DA} {r : V → List V → Hp → VK → Prop} {rd : D → List D → Sto → DK → Prop} (hm : SM G r rd) (ho : SE G N to fo) (ha : SA G N tl fl) : SE G N (tBM G.K "list" r to tl) (eBM rd fo fl) := by
  intro σ δ H S Q R rl h k
  refine ho σ δ H S _ _ rl h fun x d H1 S1 i1 r1 u1 ⟨q0, q⟩ => ?_
  obtain ⟨a, rfl, q0⟩ := asRef_of q0
  obtain ⟨ds, e1, _⟩ := atL_of q0
  obtain ⟨vs, hv, _⟩ := r1.sim.ob _ _ e1
  cases im_ref i1
  refine ⟨.inl ⟨rfl, vs, SqL.of hv⟩, ha σ δ H1 S1 _ _ r1 q fun xs es H2 S2 i2 r2 u2 q2 => ?_⟩
  exact hm _ _ xs es H2 S2 Q R (.ref a) i2 r2.sim q2 fun v d' H' S' i3 s3 u3 q3 => k v d' H' S' i3 (r2.go s3 u3) (u1.trans (u2.trans u3)) q3
theorem put_lst {S : Sto} {H : Hp} {a : Addr} {xs xs' : List V} {ds ds' : List D} (s : Sim G S H) (e : S a = some (.lst ds)) (h : H a = some (.lst xs)) (i : ImAll G H xs' ds') : Sim G (sup S a (.lst ds')) (upd H a (.lst xs')) ∧ Up S (sup S a (.lst ds')) H (upd H a (.lst xs')) ∧ Tu H (upd H a (.lst xs')) := by
  have t : Tu H (upd H a (.lst xs')) := fun b ys hb => by rw [upd_ne (fun y => by rw [y, h] at hb; cases hb)]; exact hb
  obtain ⟨s', u⟩ := s.put (o := .lst ds') e (by simp) (ho := .lst xs') rfl ⟨xs', upd_same, i.go t⟩
  exact ⟨s', u, t⟩
theorem sm_append : SM G rAppend dAppend := by
  intro x d xs ds H S Q R hx hxs s h k
  unfold dAppend at h
  split at h
  · obtain ⟨v, rfl, i⟩ := ia1 hxs
    cases im_ref hx
    obtain ⟨es, e1, l, q⟩ := atL_of h
    obtain ⟨vs, hv, iv⟩ := s.ob _ _ e1
    obtain ⟨s3, u3, t3⟩ := put_lst s e1 hv (iv.snoc i)
    exact ⟨_, vs, v, rfl, rfl, hv, Nat.lt_of_lt_of_le (by rw [iv.length]; exact l) (le_line (Nat.le_refl _)), k _ _ _ _ .non s3 u3 q⟩
  · exact h.elim
theorem ImAll.erase {H : Hp} {vs : List V} {ds : List D} (h : ImAll G H vs ds) : ∀ j, ImAll G H (vs.eraseIdx j) (ds.eraseIdx j) := by
  induction vs generalizing ds with
  | nil => intro j; cases h; exact .nil
  | cons v vs ih =>
    intro j
    cases h with
    | cons h1 h2 =>
      cases j with
      | zero => exact h2
      | succ j => exact .cons h1 (ih h2 j)
theorem sm_popAt : SM G rPopAt dPopAt := by
  intro x d xs ds H S Q R hx hxs s h k
  unfold dPopAt at h
  split at h
  · obtain ⟨v, rfl, i⟩ := ia1 hxs
    cases im_ref hx
    cases im_int i
    obtain ⟨es, e1, b1, b2, q⟩ := atL_of h
    obtain ⟨vs, hv, iv⟩ := s.ob _ _ e1
    split at q
    case h_2 => exact q.elim
    rename_i j hj
    split at q
    case h_2 => exact q.elim
    rename_i e he
    obtain ⟨w, hw, iw⟩ := iv.getD he
    obtain ⟨s3, u3, t3⟩ := put_lst s e1 hv (iv.erase j)
    obtain ⟨z1, z2, z3, z4⟩ := ixN_seq hj
    exact ⟨_, vs, _, j, w, rfl, rfl, hv, by omega, by omega, by rw [iv.length]; exact z1, hw, k _ _ _ _ (iw.go t3) s3 u3 q⟩
  · exact h.elim
theorem sm_index : SM G (rIndexD G.K) dIndex := by
  intro x d xs ds H S Q R hx hxs s h k
  unfold dIndex at h
  split at h
  · obtain ⟨v, rfl, i⟩ := ia1 hxs
    cases im_ref hx
    rename_i a y
    obtain ⟨es, e1, j, c1, c2, ⟨z, hz, hzy⟩, hno, q⟩ := atL_of h
    obtain ⟨vs, hv, iv⟩ := s.ob _ _ e1
    obtain ⟨a1, a2, a3⟩ := dp_of 60 y v c1 i
    obtain ⟨b1, b2, b3⟩ := dps_of 60 es vs c2 iv
    refine ⟨a, v, py y, pys es, j, py z, rfl, rfl, .lst (SqL.of hv) b1, a1, shaped_of (by rw [PyData.canLay0]; exact b2) (by rw [PyData.depth]; omega), shaped_of a2 (by omega), ?_, hzy, fun m z' hm hz' => ?_, k _ _ H S (.int _) s .refl q⟩
    · rw [pys_map, List.getElem?_map, hz]; rfl
    · rw [pys_map, List.getElem?_map] at hz'
      cases hq : es[m]? with
      | none => rw [hq] at hz'; cases hz'
      | some w =>
        rw [hq] at hz'
        cases hz'
        exact hno m w hm hq
  · exact h.elim
end
end Sd

set_option Elab.async false
set_option linter.all false
set_option maxRecDepth 100000
set_option maxHeartbeats 4000000
namespace Sd
open PySem PySem.Spec PyProof.Rows L2 GxR

/-! ### dicts -/
def valD {κ : Type} [DecidableEq κ] (kvs : List (κ × D)) (k : κ) : Option D := (kvs.find? fun kv => decide (kv.1 = k)).map (·.2)
def putKD {κ : Type} [DecidableEq κ] (kvs : List (κ × D)) (k : κ) (v : D) : List (κ × D) := if (kvs.any fun kv => decide (kv.1 = k)) = true then kvs.map fun kv => if kv.1 = k then (kv.1, v) else kv else kvs ++ [(k, v)]
def dropKD {κ : Type} [DecidableEq κ] (kvs : List (κ × D)) (k : κ) : List (κ × D) := kvs.filter fun kv => decide (kv.1 ≠ k)
def keyD : D → Option Key
  | .int i => some (.inl i)
  | .str x => some (.inr x)
  | _ => none
def keysD : List D → Option (List Key)
  | [] => some []
  | d :: ds => (keyD d).bind fun k => (keysD ds).map fun ks => k :: ks
def keyT : D → Option (List Key)
  | .tup ds => keysD ds
  | _ => none
/-- what the dict at a has at y -/
def dget (S : Sto) (a : Addr) (y : D) (k : Option D → Prop) : Prop := match S a with
  | some (.dK kvs) => (match keyD y with | some x => k (valD kvs x) | none => False)
  | some (.fK kvs) => (match keyD y with | some x => k (valD kvs x) | none => False)
  | some (.dT kvs) => (match keyT y with | some x => k (valD kvs x) | none => False)
  | some (.fT kvs) => (match keyT y with | some x => k (valD kvs x) | none => False)
  | _ => False
def dput (S : Sto) (a : Addr) (y v : D) (k : Sto → Prop) : Prop := match S a with
  | some (.dK kvs) => (match keyD y with | some x => kvs.length < 1000000 ∧ k (sup S a (.dK (putKD kvs x v))) | none => False)
  | some (.dT kvs) => (match keyT y with | some x => kvs.length < 1000000 ∧ k (sup S a (.dT (putKD kvs x v))) | none => False)
  | _ => False
def eDGet (fd fy : DE) : DE := fun δ S Q => fd δ S fun x S1 => fy δ S1 fun y S2 => asRef x fun a => dget S2 a y fun o => match o with | some v => Q v S2 | none => False
def isDict (S : Sto) (a : Addr) : Bool := match S a with | some (.dK _) => true | some (.fK _) => true | some (.dT _) => true | some (.fT _) => true | _ => false
def eDGet1 (fd fy : DE) : DE := fun δ S Q => fd δ S fun x S1 => asRef x fun a => isDict S1 a = true ∧ fy δ S1 fun y S2 => dget S2 a y fun o => Q (o.getD .non) S2
def eDGet2 (fd fy fx : DE) : DE := fun δ S Q => fd δ S fun x S1 => asRef x fun a => isDict S1 a = true ∧ fy δ S1 fun y S2 => fx δ S2 fun z S3 => dget S3 a y fun o => Q (o.getD z) S3
def eDIn (fy fd : DE) : DE := fun δ S Q => fy δ S fun y S1 => fd δ S1 fun x S2 => asRef x fun a => dget S2 a y fun o => Q (.bl o.isSome) S2
def eDNotIn (fy fd : DE) : DE := fun δ S Q => fy δ S fun y S1 => fd δ S1 fun x S2 => asRef x fun a => dget S2 a y fun o => Q (.bl (!o.isSome)) S2
def sDPutD (fd fy fv : DE) : DS := fun D δ S => fv δ S fun v S1 => fd δ S1 fun x S2 => fy δ S2 fun y S3 => asRef x fun a => dput S3 a y v fun S4 => D.nx δ S4
def sDDelD (fd fy : DE) : DS := fun D δ S => fd δ S fun x S1 => fy δ S1 fun y S2 => asRef x fun a => match S2 a with
  | some (.dK kvs) => (match keyD y with | some k => (valD kvs k).isSome = true ∧ D.nx δ (sup S2 a (.dK (dropKD kvs k))) | none => False)
  | _ => False
section
variable {G : Gm} {N : En} {H : Hp} {S : Sto}
theorem kv_val {κ : Type} [DecidableEq κ] {r : List (κ × V)} {s : List (κ × D)} (h : KvAll G H r s) (k : κ) : (∃ v d, valV r k = some v ∧ valD s k = some d ∧ Im G H v d) ∨ (valV r k = none ∧ valD s k = none) := by
  induction h with
  | nil => exact .inr ⟨rfl, rfl⟩
  | @cons k' v d r s hi _ ih =>
    unfold valV valD at ih ⊢
    by_cases e : k' = k
    · exact .inl ⟨v, d, by simp [List.find?_cons, e], by simp [List.find?_cons, e], hi⟩
    · simpa [List.find?_cons, e] using ih
theorem kv_any {κ : Type} [DecidableEq κ] {r : List (κ × V)} {s : List (κ × D)} (h : KvAll G H r s) (k : κ) : (r.any fun kv => decide (kv.1 = k)) = s.any fun kv => decide (kv.1 = k) := by
  induction h with
  | nil => rfl
  | cons _ _ ih => simp [ih]
theorem kv_put {κ : Type} [DecidableEq κ] {r : List (κ × V)} {s : List (κ × D)} (h : KvAll G H r s) (k : κ) {v : V} {d : D} (i : Im G H v d) : KvAll G H (putK r k v) (putKD s k d) := by
  unfold putK putKD
  rw [kv_any h k]
  split
  · induction h with
    | nil => exact .nil
    | @cons k' v' d' r s hi _ ih =>
      rename_i hh
      rw [List.map_cons, List.map_cons]
      have rest : KvAll G H (r.map fun kv => if kv.1 = k then (kv.1, v) else kv) (s.map fun kv => if kv.1 = k then (kv.1, d) else kv) := by
        clear ih hh hi
        rename_i t
        induction t with
        | nil => exact .nil
        | @cons k2 v2 d2 r2 s2 h2 _ ih2 =>
          rw [List.map_cons, List.map_cons]
          by_cases e : k2 = k
          · simp only [if_pos e]; exact .cons i ih2
          · simp only [if_neg e]; exact .cons h2 ih2
      by_cases e : k' = k
      · simp only [if_pos e]; exact .cons i rest
      · simp only [if_neg e]; exact .cons hi rest
  · have app : ∀ {r : List (κ × V)} {s : List (κ × D)}, KvAll G H r s → KvAll G H (r ++ [(k, v)]) (s ++ [(k, d)]) := by
      intro r s t
      induction t with
      | nil => exact .cons i .nil
      | cons h2 _ ih2 => exact .cons h2 ih2
    exact app h
theorem kv_drop {κ : Type} [DecidableEq κ] {r : List (κ × V)} {s : List (κ × D)} (h : KvAll G H r s) (k : κ) : KvAll G H (dropK r k) (dropKD s k) := by
  unfold dropK dropKD
  induction h with
  | nil => exact .nil
  | @cons k' v' d' r s hi _ ih =>
    by_cases e : k' = k
    · simpa [List.filter_cons, e] using ih
    · simpa [List.filter_cons, e] using KvAll.cons hi ih
theorem key_im {y : D} {v : V} {k : Key} (h : keyD y = some k) (i : Im G H v y) : v = kV k := by
  cases y <;> simp only [keyD] at h <;> first | cases h | skip
  · cases im_int i; rfl
  · obtain ⟨rfl, _⟩ := im_str i; rfl
theorem keys_im : ∀ {ds : List D} {vs : List V} {ks : List Key}, keysD ds = some ks → ImAll G H vs ds → vs = ks.map kV
  | [], _, _, h, i => by cases i; simp only [keysD] at h; cases h; rfl
  | d :: ds, _, ks, h, i => by
    cases i with
    | cons i1 i2 =>
      simp only [keysD] at h
      cases e : keyD d with
      | none => rw [e] at h; cases h
      | some k =>
        rw [e] at h
        cases e2 : keysD ds with
        | none => rw [e2] at h; cases h
        | some ks' =>
          rw [e2] at h
          cases h
          rw [key_im e i1, keys_im e2 i2]; rfl
theorem keyT_im {y : D} {v : V} {ks : List Key} (h : keyT y = some ks) (i : Im G H v y) : ∃ b, v = .ref b ∧ H b = some (.tup (ks.map kV)) := by
  cases y <;> simp only [keyT] at h <;> first | cases h | skip
  obtain ⟨b, xs, rfl, e, ia⟩ := im_tup i
  exact ⟨b, rfl, by rw [e, keys_im h ia]⟩
/-- a look-up -/
theorem dget_of {a : Addr} {y : D} {v : V} {k : Option D → Prop} (s : Sim G S H) (i : Im G H v y) (h : dget S a y k) : ∃ (ov : Option V) (od : Option D), DGet H a v ov ∧ k od ∧ ((∃ w d, ov = some w ∧ od = some d ∧ Im G H w d) ∨ (ov = none ∧ od = none)) := by
  have fin : ∀ {κ : Type} [DecidableEq κ] {r : List (κ × V)} {s : List (κ × D)} (x : κ), KvAll G H r s → DGet H a v (valV r x) → k (valD s x) → ∃ (ov : Option V) (od : Option D), DGet H a v ov ∧ k od ∧ ((∃ w d, ov = some w ∧ od = some d ∧ Im G H w d) ∨ (ov = none ∧ od = none)) := by
    intro κ _ r s x kv g q
    refine ⟨_, _, g, q, ?_⟩
    rcases kv_val kv x with ⟨w, d, e1, e2, iw⟩ | ⟨e1, e2⟩
    · exact .inl ⟨w, d, e1, e2, iw⟩
    · exact .inr ⟨e1, e2⟩
  unfold dget at h
  split at h
  · rename_i kvs hs
    obtain ⟨ks, hk, kv⟩ := s.ob _ _ hs
    split at h
    · rename_i x hx
      cases key_im hx i
      exact fin x kv (.inl ⟨ks, x, .inl hk, rfl, rfl⟩) h
    · exact h.elim
  · rename_i kvs hs
    obtain ⟨o, ks, hk, kv⟩ := s.ob _ _ hs
    split at h
    · rename_i x hx
      cases key_im hx i
      exact fin x kv (.inl ⟨ks, x, .inr ⟨o, hk⟩, rfl, rfl⟩) h
    · exact h.elim
  · rename_i kvs hs
    obtain ⟨ks, hk, kv⟩ := s.ob _ _ hs
    split at h
    · rename_i x hx
      obtain ⟨b, rfl, hb⟩ := keyT_im hx i
      exact fin x kv (.inr ⟨ks, x, b, .inl hk, rfl, hb, rfl⟩) h
    · exact h.elim
  · rename_i kvs hs
    obtain ⟨o, ks, hk, kv⟩ := s.ob _ _ hs
    split at h
    · rename_i x hx
      obtain ⟨b, rfl, hb⟩ := keyT_im hx i
      exact fin x kv (.inr ⟨ks, x, b, .inr ⟨o, hk⟩, rfl, hb, rfl⟩) h
    · exact h.elim
  · exact h.elim
theorem isD_of {a : Addr} (s : Sim G S H) (h : isDict S a = true) : IsD H a := by
  unfold isDict at h
  split at h
  · rename_i kvs hs; obtain ⟨ks, hk, _⟩ := s.ob _ _ hs; exact .inl ⟨ks, .inl hk⟩
  · rename_i kvs hs; obtain ⟨o, ks, hk, _⟩ := s.ob _ _ hs; exact .inl ⟨ks, .inr ⟨o, hk⟩⟩
  · rename_i kvs hs; obtain ⟨ks, hk, _⟩ := s.ob _ _ hs; exact .inr ⟨ks, .inl hk⟩
  · rename_i kvs hs; obtain ⟨o, ks, hk, _⟩ := s.ob _ _ hs; exact .inr ⟨ks, .inr ⟨o, hk⟩⟩
  · cases h
variable {td ty tx : TE} {fd fy fx : DE}
theorem se_dget (hd : SE G N td fd) (hy : SE G N ty fy) : SE G N (tDGet td ty) (eDGet fd fy) := by
  intro σ δ H S Q R rl h k
  refine hd σ δ H S _ _ rl h fun x d H1 S1 i1 r1 u1 q1 => ?_
  refine hy σ δ H1 S1 _ _ r1 q1 fun y e H2 S2 i2 r2 u2 q2 => ?_
  obtain ⟨a, rfl, q2'⟩ := asRef_of q2
  obtain ⟨ov, od, g, q3, ⟨w, d, rfl, rfl, iw⟩ | ⟨rfl, rfl⟩⟩ := dget_of r2.sim i2 q2'
  · exact ⟨a, w, im_ref (i1.go (u2.tu r1.sim)), g, k w d H2 S2 iw r2 (u1.trans u2) q3⟩
  · exact q3.elim
theorem se_dget1 (hd : SE G N td fd) (hy : SE G N ty fy) : SE G N (tDGet1 td ty) (eDGet1 fd fy) := by
  intro σ δ H S Q R rl h k
  refine hd σ δ H S _ _ rl h fun x d H1 S1 i1 r1 u1 q1 => ?_
  obtain ⟨a, rfl, z, q1'⟩ := asRef_of q1
  refine ⟨a, im_ref i1, isD_of r1.sim z, hy σ δ H1 S1 _ _ r1 q1' fun y e H2 S2 i2 r2 u2 q2 => ?_⟩
  obtain ⟨ov, od, g, q3, ⟨w, d, rfl, rfl, iw⟩ | ⟨rfl, rfl⟩⟩ := dget_of r2.sim i2 q2
  · exact ⟨_, g, k w d H2 S2 iw r2 (u1.trans u2) q3⟩
  · exact ⟨_, g, k .non .non H2 S2 .non r2 (u1.trans u2) q3⟩
theorem se_dget2 (hd : SE G N td fd) (hy : SE G N ty fy) (hx : SE G N tx fx) : SE G N (tDGet2 td ty tx) (eDGet2 fd fy fx) := by
  intro σ δ H S Q R rl h k
  refine hd σ δ H S _ _ rl h fun x d H1 S1 i1 r1 u1 q1 => ?_
  obtain ⟨a, rfl, z, q1'⟩ := asRef_of q1
  refine ⟨a, im_ref i1, isD_of r1.sim z, hy σ δ H1 S1 _ _ r1 q1' fun y e H2 S2 i2 r2 u2 q2 => ?_⟩
  refine hx σ δ H2 S2 _ _ r2 q2 fun z' d3 H3 S3 i3 r3 u3 q3 => ?_
  obtain ⟨ov, od, g, q4, ⟨w, d, rfl, rfl, iw⟩ | ⟨rfl, rfl⟩⟩ := dget_of r3.sim (i2.go (u3.tu r2.sim)) q3
  · exact ⟨_, g, k w d H3 S3 iw r3 (u1.trans (u2.trans u3)) q4⟩
  · exact ⟨_, g, k z' d3 H3 S3 i3 r3 (u1.trans (u2.trans u3)) q4⟩
theorem se_din (hy : SE G N ty fy) (hd : SE G N td fd) : SE G N (tDIn ty td) (eDIn fy fd) := by
  intro σ δ H S Q R rl h k
  refine hy σ δ H S _ _ rl h fun y e H1 S1 i1 r1 u1 q1 => ?_
  refine hd σ δ H1 S1 _ _ r1 q1 fun x d H2 S2 i2 r2 u2 q2 => ?_
  obtain ⟨a, rfl, q2'⟩ := asRef_of q2
  obtain ⟨ov, od, g, q3, ⟨w, d, rfl, rfl, iw⟩ | ⟨rfl, rfl⟩⟩ := dget_of r2.sim (i1.go (u2.tu r1.sim)) q2'
  · exact ⟨a, _, im_ref i2, g, k _ _ H2 S2 (.bl _) r2 (u1.trans u2) q3⟩
  · exact ⟨a, _, im_ref i2, g, k _ _ H2 S2 (.bl _) r2 (u1.trans u2) q3⟩
theorem se_dnotin (hy : SE G N ty fy) (hd : SE G N td fd) : SE G N (tDNotIn ty td) (eDNotIn fy fd) := by
  intro σ δ H S Q R rl h k
  refine hy σ δ H S _ _ rl h fun y e H1 S1 i1 r1 u1 q1 => ?_
  refine hd σ δ H1 S1 _ _ r1 q1 fun x d H2 S2 i2 r2 u2 q2 => ?_
  obtain ⟨a, rfl, q2'⟩ := asRef_of q2
  obtain ⟨ov, od, g, q3, ⟨w, d, rfl, rfl, iw⟩ | ⟨rfl, rfl⟩⟩ := dget_of r2.sim (i1.go (u2.tu r1.sim)) q2'
  · exact ⟨a, _, im_ref i2, g, k _ _ H2 S2 (.bl _) r2 (u1.trans u2) q3⟩
  · exact ⟨a, _, im_ref i2, g, k _ _ H2 S2 (.bl _) r2 (u1.trans u2) q3⟩
theorem put_dK {a : Addr} {ks ks' : List (Key × V)} {kvs kvs' : List (Key × D)} (s : Sim G S H) (e : S a = some (.dK kvs)) (h : H a = some (.dK ks)) (i : KvAll G H ks' kvs') : Sim G (sup S a (.dK kvs')) (upd H a (.dK ks')) ∧ Up S (sup S a (.dK kvs')) H (upd H a (.dK ks')) := by
  have t : Tu H (upd H a (.dK ks')) := fun b ys hb => by rw [upd_ne (fun y => by rw [y, h] at hb; cases hb)]; exact hb
  exact s.put (o := .dK kvs') e (by simp) (ho := .dK ks') rfl ⟨ks', upd_same, i.go t⟩
theorem put_dT {a : Addr} {ks ks' : List (List Key × V)} {kvs kvs' : List (List Key × D)} (s : Sim G S H) (e : S a = some (.dT kvs)) (h : H a = some (.dT ks)) (i : KvAll G H ks' kvs') : Sim G (sup S a (.dT kvs')) (upd H a (.dT ks')) ∧ Up S (sup S a (.dT kvs')) H (upd H a (.dT ks')) := by
  have t : Tu H (upd H a (.dT ks')) := fun b ys hb => by rw [upd_ne (fun y => by rw [y, h] at hb; cases hb)]; exact hb
  exact s.put (o := .dT kvs') e (by simp) (ho := .dT ks') rfl ⟨ks', upd_same, i.go t⟩
theorem dput_of {a : Addr} {y z : D} {v w : V} {k : Sto → Prop} (s : Sim G S H) (i : Im G H v y) (iw : Im G H w z) (h : dput S a y z k) : ∃ H' S', DPut H a v w H' ∧ Sim G S' H' ∧ Up S S' H H' ∧ k S' := by
  unfold dput at h
  split at h
  · rename_i kvs hs
    obtain ⟨ks, hk, kv⟩ := s.ob _ _ hs
    split at h
    · rename_i x hx
      cases key_im hx i
      obtain ⟨s2, u2⟩ := put_dK s hs hk (kv_put kv x iw)
      exact ⟨_, _, .k hk (by rw [kv.length]; exact Nat.lt_of_lt_of_le h.1 (le_line (Nat.le_refl _))), s2, u2, h.2⟩
    · exact h.elim
  · rename_i kvs hs
    obtain ⟨ks, hk, kv⟩ := s.ob _ _ hs
    split at h
    · rename_i x hx
      obtain ⟨b, rfl, hb⟩ := keyT_im hx i
      obtain ⟨s2, u2⟩ := put_dT s hs hk (kv_put kv x iw)
      exact ⟨_, _, .t hk hb (by rw [kv.length]; exact Nat.lt_of_lt_of_le h.1 (le_line (Nat.le_refl _))), s2, u2, h.2⟩
    · exact h.elim
  · exact h.elim
theorem ss_dput {tv : TE} {fv : DE} (hd : SE G N td fd) (hy : SE G N ty fy) (hv : SE G N tv fv) : SS G N (sDPut td ty tv) (sDPutD fd fy fv) := by
  intro σ δ H S D E r h k
  refine hv σ δ H S _ _ r h fun v z H1 S1 i1 r1 u1 q1 => ?_
  refine hd σ δ H1 S1 _ _ r1 q1 fun x d H2 S2 i2 r2 u2 q2 => ?_
  refine hy σ δ H2 S2 _ _ r2 q2 fun y e H3 S3 i3 r3 u3 q3 => ?_
  obtain ⟨a, rfl, q3'⟩ := asRef_of q3
  obtain ⟨H4, S4, p4, s4, u4, q4⟩ := dput_of r3.sim i3 ((i1.go (u2.tu r1.sim)).go (u3.tu r2.sim)) q3'
  exact ⟨a, H4, im_ref (i2.go (u3.tu r2.sim)), p4, k.nx σ δ H4 S4 (r3.go s4 u4) (u1.trans (u2.trans (u3.trans u4))) q4⟩
theorem ss_ddel (hd : SE G N td fd) (hy : SE G N ty fy) : SS G N (sDDel td ty) (sDDelD fd fy) := by
  intro σ δ H S D E r h k
  refine hd σ δ H S _ _ r h fun x d H1 S1 i1 r1 u1 q1 => ?_
  refine hy σ δ H1 S1 _ _ r1 q1 fun y e H2 S2 i2 r2 u2 q2 => ?_
  obtain ⟨a, rfl, q3⟩ := asRef_of q2
  split at q3
  · rename_i kvs hs
    obtain ⟨ks, hk, kv⟩ := r2.sim.ob _ _ hs
    split at q3
    · rename_i x hx
      cases key_im hx i2
      obtain ⟨s3, u3⟩ := put_dK r2.sim hs hk (kv_drop kv x)
      refine ⟨a, ks, x, im_ref (i1.go (u2.tu r1.sim)), hk, rfl, ?_, k.nx σ δ _ _ (r2.go s3 u3) (u1.trans (u2.trans u3)) q3.2⟩
      rcases kv_val kv x with ⟨w, d, e1, e2, iw⟩ | ⟨e1, e2⟩
      · rw [e1]; rfl
      · rw [e2] at q3; cases q3.1
    · exact q3.elim
  · exact q3.elim
end

/-! ### defs -/
/-- the fields of an error -/
def XR (G : Gm) (H : Hp) : Option Addr → List (Str × D) → Prop
  | none, fs => fs = []
  | some d, fs => fs ≠ [] ∧ ∃ gs, H d = some (.xd gs) ∧ KvAll G H gs fs
/-- what E must hold -/
def XOk (G : Gm) (N : En) (Ed : XD) (E : XK) : Prop := ∀ C od fs H' S', Sim G S' H' → Up N.S S' N.H H' → XR G H' od fs → Ed C fs S' → E (.ref C) od H'
/-- a def's promise, by data -/
def spD (K : PySem.W.Frag) (tabs : List Addr) (F : WF) : Sp := fun vs H Q E => ∃ (scr : Addr) (ns : List Int) (ds : List D) (S : Sto) (Qd : DK) (Ed : XD), ImAll ⟨K, tabs, scr, ns⟩ H vs ds ∧ Sim ⟨K, tabs, scr, ns⟩ S H ∧ F ds S Qd Ed ∧
  (∀ v d H' S', Im ⟨K, tabs, scr, ns⟩ H' v d → Sim ⟨K, tabs, scr, ns⟩ S' H' → Up S S' H H' → Qd d S' → Q v H') ∧ XOk ⟨K, tabs, scr, ns⟩ ⟨S, H⟩ Ed E
def xF : XD := fun _ _ _ => False
def eCa (F : WF) (Ed : XD) (fa : DA) : DE := fun δ S Q => fa δ S fun xs S1 => F xs S1 Q Ed
def eMe (C : Addr) (nm : List Str) (F : WF) (Ed : XD) (fo : DE) (fa : DA) : DE := fun δ S Q => fo δ S fun x S1 => (asRef x fun a => atO S1 a C nm fun _ => True) ∧ fa δ S1 fun xs S2 => F (x :: xs) S2 Q Ed
def eMa (C : Addr) (nm : List Str) (F : WF) (Ed : XD) (fa : DA) : DE := fun δ S Q => fa δ S fun xs S1 => ∀ p, S1 p = none → F (.ref p :: xs) (sup S1 p (.ins C nm [])) (fun v S2 => v = .non ∧ Q (.ref p) S2) Ed
section
variable {K : PySem.W.Frag} {tabs : List Addr} {scr : Addr} {ns : List Int} {N : En} {tl : TA} {fl : DA} {F : WF} {Ed : XD} {E : XK}
theorem xok_F {G : Gm} {E : XK} : XOk G N xF E := fun _ _ _ _ _ _ _ _ z => z.elim
theorem use_sp {vs : List V} {ds : List D} {S : Sto} {H : Hp} {Qd : DK} {Q : VK} (i : ImAll ⟨K, tabs, scr, ns⟩ H vs ds) (s : Sim ⟨K, tabs, scr, ns⟩ S H) (u : Up N.S S N.H H) (h : F ds S Qd Ed)
    (q : ∀ v d H' S', Im ⟨K, tabs, scr, ns⟩ H' v d → Sim ⟨K, tabs, scr, ns⟩ S' H' → Up S S' H H' → Qd d S' → Q v H') (x : XOk ⟨K, tabs, scr, ns⟩ N Ed E) : spD K tabs F vs H Q E :=
  ⟨scr, ns, ds, S, Qd, Ed, i, s, h, q, fun C od fs H' S' s' u' xr e => x C od fs H' S' s' (u.trans u') xr e⟩
theorem se_ca (hx : XOk ⟨K, tabs, scr, ns⟩ N Ed E) (ha : SA ⟨K, tabs, scr, ns⟩ N tl fl) : SE ⟨K, tabs, scr, ns⟩ N (Ow.tCa (spD K tabs F) E tl) (eCa F Ed fl) := by
  intro σ δ H S Q R rl h k
  refine ha σ δ H S _ _ rl h fun vs ds H1 S1 i1 r1 u1 q => ?_
  exact use_sp i1 r1.sim r1.up q (fun v d H' S' i s u q' => k v d H' S' i (r1.go s u) (u1.trans u) q') hx
theorem zip_no {nm : List Str} {m : Str} (h : m ∉ nm) : ∀ {ds : List D}, (nm.zip ds).lookup m = none := by
  intro ds
  induction nm generalizing ds with
  | nil => rfl
  | cons n nm ih =>
    cases ds with
    | nil => rfl
    | cons d ds =>
      rw [List.mem_cons, not_or] at h
      rw [List.zip_cons_cons, List.lookup_cons, beq_eq_false_iff_ne.mpr h.1]
      exact ih h.2
theorem se_me {C : Addr} {m : Str} {nm : List Str} {to : TE} {fo : DE} (hm : m ∉ nm) (hx : XOk ⟨K, tabs, scr, ns⟩ N Ed E) (ho : SE ⟨K, tabs, scr, ns⟩ N to fo) (ha : SA ⟨K, tabs, scr, ns⟩ N tl fl) : SE ⟨K, tabs, scr, ns⟩ N (Ow.tMe C m (spD K tabs F) E to tl) (eMe C nm F Ed fo fl) := by
  intro σ δ H S Q R rl h k
  refine ho σ δ H S _ _ rl h fun x d H1 S1 i1 r1 u1 ⟨q0, q⟩ => ?_
  obtain ⟨a, rfl, q0⟩ := asRef_of q0
  obtain ⟨fs, e1, _⟩ := atO_of q0
  obtain ⟨dx, gs, hg, kv, _⟩ := r1.sim.ob _ _ e1
  refine ⟨a, dx, gs, im_ref i1, hg, kv_none kv (zip_no hm), ha σ δ H1 S1 _ _ r1 q fun vs ds H2 S2 i2 r2 u2 q2 => ?_⟩
  exact use_sp (.cons (i1.go (u2.tu r1.sim)) i2) r2.sim r2.up q2 (fun v d H' S' i s u q' => k v d H' S' i (r2.go s u) (u1.trans (u2.trans u)) q') hx
theorem se_ma {C : Addr} {nm : List Str} (hn : nm.length ≤ 999) (hx : XOk ⟨K, tabs, scr, ns⟩ N Ed E) (ha : SA ⟨K, tabs, scr, ns⟩ N tl fl) : SE ⟨K, tabs, scr, ns⟩ N (Ow.tMa C (spD K tabs F) E tl) (eMa C nm F Ed fl) := by
  intro σ δ H S Q R rl h k
  refine ha σ δ H S _ _ rl h fun vs ds H1 S1 i1 r1 u1 q x dx hx1 hdx hne => ?_
  have e1 := Ext.lay (o := HO.own x) hdx
  have s2 := r1.sim.ext e1
  have hx2 : upd H1 dx (.own x) x = none := by rw [upd_ne (Ne.symm hne)]; exact hx1
  obtain ⟨s3, u3⟩ := s2.lay (p := x) (o := .ins C nm []) (ho := .ins C dx []) hx2 ⟨dx, [], upd_same, by rw [List.zip_nil_right]; exact .nil, Nat.zero_le _, hn⟩
  have u4 := (Up.of_ext (S := S1) e1).trans u3
  refine use_sp (.cons (.ref x) (i1.go (u4.tu r1.sim))) s3 (r1.up.trans u4) (q x (r1.sim.free hx1)) (fun v d H' S' i s u ⟨ed, q'⟩ => ?_) hx
  subst ed
  exact ⟨im_non i, k (.ref x) (.ref x) H' S' (.ref x) ((r1.go s3 u4).go s u) (u1.trans (u4.trans u)) q'⟩
/-- raise of an own error without fields -/
def sRaise (C : Addr) (Ed : XD) : DS := fun _ _ S => Ed C [] S
theorem ss_raise {G : Gm} {C : Addr} (hx : XOk G N Ed E) : SS G N (fun _ _ H => E (.ref C) none H) (sRaise C Ed) := fun σ δ H S D E' r h k => hx C none [] H S r.sim r.up rfl h
end
section
variable {P : Program} {w : World} {K : PySem.W.Frag} {mg : Str → Option Value} {base : Heap} {tabs : List Addr}
def dstart (N : List Str) (ds : List D) : DV := ds.map some ++ List.replicate (N.length - ds.length) none
theorem sl_start {G : Gm} {H : Hp} {N : List Str} {vs : List V} {ds : List D} (i : ImAll G H vs ds) : Sl G H (L2.start N vs) (dstart N ds) := by
  have hl := i.length
  refine ⟨by simp [L2.start, dstart, hl], fun j d hj => ?_⟩
  unfold dstart at hj
  unfold L2.start
  by_cases y : j < ds.length
  · rw [List.getElem?_append_left (by simpa using y)] at hj
    rw [List.getElem?_append_left (by simpa [hl] using y)]
    rw [List.getElem?_map] at hj ⊢
    cases e : ds[j]? with
    | none => rw [e] at hj; cases hj
    | some d' =>
      rw [e] at hj
      cases hj
      obtain ⟨v, hv, iv⟩ := i.getD e
      exact ⟨v, by rw [hv]; rfl, iv⟩
  · rw [List.getElem?_append_right (by simpa using y)] at hj
    rw [List.getElem?_replicate] at hj
    split at hj <;> cases hj
/-- a def by data: its body's word is the promise -/
theorem def_ok {x qual : Str} {st : Stmt} {f : Addr} {fd : FuncData} {N ps : List Str} {k : Nat} {F : WF} (Fm : Fun K x qual st f fd) (S : FnScope N ps (defScope st)) (len : ∀ ds S Q E, F ds S Q E → ds.length = ps.length)
    (body : ∀ (scr : Addr) (ns : List Int) (Ne : En) (Ed : XD) (E : XK) (cdv : Value) (A : Around) (outer : List Env) (s : Shared) (H : Hp), Room k (A.deeper (envOfC qual (defScope st) s.heap.objs.size f cdv)) → XOk ⟨K, tabs, scr, ns⟩ Ne Ed E →
      ∃ t fb, PSs (cxOf (L2.CX P w) P w K mg base N qual (defScope st) f cdv A outer s H E) (defBody st) t ∧ SS ⟨K, tabs, scr, ns⟩ Ne t fb ∧ ∀ ds S Qd, F ds S Qd Ed → fb { nx := fun _ S' => Qd .non S', rt := Qd } (dstart N ds) S) :
    FnOk P w K mg base (L2.CX P w) (k + 1) f fd ps (spD K tabs F) := by
  refine Fm.okX S (fun vs H Q E h => ?_) (fun cdv A outer s H vs Q E hr h => ?_)
  · obtain ⟨scr, ns, ds, S, Qd, Ed, i, _, hF, _⟩ := h
    rw [i.length]; exact len _ _ _ _ hF
  · obtain ⟨scr, ns, ds, S0, Qd, Ed, i, sm, hF, hq, hx⟩ := h
    obtain ⟨t, fb, hp, hs, hf⟩ := body scr ns ⟨S0, H⟩ Ed E cdv A outer s H hr hx
    refine ⟨t, hp, hs _ _ H S0 _ _ ⟨sl_start i, sm, .refl⟩ (hf ds S0 Qd hF) ⟨fun σ δ H' S' r u q => hq .non .non H' S' .non r.sim u q, fun _ _ _ _ _ _ z => z.elim, fun _ _ _ _ _ _ z => z.elim, fun v d H' S' iv s' u q => hq v d H' S' iv s' u q⟩⟩
end
end Sd

set_option Elab.async false
set_option linter.all false
set_option maxRecDepth 100000
set_option maxHeartbeats 4000000
namespace Sd
open PySem PySem.Spec PyProof.Rows L2 GxR
instance {x : Str} : Decidable (okS x) := inferInstanceAs (Decidable (_ ∧ _))
theorem m2_get {X : Cx} {o e f : Expr} {apos cpos : Pos} (base : attributeBase o "get" X.env (eval o X.env) = eval o X.env := by rfl)
    (few : ((backTo cpos (starEach [e, f] X.env)).all (fun x => !x.1) && (backToKw cpos (keywordEach [] X.env)).all (fun x => x.1.isSome)
    && decide (([e, f] : List Expr).length + ([] : List Keyword).length + (if ([] : List Keyword).isEmpty then 0 else 1) < 30)) = true := by rfl)
    (line : (apos.endLine == cpos.line) = true := by rfl) (trees : backTo cpos (starEach [e, f] X.env) = [(false, eval e X.env), (false, eval f X.env)] := by rfl) : M2 X o "get" apos e f cpos := ⟨base, few, line, trees⟩
theorem m1_get {X : Cx} {o e : Expr} {apos cpos : Pos} (base : attributeBase o "get" X.env (eval o X.env) = eval o X.env := by rfl)
    (few : ((backTo cpos (starEach [e] X.env)).all (fun x => !x.1) && (backToKw cpos (keywordEach [] X.env)).all (fun x => x.1.isSome)
    && decide (([e] : List Expr).length + ([] : List Keyword).length + (if ([] : List Keyword).isEmpty then 0 else 1) < 30)) = true := by rfl)
    (line : (apos.endLine == cpos.line) = true := by rfl) (trees : backTo cpos (starEach [e] X.env) = [(false, eval e X.env)] := by rfl) : M1 X o "get" apos e cpos := ⟨base, few, line, trees⟩
def dIAdd : B2 := fun x y S Q => (dI (fun _ _ => True) fun i j => .int (i + j)) x y S Q
def dISub : B2 := fun x y S Q => (dI (fun _ _ => True) fun i j => .int (i - j)) x y S Q
/-- scalars -/
def dV : D → V
  | .int i => .int i
  | .str x => .str x
  | .bl b => .bl b
  | _ => .non
def scD : D → Bool
  | .int _ => true | .bl _ => true | .non => true
  | .str x => decide (x.length ≤ 1000000) && PyData.strOk x
  | _ => false
/-- a tuple of scalars of the written part -/
structure CtOk (K : PySem.W.Frag) (c : Addr) (ds : List D) : Prop where
  ex : ∃ (o : Obj) (its : Array Value) (n : Nat), K.lookup c = some o ∧ o.cls = .type "tuple" ∧ o.dict = none ∧ o.data = .seq its n ∧ its.size ≤ sizeLine ∧ Vals (ds.map dV) its.toList
  sc : ds.all scD = true
theorem sc_im {G : Gm} {H : Hp} {d : D} (h : scD d = true) : Im G H (dV d) d := by
  cases d with
  | str x =>
    refine .str x ?_
    have h : (decide (x.length ≤ 1000000) && PyData.strOk x) = true := h
    simpa [okS] using h
  | non => exact .non
  | bl b => exact .bl b
  | int i => exact .int i
  | _ => cases h
theorem scs_im {G : Gm} {H : Hp} : ∀ {ds : List D}, ds.all scD = true → ImAll G H (ds.map dV) ds
  | [], _ => .nil
  | d :: ds, h => by
    rw [List.all_cons, Bool.and_eq_true] at h
    exact .cons (sc_im h.1) (scs_im h.2)
theorem CtOk.im {K : PySem.W.Frag} {c : Addr} {ds : List D} (h : CtOk K c ds) {tabs : List Addr} {scr : Addr} {ns : List Int} {H : Hp} : Im ⟨K, tabs, scr, ns⟩ H (.ref c) (.ctup ds) := by
  obtain ⟨o, its, n, h1, h2, h3, h4, h5, h6⟩ := h.ex
  exact .ctup (fun _ => .inr ⟨o, its, n, h1, h2, h4, h5, h6⟩) h1 h2 h3 (scs_im h.sc)

section
variable {P : Program} {w : World} {K : PySem.W.Frag} {mg : Str → Option Value} {base : Heap}
open Ow in
/-- a def whose code object is known, with its table -/
structure FunT (K : PySem.W.Frag) (base : Heap) (mg : Str → Option Value) (x qual : Str) (st : Stmt) (f : Addr) (fd : FuncData) (P : Addr) : Prop where
  ex : ∃ (oc : Value) (od : Option Addr) (kV doc pm : Value) (an : Option Addr) (c : Addr) (ct : Value) (osl : Array (Option Value)),
    fd = PySem.W.fnOf x qual (defArgs st) (defBody st) (defScope st) .none kV doc pm an (.ref c) ct ∧ K.lookup f = some ⟨oc, od, .func fd, osl⟩ ∧ PySem.W.codeIn K (.ref c) qual = true ∧ TabB base mg c P
  kp : PySem.W.keepIn K (.ref f) = true
open Ow in
theorem FunT.okX {x qual : Str} {st : Stmt} {f : Addr} {fd : FuncData} {N ps : List Str} {k : Nat} {sp : Sp} {Pt : Addr} (F : FunT K base mg x qual st f fd Pt) (S : FnScope N ps (defScope st)) (len : ∀ vs H Q E, sp vs H Q E → vs.length = ps.length)
    (hbody : ∀ (c : Addr) (A : Around) (outer : List Env) (s : Shared) (H : Hp) (vs : List V) (Q : VK) (E : XK), TabB base mg c Pt → Room k (A.deeper (envOfC qual (defScope st) s.heap.objs.size f (.ref c))) → sp vs H Q E →
      ∃ t, PSs (cxOf (L2.CX P w) P w K mg base N qual (defScope st) f (.ref c) A outer s H E) (defBody st) t ∧ t { nx := fun _ H' => Q .non H', rt := Q } (start N vs) H) : FnOk P w K mg base (L2.CX P w) (k + 1) f fd ps sp := by
  obtain ⟨oc, od, kV, doc, pm, an, c, ct, osl, rfl, lk, hcd, tb⟩ := F.ex
  exact fn_of lk hcd S len fun A outer s H vs Q E hr hsp => hbody c A outer s H vs Q E tb hr hsp

end
theorem def_okT {P : Program} {w : World} {K : PySem.W.Frag} {mg : Str → Option Value} {base : Heap} {tabs : List Addr} {x qual : Str} {st : Stmt} {f Pt : Addr} {fd : FuncData} {N ps : List Str} {k : Nat} {F : WF} (Fm : FunT K base mg x qual st f fd Pt) (S : FnScope N ps (defScope st)) (len : ∀ ds S Q E, F ds S Q E → ds.length = ps.length)
    (body : ∀ (scr : Addr) (ns : List Int) (Ne : En) (Ed : XD) (E : XK) (c : Addr) (A : Around) (outer : List Env) (s : Shared) (H : Hp), TabB base mg c Pt → Room k (A.deeper (envOfC qual (defScope st) s.heap.objs.size f (.ref c))) → XOk ⟨K, tabs, scr, ns⟩ Ne Ed E →
      ∃ t fb, PSs (cxOf (L2.CX P w) P w K mg base N qual (defScope st) f (.ref c) A outer s H E) (defBody st) t ∧ SS ⟨K, tabs, scr, ns⟩ Ne t fb ∧ ∀ ds S Qd, F ds S Qd Ed → fb { nx := fun _ S' => Qd .non S', rt := Qd } (dstart N ds) S) :
    FnOk P w K mg base (L2.CX P w) (k + 1) f fd ps (spD K tabs F) := by
  refine Fm.okX S (fun vs H Q E h => ?_) (fun c A outer s H vs Q E TB hr h => ?_)
  · obtain ⟨scr, ns, ds, S, Qd, Ed, i, _, hF, _⟩ := h
    rw [i.length]; exact len _ _ _ _ hF
  · obtain ⟨scr, ns, ds, S0, Qd, Ed, i, sm, hF, hq, hx⟩ := h
    obtain ⟨t, fb, hp, hs, hf⟩ := body scr ns ⟨S0, H⟩ Ed E c A outer s H TB hr hx
    refine ⟨t, hp, hs _ _ H S0 _ _ ⟨sl_start i, sm, .refl⟩ (hf ds S0 Qd hF) ⟨fun σ δ H' S' r u q => hq .non .non H' S' .non r.sim u q, fun _ _ _ _ _ _ z => z.elim, fun _ _ _ _ _ _ z => z.elim, fun v d H' S' iv s' u q => hq v d H' S' iv s' u q⟩⟩
/-! ### join -/
def strsD : List D → Option (List Str)
  | [] => some []
  | .str x :: ds => (strsD ds).map fun xs => x :: xs
  | _ :: _ => none
def dJoin (x y : D) (S : Sto) (Q : DK) : Prop := match x, y with
  | .str a, .ref p => atL S p fun ds => match strsD ds with | none => False | some ys => (ys.map (·.length)).sum + ys.length * a.length ≤ 1000000 ∧ (okS (Txt.join a ys) → Q (.str (Txt.join a ys)) S)
  | _, _ => False
def eJoin (fo fa : DE) : DE := fun δ S Q => fo δ S fun x S1 => (∃ a, x = .str a) ∧ fa δ S1 fun y S2 => dJoin x y S2 Q
theorem strs_of : ∀ {ds : List D} {ys : List Str}, strsD ds = some ys → ds = ys.map D.str
  | [], _, h => by cases h; rfl
  | d :: ds, ys, h => by
    cases d <;> first | (cases h; done) | skip
    rename_i x
    rw [strsD] at h
    cases e : strsD ds with
    | none => rw [e] at h; cases h
    | some zs =>
      rw [e] at h
      cases h
      rw [strs_of e]; rfl
theorem strs_map : ∀ ys : List Str, strsD (ys.map D.str) = some ys
  | [] => rfl
  | y :: ys => by rw [List.map_cons, strsD, strs_map ys]; rfl
theorem im_strs {G : Gm} {H : Hp} : ∀ {ys : List Str} {vs : List V}, ImAll G H vs (ys.map D.str) → vs = ys.map V.str ∧ ∀ y ∈ ys, okS y
  | [], _, h => by cases h; exact ⟨rfl, fun _ z => by cases z⟩
  | y :: ys, _, h => by
    cases h with
    | cons h1 h2 =>
      obtain ⟨rfl, o⟩ := im_str h1
      obtain ⟨rfl, o2⟩ := im_strs h2
      exact ⟨rfl, fun z hz => by
        rcases List.mem_cons.mp hz with rfl | hz
        · exact o
        · exact o2 z hz⟩
theorem okS_join {a : Str} (ha : okS a) : ∀ {ys : List Str}, (∀ y ∈ ys, okS y) → (ys.map (·.length)).sum + ys.length * a.length ≤ 1000000 → okS (Txt.join a ys) := by
  intro ys h l
  have key : ∀ ys : List Str, (∀ y ∈ ys, okS y) → (Str.join a ys).length ≤ (ys.map (·.length)).sum + ys.length * a.length ∧ PyData.strOk (Str.join a ys) = true := by
    intro ys
    induction ys with
    | nil => intro _; rw [Str.join.eq_1]; exact ⟨Nat.zero_le _, by simp [PyData.strOk, Str.empty]⟩
    | cons y ys ih =>
      intro h
      have h1 := h y List.mem_cons_self
      cases ys with
      | nil =>
        rw [Str.join.eq_2]
        exact ⟨by simp, h1.2⟩
      | cons z zs =>
        have h2 := ih fun w hw => h w (List.mem_cons_of_mem _ hw)
        rw [Str.join.eq_3 (a : Str) y (z :: zs) (by intro e; cases e)]
        refine ⟨?_, ?_⟩
        · rw [Ow.len_app, Ow.len_app]
          have e : (y :: z :: zs).length * a.length = (z :: zs).length * a.length + a.length := by rw [List.length_cons, Nat.succ_mul]
          rw [List.map_cons, List.sum_cons, e]
          have := h2.1
          omega
        · have e : ∀ u v : Str, PyData.strOk u = true → PyData.strOk v = true → PyData.strOk (u ++ v) = true := fun u v hu hv => by
            show (u.cps ++ v.cps).all _ = true
            rw [Array.all_append]
            unfold PyData.strOk at hu hv
            simp [hu, hv]
          exact e _ _ (e _ _ h1.2 ha.2) h2.2
  obtain ⟨k1, k2⟩ := key ys h
  rw [show Txt.join a ys = Str.join a ys from TL.join_eq _ _]
  exact ⟨Nat.le_trans k1 l, k2⟩
theorem se_join {G : Gm} {N : En} {to ta : TE} {fo fa : DE} (ho : SE G N to fo) (ha : SE G N ta fa) : SE G N (tM1 (fun x xs H Q => ∃ a p, ∃ ys : List Str, x = .str a ∧ xs = [.ref p] ∧ (SqL G.K H p (ys.map V.str) ∨ SqT G.K H p (ys.map V.str)) ∧ (ys.map (·.length)).sum + ys.length * a.length ≤ 16777216 ∧ Q (.str (Txt.join a ys)) H) to ta) (eJoin fo fa) := by
  intro σ δ H S Q R rl h k
  refine ho σ δ H S _ _ rl h fun x d H1 S1 i1 r1 u1 ⟨⟨s, ex⟩, q1⟩ => ?_
  subst ex
  obtain ⟨rfl, os⟩ := im_str i1
  refine ⟨⟨s, rfl⟩, ha σ δ H1 S1 _ _ r1 q1 fun y e H2 S2 i2 r2 u2 q2 => ?_⟩
  cases e <;> first | exact q2.elim | skip
  rename_i p
  obtain ⟨ds, e1, q⟩ := atL_of (show atL S2 p fun ds => match strsD ds with | none => False | some ys => (ys.map (·.length)).sum + ys.length * s.length ≤ 1000000 ∧ (okS (Txt.join s ys) → Q (.str (Txt.join s ys)) S2) from q2)
  split at q
  case h_1 => exact q.elim
  rename_i ys hys
  cases strs_of hys
  obtain ⟨l, q⟩ := q
  obtain ⟨vs, hv, iv⟩ := r2.sim.ob _ _ e1
  obtain ⟨rfl, oy⟩ := im_strs iv
  cases im_ref i2
  have oj := okS_join os oy l
  exact ⟨s, p, ys, rfl, rfl, .inl (SqL.of hv), Nat.le_trans l (by decide), k _ _ H2 S2 (.str _ oj) r2 (u1.trans u2) (q oj)⟩
/-! ### the box: what it draws is any -/
def wBox : WF := fun ds S Q _ => match ds with | [.scr, .int _] => ∀ b c, S b = none → S c = none → c ≠ b → Q (.ref b) (sup (sup S c .cells) b (.box c)) | _ => False
def wLoad : WF := fun ds S Q _ => match ds with | [.ref b] => (∃ c, S b = some (.box c)) ∧ ∀ i, Q (.int i) S | _ => False
def wDraw : WF := fun ds S Q _ => match ds with | [.ref b, .int m] => (∃ c, S b = some (.box c)) ∧ 0 < m ∧ m < 1000000000000000000 ∧ ∀ i, 0 ≤ i → i < m → Q (.int i) S | _ => False
end Sd

set_option Elab.async false
set_option linter.all false
set_option maxRecDepth 100000
set_option maxHeartbeats 4000000
namespace Sd
open PySem PySem.Spec PyProof.Rows L2 GxR
/-! ### data -/
theorem dat_i {n : Nat} {i : Int} : dat n (.int i) = true := by cases n <;> simp [dat]
theorem dat_s {n : Nat} {x : Str} : dat n (.str x) = true := by cases n <;> simp [dat]
theorem dat_b {n : Nat} {b : Bool} : dat n (.bl b) = true := by cases n <;> simp [dat]
theorem dat_n {n : Nat} : dat n .non = true := by cases n <;> simp [dat]
theorem dats_c {n : Nat} {d : D} {ds : List D} : dats n (d :: ds) = (dat n d && dats n ds) := by rw [dats]
theorem dats_e {n : Nat} : dats n [] = true := by rw [dats]
theorem dat_t {n : Nat} {ds : List D} : dat (n + 1) (.tup ds) = (decide (ds.length ≤ 1000000) && dats n ds) := by rw [dat]
theorem unC_i {i : Int} : unC (.int i) = .int i := rfl
theorem unC_s {i : Str} : unC (.str i) = .str i := rfl
theorem unC_b {i : Bool} : unC (.bl i) = .bl i := rfl
theorem unC_n : unC .non = .non := rfl
theorem unC_t {ds : List D} : unC (.tup ds) = .tup ds := rfl
theorem unC_c {ds : List D} : unC (.ctup ds) = .tup ds := rfl
/-- two ways that go on alike -/
theorem ways {c : Bool} {C : List D → Sto → Prop} {P : List D → Sto → Prop} {ys : List D} {S : Sto} {A : Prop} (h2 : ∀ ds S, C ds S → P ds S) (h1 : (∀ ds S, C ds S → P ds S) → A) (hc : C ys S) : (c = true → A) ∧ (c = false → P ys S) := ⟨fun _ => h1 h2, fun _ => h2 _ _ hc⟩
theorem eqD_ii {i j : Int} : eqD (.int i) (.int j) = decide (i = j) := by
  show (i == j) = _
  by_cases h : i = j <;> simp [h]
theorem eqD_ss {i j : Str} : eqD (.str i) (.str j) = decide (i = j) := by
  show (i == j) = _
  by_cases h : i = j <;> simp [h]
theorem eqD_bb {i j : Bool} : eqD (.bl i) (.bl j) = decide (i = j) := by cases i <;> cases j <;> rfl
theorem eqD_nn : eqD .non .non = true := rfl
theorem eqD_is {i : Int} {j : Str} : eqD (.int i) (.str j) = false := rfl
theorem eqD_si {i : Int} {j : Str} : eqD (.str j) (.int i) = false := rfl
theorem eqD_tt {xs ys : List D} : eqD (.tup xs) (.tup ys) = PyData.eqvAll (pys xs) (pys ys) := rfl
theorem eqvAll_c {x y : D} {xs ys : List D} : PyData.eqvAll (pys (x :: xs)) (pys (y :: ys)) = (eqD x y && PyData.eqvAll (pys xs) (pys ys)) := rfl
theorem eqvAll_n : PyData.eqvAll (pys []) (pys []) = true := rfl
/-! ### look-ups, where it is known what stands -/
theorem atL_eq {S : Sto} {a : Addr} {k : List D → Prop} {ds : List D} (h : S a = some (.lst ds)) : atL S a k = k ds := by unfold atL; rw [h]
theorem atO_eq {S : Sto} {a C : Addr} {nm : List Str} {k : List D → Prop} {ds : List D} (h : S a = some (.ins C nm ds)) : atO S a C nm k = k ds := by unfold atO; rw [h]; simp
theorem dget_T {S : Sto} {a : Addr} {y : D} {k : Option D → Prop} {kvs : List (List Key × D)} {x : List Key} (h : S a = some (.dT kvs)) (e : keyT y = some x) : dget S a y k = k (valD kvs x) := by unfold dget; rw [h]; simp only [e]
theorem dget_K {S : Sto} {a : Addr} {y : D} {k : Option D → Prop} {kvs : List (Key × D)} {x : Key} (h : S a = some (.dK kvs)) (e : keyD y = some x) : dget S a y k = k (valD kvs x) := by unfold dget; rw [h]; simp only [e]
theorem dput_T {S : Sto} {a : Addr} {y v : D} {k : Sto → Prop} {kvs : List (List Key × D)} {x : List Key} (h : S a = some (.dT kvs)) (e : keyT y = some x) (l : kvs.length < 1000000) : dput S a y v k = k (sup S a (.dT (putKD kvs x v))) := by unfold dput; rw [h]; simp only [e, l, true_and]
theorem dput_K {S : Sto} {a : Addr} {y v : D} {k : Sto → Prop} {kvs : List (Key × D)} {x : Key} (h : S a = some (.dK kvs)) (e : keyD y = some x) (l : kvs.length < 1000000) : dput S a y v k = k (sup S a (.dK (putKD kvs x v))) := by unfold dput; rw [h]; simp only [e, l, true_and]
theorem isDict_T {S : Sto} {a : Addr} {kvs : List (List Key × D)} (h : S a = some (.dT kvs)) : (isDict S a = true) = True := by unfold isDict; rw [h]; simp
theorem isDict_K {S : Sto} {a : Addr} {kvs : List (Key × D)} (h : S a = some (.dK kvs)) : (isDict S a = true) = True := by unfold isDict; rw [h]; simp
/-! ### loops by data -/
section
variable {ok : Sto → Prop} {i : Nat} {te : DE} {δ : DV} {S : Sto}
theorem allD_eq {p : D → Bool} {Q : Bool → Sto → Prop} (hok : ok S) : ∀ {items : List D}, (∀ x ∈ items, ∀ R : DK, te (δ.set i (some x)) S R = R (.bl (p x)) S) → allD ok (xName i) te δ items S Q = Q (items.all p) S
  | [], _ => by simp [allD, hok]
  | x :: xs, h => by
    rw [allD]
    simp only [xName]
    rw [h x List.mem_cons_self]
    have ih := allD_eq (Q := Q) hok (items := xs) fun y hy => h y (List.mem_cons_of_mem _ hy)
    simp only [asB, br, hok, true_and, ih, List.all_cons]
    cases p x <;> simp
theorem lcD_map {f : D → D} {Q : List D → Sto → Prop} (hok : ok S) : ∀ {items acc : List D}, acc.length + items.length ≤ 1000000 → (∀ x ∈ items, ∀ R : DK, te (δ.set i (some x)) S R = R (f x) S) → lcD ok (xName i) tYes' te δ items acc S Q = Q (acc ++ items.map f) S
  | [], acc, _, _ => by simp [lcD, hok]
  | x :: xs, acc, l, h => by
    rw [lcD]
    simp only [List.length_cons] at l
    simp only [xName, tYes', br, hok, true_and]
    rw [h x List.mem_cons_self]
    have ih := lcD_map (Q := Q) hok (items := xs) (acc := acc ++ [f x]) (by simp; omega) fun y hy => h y (List.mem_cons_of_mem _ hy)
    rw [ih]
    simp
    omega
theorem lcD_filter {f : D → D} {p : D → Bool} {tt : DT} {Q : List D → Sto → Prop} (hok : ok S) : ∀ {items acc : List D}, acc.length + items.length ≤ 1000000 → (∀ x ∈ items, ∀ R : DK, te (δ.set i (some x)) S R = R (f x) S) → (∀ x ∈ items, ∀ R : Bool → Sto → Prop, tt (δ.set i (some x)) S R = R (p x) S) → lcD ok (xName i) tt te δ items acc S Q = Q (acc ++ (items.filter p).map f) S
  | [], acc, _, _, _ => by simp [lcD, hok]
  | x :: xs, acc, l, h, h2 => by
    rw [lcD]
    simp only [List.length_cons] at l
    simp only [xName, br, hok, true_and]
    rw [h2 x List.mem_cons_self, h x List.mem_cons_self]
    have ih := lcD_filter (Q := Q) hok (items := xs) (acc := acc ++ [f x]) (by simp; omega) (fun y hy => h y (List.mem_cons_of_mem _ hy)) fun y hy => h2 y (List.mem_cons_of_mem _ hy)
    have ih2 := lcD_filter (Q := Q) hok (items := xs) (acc := acc) (by omega) (fun y hy => h y (List.mem_cons_of_mem _ hy)) fun y hy => h2 y (List.mem_cons_of_mem _ hy)
    rw [ih, ih2]
    cases hp : p x
    · simp [hp]
    · simp [hp]; omega
/-- a comprehension with a condition; the store goes on by J -/
theorem lcD_J {f : D → D} {p : D → Bool} {tt : DT} {J : Sto → Prop} {Q : List D → Sto → Prop} {items : List D} (hp : ∀ x ∈ items, ∀ S, J S → ok S ∧ ∀ R : Bool → Sto → Prop, (∀ S', J S' → R (p x) S') → tt (δ.set i (some x)) S R)
    (hf : ∀ x ∈ items, p x = true → ∀ S, J S → ∀ R : DK, (∀ S', J S' → R (f x) S') → te (δ.set i (some x)) S R) (hend : ∀ S, J S → ok S) (hl : items.length ≤ 1000000)
    (q : ∀ S', J S' → Q ((items.filter p).map f) S') (hJ : J S) : lcD ok (xName i) tt te δ items [] S Q := by
  have gen : ∀ (rest done : List D) (S : Sto), items = done ++ rest → J S → lcD ok (xName i) tt te δ rest ((done.filter p).map f) S Q := by
    intro rest
    induction rest with
    | nil =>
      intro done S e hJ
      rw [List.append_nil] at e
      rw [← e]
      exact ⟨hend S hJ, q S hJ⟩
    | cons x xs ih =>
      intro done S e hJ
      have hx : x ∈ items := by rw [e]; simp
      obtain ⟨h1, h2⟩ := hp x hx S hJ
      refine ⟨h1, h2 _ fun S' hJ' => ?_⟩
      have e2 : items = (done ++ [x]) ++ xs := by rw [e]; simp
      refine ⟨fun hb => hf x hx hb S' hJ' _ fun S2 hJ2 => ⟨?_, ?_⟩, fun hb => ?_⟩
      · have h3 : (done.filter p).length ≤ done.length := List.length_filter_le _ _
        have h4 : items.length = done.length + (xs.length + 1) := by rw [e]; simp
        rw [List.length_map]
        omega
      · have := ih (done ++ [x]) S2 e2 hJ2
        rw [List.filter_append, List.map_append] at this
        simpa [List.filter_cons, hb] using this
      · have := ih (done ++ [x]) S' e2 hJ'
        rw [List.filter_append, List.map_append] at this
        simpa [List.filter_cons, hb] using this
  exact gen items [] S rfl hJ
/-- elements that are drawn: any of a kind; the store goes on by J -/
theorem lcD_any {P : D → Prop} {J : Sto → Prop} {Q : List D → Sto → Prop} {items : List D} (h : ∀ x ∈ items, ∀ S, J S → ok S ∧ ∀ R : DK, (∀ y S', J S' → P y → R y S') → te (δ.set i (some x)) S R) (hend : ∀ S, J S → ok S)
    (q : ∀ ys S', ys.length = items.length → (∀ y ∈ ys, P y) → J S' → Q ys S') (hl : items.length ≤ 1000000) (hJ : J S) : lcD ok (xName i) tYes' te δ items [] S Q := by
  have gen : ∀ (rest done acc : List D) (S : Sto), items = done ++ rest → acc.length = done.length → (∀ y ∈ acc, P y) → J S → lcD ok (xName i) tYes' te δ rest acc S Q := by
    intro rest
    induction rest with
    | nil =>
      intro done acc S e l hp hJ
      rw [List.append_nil] at e
      exact ⟨hend S hJ, q acc S (by rw [l, e]) hp hJ⟩
    | cons x xs ih =>
      intro done acc S e l hp hJ
      have hx : x ∈ items := by rw [e]; simp
      obtain ⟨h1, h2⟩ := h x hx S hJ
      refine ⟨h1, ?_⟩
      show (true = true → _) ∧ (true = false → _)
      refine ⟨fun _ => h2 _ fun y S' hJ' hy => ⟨?_, ih (done ++ [x]) (acc ++ [y]) S' (by rw [e]; simp) (by simp [l]) (fun z hz => ?_) hJ'⟩, fun z => by cases z⟩
      · have : items.length = done.length + (xs.length + 1) := by rw [e]; simp
        omega
      · rcases List.mem_append.mp hz with hz | hz
        · exact hp z hz
        · rw [List.mem_singleton.mp hz]; exact hy
  exact gen items [] [] S rfl rfl (fun _ z => by cases z) hJ
/-- .. with a count: elements of a kind, the store by J -/
theorem lcD_ix {P : D → Prop} {J : Nat → Sto → Prop} {Q : List D → Sto → Prop} {items : List D} (h : ∀ (k : Nat) x, items[k]? = some x → ∀ S, J k S → ok S ∧ ∀ R : DK, (∀ y S', J (k + 1) S' → P y → R y S') → te (δ.set i (some x)) S R) (hend : ∀ k S, J k S → ok S)
    (q : ∀ ys S', ys.length = items.length → (∀ y ∈ ys, P y) → J items.length S' → Q ys S') (hl : items.length ≤ 1000000) (hJ : J 0 S) : lcD ok (xName i) tYes' te δ items [] S Q := by
  have gen : ∀ (rest done acc : List D) (S : Sto), items = done ++ rest → acc.length = done.length → (∀ y ∈ acc, P y) → J done.length S → lcD ok (xName i) tYes' te δ rest acc S Q := by
    intro rest
    induction rest with
    | nil =>
      intro done acc S e l hp hJ
      rw [List.append_nil] at e
      subst e
      exact ⟨hend _ S hJ, q acc S l hp hJ⟩
    | cons x xs ih =>
      intro done acc S e l hp hJ
      have hx : items[done.length]? = some x := by rw [e]; simp
      obtain ⟨h1, h2⟩ := h _ x hx S hJ
      refine ⟨h1, ?_⟩
      show (true = true → _) ∧ (true = false → _)
      refine ⟨fun _ => h2 _ fun y S' hJ' hy => ⟨?_, ih (done ++ [x]) (acc ++ [y]) S' (by rw [e]; simp) (by simp [l]) (fun z hz => ?_) (by simpa using hJ')⟩, fun z => by cases z⟩
      · have : items.length = done.length + (xs.length + 1) := by rw [e]; simp
        omega
      · rcases List.mem_append.mp hz with hz | hz
        · exact hp z hz
        · rw [List.mem_singleton.mp hz]; exact hy
  exact gen items [] [] S rfl rfl (fun _ z => by cases z) hJ
end
theorem forD_inv {ok : Sto → Prop} {g : DG} {tb : DS} {D : DN} {items : List Sd.D} (I : DV → Sto → Prop)
    (hs : ∀ x ∈ items, ∀ (Nx : DV → Sto → Prop) δ S, I δ S → (∀ δ' S', I δ' S' → Nx δ' S') → ok S ∧ g x δ S fun δ' S' => tb { D with nx := Nx, ct := Nx, bk := D.nx } δ' S')
    (he : ∀ δ S, I δ S → ok S ∧ D.nx δ S) {δ : DV} {S : Sto} (h : I δ S) : forD ok g tb items D δ S := by
  induction items generalizing δ S with
  | nil => exact he δ S h
  | cons x xs ih =>
    exact hs x List.mem_cons_self _ δ S h fun δ' S' h' => ih (fun y hy => hs y (List.mem_cons_of_mem _ hy)) h'
/-- .. with the items that are past -/
theorem forD_ix {ok : Sto → Prop} {g : DG} {tb : DS} {D : DN} {items : List Sd.D} (I : Nat → DV → Sto → Prop)
    (hs : ∀ (k : Nat) x, items[k]? = some x → ∀ (Nx : DV → Sto → Prop) δ S, I k δ S → (∀ δ' S', I (k + 1) δ' S' → Nx δ' S') → ok S ∧ g x δ S fun δ' S' => tb { D with nx := Nx, ct := Nx, bk := D.nx } δ' S')
    (he : ∀ δ S, I items.length δ S → ok S ∧ D.nx δ S) {δ : DV} {S : Sto} (h : I 0 δ S) : forD ok g tb items D δ S := by
  have gen : ∀ (rest done : List Sd.D) (δ : DV) (S : Sto), items = done ++ rest → I done.length δ S → forD ok g tb rest D δ S := by
    intro rest
    induction rest with
    | nil =>
      intro done δ S e h
      rw [List.append_nil] at e
      rw [← e] at h
      exact he δ S h
    | cons x xs ih =>
      intro done δ S e h
      refine hs done.length x (by rw [e]; simp) _ δ S h fun δ' S' h' => ?_
      exact ih (done ++ [x]) δ' S' (by rw [e]; simp) (by simpa using h')
  exact gen items [] δ S rfl h
/-- a while by a measure -/
theorem whN_by {c : DT} {tb : DS} {D : DN} (I : DV → Sto → Prop) (μ : DV → Sto → Nat)
    (hs : ∀ (Nx : DV → Sto → Prop) δ S, I δ S → (∀ δ' S', I δ' S' → μ δ' S' < μ δ S → Nx δ' S') → c δ S fun b S1 => br b (tb { D with nx := Nx, ct := Nx, bk := D.nx } δ S1) (D.nx δ S1)) {δ : DV} {S : Sto} (h : I δ S) : sWhile c tb D δ S := by
  have gen : ∀ n δ S, I δ S → μ δ S < n → whN c tb n D δ S := by
    intro n
    induction n with
    | zero => intro δ S _ z; exact absurd z (Nat.not_lt_zero _)
    | succ n ih => intro δ S h z; exact hs _ δ S h fun δ' S' h' l => ih δ' S' h' (by omega)
  exact ⟨_, gen (μ δ S + 1) δ S h (Nat.lt_succ_self _)⟩
end Sd

set_option Elab.async false
set_option linter.all false
set_option maxRecDepth 100000
set_option maxHeartbeats 4000000
namespace Sd
open PySem PySem.Spec PyProof.Rows L2 GxR
/-! ### a function that the kernel does not look into -/
noncomputable def shut (F : WF) : WF := Classical.choose (⟨F, rfl⟩ : ∃ G : WF, G = F)
theorem shut_eq (F : WF) : shut F = F := Classical.choose_spec (⟨F, rfl⟩ : ∃ G : WF, G = F)
theorem shut_of {F : WF} {ds : List D} {S : Sto} {Q : DK} {Ed : XD} (h : shut F ds S Q Ed) : F ds S Q Ed := by rw [shut_eq] at h; exact h
/-! ### places and cuts of data -/
theorem atI_c0 {α : Type} {x : α} {xs : List α} : atI (x :: xs) 0 = some x := atI_nat (j := 0) rfl
theorem atI_c1 {α : Type} {x y : α} {xs : List α} : atI (x :: y :: xs) 1 = some y := atI_nat (j := 1) rfl
theorem atI_c2 {α : Type} {x y z : α} {xs : List α} : atI (x :: y :: z :: xs) 2 = some z := atI_nat (j := 2) rfl
theorem atI_c3 {α : Type} {x y z u : α} {xs : List α} : atI (x :: y :: z :: u :: xs) 3 = some u := atI_nat (j := 3) rfl
theorem atI_c4 {α : Type} {x y z u v : α} {xs : List α} : atI (x :: y :: z :: u :: v :: xs) 4 = some v := atI_nat (j := 4) rfl
theorem atI_c5 {α : Type} {x y z u v w : α} {xs : List α} : atI (x :: y :: z :: u :: v :: w :: xs) 5 = some w := atI_nat (j := 5) rfl
theorem cut_take {xs : List D} {k : Nat} : cutD xs none (some (k : Int)) = xs.take k := by
  unfold cutD HT.sIx
  simp only [show ¬ ((k : Int) < 0) by omega, if_false, Int.toNat_natCast, List.drop_zero, Nat.sub_zero]
  by_cases h : k ≤ xs.length
  · rw [Nat.min_eq_left h]
  · rw [Nat.min_eq_right (by omega), List.take_length, List.take_of_length_le (by omega)]
theorem cut_drop {xs : List D} {k : Nat} : cutD xs (some (k : Int)) none = xs.drop k := by
  unfold cutD HT.sIx
  simp only [show ¬ ((k : Int) < 0) by omega, if_false, Int.toNat_natCast]
  by_cases h : k ≤ xs.length
  · rw [Nat.min_eq_left h, List.take_of_length_le (by simp)]
  · rw [Nat.min_eq_right (by omega)]
    simp [List.drop_eq_nil_of_le (show xs.length ≤ k by omega)]
theorem cut_t1 {xs : List D} : cutD xs none (some 1) = xs.take 1 := cut_take (k := 1)
theorem cut_t2 {xs : List D} : cutD xs none (some 2) = xs.take 2 := cut_take (k := 2)
theorem cut_t3 {xs : List D} : cutD xs none (some 3) = xs.take 3 := cut_take (k := 3)
theorem cut_t4 {xs : List D} : cutD xs none (some 4) = xs.take 4 := cut_take (k := 4)
theorem cut_t5 {xs : List D} : cutD xs none (some 5) = xs.take 5 := cut_take (k := 5)
theorem cut_d1 {xs : List D} : cutD xs (some 1) none = xs.drop 1 := cut_drop (k := 1)
theorem cut_d2 {xs : List D} : cutD xs (some 2) none = xs.drop 2 := cut_drop (k := 2)
theorem cut_d3 {xs : List D} : cutD xs (some 3) none = xs.drop 3 := cut_drop (k := 3)
theorem tk1 {α : Type} {x : α} {xs : List α} : (x :: xs).take 1 = [x] := rfl
theorem tk2 {α : Type} {x y : α} {xs : List α} : (x :: y :: xs).take 2 = [x, y] := rfl
theorem tk5 {α : Type} {x y z u v : α} {xs : List α} : (x :: y :: z :: u :: v :: xs).take 5 = [x, y, z, u, v] := rfl
theorem dp1 {α : Type} {x : α} {xs : List α} : (x :: xs).drop 1 = xs := rfl
theorem dp2 {α : Type} {x y : α} {xs : List α} : (x :: y :: xs).drop 2 = xs := rfl
/-- rows of whole numbers -/
def iD (l : List Int) : D := .tup (l.map .int)
theorem atI_ints {l : List Int} {i : Int} (h0 : 0 ≤ i) (h1 : i < l.length) : atI (l.map D.int) i = some (.int (l.getD i.toNat 0)) := by
  have e : i = ((i.toNat : Nat) : Int) := by omega
  have hl : i.toNat < l.length := by omega
  have k : atI (l.map D.int) ((i.toNat : Nat) : Int) = some (.int (l.getD i.toNat 0)) := by
    refine atI_nat ?_
    rw [List.getElem?_map, List.getD_eq_getElem?_getD, List.getElem?_eq_getElem hl]
    rfl
  rw [← e] at k
  exact k
theorem atI_intsN {l : List Int} {i : Nat} (h1 : i < l.length) : atI (l.map D.int) (i : Int) = some (.int (l.getD i 0)) := by
  have := atI_ints (l := l) (i := (i : Int)) (by omega) (by omega)
  simpa using this
theorem dIx_t {ds : List D} {i : Int} {S : Sto} {Q : DK} : dIx (.tup ds) (.int i) S Q = match atI ds i with | some d => Q d S | none => False := rfl
theorem dIx_c {ds : List D} {i : Int} {S : Sto} {Q : DK} : dIx (.ctup ds) (.int i) S Q = match atI ds i with | some d => Q d S | none => False := rfl
theorem dIx_s {z : Str} {i : Int} {S : Sto} {Q : DK} : dIx (.str z) (.int i) S Q = match atI z.cps.toList i with | some c => Q (.str ⟨#[c]⟩) S | none => False := rfl
theorem dIx_r {a : Addr} {i : Int} {S : Sto} {Q : DK} : dIx (.ref a) (.int i) S Q = atL S a fun ds => match atI ds i with | some d => Q d S | none => False := rfl
theorem dIx_iD {l : List Int} {i : Int} {S : Sto} {Q : DK} : dIx (iD l) (.int i) S Q = match atI (l.map D.int) i with | some d => Q d S | none => False := rfl
theorem dLen_s {x : Str} {S : Sto} {Q : DK} : dLen [.str x] S Q = Q (.int x.length) S := rfl
theorem dLen_t {ds : List D} {S : Sto} {Q : DK} : dLen [.tup ds] S Q = Q (.int ds.length) S := rfl
theorem dLen_c {ds : List D} {S : Sto} {Q : DK} : dLen [.ctup ds] S Q = Q (.int ds.length) S := rfl
theorem dLen_r {a : Addr} {S : Sto} {Q : DK} : dLen [.ref a] S Q = atL S a fun ds => Q (.int ds.length) S := rfl
theorem dLen_iD {l : List Int} {S : Sto} {Q : DK} : dLen [iD l] S Q = Q (.int l.length) S := by show Q (.int (l.map D.int).length) S = _; rw [List.length_map]
theorem set_cut {α : Type} {l : List α} {i : Nat} {x : α} (h : i < l.length) : l.take i ++ x :: l.drop (i + 1) = l.set i x := by
  rw [List.set_eq_take_append_cons_drop, if_pos h]
/-! ### is True, is not True, of bools -/
def dIsB (neg : Bool) : B2 := fun x y S Q => match x, y with
  | .bl p, .bl q => Q (.bl (if neg then !decide (p = q) else decide (p = q))) S
  | _, _ => False
theorem s2_isB {G : Gm} : S2 G (fun x y H Q => ∃ a b, x = .bl a ∧ y = .bl b ∧ Q (.bl (decide (a = b))) H) (dIsB false) := by
  intro x y d e H S Q R hx hy s h k
  unfold dIsB at h
  split at h
  · cases im_bl hx; cases im_bl hy
    exact ⟨_, _, rfl, rfl, k _ _ H S (.bl _) s .refl h⟩
  · exact h.elim
theorem s2_notB {G : Gm} : S2 G (fun x y H Q => ∃ a b, x = .bl a ∧ y = .bl b ∧ Q (.bl (!decide (a = b))) H) (dIsB true) := by
  intro x y d e H S Q R hx hy s h k
  unfold dIsB at h
  split at h
  · cases im_bl hx; cases im_bl hy
    exact ⟨_, _, rfl, rfl, k _ _ H S (.bl _) s .refl h⟩
  · exact h.elim
/-! ### written dicts: texts to scalars or defs -/
def dV2 : D → V
  | .int i => .int i
  | .str x => .str x
  | .bl b => .bl b
  | .ref a => .ref a
  | _ => .non
def scR : D → Bool
  | .ref _ => true
  | d => scD d
theorem scR_im {G : Gm} {H : Hp} {d : D} (h : scR d = true) : Im G H (dV2 d) d := by
  cases d with
  | str x =>
    refine .str x ?_
    have h : (decide (x.length ≤ 1000000) && PyData.strOk x) = true := h
    simpa [okS] using h
  | non => exact .non
  | bl b => exact .bl b
  | int i => exact .int i
  | ref a => exact .ref a
  | _ => cases h
abbrev KTb := List (Str × Option D)
structure KdOk (K : PySem.W.Frag) (w : World) (d : Addr) (tb : KTb) : Prop where
  ex : ∃ es n, KDict K w d es n
  row : ∀ p ∈ tb, ∃ r, PySem.W.nsIn K d p.1 = some r ∧ ((p.2 = none ∧ r = none) ∨ ∃ v u, p.2 = some v ∧ r = some u ∧ scR v = true ∧ RelV (dV2 v) u)
def kLook : KTb → Str → Option (Option D)
  | [], _ => none
  | p :: r, z => if decide (p.1 = z) = true then some p.2 else kLook r z
theorem kLook_c {p : Str × Option D} {r : KTb} {z : Str} : kLook (p :: r) z = if decide (p.1 = z) = true then some p.2 else kLook r z := rfl
theorem look_mem {tb : KTb} {z : Str} {o : Option D} (h : kLook tb z = some o) : (z, o) ∈ tb := by
  induction tb with
  | nil => cases h
  | cons p r ih =>
    rw [kLook_c] at h
    split at h
    · rename_i hk
      cases h
      have : p.1 = z := of_decide_eq_true hk
      subst this
      exact List.mem_cons_self
    · exact List.mem_cons_of_mem _ (ih h)
def eKIx (tb : KTb) (fy : DE) : DE := fun δ S Q => fy δ S fun y S1 => match y with
  | .str z => (match kLook tb z with | some (some v) => Q v S1 | _ => False)
  | _ => False
def eKIn (neg : Bool) (tb : KTb) (fy : DE) : DE := fun δ S Q => fy δ S fun y S1 => match y with
  | .str z => (match kLook tb z with | some o => Q (.bl (if neg then !o.isSome else o.isSome)) S1 | _ => False)
  | _ => False
section
variable {G : Gm} {N : En} {w : World} {d : Addr} {tb : KTb} {ty : TE} {fy : DE}
theorem se_kix (k : KdOk G.K w d tb) (hy : SE G N ty fy) : SE G N (tOp (rIxD G.K w) (tC (.ref d)) ty) (eKIx tb fy) := by
  intro σ δ H S Q R rl h kk
  refine hy σ δ H S _ _ rl h fun y e H1 S1 i1 r1 u1 q1 => ?_
  cases e <;> first | exact q1.elim | skip
  rename_i z
  obtain ⟨rfl, _⟩ := im_str i1
  dsimp only at q1
  split at q1
  · rename_i v hv
    obtain ⟨r, h1, h2⟩ := k.row _ (look_mem hv)
    rcases h2 with ⟨h2, _⟩ | ⟨v', u, h2, rfl, h3, h4⟩
    · cases h2
    · cases h2
      obtain ⟨es, n, hd⟩ := k.ex
      exact ⟨d, z, dV2 v, rfl, rfl, ⟨es, n, u, hd.at_, hd.lit, h1, h4⟩, kk _ v H1 S1 (scR_im h3) r1 u1 q1⟩
  · exact q1.elim
theorem se_knotin (k : KdOk G.K w d tb) (hy : SE G N ty fy) : SE G N (tOp (fun x y H Q => ∃ (z : Str) (r : Option Value), x = .str z ∧ y = .ref d ∧ PySem.W.nsIn G.K d z = some r ∧ Q (.bl (!r.isSome)) H) ty (tC (.ref d))) (eKIn true tb fy) := by
  intro σ δ H S Q R rl h kk
  refine hy σ δ H S _ _ rl h fun y e H1 S1 i1 r1 u1 q1 => ?_
  cases e <;> first | exact q1.elim | skip
  rename_i z
  obtain ⟨rfl, _⟩ := im_str i1
  dsimp only at q1
  split at q1
  · rename_i o hv
    obtain ⟨r, h1, h2⟩ := k.row _ (look_mem hv)
    refine ⟨z, r, rfl, rfl, h1, ?_⟩
    rcases h2 with ⟨h2, rfl⟩ | ⟨v', u, h2, rfl, h3, h4⟩
    · cases h2
      exact kk _ _ H1 S1 (.bl _) r1 u1 q1
    · cases h2
      exact kk _ _ H1 S1 (.bl _) r1 u1 q1
  · exact q1.elim
theorem se_kin (k : KdOk G.K w d tb) (hy : SE G N ty fy) : SE G N (tOp (fun x y H Q => ∃ (z : Str) (r : Option Value), x = .str z ∧ y = .ref d ∧ PySem.W.nsIn G.K d z = some r ∧ Q (.bl (r.isSome)) H) ty (tC (.ref d))) (eKIn false tb fy) := by
  intro σ δ H S Q R rl h kk
  refine hy σ δ H S _ _ rl h fun y e H1 S1 i1 r1 u1 q1 => ?_
  cases e <;> first | exact q1.elim | skip
  rename_i z
  obtain ⟨rfl, _⟩ := im_str i1
  dsimp only at q1
  split at q1
  · rename_i o hv
    obtain ⟨r, h1, h2⟩ := k.row _ (look_mem hv)
    refine ⟨z, r, rfl, rfl, h1, ?_⟩
    rcases h2 with ⟨h2, rfl⟩ | ⟨v', u, h2, rfl, h3, h4⟩
    · cases h2
      exact kk _ _ H1 S1 (.bl _) r1 u1 q1
    · cases h2
      exact kk _ _ H1 S1 (.bl _) r1 u1 q1
  · exact q1.elim
end
theorem op_knotin {X : Cx} {d : Addr} {tb : KTb} (k : KdOk X.K X.w d tb) : OpR X (compareOp .NotIn) (fun x y H Q => ∃ (z : Str) (r : Option Value), x = .str z ∧ y = .ref d ∧ PySem.W.nsIn X.K d z = some r ∧ Q (.bl (!r.isSome)) H) := by
  obtain ⟨es, n, h⟩ := k.ex
  exact op_notIn_kd h
theorem op_kin {X : Cx} {d : Addr} {tb : KTb} (k : KdOk X.K X.w d tb) : OpR X (compareOp .In) (fun x y H Q => ∃ (z : Str) (r : Option Value), x = .str z ∧ y = .ref d ∧ PySem.W.nsIn X.K d z = some r ∧ Q (.bl r.isSome) H) := by
  obtain ⟨es, n, h⟩ := k.ex
  exact op_in_kd h
/-! ### a call of a value that is one of some defs -/
structure CvOk (P : Program) (w : World) (K : PySem.W.Frag) (mg : Str → Option Value) (base : Heap) (j : Nat) (f : Addr) (sp : Sp) : Prop where
  ex : ∃ k fd ps, k ≤ j ∧ FnOk P w K mg base (L2.CX P w) k f fd ps sp ∧ PySem.W.keepIn K (.ref f) = true ∧ Binds K fd ps []
theorem CvOk.of {P : Program} {w : World} {K : PySem.W.Frag} {mg : Str → Option Value} {base : Heap} {k j : Nat} {x : Str} {f : Addr} {sp : Sp} (c : Ow.Ca P w K mg base k x sp) (h : mg x = some (.ref f)) (hk : k ≤ j) : CvOk P w K mg base j f sp := by
  obtain ⟨f', fd, ps, F, hm, kp, b⟩ := c.ex
  rw [h] at hm
  cases hm
  exact ⟨k, fd, ps, hk, F, kp, b⟩
def tCV (i : Nat) (fs : List (Addr × Sp)) (t : TA) : TE := fun σ H Q => ∃ f sp, (f, sp) ∈ fs ∧ σ[i]? = some (some (.ref f)) ∧ t σ H fun vs H1 => sp vs H1 Q L2.E0
theorem pe_cvs {X : Cx} {j : Nat} {x : Str} {p pos : Pos} {e : Expr} {es : List Expr} {t : TA} {i : Nat} {fs : List (Addr × Sp)} (h : ∀ p ∈ fs, CvOk X.prog X.w X.K X.mg X.base j p.1 p.2) (hr : Room j X.A) (hN : X.N[i]? = some x) (hv : Vis X.env.scope x) (ha : PA X (e :: es) t)
    (h1 : (x == ("__debug__" : Str)) = false := by decide) (h2 : (x == ("__classdict__" : Str)) = false := by decide) (he : starEach (e :: es) X.env = (false, eval e X.env) :: starEach es X.env := by rfl) (hpl : (backTo pos (starEach es X.env)).any (·.1) = false := by rfl) :
    PE X (.Call (.Name x p) (e :: es) [] pos) (tCV i fs t) := by
  refine ⟨fun pins s σ H Q I ⟨f, sp, hm, hs, q⟩ => ?_⟩
  obtain ⟨k, fd, ps, hk, F, kp, b⟩ := (h _ hm).ex
  have c : C8.CalAt X.prog X.w X.K X.mg X.base k f (fun vs H Q _ => sp vs H Q L2.E0) := by
    refine ⟨fd, ps, ⟨fun vs H Q E z => F.len vs H Q L2.E0 z, fun A outer s H args us vs Q E hr e0 b v z => ?_⟩, kp, b⟩
    refine PySem.codeAny_mono (F.run A outer s H args us vs Q L2.E0 hr e0 b v z) fun r s' y => ?_
    cases r with
    | ok a => cases a <;> exact y
    | error e => obtain ⟨_, _, _, _, _, _, _, _, _, _, _, _, z⟩ := y; exact z
  exact (C8.pe_cv c c hr hk hk hN hv ha h1 h2 he hpl).run pins s σ H Q I (.inl ⟨hs, q⟩)
def eCV (i : Nat) (fs : List (Addr × WF)) (fa : DA) : DE := fun δ S Q => ∃ f F, (f, F) ∈ fs ∧ δ[i]? = some (some (.ref f)) ∧ fa δ S fun xs S1 => F xs S1 Q xF
theorem se_cv {K : PySem.W.Frag} {tabs : List Addr} {scr : Addr} {ns : List Int} {N : En} {i : Nat} {fs : List (Addr × WF)} {tl : TA} {fl : DA} (ha : SA ⟨K, tabs, scr, ns⟩ N tl fl) :
    SE ⟨K, tabs, scr, ns⟩ N (tCV i (fs.map fun p => (p.1, spD K tabs p.2)) tl) (eCV i fs fl) := by
  rintro σ δ H S Q R rl ⟨f, F, hm, hi, h⟩ k
  obtain ⟨v, h1, h2⟩ := rl.sl.at_ i _ hi
  rw [im_ref h2] at h1
  refine ⟨f, spD K tabs F, List.mem_map.mpr ⟨_, hm, rfl⟩, h1, ?_⟩
  refine ha σ δ H S _ _ rl h fun vs ds H1 S1 i1 r1 u1 q => ?_
  exact use_sp i1 r1.sim r1.up q (fun v d H' S' i s u q' => k v d H' S' i (r1.go s u) (u1.trans u) q') xok_F
theorem cv_nil {P : Program} {w : World} {K : PySem.W.Frag} {mg : Str → Option Value} {base : Heap} {j : Nat} {tabs : List Addr} : ∀ p ∈ ([] : List (Addr × WF)).map fun p => (p.1, spD K tabs p.2), CvOk P w K mg base j p.1 p.2 := fun _ h => by cases h
theorem cv_cons {P : Program} {w : World} {K : PySem.W.Frag} {mg : Str → Option Value} {base : Heap} {j : Nat} {tabs : List Addr} {f : Addr} {F : WF} {fs : List (Addr × WF)} (h : CvOk P w K mg base j f (spD K tabs F))
    (r : ∀ p ∈ fs.map fun p => (p.1, spD K tabs p.2), CvOk P w K mg base j p.1 p.2) : ∀ p ∈ ((f, F) :: fs).map fun p => (p.1, spD K tabs p.2), CvOk P w K mg base j p.1 p.2 := by
  intro p hp
  rw [List.map_cons] at hp
  rcases List.mem_cons.mp hp with rfl | hp
  · exact h
  · exact r p hp
/-! ### reversed(range(..)) -/
def downto (lo : Int) (n : Nat) : List D := (List.range n).map fun i => .int (lo + ((n - 1 - i : Nat) : Int))
def iRev1 (a : DE) : DI := fun δ S Q => a δ S fun x S1 => match x with | .int j => -(2 ^ 62) ≤ j ∧ j < 2 ^ 62 ∧ Q ⟨downto 0 j.toNat, fun _ => True⟩ S1 | _ => False
def iRev2 (a b : DE) : DI := fun δ S Q => a δ S fun x S1 => b δ S1 fun y S2 => match x, y with | .int i, .int j => -(2 ^ 62) ≤ i ∧ i < 2 ^ 62 ∧ -(2 ^ 62) ≤ j ∧ j < 2 ^ 62 ∧ Q ⟨downto i (j - i).toNat, fun _ => True⟩ S2 | _, _ => False
section
variable {G : Gm} {N : En} {ta tb : TE} {fa fb : DE}
theorem jok_rev {lo hi : Int} {n : Nat} {S : Sto} {H : Hp} (hh : hi = lo + (n : Int) - 1) : JOk G (Itc hi (-1) n) ⟨downto lo n, fun _ => True⟩ S H := by
  intro S2 H2 s2 u2 _ i hi'
  have hl : (downto lo n).length = n := by simp [downto]
  simp only [hl] at hi' ⊢
  refine ⟨fun y => y, fun y => by show n ≤ i; omega, fun x H' y w => ?_⟩
  obtain ⟨rfl, rfl⟩ := w
  refine ⟨.int (hi + (i : Int) * -1), ?_, .int _, s2, .refl, .refl⟩
  unfold downto
  rw [List.getElem?_map, List.getElem?_range y]
  simp only [Option.map_some]
  congr 2
  omega
theorem si_rev1 (ha : SE G N ta fa) : SI G N (iRevR (tRg1 ta)) (iRev1 fa) := by
  intro σ δ H S Q R r h k
  refine ha σ δ H S _ _ r h fun v d H1 S1 i1 r1 u1 q1 => ?_
  cases d <;> first | exact q1.elim | skip
  rename_i j
  obtain ⟨c1, c2, q⟩ := q1
  cases im_int i1
  refine ⟨j, rfl, by decide, by decide, c1, c2, ?_⟩
  rw [show (j - 0).toNat = j.toNat by rw [Int.sub_zero]]
  exact k _ _ H1 S1 (jok_rev rfl) r1 u1 q
theorem si_rev2 (ha : SE G N ta fa) (hb : SE G N tb fb) : SI G N (iRevR (tRg2 ta tb)) (iRev2 fa fb) := by
  intro σ δ H S Q R r h k
  refine ha σ δ H S _ _ r h fun v d H1 S1 i1 r1 u1 q1 => ?_
  refine hb σ δ H1 S1 _ _ r1 q1 fun v2 d2 H2 S2 i2 r2 u2 q2 => ?_
  cases d <;> first | exact q2.elim | skip
  cases d2 <;> first | exact q2.elim | skip
  rename_i i j
  obtain ⟨c1, c2, c3, c4, q⟩ := q2
  cases im_int i2
  cases im_int (i1.go (u2.tu r1.sim))
  exact ⟨i, j, rfl, rfl, c1, c2, c3, c4, k _ _ H2 S2 (jok_rev rfl) r2 (u1.trans u2) q⟩
end

/-! ### data, stores, picks -/
theorem dats_mem : ∀ {n : Nat} {ds : List D}, dats n ds = true → ∀ d ∈ ds, dat n d = true
  | _, [], _, _, z => by cases z
  | n, d :: ds, h, e, he => by
    rw [dats, Bool.and_eq_true] at h
    rcases List.mem_cons.mp he with rfl | he
    · exact h.1
    · exact dats_mem h.2 e he
theorem dat_up : ∀ {n : Nat} {d : D}, dat n d = true → dat (n + 1) d = true := by
  have key : ∀ (n : Nat), (∀ d, dat n d = true → dat (n + 1) d = true) ∧ ∀ ds, dats n ds = true → dats (n + 1) ds = true := by
    intro n
    induction n with
    | zero =>
      have h1 : ∀ d, dat 0 d = true → dat 1 d = true := fun d h => by cases d <;> simp_all [dat]
      refine ⟨h1, fun ds h => ?_⟩
      induction ds with
      | nil => simp [dats]
      | cons d ds ih =>
        rw [dats, Bool.and_eq_true] at h ⊢
        exact ⟨h1 d h.1, ih h.2⟩
    | succ n ih =>
      have h1 : ∀ d, dat (n + 1) d = true → dat (n + 2) d = true := fun d h => by
        cases d with
        | tup ds => rw [dat, Bool.and_eq_true] at h ⊢; exact ⟨h.1, ih.2 ds h.2⟩
        | _ => simp_all [dat]
      refine ⟨h1, fun ds h => ?_⟩
      induction ds with
      | nil => simp [dats]
      | cons d ds ih =>
        rw [dats, Bool.and_eq_true] at h ⊢
        exact ⟨h1 d h.1, ih h.2⟩
  intro n d h
  exact (key n).1 d h
theorem dat_tup {n : Nat} {ds : List D} (h : dat (n + 1) (.tup ds) = true) : ds.length ≤ 1000000 ∧ ∀ d ∈ ds, dat n d = true := by
  rw [dat, Bool.and_eq_true] at h
  exact ⟨by simpa using h.1, fun d hd => dats_mem h.2 d hd⟩
theorem dat_tup' {n : Nat} {ds : List D} (h1 : ds.length ≤ 1000000) (h2 : ∀ d ∈ ds, dat n d = true) : dat (n + 1) (.tup ds) = true := by
  rw [dat, Bool.and_eq_true]
  refine ⟨by simpa using h1, ?_⟩
  clear h1
  induction ds with
  | nil => simp [dats]
  | cons d ds ih => rw [dats, Bool.and_eq_true]; exact ⟨h2 d List.mem_cons_self, ih fun e he => h2 e (List.mem_cons_of_mem _ he)⟩
theorem atI_getElem {α : Type} {xs : List α} {j : Nat} (h : j < xs.length) : atI xs ((j : Nat) : Int) = some xs[j] := atI_nat (List.getElem?_eq_getElem h)
theorem upto_get {n k : Nat} {x : D} (h : (upto 0 n)[k]? = some x) : k < n ∧ x = .int (k : Nat) := by
  obtain ⟨h1, h2⟩ := List.getElem?_eq_some_iff.mp h
  have hn : k < n := by simpa [upto] using h1
  refine ⟨hn, ?_⟩
  rw [← h2]
  simp [upto]
theorem upto_len {lo : Int} {n : Nat} : (upto lo n).length = n := by simp [upto]
theorem upto_mem {n : Nat} {x : D} (h : x ∈ upto 0 n) : ∃ k : Nat, k < n ∧ x = .int (k : Nat) := by
  obtain ⟨k, hk, rfl⟩ := List.mem_map.mp h
  exact ⟨k, by simpa using hk, by simp⟩
/-- what stood stands as it was -/
def Se (S S' : Sto) : Prop := ∀ x o, S x = some o → S' x = some o
theorem Se.refl {S : Sto} : Se S S := fun _ _ h => h
theorem Se.trans {S S1 S2 : Sto} (h : Se S S1) (k : Se S1 S2) : Se S S2 := fun x o e => k x o (h x o e)
theorem Se.new {S S' : Sto} {p : Addr} {o : O} (h : Se S S') (hp : S' p = none) : Se S (sup S' p o) := fun x u e => by rw [sup_ne (sne (h x u e) hp)]; exact h x u e
theorem pickI {ds : List D} {i : Int} {K : D → Prop} (h0 : 0 ≤ i) (h1 : i < ds.length) (h : ∀ d ∈ ds, K d) : (match atI ds i with | some d => K d | none => False) := by
  have e : i = ((i.toNat : Nat) : Int) := by omega
  have hl : i.toNat < ds.length := by omega
  rw [e, atI_getElem hl]
  exact h _ (List.getElem_mem _)
/-- a display that is read at a place right away -/
theorem pickL {S : Sto} {p : Addr} {ds : List D} {i : Int} {K : D → Prop} (h0 : 0 ≤ i) (h1 : i < ds.length) (h : ∀ d ∈ ds, K d) : atL (sup S p (.lst ds)) p fun ds => (match atI ds i with | some d => K d | none => False) := by
  rw [atL_eq sup_same]
  exact pickI h0 h1 h
theorem pickA {α : Type} {xs : List α} {i : Int} {K : α → Prop} (h0 : 0 ≤ i) (h1 : i < xs.length) (h : ∀ c ∈ xs, K c) : (match atI xs i with | some d => K d | none => False) := by
  have e : i = ((i.toNat : Nat) : Int) := by omega
  have hl : i.toNat < xs.length := by omega
  rw [e, atI_getElem hl]
  exact h _ (List.getElem_mem _)
theorem atI_some {α : Type} {xs : List α} {i : Int} (h0 : 0 ≤ i) (h1 : i < xs.length) : ∃ c, atI xs i = some c ∧ c ∈ xs := by
  have e : i = ((i.toNat : Nat) : Int) := by omega
  have hl : i.toNat < xs.length := by omega
  refine ⟨xs[i.toNat], ?_, List.getElem_mem _⟩
  have := atI_getElem hl
  rw [← e] at this
  exact this
theorem dat_mono {n m : Nat} {d : D} (h : n ≤ m) (hd : dat n d = true) : dat m d = true := by
  induction m with
  | zero =>
    have : n = 0 := by omega
    subst this
    exact hd
  | succ m ih =>
    by_cases e : n = m + 1
    · subst e; exact hd
    · exact dat_up (ih (by omega))

theorem rows_of {P : Int → Prop} {ys : List D} (h : ∀ y ∈ ys, ∃ x, y = .int x ∧ P x) : ∃ l : List Int, ys = l.map .int ∧ ∀ x ∈ l, P x := by
  induction ys with
  | nil => exact ⟨[], rfl, fun _ z => by cases z⟩
  | cons y ys ih =>
    obtain ⟨l, rfl, h1⟩ := ih fun z hz => h z (List.mem_cons_of_mem _ hz)
    obtain ⟨x, rfl, hx⟩ := h y List.mem_cons_self
    exact ⟨x :: l, rfl, fun w hw => by
      rcases List.mem_cons.mp hw with rfl | hw
      · exact hx
      · exact h1 w hw⟩
theorem map_of {α : Type} {f : α → D} {P : α → Prop} {ys : List D} (h : ∀ y ∈ ys, ∃ x, y = f x ∧ P x) : ∃ l : List α, ys = l.map f ∧ ∀ x ∈ l, P x := by
  induction ys with
  | nil => exact ⟨[], rfl, fun _ z => by cases z⟩
  | cons y ys ih =>
    obtain ⟨l, rfl, h1⟩ := ih fun z hz => h z (List.mem_cons_of_mem _ hz)
    obtain ⟨x, rfl, hx⟩ := h y List.mem_cons_self
    exact ⟨x :: l, rfl, fun w hw => by
      rcases List.mem_cons.mp hw with rfl | hw
      · exact hx
      · exact h1 w hw⟩
theorem Se.box {S S' : Sto} {b c : Addr} (h : Se S S') (hb : S b = some (.box c)) : S' b = some (.box c) := h _ _ hb
theorem Se.one {S : Sto} {p : Addr} {o : O} (hp : S p = none) : Se S (sup S p o) := Se.refl.new hp
theorem dat_ints {l : List Int} (h : l.length ≤ 1000000) : dat 1 (iD l) = true := dat_tup' (by simpa using h) fun d hd => by
  obtain ⟨x, _, rfl⟩ := List.mem_map.mp hd
  exact dat_i
end Sd

set_option Elab.async false
set_option linter.all false
set_option maxRecDepth 100000
set_option maxHeartbeats 4000000
namespace Sd
open PySem PySem.Spec PyProof.Rows L2 GxR
/-! ### try .. except -/
def XOkS (G : Gm) (N : En) (Wd : DV → XD) (W : WX) : Prop := ∀ σ δ C od fs H' S', Rel G N σ δ S' H' → XR G H' od fs → Wd δ C fs S' → W (.ref C) od σ H'
def eCaS (F : WF) (Wd : DV → XD) (fa : DA) : DE := fun δ S Q => fa δ S fun xs S1 => F xs S1 Q (Wd δ)
def eMeS (C : Addr) (nm : List Str) (F : WF) (Wd : DV → XD) (fo : DE) (fa : DA) : DE := fun δ S Q => fo δ S fun x S1 => (asRef x fun a => atO S1 a C nm fun _ => True) ∧ fa δ S1 fun xs S2 => F (x :: xs) S2 Q (Wd δ)
section
variable {K : PySem.W.Frag} {tabs : List Addr} {scr : Addr} {ns : List Int} {N : En} {tl : TA} {fl : DA} {F : WF} {Wd : DV → XD} {W : WX}
theorem se_caS (hx : XOkS ⟨K, tabs, scr, ns⟩ N Wd W) (ha : SA ⟨K, tabs, scr, ns⟩ N tl fl) : SE ⟨K, tabs, scr, ns⟩ N (Ow.tCaS (spD K tabs F) (WE W) tl) (eCaS F Wd fl) := by
  intro σ δ H S Q R rl h k
  refine ha σ δ H S _ _ rl h fun vs ds H1 S1 i1 r1 u1 q => ?_
  exact ⟨scr, ns, ds, S1, Q, Wd δ, i1, r1.sim, q, fun v d H' S' i s u q' => k v d H' S' i (r1.go s u) (u1.trans u) q', fun C od fs H' S' s' u' xr e => hx σ δ C od fs H' S' (r1.go s' u') xr e⟩
theorem se_meS {C : Addr} {m : Str} {nm : List Str} {to : TE} {fo : DE} (hm : m ∉ nm) (hx : XOkS ⟨K, tabs, scr, ns⟩ N Wd W) (ho : SE ⟨K, tabs, scr, ns⟩ N to fo) (ha : SA ⟨K, tabs, scr, ns⟩ N tl fl) : SE ⟨K, tabs, scr, ns⟩ N (Ow.tMeS C m (spD K tabs F) (WE W) to tl) (eMeS C nm F Wd fo fl) := by
  intro σ δ H S Q R rl h k
  refine ho σ δ H S _ _ rl h fun x d H1 S1 i1 r1 u1 ⟨q0, q⟩ => ?_
  obtain ⟨a, rfl, q0⟩ := asRef_of q0
  obtain ⟨fs, e1, _⟩ := atO_of q0
  obtain ⟨dx, gs, hg, kv, _⟩ := r1.sim.ob _ _ e1
  refine ⟨a, dx, gs, im_ref i1, hg, kv_none kv (zip_no hm), ha σ δ H1 S1 _ _ r1 q fun vs ds H2 S2 i2 r2 u2 q2 => ?_⟩
  exact ⟨scr, ns, .ref a :: ds, S2, Q, Wd δ, .cons (i1.go (u2.tu r1.sim)) i2, r2.sim, q2, fun v d H' S' i s u q' => k v d H' S' i (r2.go s u) (u1.trans (u2.trans u)) q', fun C od fs H' S' s' u' xr e => hx σ δ C od fs H' S' (r2.go s' u') xr e⟩
end
def sTry (fb : (DV → XD) → DS) (xs : List Addr) (fs : DS) : DS := fun D δ S => fb (fun δ' C gs S' => C ∈ xs ∧ gs = [] ∧ fs D δ' S') D δ S
section
variable {G : Gm} {N : En} {c : Value} {tb : WX → TS} {ts : Addr → Value → Option Addr → TS} {W0 : WX} {fb : (DV → XD) → DS} {fs : DS} {xs : List Addr}
theorem EOk.here {S : Sto} {H : Hp} {D : DN} {E : Ends} {σ : L2.St} {δ : DV} (k : EOk G N S H D E) (r : Rel G N σ δ S H) : EOk G ⟨S, H⟩ S H D E :=
  ⟨fun σ δ H' S' r' u q => k.nx σ δ H' S' ⟨r'.sl, r'.sim, r.up.trans u⟩ u q, fun σ δ H' S' r' u q => k.bk σ δ H' S' ⟨r'.sl, r'.sim, r.up.trans u⟩ u q, fun σ δ H' S' r' u q => k.ct σ δ H' S' ⟨r'.sl, r'.sim, r.up.trans u⟩ u q, fun v d H' S' i s u q => k.rt v d H' S' i s (r.up.trans u) q⟩
theorem ss_try (hb : ∀ N' W Wd, XOkS G N' Wd W → SS G N' (tb W) (fb Wd)) (hs : ∀ N' a0 C, C ∈ xs → SS G N' (ts a0 (.ref C) none) fs) (hex : ∀ C ∈ xs, PySem.W.exmOne G.K (.ref C) c = some true) :
    SS G N (fun D σ H => tb (wOnly G.K c ts W0 D) D σ H) (sTry fb xs fs) := by
  intro σ δ H S D E r h k
  have k2 := k.here r
  refine hb ⟨S, H⟩ _ _ ?_ σ δ H S D E ⟨r.sl, r.sim, .refl⟩ h k2
  intro σ' δ' C od gs H' S' r' xr ⟨hC, hg, hf⟩
  subst hg
  have ho : od = none := by
    cases od with
    | none => rfl
    | some d => exact absurd rfl xr.1
  subst ho
  exact ⟨true, hex C hC, fun _ a0 ha => hs ⟨S, H⟩ a0 C hC σ' δ' H' S' D E r' hf (k2.go r'.up), fun z => by cases z⟩
theorem Rel.unset {σ : L2.St} {δ : DV} {S : Sto} {H : Hp} (r : Rel G N σ δ S H) (i : Nat) : Rel G N (σ.set i none) (δ.set i none) S H := by
  refine ⟨⟨by rw [List.length_set, List.length_set]; exact r.sl.len, fun j e hj => ?_⟩, r.sim, r.up⟩
  rw [List.getElem?_set] at hj ⊢
  by_cases y : i = j
  · rw [if_pos y] at hj
    split at hj <;> cases hj
  · rw [if_neg y] at hj ⊢
    exact r.sl.at_ j e hj
def sTryAs (i : Nat) (fb : (DV → XD) → DS) (xs : List Addr) (fs : Addr → DS) : DS := fun D δ S => fb (fun δ' C gs S' => C ∈ xs ∧ gs = [] ∧ ∀ a0, S' a0 = none → fs a0 { nx := fun δ S => D.nx (δ.set i none) S, rt := D.rt, bk := fun δ S => D.bk (δ.set i none) S, ct := fun δ S => D.ct (δ.set i none) S } (δ'.set i (some (.ref a0))) S') D δ S
theorem ss_tryAs {i : Nat} {fs : Addr → DS} (hb : ∀ N' W Wd, XOkS G N' Wd W → SS G N' (tb W) (fb Wd)) (hs : ∀ N' a0 C, C ∈ xs → SS G N' (ts a0 (.ref C) none) (fs a0)) (hex : ∀ C ∈ xs, PySem.W.exmOne G.K (.ref C) c = some true) :
    SS G N (fun D σ H => tb (wAs G.K c i ts W0 D) D σ H) (sTryAs i fb xs fs) := by
  intro σ δ H S D E r h k
  have k2 := k.here r
  refine hb ⟨S, H⟩ _ _ ?_ σ δ H S D E ⟨r.sl, r.sim, .refl⟩ h k2
  intro σ' δ' C od gs H' S' r' xr ⟨hC, hg, hf⟩
  subst hg
  have ho : od = none := by
    cases od with
    | none => rfl
    | some d => exact absurd rfl xr.1
  subst ho
  refine ⟨true, hex C hC, fun _ a0 ha => ?_, fun z => by cases z⟩
  have k3 := k2.go r'.up
  exact hs ⟨S, H⟩ a0 C hC _ _ H' S' _ _ (r'.set i (.ref a0)) (hf a0 (r'.sim.free ha)) ⟨fun σ δ H2 S2 r2 u q => k3.nx _ _ H2 S2 (r2.unset i) u q, fun σ δ H2 S2 r2 u q => k3.bk _ _ H2 S2 (r2.unset i) u q, fun σ δ H2 S2 r2 u q => k3.ct _ _ H2 S2 (r2.unset i) u q, k3.rt⟩
def rIsA (K : PySem.W.Frag) (cls : Value) (d : Option Addr) (a : Addr) : List V → Hp → VK → Prop := fun xs H Q => ∃ D, cls = .ref D ∧ d = none ∧ ExcC K D ∧ rIsE K D a xs H Q
theorem call_isA {X : Cx} {a : Addr} {oe : Obj} {cls : Value} {d : Option Addr} {pn : List (Addr × Obj)} (hz : Zc cls d oe) (hf : ∃ vs, oe.data = .fields vs) : CallR (X.suite a ((a, oe) :: pn)) (.builtin "isinstance") (rIsA X.K cls d a) := by
  intro pins s σ H xs us Q I r h
  obtain ⟨D, rfl, rfl, C, h⟩ := h
  exact call_isE C hz hf pins s σ H xs us Q I r h
/-- isinstance(e, w) of the error that is handled -/
def eIsE (i : Nat) (a0 : Addr) : DE := fun δ S Q => δ[i]? = some (some (.ref a0)) ∧ Q (.bl true) S
theorem se_isE {i : Nat} {a0 C w : Addr} (hc : ExcC G.K C) (hk : PySem.W.kitOne G.K (.ref C) (.ref w) = some true) : SE G N (tCB (rIsA G.K (.ref C) none a0) (tCons (tVar i) (tCons (tC (.ref w)) tNil))) (eIsE i a0) := by
  rintro σ δ H S Q R rl ⟨h, q⟩ k
  obtain ⟨v, h1, h2⟩ := rl.sl.at_ i _ h
  rw [im_ref h2] at h1
  exact ⟨_, h1, C, rfl, rfl, hc, .ref w, .ref w, true, rfl, fun u z => z, hk, k _ _ H S (.bl true) rl .refl q⟩
end
end Sd

set_option Elab.async false
set_option linter.all false
set_option maxRecDepth 100000
set_option maxHeartbeats 4000000
namespace Ow
open PySem PySem.Spec PyProof.Rows L2
/-! ### a list's index that is a truth -/
def bI (b : Bool) : Int := if b then 1 else 0
theorem bI0 (b : Bool) : 0 ≤ bI b := by cases b <;> decide
theorem bI2 (b : Bool) : bI b < 2 := by cases b <;> decide
theorem sub_truth {M : Model} {A : Around} {E : Value → Shared → Prop} {s : Shared} {b : Bool} {Q : Option Int → Shared → Prop} (q : Q (some (bI b)) s) : wpAny M A (Builtin.List.listSubscript? (.bool b)) Q E s := by
  have hf : Builtin.List.listFitsIndex (bI b) = true := by cases b <;> decide
  have hn : ∀ α (x y : Sem α), (if (!Builtin.List.listFitsIndex (bI b)) = true then x else y) = y := by intro α x y; rw [hf]; rfl
  unfold Builtin.List.listSubscript?
  refine wpAny_bind (wpAny_specialOf (T := "bool") rfl PySem.F.slot_bool_index.lookup ?_)
  show wpAny M A (asIndex (.bool b) >>= _) Q E s
  refine wpAny_bind (wpAny_of_eq (a := bI b) (by unfold bI; rfl) ?_)
  show wpAny M A (if (!Builtin.List.listFitsIndex (bI b)) = true then _ else _) Q E s
  rw [hn]
  exact wpAny_pure q
theorem item_truth {prog : Program} {w : World} {A : Around} {E : Value → Shared → Prop} {s : Shared} {l : Addr} {its : Array Value} {b : Bool} {v : Value} {Q : Value → Shared → Prop} (hl : s.heap.IsList l its) (hv : its[(bI b).toNat]? = some v) (q : Q v s) :
    wpAny (model prog w) A (getItem (.ref l) (.bool b)) Q E s := by
  obtain ⟨o, ho, hc, ne, hd⟩ := id hl
  have hj : (bI b).toNat < its.size := by
    by_cases z : (bI b).toNat < its.size
    · exact z
    · rw [Array.getElem?_eq_none (by omega)] at hv
      cases hv
  unfold getItem
  try with_reducible refine wpAny_holding ?_
  first | refine wpAny_bind (wpAny_pure ?_) | skip
  refine wpAny_bind (wpAny_sequenceKey hl.typeIs (by decide) (wpAny_bind (wpAny_callSpecial?_slot (name := Str.ofString "__getitem__") hl.typeIs slot_list_getitem (wpAny_call_entry slot_list_getitem hl.typeIs entry_list_getitem ?_ (args_list_getitem _ _)))))
  show wpAny _ _ (Builtin.List.listSubscript? (.bool b) >>= _) _ _ s
  refine wpAny_bind (sub_truth ?_)
  obtain ⟨j, e⟩ := Int.eq_ofNat_of_zero_le (bI0 b)
  rw [e] at hv ⊢
  have hw : its[j]? = some v := hv
  show wpAny _ _ ((seqItemAt l j >>= fun r => pure (r.map (j, ·))) >>= _) _ _ s
  refine wpAny_bind (wpAny_bind (wpAny_seqItemAt ho hd (wpAny_pure ?_)))
  rw [hw]
  first | exact wpAny_bind (wpAny_pure (wpAny_pure ⟨v, rfl, wpAny_pure q⟩)) | exact wpAny_pure ⟨v, rfl, wpAny_pure q⟩
def rIxB (K : PySem.W.Frag) : R2 := fun x y H Q => ∃ p xs b v, x = .ref p ∧ y = .bl b ∧ SqL K H p xs ∧ atI xs (bI b) = some v ∧ Q v H
theorem ix_truth {X : Cx} : IxR X (rIxB X.K) := by
  intro value slice pins s σ H x y v u Q I rx ry ⟨p, xs, b, z, hx, hy, hq, he, q⟩ hs
  subst hx hy
  cases rx
  obtain rfl : u = Value.bool b := ry
  obtain ⟨its, r, pl, _⟩ := I.list hq
  obtain ⟨j, h1, h2, h3, h4, h5⟩ := atI_get he
  rw [seqIndex_of (bI0 b) h5] at h1
  obtain ⟨w, ew, rw'⟩ := r.get h2
  rw [← Option.some.inj h1] at ew
  exact subscriptTail_builtinR (x := w) pl.isList.typeIs slot_list_getitem.lookup (item_truth (Q := fun r s' => r = w ∧ EP X pins σ Q r s') pl.isList (by simpa using ew) ⟨rfl, z, H, I, rw', q⟩) hs
/-! ### a class that is called within a try -/
def tMaS (C : Addr) (sp : Sp) (E : L2.St → XK) (t : TA) : TE := fun σ H Q => t σ H fun vs H1 => ∀ x dx, H1 x = none → H1 dx = none → dx ≠ x → sp (.ref x :: vs) (upd (upd H1 dx (.own x)) x (.ins C dx [])) (fun v H2 => v = .non ∧ Q (.ref x) H2) (E σ)
section
variable {X : Cx} {k j : Nat} {x : Str} {C f : Addr} {fd : FuncData} {ps : List Str} {sp : Sp} {p pos : Pos} {e : Expr} {es : List Expr} {t : TA} {E : L2.St → XK}
theorem make_at {pins : List (Addr × Obj)} {σ : L2.St} {H : Hp} {s : Shared} {Q : VK} {us : List Value} {vs : List V} (M : Mk X.K C f) (F : FnOk X.prog X.w X.K X.mg X.base (L2.CX X.prog X.w) k f fd ps sp) (hr : Room (k + 1) X.A) (hb : Binds X.K fd ps []) (hx : PassesAt (L2.CX X.prog X.w) X σ (E σ)) (I : Inv X pins σ H s) (r : Vals vs us)
    (h : ∀ x dx, H x = none → H dx = none → dx ≠ x → sp (.ref x :: vs) (upd (upd H dx (.own x)) x (.ins C dx [])) (fun v H2 => v = .non ∧ Q (.ref x) H2) (E σ)) : wpAny (model X.prog X.w) X.A (call (.ref C) us) (EP X pins σ Q) X.xe s := by
  have hq := h (s.heap.objs.size + 1) s.heap.objs.size (I.hok.fresh (by omega)) (I.hok.fresh (by omega)) (Nat.ne_of_lt (Nat.lt_succ_self _))
  have J := Inv.made (C := C) I
  have rr : Vals (V.ref (s.heap.objs.size + 1) :: vs) (Value.ref (s.heap.objs.size + 1) :: us) := .cons rfl r
  have hl : (Value.ref (s.heap.objs.size + 1) :: us).length = ps.length := rr.length.symm.trans (F.len _ _ _ _ hq)
  have b := hb _ (Value.ref (s.heap.objs.size + 1) :: us) J.kIn (by rw [List.append_nil]; exact hl)
  rw [List.append_nil] at b
  refine wpAny_call (make_map (f := f) I.kIn M.makes M.init (beq_iff_eq.mp M.fn) (codeAny_mono (F.run _ X.stack _ _ ⟨Value.ref (s.heap.objs.size + 1) :: us, []⟩ (Value.ref (s.heap.objs.size + 1) :: us) _ _ (E σ) (hr.make C us []) (J.env0.make C us []) b rr hq) ?_))
  rintro (er | fl) s' hh
  · exact hx pins _ _ er s' J hh
  · cases fl with
    | ret u =>
      obtain ⟨v, H', I3, rv, ev, q3⟩ := J.after hh
      subst ev
      exact ⟨rv, V.ref (s.heap.objs.size + 1), H', I3, rfl, q3⟩
    | next => exact False.elim hh
    | brk => exact False.elim hh
    | cont => exact False.elim hh
theorem pe_maS (c : Ma X.prog X.w X.K X.mg X.base k x C sp) (hr : Room j X.A) (hk : k + 1 ≤ j) (hg : Gl X x) (hx : ∀ σ, PassesAt (L2.CX X.prog X.w) X σ (E σ)) (ha : PA X (e :: es) t) (hdb : (x == ("__debug__" : Str)) = false := by decide)
    (he : starEach (e :: es) X.env = (false, eval e X.env) :: starEach es X.env := by rfl) (hpl : (backTo pos (starEach es X.env)).any (·.1) = false := by rfl) : PE X (.Call (.Name x p) (e :: es) [] pos) (tMaS C sp E t) := by
  obtain ⟨f, fd, ps, M, F, hm, b⟩ := c.ex
  exact ⟨fun pins s σ H Q I h => wpAny_Call_Name_kw (ld_glob I hg hm (PySem.W.callWith_K (h₀ := X.base) I.ok.mod.kin M.kp (thn (ha.run pos pins s σ H _ I h) fun us s1 ⟨vs, H1, I1, r, q⟩ => ⟨I1.kIn, make_at M F (hr.mono hk) b (hx σ) I1 r q⟩) he hpl) hdb)⟩
theorem pe_maX {E : XK} (c : Ma X.prog X.w X.K X.mg X.base k x C sp) (hr : Room j X.A) (hk : k + 1 ≤ j) (hg : Gl X x) (hx : Passes (L2.CX X.prog X.w) X E) (ha : PA X (e :: es) t) (hdb : (x == ("__debug__" : Str)) = false := by decide)
    (he : starEach (e :: es) X.env = (false, eval e X.env) :: starEach es X.env := by rfl) (hpl : (backTo pos (starEach es X.env)).any (·.1) = false := by rfl) : PE X (.Call (.Name x p) (e :: es) [] pos) (tMa C sp E t) := by
  obtain ⟨f, fd, ps, M, F, hm, b⟩ := c.ex
  refine ⟨fun pins s σ H Q I h => (pe_make M F (hr.mono hk) hg hm b .nil hx ha hdb he hpl).run pins s σ H Q I ?_⟩
  have z : tMake C sp [] E t σ H Q = tMa C sp E t σ H Q := by unfold tMake tMa; simp only [List.append_nil]
  exact z ▸ h
end
end Ow
namespace Sd
open PySem PySem.Spec PyProof.Rows L2 GxR
def eMaS (C : Addr) (nm : List Str) (F : WF) (Wd : DV → XD) (fa : DA) : DE := fun δ S Q => fa δ S fun xs S1 => ∀ p, S1 p = none → F (.ref p :: xs) (sup S1 p (.ins C nm [])) (fun v S2 => v = .non ∧ Q (.ref p) S2) (Wd δ)
section
variable {K : PySem.W.Frag} {tabs : List Addr} {scr : Addr} {ns : List Int} {N : En} {tl : TA} {fl : DA} {F : WF} {Wd : DV → XD} {W : WX}
theorem se_maS {C : Addr} {nm : List Str} (hn : nm.length ≤ 999) (hx : XOkS ⟨K, tabs, scr, ns⟩ N Wd W) (ha : SA ⟨K, tabs, scr, ns⟩ N tl fl) : SE ⟨K, tabs, scr, ns⟩ N (Ow.tMaS C (spD K tabs F) (WE W) tl) (eMaS C nm F Wd fl) := by
  intro σ δ H S Q R rl h k
  refine ha σ δ H S _ _ rl h fun vs ds H1 S1 i1 r1 u1 q x dx hx1 hdx hne => ?_
  have e1 := Ext.lay (o := HO.own x) hdx
  have s2 := r1.sim.ext e1
  have hx2 : upd H1 dx (.own x) x = none := by rw [upd_ne (Ne.symm hne)]; exact hx1
  obtain ⟨s3, u3⟩ := s2.lay (p := x) (o := .ins C nm []) (ho := .ins C dx []) hx2 ⟨dx, [], upd_same, by rw [List.zip_nil_right]; exact .nil, Nat.zero_le _, hn⟩
  have u4 := (Up.of_ext (S := S1) e1).trans u3
  have r4 := r1.go s3 u4
  refine ⟨scr, ns, .ref x :: ds, _, _, Wd δ, .cons (.ref x) (i1.go (u4.tu r1.sim)), s3, q x (r1.sim.free hx1), fun v d H' S' i s u ⟨ed, q'⟩ => ?_, fun C od fs H' S' s' u' xr e => hx σ δ C od fs H' S' (r4.go s' u') xr e⟩
  subst ed
  exact ⟨im_non i, k (.ref x) (.ref x) H' S' (.ref x) (r4.go s u) (u1.trans (u4.trans u)) q'⟩
end
def dIxB : B2 := fun x y S Q => match y with
  | .bl b => (match x with
    | .ref a => atL S a fun ds => (match atI ds (Ow.bI b) with | some d => Q d S | none => False)
    | _ => False)
  | _ => False
theorem dIxB_r {a : Addr} {b : Bool} {S : Sto} {Q : DK} : dIxB (.ref a) (.bl b) S Q = atL S a fun ds => match atI ds (Ow.bI b) with | some d => Q d S | none => False := rfl
theorem s2_ixB {G : Gm} : S2 G (Ow.rIxB G.K) dIxB := by
  intro x y d e H S Q R hx hy s h k
  unfold dIxB at h
  split at h
  · cases im_bl hy
    split at h
    · cases im_ref hx
      obtain ⟨ds, e1, q⟩ := atL_of h
      obtain ⟨vs, hv, i1⟩ := s.ob _ _ e1
      split at q
      · rename_i c hc
        obtain ⟨v, hv2, iv⟩ := at_im i1 hc
        exact ⟨_, vs, _, v, rfl, rfl, SqL.of hv, hv2, k v c H S iv s .refl q⟩
      · exact q.elim
    · exact h.elim
  · exact h.elim
end Sd

set_option Elab.async false
set_option linter.all false
set_option maxRecDepth 100000
set_option maxHeartbeats 4000000
namespace Ow
open PySem PySem.Spec PyProof.Rows L2
/-! ### zip of a text and a tuple -/
def ItzX (K : PySem.W.Frag) (x : Str) (b : Addr) : It :=
  ⟨fun i H => i < x.cps.size ∧ ∃ ys, SqT K H b ys ∧ i < ys.length,
    fun i H v H' => ∃ T c y, v = .ref T ∧ H T = none ∧ H' = upd H T (.tup [.str ⟨#[c]⟩, y]) ∧ x.cps[i]? = some c ∧ ∀ ys, SqT K H b ys → ys[i]? = some y,
    fun i H => ∃ ys, SqT K H b ys ∧ i = min x.cps.size ys.length⟩
/-- the cells of the zip at its turn i -/
def zxSt (z TI TO i1 i2 b : Addr) (x : Str) (t : Tok) (i : Nat) (h : Heap) : Prop := IsZip h z TI TO .none ∧ IsTupOf2 h TI (.ref i1) (.ref i2) ∧ (∃ a1 a2, IsTupOf2 h TO a1 a2) ∧ h.IsStrIter i1 (strIterType x) x t i ∧ h.IsTupleIter i2 b i
theorem turn_zipX {P : Program} {w : World} {K : PySem.W.Frag} {elts : List Expr} {kk : Nat} {tpos : Pos} {z TI TO i1 i2 b : Addr} {x : Str} {t : Tok} (Sp : ZipSep2 z TI TO i1 i2 [i1] [i2, b]) (hb2 : b ≠ i2) :
    Turn P w K (.Tuple elts kk tpos) (ItzX K x b) [z, TI, TO, i1, i2] z (zxSt z TI TO i1 i2 b x t) where
  mem := by simp
  obj := fun i h ⟨hz, hTI, ⟨_, _, hTO⟩, ⟨o1, e1, _, d1⟩, ⟨o2, e2, _, d2⟩⟩ c hc => by
    simp only [List.mem_cons, List.not_mem_nil, or_false] at hc
    rcases hc with q | q | q | q | q <;> rw [q]
    · exact ⟨_, hz, fun v q => nomatch q⟩
    · exact ⟨_, hTI, fun v q => nomatch q⟩
    · exact ⟨_, hTO, fun v q => nomatch q⟩
    · exact ⟨o1, e1, fun v q => by rw [d1] at q; cases q⟩
    · exact ⟨o2, e2, fun v q => by rw [d2] at q; cases q⟩
  keep := fun i h h' ⟨hz, hTI, ⟨u, v, hTO⟩, ⟨o1, e1, r1⟩, h2⟩ k => ⟨k z (by simp) _ hz, k TI (by simp) _ hTI, ⟨u, v, k TO (by simp) _ hTO⟩, ⟨o1, k i1 (by simp) o1 e1, r1⟩, h2.at fun o q => k i2 (by simp) o q⟩
  item := by
    rintro X rfl rfl rfl hc i pins s σ H E I hf ⟨hz, hTI, hTO, h1, h2⟩ ⟨hi, ys, hq, hi2⟩
    obtain ⟨its, rv, p, _⟩ := I.tuple hq
    have hh : X.A.in1.handled = none := I.ok.hd hc
    have hs : its.toArray.size = ys.length := by rw [List.size_toArray, rv.length]
    have G := GoesN.zip2 (elts := elts) (x1 := kk) (pos := tpos) Sp (Draws.text (prog := X.prog) (w := X.w) (A := X.A.in1) hh i1 x t) (Draws.tuple (prog := X.prog) (w := X.w) (A := X.A.in1) hh i2 b hb2 its.toArray)
    refine G.goes i s _ E (by omega) ⟨hz, hTI, hTO, h1, h2, p⟩ fun v h' tk ⟨T, x0, y0, ev, hT, ⟨c, u, hcx, ex⟩, hy, hTt⟩ st hk htk => ?_
    subst ev ex
    obtain ⟨y, hy2, ry⟩ : ∃ y, ys[i]? = some y ∧ L2.RelV y y0 := by
      obtain ⟨y, hy2⟩ : ∃ y, ys[i]? = some y := ⟨ys[i], List.getElem?_eq_getElem hi2⟩
      obtain ⟨u2, hu2, ru2⟩ := rv.get hy2
      have : its[i]? = some y0 := by simpa using hy
      rw [this] at hu2
      cases hu2
      exact ⟨y, hy2, ru2⟩
    obtain ⟨oT, eT, cT, nT, dT⟩ := id hTt
    have new : ObjOk X.prog X.w (upd H T (.tup [.str ⟨#[c]⟩, y])) h' T (.tup [.str ⟨#[c]⟩, y]) := ⟨by show 2 ≤ sizeLine; decide, [.str ⟨#[c]⟩ u, y0], .cons ⟨u, rfl⟩ (.cons ry .nil), hTt⟩
    have I1 : Inv X pins σ (upd H T (.tup [.str ⟨#[c]⟩, y])) { s with heap := h', toks := tk } :=
      I.turnedNew (t' := tk) (ch := [z, TI, TO, i1, i2]) (fun a o hb q => hk a o (fun m => hb (by simp only [List.mem_cons, List.not_mem_nil, or_false] at m ⊢; rcases m with m | m | m | m <;> simp [m])) q) hf hT new
    refine ⟨.ref T, _, I1, rfl, ⟨T, c, y, rfl, I.hok.fresh hT, rfl, hcx, fun l hl => by rw [I.tuple_inj hl hq]; exact hy2⟩, ⟨st.1, st.2.1, st.2.2.1, st.2.2.2.1, st.2.2.2.2.1⟩, fun a ha => ?_⟩
    obtain ⟨o1, e1, _⟩ := h1
    obtain ⟨o2, e2, _⟩ := h2
    obtain ⟨_, _, hTO'⟩ := hTO
    have hlt : a < s.heap.objs.size := by
      have ha' := ha
      simp only [List.mem_cons, List.not_mem_nil, or_false] at ha'
      rcases ha' with q | q | q | q | q <;> rw [q]
      · exact Heap.lt_size hz
      · exact Heap.lt_size hTI
      · exact Heap.lt_size hTO'
      · exact Heap.lt_size e1
      · exact Heap.lt_size e2
    rw [upd_ne (Nat.ne_of_lt (Nat.lt_of_lt_of_le hlt hT))]
    exact (hf a ha).1
  done := by
    rintro X rfl rfl rfl hc i pins s σ H E I hf ⟨hz, hTI, hTO, h1, h2⟩ ⟨ys, hq, hi⟩
    obtain ⟨its, rv, p, _⟩ := I.tuple hq
    have hh : X.A.in1.handled = none := I.ok.hd hc
    have hs : its.toArray.size = ys.length := by rw [List.size_toArray, rv.length]
    have G := GoesN.zip2 (elts := elts) (x1 := kk) (pos := tpos) Sp (Draws.text (prog := X.prog) (w := X.w) (A := X.A.in1) hh i1 x t) (Draws.tuple (prog := X.prog) (w := X.w) (A := X.A.in1) hh i2 b hb2 its.toArray)
    have hi : i = min x.cps.size its.toArray.size := by omega
    rw [hi] at h1 h2
    exact G.stops s _ E ⟨hz, hTI, hTO, h1, h2, p⟩ fun h' tk hk htk => I.turnedL (t' := tk) (ch := [z, TI, TO, i1, i2]) (fun a o hb q => hk a o (fun m => hb (by simp only [List.mem_cons, List.not_mem_nil, or_false] at m ⊢; rcases m with m | m | m | m <;> simp [m])) q) hf
  self := fun A i s Q E st h => wpAny_pyIter_zip st.1 h
def iZipX (K : PySem.W.Frag) (ta : TA) : TI := fun σ H R => ta σ H fun vs H1 => ∃ x b ys, vs = [.str x, .ref b] ∧ SqT K H1 b ys ∧ R (ItzX K x b) H1
theorem pi_zipX {X : Cx} {e e2 : Expr} {ta : TA} {p pos tpos : Pos} {elts : List Expr} {kk : Nat} (hg : Gl X "zip") (hm : X.mg "zip" = none) (ha : PA X [e, e2] ta) (hs : starEach [e, e2] X.env = (false, eval e X.env) :: starEach [e2] X.env := by rfl) (hpl : (backTo pos (starEach [e2] X.env)).any (·.1) = false := by rfl) :
    PI X (.Tuple elts kk tpos) (.Call (.Name "zip" p) [e, e2] [] pos) (iZipX X.K ta) := by
  refine ⟨fun pins s σ H R I h => Call_ (ld_blt I hg hm PyProof.Rows.boot_zip (PyProof.Rows.callWith_type1 (thn (ha.run pos pins s σ H _ I h) fun us s1 ⟨vs, H1, I1, r1, x, b, ys, ex, hq, q⟩ => ?_) hs hpl))⟩
  subst ex
  cases r1 with
  | cons r rr =>
    cases rr with
    | cons r' rr =>
      cases rr
      obtain ⟨t, rfl⟩ := r
      cases r'
      obtain ⟨its, rv, p1, _⟩ := I1.tuple hq
      obtain ⟨ob, eb, _⟩ := id p1
      have hlt := Heap.lt_size eb
      refine zip_begins2 (begins_text x t) (begins_tuple b its.toArray) trivial p1 fun h' hz hTI hTO h1 h2 hsz hk => wpAny_pyIter_zip hz ?_
      have I2 : Inv X pins σ H1 { s1 with heap := h' } := I1.kept (t' := s1.toks) hk
      refine ⟨s1.heap.objs.size + 4, [s1.heap.objs.size + 4, s1.heap.objs.size + 2, s1.heap.objs.size + 3, s1.heap.objs.size, s1.heap.objs.size + 1], _, ItzX X.K x b, H1, rfl, I2, turn_zipX (x := x) (t := t) (zip_sep2 (fp1 := []) (fp2 := [b]) (by simp) (by simpa using hlt)) (Nat.ne_of_lt (Nat.lt_succ_of_lt hlt)), ⟨hz, hTI, ⟨_, _, hTO⟩, ⟨_, h1, rfl, rfl⟩, ⟨_, h2, rfl, rfl⟩⟩, fun c hcm => ?_, q⟩
      have hle : s1.heap.objs.size ≤ c := by
        simp only [List.mem_cons, List.not_mem_nil, or_false] at hcm
        rcases hcm with m | m | m | m | m <;> rw [m] <;> first | exact Nat.le_refl _ | exact Nat.le_add_right _ _
      exact I1.fpOk hle (I1.hok.fresh hle)
end Ow
namespace Sd
open PySem PySem.Spec PyProof.Rows L2 GxR
def zipX (z : Str) (ds : List D) : List D := List.zipWith (fun a b => D.tup [a, b]) (signs z) ds
def iZX (fa : DA) : DI := fun δ S Q => fa δ S fun xs S1 => match xs with | [.str z, .tup ds] => Q ⟨zipX z ds, fun _ => True⟩ S1 | _ => False
section
variable {G : Gm} {N : En}
theorem jok_zipX {z : Str} {b : Addr} {ys : List V} {ds : List D} {S : Sto} {H : Hp} (s : Sim G S H) (o : okS z) (e1 : H b = some (.tup ys)) (i1 : ImAll G H ys ds) : JOk G (Ow.ItzX G.K z b) ⟨zipX z ds, fun _ => True⟩ S H := by
  intro S2 H2 s2 u2 _ i hi
  have hl := i1.length
  have t := u2.tu s
  have e2 : SqT G.K H2 b ys := SqT.of (t _ _ e1)
  have hz : (zipX z ds).length = min z.cps.size ds.length := by simp [zipX, signs]
  have hsz : z.cps.size = z.cps.toList.length := by simp
  simp only [hz] at hi ⊢
  refine ⟨fun y => ⟨by omega, ys, e2, by omega⟩, fun y => ⟨ys, e2, by rw [hl]; exact y⟩, fun x H' y w => ?_⟩
  obtain ⟨T, c, v, rfl, hT, rfl, hc, hv⟩ := w
  obtain ⟨d, hd, id⟩ := i1.get (hv ys e2)
  have hc' : z.cps.toList[i]? = some c := by simpa using hc
  have im1 : ImAll G H2 [.str ⟨#[c]⟩, v] [.str ⟨#[c]⟩, d] := .cons (.str _ (okS_sign o (List.mem_of_getElem? hc'))) (.cons (id.go t) .nil)
  obtain ⟨a1, a2, a3⟩ := new_tup s2 hT im1
  refine ⟨.tup [.str ⟨#[c]⟩, d], ?_, a1, a2, a3, Ext.lay hT⟩
  have hs : (signs z)[i]? = some (.str ⟨#[c]⟩) := by simp [signs, hc']
  simp only [zipX, List.getElem?_zipWith, hs, hd]
theorem si_zipX {tl : TA} {fl : DA} (ha : SA G N tl fl) : SI G N (Ow.iZipX G.K tl) (iZX fl) := by
  intro σ δ H S Q R r h k
  refine ha σ δ H S _ _ r h fun vs ds H1 S1 i1 r1 u1 q1 => ?_
  split at q1
  · rename_i z es
    match i1 with
    | .cons ix (.cons iy .nil) =>
      obtain ⟨rfl, o⟩ := im_str ix
      obtain ⟨b, ys, rfl, e1, j1⟩ := im_tup iy
      exact ⟨z, b, ys, rfl, SqT.of e1, k _ _ H1 S1 (jok_zipX r1.sim o e1 j1) r1 u1 q1⟩
  · exact q1.elim
end
end Sd
namespace Sd
open PySem PySem.Spec PyProof.Rows L2 GxR
/-- a written text, split at another -/
def eSplit (ps : List Str) : DE := fun _ S Q => ∀ p, S p = none → Q (.ref p) (sup S p (.lst (ps.map D.str)))
theorem se_split {G : Gm} {N : En} {a b : Str} {ps : List Str} (h : Txt.split a b = ps) (hb : (b.length == 0) = false) (ha : a.length ≤ 1000000) (ho : (ps.all fun x => decide (x.length ≤ 1000000) && PyData.strOk x) = true) :
    SE G N (tM1 (fun x xs H Q => ∃ a b, x = .str a ∧ xs = [.str b] ∧ (b.length == 0) = false ∧ a.length + 2 ≤ sizeLine ∧ rNewStrs (Txt.split a b) H Q) (tC (.str a)) (tC (.str b))) (eSplit ps) := by
  intro σ δ H S Q R rl q k
  refine ⟨⟨a, rfl⟩, a, b, rfl, rfl, hb, Nat.le_trans (Nat.add_le_add_right ha 2) (by decide), fun p hp => ?_⟩
  rw [h]
  have im : ∀ l : List Str, (l.all fun x => decide (x.length ≤ 1000000) && PyData.strOk x) = true → ImAll G H (l.map V.str) (l.map D.str) := by
    intro l
    induction l with
    | nil => intro _; exact .nil
    | cons x l ih =>
      intro hl
      rw [List.all_cons, Bool.and_eq_true, Bool.and_eq_true] at hl
      exact .cons (.str x ⟨of_decide_eq_true hl.1.1, hl.1.2⟩) (ih hl.2)
  obtain ⟨a1, a2, a3⟩ := new_lst rl.sim hp (im ps ho)
  exact k _ _ _ _ (.ref p) (rl.go a2 a3) a3 (q p a1)
end Sd

set_option Elab.async false
set_option linter.all false
set_option maxRecDepth 100000
set_option maxHeartbeats 4000000
namespace Sd
open PySem PySem.Spec PyProof.Rows L2 GxR
/-! ### cuts -/
theorem cut_m1 {x : D} {xs : List D} : cutD (x :: xs) none (some (-1)) = (x :: xs).take xs.length := by
  unfold cutD HT.sIx
  simp only [show ((-1 : Int) < 0) by decide, if_true, List.length_cons, List.drop_zero, Nat.sub_zero]
  congr 1
  omega
theorem cut_repl {xs : List D} {k : Nat} {v : D} (h : k < xs.length) : cutD xs none (some (k : Int)) ++ [v] ++ cutD xs (some ((k : Int) + 1)) none = xs.set k v := by
  rw [show ((k : Nat) : Int) + 1 = ((k + 1 : Nat) : Int) by omega, cut_take, cut_drop, List.set_eq_take_append_cons_drop, if_pos h]
  simp
theorem cut_len1 {xs : List D} {k : Nat} : (cutD xs none (some (k : Int))).length ≤ xs.length := by
  rw [cut_take, List.length_take]
  omega
theorem cut_len2 {xs : List D} {k : Nat} : (cutD xs (some ((k : Int) + 1)) none).length ≤ xs.length := by
  rw [show ((k : Nat) : Int) + 1 = ((k + 1 : Nat) : Int) by omega, cut_drop, List.length_drop]
  omega
/-- a tuple of data times a number, folded -/
theorem dMul_t {xs : List D} {k : Int} {S : Sto} {Q : DK} : dMul (.tup xs) (.int k) S Q = (xs ≠ [] ∧ -(2 ^ 62) ≤ k ∧ k ≤ 4000 ∧ xs.length ≤ 200 ∧ Q (.tup (List.replicate k.toNat xs).flatten) S) := rfl
theorem rep1 {x : D} {n : Nat} : (List.replicate n [x]).flatten = List.replicate n x := by
  induction n with
  | zero => rfl
  | succ n ih => rw [List.replicate_succ, List.flatten_cons, ih]; rfl
theorem seq_go {t u : DS} {D : DN} {δ : DV} {S : Sto} (h : t { D with nx := NX u D } δ S) : sSeq t u D δ S := h
theorem asg_go {e : DE} {g : DG} {D : DN} {δ : DV} {S : Sto} (h : e δ S fun x S1 => g x δ S1 D.nx) : sAsg e g D δ S := h
/-! ### what an expression gives, the store grows -/
def Gv (e : DE) (δ : DV) (S : Sto) (P : D → Prop) : Prop := ∀ S1, Se S S1 → ∀ R : DK, (∀ d S2, Se S S2 → P d → R d S2) → e δ S1 R
def GvA (a : DA) (δ : DV) (S : Sto) (P : List D → Prop) : Prop := ∀ S1, Se S S1 → ∀ R : List D → Sto → Prop, (∀ ds S2, Se S S2 → P ds → R ds S2) → a δ S1 R
section
variable {e : DE} {al : DA} {δ : DV} {S : Sto} {P : D → Prop} {Ps : List D → Prop}
theorem gv_nil : GvA aNil δ S (· = []) := fun S1 h R k => k [] S1 h rfl
theorem gv_cons (h : Gv e δ S P) (k : GvA al δ S Ps) : GvA (aCons e al) δ S fun l => ∃ d ds, l = d :: ds ∧ P d ∧ Ps ds := fun S1 h1 R q =>
  h S1 h1 _ fun d S2 h2 hp => k S2 h2 _ fun ds S3 h3 hps => q _ S3 h3 ⟨d, ds, rfl, hp, hps⟩
theorem eLst_gv {Q : DK} (h : GvA al δ S Ps) (l : ∀ ds, Ps ds → ds.length ≤ 1000000) (q : ∀ ds S1 p, Se S S1 → S1 p = none → Ps ds → Q (.ref p) (sup S1 p (.lst ds))) : eLst al δ S Q :=
  h S .refl _ fun ds S1 h1 hp => ⟨l ds hp, fun p hn => q ds S1 p h1 hn hp⟩
/-- a written list at a place that is drawn -/
theorem gv_pick {ds : List D} {i : DE} {m : Int} (h : GvA al δ S (· = ds)) (l : ds.length ≤ 1000000) (hi : ∀ S1, Se S S1 → ∀ R : DK, (∀ j : Int, 0 ≤ j → j < m → R (.int j) S1) → i δ S1 R) (hm : m ≤ ds.length) (hp : ∀ d ∈ ds, P d) : Gv (eOp dIx (eLst al) i) δ S P := by
  intro S1 h1 R q
  refine h S1 h1 _ fun es S2 h2 he => ⟨by rw [he]; exact l, fun p hn => ?_⟩
  subst he
  have h3 := h2.new (o := .lst es) hn
  refine hi _ h3 _ fun j j0 j1 => ?_
  exact pickL j0 (by omega) fun d hd => q d _ h3 (hp d hd)
theorem ixLst_gv {Q : DK} {i : DE} {k : Int} (h : GvA al δ S Ps) (l : ∀ ds, Ps ds → ds.length ≤ 1000000) (hi : ∀ S1, Se S S1 → ∀ R : DK, R (.int k) S1 → i δ S1 R)
    (q : ∀ ds S1, Se S S1 → Ps ds → ∃ d, atI ds k = some d ∧ Q d S1) : eOp dIx (eLst al) i δ S Q := by
  refine eLst_gv h l fun ds S1 p h1 hn hp => ?_
  have h3 := h1.new (o := .lst ds) hn
  refine hi _ h3 _ ?_
  obtain ⟨d, hd, qd⟩ := q ds _ h3 hp
  show atL _ _ _
  rw [atL_eq sup_same, hd]
  exact qd
end
end Sd

set_option Elab.async false
set_option linter.all false
set_option maxRecDepth 100000
set_option maxHeartbeats 4000000
namespace Sd
open PySem PySem.Spec PyProof.Rows L2 GxR
/-! ### tuple(.. for ..) -/
def eTupG (wi : DI) (g : DG) (tt : DT) (te : DE) (vs : List Nat) : DE := fun δ S Q => wi δ S fun src S1 => lcD src.ok g tt te (wipeD δ vs) src.items [] S1 fun ys S2 => Q (.tup ys) S2
section
variable {G : Gm} {N : En}
theorem se_tupG {P : Addr} {ws vs : List Nat} {twi : TI} {wi : DI} {tg : TG} {g : DG} {tt : TT} {ft : DT} {te : TE} {fe : DE} (hP : P ∈ G.tabs) (hi : SI G N twi wi) (hg : SG G N ws tg g) (ht : ST G N tt ft) (he : SE G N te fe) (hw : ∀ i ∈ ws, i ∈ vs) :
    SE G N (Ow.tTupG P twi tg tt te vs) (eTupG wi g ft fe vs) := by
  intro σ δ H S Q R r h k
  refine hi σ δ H S _ _ r h fun J src H1 S1 jk r1 u1 q1 => ⟨r1.sim.tab P hP, fun H2 htb p hp => ?_⟩
  have ea := Ext.tabbed (r1.sim.tab P hP) htb
  have ra : Rel G N σ δ S1 H2 := ⟨r1.sl.go ea.tu, r1.sim.ext ea, r1.up.trans (Up.of_ext ea)⟩
  have ua : Up S1 S1 H1 H2 := Up.of_ext ea
  have hsc := ra.sim.scrNe hp
  have e0 := Ext.lay (o := HO.lst []) hp
  have hN : N.H p = none := by
    cases z : N.H p with
    | none => rfl
    | some o => exact absurd hp (ra.up.there p (by rw [z]; simp))
  refine ⟨fun i m H' => m = src.items.length - i ∧ i ≤ src.items.length ∧ ∃ S' acc ds, Rel G N σ δ S' H' ∧ Up S1 S' H1 H' ∧ H' p = some (.lst acc) ∧ ImAll G H' acc ds ∧ ds.length ≤ 1000000 ∧ S' p = none ∧ lcD src.ok g ft fe (wipeD δ vs) (src.items.drop i) ds S' (fun ys S2 => Q (.tup ys) S2),
    ⟨src.items.length, by simp, Nat.zero_le _, S1, [], [], ⟨ra.sl.go e0.tu, ra.sim.ext e0, ra.up.trans (Up.of_ext e0)⟩, ua.trans (Up.of_ext e0), upd_same, .nil, Nat.zero_le _, ra.sim.free hp, by simpa using q1⟩, ?_⟩
  have hH1 : H1 p = none := by
    cases z : H1 p with
    | none => rfl
    | some o => exact absurd hp (ua.there p (by rw [z]; simp))
  rintro i m H' ⟨rfl, hi', S', acc, ds, r', u', hacc, iacc, lacc, hS', q'⟩
  by_cases hlt : i < src.items.length
  · rw [List.drop_eq_getElem_cons hlt] at q'
    obtain ⟨a1, _, a3⟩ := jk S' H' r'.sim u' q'.1 i hi'
    refine .inr ⟨a1 hlt, fun H2 => ∃ S2 acc2 ds2, Rel G N σ δ S2 H2 ∧ Up S1 S2 H1 H2 ∧ H2 p = some (.lst acc2) ∧ ImAll G H2 acc2 ds2 ∧ ds2.length ≤ 1000000 ∧ S2 p = none ∧ lcD src.ok g ft fe (wipeD δ vs) (src.items.drop (i + 1)) ds2 S2 (fun ys S2 => Q (.tup ys) S2),
      fun H2 ⟨S2, acc2, ds2, x⟩ => ⟨src.items.length - (i + 1), by omega, rfl, hlt, S2, acc2, ds2, x⟩, fun x H2 y => ?_⟩
    obtain ⟨d, hd, im, s2, u2, e2⟩ := a3 x H2 hlt y
    rw [List.getElem?_eq_getElem hlt] at hd
    cases hd
    have r2 : Rel G N (L2.wipe σ vs) (wipeD δ vs) S' H2 := ⟨(r'.sl.go e2.tu).wipe vs, s2, r'.up.trans u2⟩
    refine hg x _ _ _ H2 S' _ _ r2 im q'.2 fun σ3 δ3 H3 S3 r3 u3 w3 q3 => ⟨by rw [(w3 vs hw).1, wipe_wipe], ?_⟩
    refine ht σ3 δ3 H3 S3 _ _ r3 q3 fun b H4 S4 r4 u4 q4 => ?_
    have up4 := u2.trans (u3.trans u4)
    have hp4 : H4 p = some (.lst acc) := up4.keep p _ hacc rfl hS'
    have hS4 : S4 p = none := up4.dom p hS' (by rw [hacc]; simp)
    have t4 := up4.tu r'.sim
    have rel4 : Rel G N σ δ S4 H4 := ⟨r'.sl.go t4, r4.sim, r4.up⟩
    cases b with
    | true =>
      rw [if_pos rfl]
      refine he σ3 δ3 H4 S4 _ _ r4 (q4.1 rfl) fun v e5 H5 S5 i5 r5 u5 ⟨l5, q5⟩ => ?_
      have up5 := up4.trans u5
      have hp5 : H5 p = some (.lst acc) := up5.keep p _ hacc rfl hS'
      have hS5 : S5 p = none := up5.dom p hS' (by rw [hacc]; simp)
      have t5 := up5.tu r'.sim
      refine ⟨acc, hp5, Nat.lt_of_lt_of_le (by rw [iacc.length]; exact l5) (le_line (Nat.le_refl _)), ?_⟩
      obtain ⟨s6, t6⟩ := r5.sim.side (acc' := acc ++ [v]) hp5 hS5 hsc
      exact ⟨S5, acc ++ [v], ds ++ [e5], ⟨(r'.sl.go t5).go t6, s6, r5.up.side hN⟩, (u'.trans up5).side hH1, upd_same, ((iacc.go t5).snoc i5).go t6, by rw [List.length_append, List.length_singleton]; omega, hS5, q5⟩
    | false =>
      rw [if_neg Bool.false_ne_true]
      exact ⟨S4, acc, ds, rel4, u'.trans up4, hp4, iacc.go t4, lacc, hS4, q4.2 rfl⟩
  · have e : i = src.items.length := by omega
    subst e
    rw [List.drop_length] at q'
    obtain ⟨_, a2, _⟩ := jk S' H' r'.sim u' q'.1 _ (Nat.le_refl _)
    refine .inl ⟨a2 rfl, acc, hacc, by rw [iacc.length]; exact le_line lacc, fun T hT => ?_⟩
    obtain ⟨b1, b2, b3⟩ := new_tup r'.sim hT iacc
    exact k _ (.tup ds) _ S' b1 (r'.go b2 b3) (u1.trans (u'.trans b3)) q'.2
end
end Sd
namespace Ow
open PySem PySem.Spec PyProof.Rows L2
/-! ### d.get(k, x) of a written dict -/
def tKGet2 (K : PySem.W.Frag) (d : Addr) (td ty tx : TE) : TE := fun σ H Q => td σ H fun x H1 => x = .ref d ∧ ty σ H1 fun y H2 => tx σ H2 fun z H3 => ∃ (zz : Str) (r : Option Value), y = .str zz ∧ PySem.W.nsIn K d zz = some r ∧ ((r = none ∧ Q z H3) ∨ ∃ v u, r = some u ∧ RelV v u ∧ Q v H3)
theorem pe_kget2 {X : Cx} {o e f : Expr} {apos cpos : Pos} {td ty tx : TE} {d : Addr} {tb : Sd.KTb} (kd : Sd.KdOk X.K X.w d tb) (ho : PE X o td) (he : PE X e ty) (hf : PE X f tx) (m : M2 X o "get" apos e f cpos) : PE X (.Call (.Attribute o "get" apos) [e, f] [] cpos) (tKGet2 X.K d td ty tx) := by
  obtain ⟨es, n, D⟩ := kd.ex
  refine ⟨fun pins s σ H Q I h => ?_⟩
  refine wpAny_Call_method m.base m.few m.line PySem.F.plainAttrs_dict PySem.F.slot_dict_get PySem.F.type_dict_get (thn (ho.run pins s σ H _ I h) fun u s1 ⟨x, H1, I1, rx, ex, q1⟩ => ?_)
  subst ex
  obtain rfl : u = Value.ref d := rx
  have mm := fun (s2 : Shared) (H2 : Hp) (I2 : Inv X pins σ H2 s2) => PySem.W.mapOf_K (prog := X.prog) (w := X.w) I2.kIn D.at_ D.lit
  refine ⟨(mm _ _ I1).typeIs, fun b q => by cases q; exact ⟨_, I1.kIn _ _ D.at_, rfl⟩, ?_⟩
  rw [m.trees]
  refine Calls.callWith_builtin rfl (Calls.evalArgs_plain (Calls.spliced_cons (thn (he.run pins s1 σ H1 _ I1 q1) fun iv s2 ⟨y, H2, I2, ry, q2⟩ =>
    Calls.spliced_cons (thn (hf.run pins s2 σ H2 _ I2 q2) fun fv s3 ⟨z, H3, I3, rz, zz, r, ey, en, q3⟩ => Calls.spliced_nil ?_))))
  subst ey
  obtain ⟨t, rfl⟩ := ry
  refine call_meetsIn PySem.F.slot_dict_get (mm _ _ I3).typeIs PySem.F.entry_dict_get (PySem.F.args_dict_get_3 _ _ _) (meets_dict_get_default (PySem.strKind X.prog X.w) d (PySem.strKind_is X.prog X.w zz t) D.low fv) ⟨_, mm _ _ I3, ?_⟩
  rw [PySem.W.find_K D.at_ en]
  rcases q3 with ⟨rfl, q3⟩ | ⟨v, u, rfl, rv, q3⟩
  · exact ⟨z, H3, I3.tok _, rz, q3⟩
  · exact ⟨v, H3, I3.tok _, rv, q3⟩
end Ow
namespace Sd
open PySem PySem.Spec PyProof.Rows L2 GxR
def eKGet2 (tb : KTb) (fy fx : DE) : DE := fun δ S Q => fy δ S fun y S1 => fx δ S1 fun z S2 => match y with
  | .str s => (match kLook tb s with | some o => Q (o.getD z) S2 | _ => False)
  | _ => False
theorem se_kget2 {G : Gm} {N : En} {w : World} {d : Addr} {tb : KTb} {ty tx : TE} {fy fx : DE} (k : KdOk G.K w d tb) (hy : SE G N ty fy) (hx : SE G N tx fx) : SE G N (Ow.tKGet2 G.K d (tC (.ref d)) ty tx) (eKGet2 tb fy fx) := by
  intro σ δ H S Q R rl h kk
  refine ⟨rfl, hy σ δ H S _ _ rl h fun y e H1 S1 i1 r1 u1 q1 => ?_⟩
  refine hx σ δ H1 S1 _ _ r1 q1 fun z f H2 S2 i2 r2 u2 q2 => ?_
  cases e <;> first | exact q2.elim | skip
  rename_i s
  obtain ⟨rfl, _⟩ := im_str i1
  dsimp only at q2
  split at q2
  · rename_i o hv
    obtain ⟨r, h1, h2⟩ := k.row _ (look_mem hv)
    refine ⟨s, r, rfl, h1, ?_⟩
    rcases h2 with ⟨h2, rfl⟩ | ⟨v', u, h2, rfl, h3, h4⟩
    · cases h2
      exact .inl ⟨rfl, kk z f H2 S2 i2 r2 (u1.trans u2) q2⟩
    · cases h2
      exact .inr ⟨_, u, rfl, h4, kk _ v' H2 S2 (scR_im h3) r2 (u1.trans u2) q2⟩
  · exact q2.elim
end Sd

set_option Elab.async false
set_option linter.all false
set_option maxRecDepth 100000
set_option maxHeartbeats 4000000
namespace Ow
open PySem PySem.Spec PyProof.Rows L2
/-! ### every second element from a place on: xs[k::2] of a list -/
def evry {α : Type} : List α → List α
  | [] => []
  | [x] => [x]
  | x :: _ :: xs => x :: evry xs
theorem evry_map {α β : Type} (f : α → β) : ∀ l : List α, evry (l.map f) = (evry l).map f
  | [] => rfl
  | [_] => rfl
  | _ :: _ :: xs => by simp only [List.map_cons, evry, evry_map f xs]
theorem evry_len {α : Type} : ∀ l : List α, (evry l).length = (l.length + 1) / 2
  | [] => by simp [evry]
  | [_] => by simp [evry]
  | _ :: _ :: xs => by simp only [evry, List.length_cons, evry_len xs]; omega
theorem evry_get {α : Type} : ∀ (l : List α) (i : Nat), (evry l)[i]? = l[2 * i]?
  | [], i => by simp [evry]
  | [x], 0 => rfl
  | [x], i + 1 => by simp [evry, show 2 * (i + 1) = (2 * i + 1) + 1 by omega]
  | x :: y :: xs, 0 => rfl
  | x :: y :: xs, i + 1 => by
    rw [show 2 * (i + 1) = 2 * i + 2 by omega]
    simp only [evry, List.getElem?_cons_succ]
    exact evry_get xs i
theorem vals_evry : ∀ {xs : List V} {us : List Value}, Vals xs us → Vals (evry xs) (evry us)
  | _, _, .nil => .nil
  | _, _, .cons h .nil => .cons h .nil
  | _, _, .cons h (.cons _ k) => .cons h (vals_evry k)
theorem range_evry {α : Type} : ∀ l : List α, (List.range ((l.length + 1) / 2)).filterMap (fun i => l[2 * i]?) = evry l
  | [] => by simp [evry]
  | [x] => by simp [evry, List.range_succ]
  | x :: y :: xs => by
    have e : (((x :: y :: xs).length + 1) / 2) = (xs.length + 1) / 2 + 1 := by simp only [List.length_cons]; omega
    rw [e, List.range_succ_eq_map, List.filterMap_cons]
    simp only [Nat.mul_zero, List.getElem?_cons_zero]
    rw [List.filterMap_map]
    show x :: _ = x :: _
    rw [← range_evry xs]
    congr 1
theorem pick_evry {its : List Value} {k : Nat} : slicePick its.toArray (some (k : Int)) none (some 2) = (evry (its.drop k)).toArray := by
  have hb : sliceBounds (some (k : Int)) none (some 2) its.toArray.size = (((min k its.length : Nat) : Int), (its.length : Int), 2) := by
    unfold sliceBounds
    have h1 : ¬ ((k : Int) < 0) := by omega
    simp only [Option.getD_some, show ((2 : Int) > 0) by decide, if_true, h1, if_false, List.size_toArray]
    congr 1
    omega
  unfold slicePick
  rw [hb]
  show ((sliceRange ((min k its.length : Nat) : Int) (its.length : Int) 2).filterMap _).toArray = _
  congr 1
  unfold sliceRange
  simp only [show ((2 : Int) > 0) by decide, if_true]
  by_cases hk : k < its.length
  · rw [Nat.min_eq_left (Nat.le_of_lt hk), if_pos (by omega)]
    rw [List.filterMap_map, ← range_evry (its.drop k)]
    have en : (((its.length : Int) - (k : Int) + 2 - 1) / 2).toNat = ((its.drop k).length + 1) / 2 := by
      rw [List.length_drop]
      omega
    rw [en]
    congr 1
    funext i
    show its.toArray[((k : Int) + 2 * (i : Int)).toNat]? = (its.drop k)[2 * i]?
    rw [List.getElem?_drop, show ((k : Int) + 2 * (i : Int)).toNat = k + 2 * i by omega]
    simp
  · rw [Nat.min_eq_right (by omega), if_neg (by omega), List.drop_eq_nil_of_le (by omega)]
    rfl
def tEvry (K : PySem.W.Frag) (te : TE) (tl : TO) (k : Nat) : TE := fun σ H Q => te σ H fun x H1 => tl σ H1 fun l H2 => l = some (k : Int) ∧ ∃ a xs, x = .ref a ∧ SqL K H2 a xs ∧ ∀ p, H2 p = none → Q (.ref p) (upd H2 p (.lst (evry (xs.drop k))))
theorem pe_evry {X : Cx} {e lo st : Expr} {p2 pos : Pos} {te : TE} {tl : TO} {k : Nat} (he : PE X e te) (hl : PO X (some lo) tl) (hst : PE X st (tC (.int 2))) : PE X (.Subscript e (.Slice (some lo) none (some st) p2) pos) (tEvry X.K te tl k) := by
  refine ⟨fun pins s σ H Q I h => ?_⟩
  refine Subscript_ (thn (he.run pins s σ H _ I h) fun v s1 ⟨x, H1, I1, r1, q1⟩ => ?_)
  refine wpAny_Slice (thn (hl.run pins s1 σ H1 _ I1 q1) fun vl s2 ⟨l, H2, I2, pl, el, a, xs, ex, hx, q⟩ => ?_)
  subst el ex
  rw [evalPart_none]
  refine wpAny_pure ?_
  rw [evalPart_some]
  refine thn (hst.run pins s2 σ H2 (fun y H3 => y = .int 2 ∧ H3 = H2) I2 ⟨rfl, rfl⟩) fun vs s3 ⟨y, H3, I3, r3, e3, e4⟩ => ?_
  subst e3 e4
  cases r1
  obtain ⟨t3, rfl⟩ := r3
  have I4 : Inv X pins σ H3 { s3 with heap := s3.heap.push { cls := .type "slice", data := .fields #[vl, .none, .int 2 t3] } } := I3.kept (t' := s3.toks) fun b ob z => Heap.get?_push_of_some _ z
  obtain ⟨its, r, ht, hz⟩ := I4.list hx
  have hlen := r.length
  refine tail_any (ops := [.ref a, .ref s3.heap.objs.size]) ht.isList.typeIs slot_list_getitem.lookup ?_ (by with_unfolding_all rfl)
  refine wpAny_getItem_list_slice ht.isList (Heap.IsSliceOf.new ..) pl .none (IsPart.int 2 t3) (by decide) ?_ (by rw [List.size_toArray]; omega)
  rw [pick_evry]
  refine ⟨.ref _, _, I4.laid (t' := s3.toks) (o := .lst (evry (xs.drop k))) (fun b ob z => Heap.get?_push_of_some _ z) (Nat.le_refl _) ?_, rfl, q _ (I4.hok.fresh (Nat.le_refl _))⟩
  refine ⟨?_, _, 0, vals_evry (r.drop k), Heap.get?_push_size _ rfl⟩
  rw [evry_len, List.length_drop]
  omega
end Ow
namespace Sd
open PySem PySem.Spec PyProof.Rows L2 GxR
theorem ImAll.evry {G : Gm} {H : Hp} : ∀ {vs : List V} {ds : List D}, ImAll G H vs ds → ImAll G H (Ow.evry vs) (Ow.evry ds)
  | _, _, .nil => .nil
  | _, _, .cons h .nil => .cons h .nil
  | _, _, .cons h (.cons _ k) => .cons h (ImAll.evry k)
def eEvry (k : Nat) (fa : DE) : DE := fun δ S Q => fa δ S fun x S1 => match x with
  | .ref a => atL S1 a fun ds => ∀ p, S1 p = none → Q (.ref p) (sup S1 p (.lst (Ow.evry (ds.drop k))))
  | _ => False
theorem se_evry {G : Gm} {N : En} {k : Nat} {ta : TE} {fa : DE} (ha : SE G N ta fa) : SE G N (Ow.tEvry G.K ta (tPart (tC (.int (k : Int)))) k) (eEvry k fa) := by
  intro σ δ H S Q R rl h kk
  refine ha σ δ H S _ _ rl h fun x d H1 S1 i1 r1 u1 q1 => ?_
  cases d <;> first | exact q1.elim | skip
  rename_i a
  cases im_ref i1
  obtain ⟨ds, e1, q⟩ := atL_of q1
  obtain ⟨vs, hv, iv⟩ := r1.sim.ob _ _ e1
  refine ⟨(k : Int), rfl, rfl, a, vs, rfl, SqL.of hv, fun p hp => ?_⟩
  obtain ⟨a1, a2, a3⟩ := new_lst r1.sim hp ((iv.drop k).evry)
  exact kk _ _ _ _ (.ref p) (r1.go a2 a3) (u1.trans a3) (q p a1)
end Sd
namespace Ow
open PySem PySem.Spec PyProof.Rows L2
/-! ### zip of three lists -/
def Itz3 (K : PySem.W.Frag) (l1 l2 l3 : Addr) : It :=
  ⟨fun i H => ∃ xs ys zs, SqL K H l1 xs ∧ SqL K H l2 ys ∧ SqL K H l3 zs ∧ i < xs.length ∧ i < ys.length ∧ i < zs.length,
    fun i H v H' => ∃ T a b c, v = .ref T ∧ H T = none ∧ H' = upd H T (.tup [a, b, c]) ∧ (∀ xs, SqL K H l1 xs → xs[i]? = some a) ∧ (∀ ys, SqL K H l2 ys → ys[i]? = some b) ∧ ∀ zs, SqL K H l3 zs → zs[i]? = some c,
    fun i H => ∃ xs ys zs, SqL K H l1 xs ∧ SqL K H l2 ys ∧ SqL K H l3 zs ∧ i = min (min xs.length ys.length) zs.length⟩
def z3St (z TI TO i1 i2 i3 l1 l2 l3 : Addr) (i : Nat) (h : Heap) : Prop := IsZip h z TI TO .none ∧ IsTupOf3 h TI (.ref i1) (.ref i2) (.ref i3) ∧ (∃ a1 a2 a3, IsTupOf3 h TO a1 a2 a3) ∧ h.IsListIter i1 l1 i ∧ h.IsListIter i2 l2 i ∧ h.IsListIter i3 l3 i
theorem item_of {xs : List V} {its : List Value} {i : Nat} {v : Value} (r : Vals xs its) (hi : i < xs.length) (hv : its.toArray[i]? = some v) : ∃ y, xs[i]? = some y ∧ L2.RelV y v := by
  have hy : xs[i]? = some xs[i] := List.getElem?_eq_getElem hi
  obtain ⟨u, hu, ru⟩ := r.get hy
  have e : its[i]? = some v := by simpa using hv
  rw [e] at hu
  cases hu
  exact ⟨_, hy, ru⟩
theorem turn_zip3 {P : Program} {w : World} {K : PySem.W.Frag} {elts : List Expr} {kk : Nat} {tpos : Pos} {z TI TO i1 i2 i3 l1 l2 l3 : Addr} (Sp : ZipSep3 z TI TO i1 i2 i3 [i1, l1] [i2, l2] [i3, l3]) (h11 : l1 ≠ i1) (h22 : l2 ≠ i2) (h33 : l3 ≠ i3) :
    Turn P w K (.Tuple elts kk tpos) (Itz3 K l1 l2 l3) [z, TI, TO, i1, i2, i3] z (z3St z TI TO i1 i2 i3 l1 l2 l3) where
  mem := by simp
  obj := fun i h ⟨hz, hTI, ⟨_, _, _, hTO⟩, ⟨o1, e1, _, d1⟩, ⟨o2, e2, _, d2⟩, ⟨o3, e3, _, d3⟩⟩ c hc => by
    simp only [List.mem_cons, List.not_mem_nil, or_false] at hc
    rcases hc with q | q | q | q | q | q <;> rw [q]
    · exact ⟨_, hz, fun v q => nomatch q⟩
    · exact ⟨_, hTI, fun v q => nomatch q⟩
    · exact ⟨_, hTO, fun v q => nomatch q⟩
    · exact ⟨o1, e1, fun v q => by rw [d1] at q; cases q⟩
    · exact ⟨o2, e2, fun v q => by rw [d2] at q; cases q⟩
    · exact ⟨o3, e3, fun v q => by rw [d3] at q; cases q⟩
  keep := fun i h h' ⟨hz, hTI, ⟨u, v, w', hTO⟩, h1, h2, h3⟩ k => ⟨k z (by simp) _ hz, k TI (by simp) _ hTI, ⟨u, v, w', k TO (by simp) _ hTO⟩, h1.at fun o q => k i1 (by simp) o q, h2.at fun o q => k i2 (by simp) o q, h3.at fun o q => k i3 (by simp) o q⟩
  item := by
    rintro X rfl rfl rfl hc i pins s σ H E I hf ⟨hz, hTI, hTO, h1, h2, h3⟩ ⟨xs, ys, zs, q1, q2, q3, n1, n2, n3⟩
    obtain ⟨t1, r1, p1, _⟩ := I.list q1
    obtain ⟨t2, r2, p2, _⟩ := I.list q2
    obtain ⟨t3, r3, p3, _⟩ := I.list q3
    have hh : X.A.in1.handled = none := I.ok.hd hc
    have s1 : t1.toArray.size = xs.length := by rw [List.size_toArray, r1.length]
    have s2 : t2.toArray.size = ys.length := by rw [List.size_toArray, r2.length]
    have s3 : t3.toArray.size = zs.length := by rw [List.size_toArray, r3.length]
    have G := GoesN.zip3 (elts := elts) (x1 := kk) (pos := tpos) Sp (Draws.list (prog := X.prog) (w := X.w) (A := X.A.in1) hh i1 l1 h11 t1.toArray) (Draws.list (prog := X.prog) (w := X.w) (A := X.A.in1) hh i2 l2 h22 t2.toArray) (Draws.list (prog := X.prog) (w := X.w) (A := X.A.in1) hh i3 l3 h33 t3.toArray)
    refine G.goes i s _ E (by omega) ⟨hz, hTI, hTO, ⟨h1, p1.isList⟩, ⟨h2, p2.isList⟩, ⟨h3, p3.isList⟩⟩ fun v h' tk ⟨T, x0, y0, z0, ev, hT, hx, hy, hzz, hTt⟩ st hk htk => ?_
    subst ev
    obtain ⟨x, hx2, rx⟩ := item_of r1 n1 hx
    obtain ⟨y, hy2, ry⟩ := item_of r2 n2 hy
    obtain ⟨zv, hz2, rz⟩ := item_of r3 n3 hzz
    have new : ObjOk X.prog X.w (upd H T (.tup [x, y, zv])) h' T (.tup [x, y, zv]) := ⟨by show 3 ≤ sizeLine; decide, [x0, y0, z0], .cons rx (.cons ry (.cons rz .nil)), hTt⟩
    have I1 : Inv X pins σ (upd H T (.tup [x, y, zv])) { s with heap := h', toks := tk } :=
      I.turnedNew (t' := tk) (ch := [z, TI, TO, i1, i2, i3]) (fun a o hb q => hk a o (fun m => hb (by simp only [List.mem_cons, List.not_mem_nil, or_false] at m ⊢; rcases m with m | m | m | m | m <;> simp [m])) q) hf hT new
    refine ⟨.ref T, _, I1, rfl, ⟨T, x, y, zv, rfl, I.hok.fresh hT, rfl, fun l hl => by rw [I.list_inj hl q1]; exact hx2, fun l hl => by rw [I.list_inj hl q2]; exact hy2, fun l hl => by rw [I.list_inj hl q3]; exact hz2⟩, ⟨st.1, st.2.1, st.2.2.1, st.2.2.2.1.1, st.2.2.2.2.1.1, st.2.2.2.2.2.1⟩, fun a ha => ?_⟩
    obtain ⟨o1, e1, _⟩ := h1
    obtain ⟨o2, e2, _⟩ := h2
    obtain ⟨o3, e3, _⟩ := h3
    obtain ⟨_, _, _, hTO'⟩ := hTO
    have hlt : a < s.heap.objs.size := by
      have ha' := ha
      simp only [List.mem_cons, List.not_mem_nil, or_false] at ha'
      rcases ha' with q | q | q | q | q | q <;> rw [q]
      · exact Heap.lt_size hz
      · exact Heap.lt_size hTI
      · exact Heap.lt_size hTO'
      · exact Heap.lt_size e1
      · exact Heap.lt_size e2
      · exact Heap.lt_size e3
    rw [upd_ne (Nat.ne_of_lt (Nat.lt_of_lt_of_le hlt hT))]
    exact (hf a ha).1
  done := by
    rintro X rfl rfl rfl hc i pins s σ H E I hf ⟨hz, hTI, hTO, h1, h2, h3⟩ ⟨xs, ys, zs, q1, q2, q3, hi⟩
    obtain ⟨t1, r1, p1, _⟩ := I.list q1
    obtain ⟨t2, r2, p2, _⟩ := I.list q2
    obtain ⟨t3, r3, p3, _⟩ := I.list q3
    have hh : X.A.in1.handled = none := I.ok.hd hc
    have s1 : t1.toArray.size = xs.length := by rw [List.size_toArray, r1.length]
    have s2 : t2.toArray.size = ys.length := by rw [List.size_toArray, r2.length]
    have s3 : t3.toArray.size = zs.length := by rw [List.size_toArray, r3.length]
    have G := GoesN.zip3 (elts := elts) (x1 := kk) (pos := tpos) Sp (Draws.list (prog := X.prog) (w := X.w) (A := X.A.in1) hh i1 l1 h11 t1.toArray) (Draws.list (prog := X.prog) (w := X.w) (A := X.A.in1) hh i2 l2 h22 t2.toArray) (Draws.list (prog := X.prog) (w := X.w) (A := X.A.in1) hh i3 l3 h33 t3.toArray)
    have hi : i = min (min t1.toArray.size t2.toArray.size) t3.toArray.size := by omega
    rw [hi] at h1 h2 h3
    exact G.stops s _ E ⟨hz, hTI, hTO, ⟨h1, p1.isList⟩, ⟨h2, p2.isList⟩, ⟨h3, p3.isList⟩⟩ fun h' tk hk htk => I.turnedL (t' := tk) (ch := [z, TI, TO, i1, i2, i3]) (fun a o hb q => hk a o (fun m => hb (by simp only [List.mem_cons, List.not_mem_nil, or_false] at m ⊢; rcases m with m | m | m | m | m <;> simp [m])) q) hf
  self := fun A i s Q E st h => wpAny_pyIter_zip st.1 h
def iZip3 (K : PySem.W.Frag) (ta : TA) : TI := fun σ H R => ta σ H fun vs H1 => ∃ l1 l2 l3 xs ys zs, vs = [.ref l1, .ref l2, .ref l3] ∧ SqL K H1 l1 xs ∧ SqL K H1 l2 ys ∧ SqL K H1 l3 zs ∧ R (Itz3 K l1 l2 l3) H1
theorem pi_zip3 {X : Cx} {e e2 e3 : Expr} {ta : TA} {p pos tpos : Pos} {elts : List Expr} {kk : Nat} (hg : Gl X "zip") (hm : X.mg "zip" = none) (ha : PA X [e, e2, e3] ta) (hs : starEach [e, e2, e3] X.env = (false, eval e X.env) :: starEach [e2, e3] X.env := by rfl) (hpl : (backTo pos (starEach [e2, e3] X.env)).any (·.1) = false := by rfl) :
    PI X (.Tuple elts kk tpos) (.Call (.Name "zip" p) [e, e2, e3] [] pos) (iZip3 X.K ta) := by
  refine ⟨fun pins s σ H R I h => Call_ (ld_blt I hg hm PyProof.Rows.boot_zip (PyProof.Rows.callWith_type1 (thn (ha.run pos pins s σ H _ I h) fun us s1 ⟨vs, H1, I1, rr, l1, l2, l3, xs, ys, zs, ex, q1, q2, q3, q⟩ => ?_) hs hpl))⟩
  subst ex
  cases rr with
  | cons ra rr => cases rr with
    | cons rb rr => cases rr with
      | cons rc rr =>
    cases rr
    cases ra
    cases rb
    cases rc
    obtain ⟨t1, r1, p1, _⟩ := I1.list q1
    obtain ⟨t2, r2, p2, _⟩ := I1.list q2
    obtain ⟨t3, r3, p3, _⟩ := I1.list q3
    obtain ⟨ob1, eb1, _⟩ := id p1.isList
    obtain ⟨ob2, eb2, _⟩ := id p2.isList
    obtain ⟨ob3, eb3, _⟩ := id p3.isList
    have lt1 := Heap.lt_size eb1
    have lt2 := Heap.lt_size eb2
    have lt3 := Heap.lt_size eb3
    refine zip_begins3 (begins_list l1 t1.toArray) (begins_list l2 t2.toArray) (begins_list l3 t3.toArray) p1.isList p2.isList p3.isList fun h' hz hTI hTO h1 h2 h3 hsz hk => wpAny_pyIter_zip hz ?_
    have I2 : Inv X pins σ H1 { s1 with heap := h' } := I1.kept (t' := s1.toks) hk
    refine ⟨s1.heap.objs.size + 5, [s1.heap.objs.size + 5, s1.heap.objs.size + 3, s1.heap.objs.size + 4, s1.heap.objs.size, s1.heap.objs.size + 1, s1.heap.objs.size + 2], _, Itz3 X.K l1 l2 l3, H1, rfl, I2,
      turn_zip3 (zip_sep3 (fp1 := [l1]) (fp2 := [l2]) (fp3 := [l3]) (by simpa using lt1) (by simpa using lt2) (by simpa using lt3)) (Nat.ne_of_lt lt1) (Nat.ne_of_lt (Nat.lt_succ_of_lt lt2)) (Nat.ne_of_lt (Nat.lt_succ_of_lt (Nat.lt_succ_of_lt lt3))), ⟨hz, hTI, ⟨_, _, _, hTO⟩, ⟨_, h1, rfl, rfl⟩, ⟨_, h2, rfl, rfl⟩, ⟨_, h3, rfl, rfl⟩⟩, fun c hcm => ?_, q⟩
    have hle : s1.heap.objs.size ≤ c := by
      simp only [List.mem_cons, List.not_mem_nil, or_false] at hcm
      rcases hcm with m | m | m | m | m | m <;> rw [m] <;> first | exact Nat.le_refl _ | exact Nat.le_add_right _ _
    exact I1.fpOk hle (I1.hok.fresh hle)
end Ow
namespace Sd
open PySem PySem.Spec PyProof.Rows L2 GxR
def zip3D : List D → List D → List D → List D
  | x :: xs, y :: ys, z :: zs => .tup [x, y, z] :: zip3D xs ys zs
  | _, _, _ => []
theorem zip3D_len : ∀ {xs ys zs : List D}, (zip3D xs ys zs).length = min (min xs.length ys.length) zs.length
  | [], _, _ => by simp [zip3D]
  | _ :: _, [], _ => by simp [zip3D]
  | _ :: _, _ :: _, [] => by simp [zip3D]
  | x :: xs, y :: ys, z :: zs => by simp only [zip3D, List.length_cons, zip3D_len (xs := xs) (ys := ys) (zs := zs)]; omega
theorem zip3D_get : ∀ {xs ys zs : List D} {i : Nat} {x y z : D}, xs[i]? = some x → ys[i]? = some y → zs[i]? = some z → (zip3D xs ys zs)[i]? = some (.tup [x, y, z])
  | [], _, _, i, _, _, _, h, _, _ => by simp at h
  | _ :: _, [], _, i, _, _, _, _, h, _ => by simp at h
  | _ :: _, _ :: _, [], i, _, _, _, _, _, h => by simp at h
  | x :: xs, y :: ys, z :: zs, 0, _, _, _, h1, h2, h3 => by cases h1; cases h2; cases h3; rfl
  | x :: xs, y :: ys, z :: zs, i + 1, _, _, _, h1, h2, h3 => by
    simp only [zip3D, List.getElem?_cons_succ] at *
    exact zip3D_get h1 h2 h3
def iZip3D (fa : DA) : DI := fun δ S Q => fa δ S fun xs S1 => match xs with
  | [.ref a, .ref b, .ref c] => atL S1 a fun x => atL S1 b fun y => atL S1 c fun z => Q ⟨zip3D x y z, fun S2 => S2 a = some (.lst x) ∧ S2 b = some (.lst y) ∧ S2 c = some (.lst z)⟩ S1
  | _ => False
theorem si_zip3 {G : Gm} {N : En} {tl : TA} {fl : DA} (ha : SA G N tl fl) : SI G N (Ow.iZip3 G.K tl) (iZip3D fl) := by
  intro σ δ H S Q R r h k
  refine ha σ δ H S _ _ r h fun vs ds H1 S1 i1 r1 u1 q1 => ?_
  split at q1
  · rename_i a b c
    match i1 with
    | .cons ix (.cons iy (.cons iz .nil)) =>
      cases im_ref ix
      cases im_ref iy
      cases im_ref iz
      obtain ⟨x, e1, q1⟩ := atL_of q1
      obtain ⟨y, e2, q1⟩ := atL_of q1
      obtain ⟨z, e3, q1⟩ := atL_of q1
      obtain ⟨xs, hx, jx⟩ := r1.sim.ob _ _ e1
      obtain ⟨ys, hy, jy⟩ := r1.sim.ob _ _ e2
      obtain ⟨zs, hz, jz⟩ := r1.sim.ob _ _ e3
      refine ⟨a, b, c, xs, ys, zs, rfl, SqL.of hx, SqL.of hy, SqL.of hz, k _ _ H1 S1 ?_ r1 u1 q1⟩
      rintro S2 H2 s2 u2 ⟨o1, o2, o3⟩ i hi
      obtain ⟨xs, hx, jx⟩ := s2.ob _ _ o1
      obtain ⟨ys, hy, jy⟩ := s2.ob _ _ o2
      obtain ⟨zs, hz, jz⟩ := s2.ob _ _ o3
      have n1 := jx.length
      have n2 := jy.length
      have n3 := jz.length
      simp only [zip3D_len] at hi ⊢
      refine ⟨fun g => ⟨xs, ys, zs, SqL.of hx, SqL.of hy, SqL.of hz, by omega, by omega, by omega⟩, fun g => ⟨xs, ys, zs, SqL.of hx, SqL.of hy, SqL.of hz, by omega⟩, fun v H' g w => ?_⟩
      obtain ⟨T, va, vb, vc, rfl, hT, rfl, g1, g2, g3⟩ := w
      obtain ⟨da, hda, ia⟩ := jx.get (g1 xs (SqL.of hx))
      obtain ⟨db, hdb, ib⟩ := jy.get (g2 ys (SqL.of hy))
      obtain ⟨dc, hdc, ic⟩ := jz.get (g3 zs (SqL.of hz))
      obtain ⟨a1, a2, a3⟩ := new_tup s2 hT (.cons ia (.cons ib (.cons ic .nil)))
      exact ⟨.tup [da, db, dc], zip3D_get hda hdb hdc, a1, a2, a3, Ext.lay hT⟩
  · exact q1.elim
end Sd

set_option Elab.async false
set_option linter.all false
set_option maxRecDepth 100000
set_option maxHeartbeats 4000000
namespace Sd
open PySem PySem.Spec PyProof.Rows L2 GxR
/-! ### loops by what is made so far -/
section
variable {ok : Sto → Prop} {g : DG} {te : DE} {δ : DV}
/-- a comprehension: J by the elements that are made -/
theorem lcD_acc {J : List D → Sto → Prop} {Q : List D → Sto → Prop} {items : List D} (h : ∀ acc x, items[acc.length]? = some x → ∀ S, J acc S → ok S ∧ ∀ R : DK, (∀ y S', J (acc ++ [y]) S' → R y S') → g x δ S fun δ2 S2 => te δ2 S2 R) (hend : ∀ acc S, acc.length = items.length → J acc S → ok S)
    (q : ∀ ys S', ys.length = items.length → J ys S' → Q ys S') (hl : items.length ≤ 1000000) {S : Sto} (hJ : J [] S) : lcD ok g tYes' te δ items [] S Q := by
  have gen : ∀ (rest done acc : List D) (S : Sto), items = done ++ rest → acc.length = done.length → J acc S → lcD ok g tYes' te δ rest acc S Q := by
    intro rest
    induction rest with
    | nil =>
      intro done acc S e l hJ
      rw [List.append_nil] at e
      subst e
      exact ⟨hend acc S l hJ, q acc S l hJ⟩
    | cons x xs ih =>
      intro done acc S e l hJ
      have hx : items[acc.length]? = some x := by rw [e, l]; simp
      obtain ⟨h1, h2⟩ := h acc x hx S hJ
      refine ⟨h1, ?_⟩
      have e1 : (fun δ2 S2 => tYes' δ2 S2 fun b S3 => br b (te δ2 S3 fun y S4 => acc.length < 1000000 ∧ lcD ok g tYes' te δ xs (acc ++ [y]) S4 Q) (lcD ok g tYes' te δ xs acc S3 Q)) = fun δ2 S2 => te δ2 S2 fun y S4 => acc.length < 1000000 ∧ lcD ok g tYes' te δ xs (acc ++ [y]) S4 Q := by
        funext δ2 S2
        simp [tYes', br]
      rw [e1]
      refine h2 _ fun y S' hJ' => ⟨?_, ih (done ++ [x]) (acc ++ [y]) S' (by rw [e]; simp) (by simp [l]) hJ'⟩
      have : items.length = done.length + (xs.length + 1) := by rw [e]; simp
      omega
  exact gen items [] [] S rfl rfl hJ
/-- all(..) whose element leaves the store: p by the element -/
theorem allD_st {p : D → Bool} {S : Sto} {Q : Bool → Sto → Prop} (hok : ok S) {items : List D} (h : ∀ x ∈ items, ∀ R : DK, R (.bl (p x)) S → g x δ S fun δ2 S2 => te δ2 S2 R) (q : Q (items.all p) S) : allD ok g te δ items S Q := by
  induction items with
  | nil => exact ⟨hok, q⟩
  | cons x xs ih =>
    rw [allD]
    refine ⟨hok, h x List.mem_cons_self _ ?_⟩
    show br (p x) _ _
    rw [List.all_cons] at q
    cases hp : p x with
    | true =>
      rw [hp, Bool.true_and] at q
      exact ⟨fun _ => ih (fun y hy => h y (List.mem_cons_of_mem _ hy)) q, fun z => (by cases z)⟩
    | false =>
      rw [hp, Bool.false_and] at q
      exact ⟨fun z => (by cases z), fun _ => q⟩
end
/-- how long the list of a slot is -/
def lenAt (i : Nat) (δ : DV) (S : Sto) : Nat := match δ[i]? with
  | some (some (.ref p)) => (match S p with | some (.lst ds) => ds.length | _ => 0)
  | _ => 0
theorem lenAt_eq {i : Nat} {δ : DV} {S : Sto} {p : Addr} {ds : List D} (h : δ[i]? = some (some (.ref p))) (hs : S p = some (.lst ds)) : lenAt i δ S = ds.length := by
  unfold lenAt
  rw [h]
  dsimp only
  rw [hs]
end Sd

set_option Elab.async false
set_option linter.all false
set_option maxRecDepth 100000
set_option maxHeartbeats 4000000
namespace Sd
open PySem PySem.Spec PyProof.Rows L2 GxR
/-! ### two lists are compared -/
def dEqL : B2 := fun x y S Q => match x with
  | .ref p => match y with
    | .ref q => atL S p fun ds => atL S q fun es => dats 60 ds = true ∧ dats 60 es = true ∧ Q (.bl (PyData.eqvAll (pys ds) (pys es))) S
    | _ => False
  | _ => False
theorem dEqL_r {p q : Addr} {S : Sto} {Q : DK} : dEqL (.ref p) (.ref q) S Q = atL S p fun ds => atL S q fun es => dats 60 ds = true ∧ dats 60 es = true ∧ Q (.bl (PyData.eqvAll (pys ds) (pys es))) S := rfl
section
variable {G : Gm}
theorem s2_eqL : S2 G (Ow.rEqU G.K) dEqL := by
  intro x y d e H S Q R hx hy s h k
  unfold dEqL at h
  split at h
  · split at h
    · cases im_ref hx
      cases im_ref hy
      obtain ⟨ds, e1, h⟩ := atL_of h
      obtain ⟨es, e2, c1, c2, q⟩ := atL_of h
      obtain ⟨vs, hv, i1⟩ := s.ob _ _ e1
      obtain ⟨ws, hw, i2⟩ := s.ob _ _ e2
      obtain ⟨a1, a2, a3⟩ := dps_of 60 ds vs c1 i1
      obtain ⟨b1, b2, b3⟩ := dps_of 60 es ws c2 i2
      refine .inr ⟨_, _, .lst (SqL.of hv) a1, .lst (SqL.of hw) b1, shaped_of (by rw [PyData.canLay0]; exact a2) (by rw [PyData.depth]; omega), shaped_of (by rw [PyData.canLay0]; exact b2) (by rw [PyData.depth]; omega), ?_⟩
      exact k _ _ H S (.bl _) s .refl q
    · exact h.elim
  · exact h.elim
end
theorem pys_ints : ∀ {xs ys : List Int}, PyData.eqvAll (pys (xs.map D.int)) (pys (ys.map D.int)) = decide (xs = ys)
  | [], [] => rfl
  | [], _ :: _ => rfl
  | _ :: _, [] => rfl
  | x :: xs, y :: ys => by
    have e : PyData.eqvAll (pys ((x :: xs).map D.int)) (pys ((y :: ys).map D.int)) = (eqD (.int x) (.int y) && PyData.eqvAll (pys (xs.map D.int)) (pys (ys.map D.int))) := rfl
    rw [e, pys_ints, eqD_ii]
    by_cases h1 : x = y <;> by_cases h2 : xs = ys <;> simp [h1, h2]
theorem dats_ints {n : Nat} : ∀ {xs : List Int}, dats (n + 1) (xs.map D.int) = true
  | [] => rfl
  | x :: xs => by
    show (dat (n + 1) (.int x) && dats (n + 1) (xs.map D.int)) = true
    rw [dats_ints]; rfl
/-! ### range(i, j, -1) -/
def iR3 (a : DA) : DI := fun δ S Q => a δ S fun xs S1 => match xs with | [.int i, .int j, .int (-1)] => -(2 ^ 62) ≤ i ∧ i < 2 ^ 62 ∧ -(2 ^ 62) ≤ j ∧ j < 2 ^ 62 ∧ Q ⟨downto (i + 1 - ((i - j).toNat : Int)) (i - j).toNat, fun _ => True⟩ S1 | _ => False
section
variable {G : Gm} {N : En} {tl : TA} {fl : DA}
theorem si_r3 (ha : SA G N tl fl) : SI G N (iRng3 tl) (iR3 fl) := by
  intro σ δ H S Q R r h k
  refine ha σ δ H S _ _ r h fun vs ds H1 S1 i1 r1 u1 q1 => ?_
  split at q1
  · cases i1 with
    | cons iv i2 =>
      obtain ⟨w, z, rfl, iw, iz⟩ := ia2 i2
      cases im_int iv
      cases im_int iw
      cases im_int iz
      obtain ⟨c1, c2, c3, c4, q⟩ := q1
      exact ⟨_, _, _, _, rfl, RgC.neg c1 c2 c3 c4, k _ _ H1 S1 (jok_rev (by omega)) r1 u1 q⟩
  · exact q1.elim
end
end Sd

set_option Elab.async false
set_option linter.all false
set_option maxRecDepth 100000
set_option maxHeartbeats 4000000
namespace Sd
open PySem PySem.Spec PyProof.Rows L2 GxR
/-! ### the smaller, the greater of two numbers -/
def rMnI : List V → Hp → VK → Prop := fun xs H Q => ∃ i j, xs = [.int i, .int j] ∧ Q (.int (if j < i then j else i)) H
def rMxI : List V → Hp → VK → Prop := fun xs H Q => ∃ i j, xs = [.int i, .int j] ∧ Q (.int (if j > i then j else i)) H
def dMin (xs : List D) (S : Sto) (Q : DK) : Prop := match xs with | [.int i, .int j] => Q (.int (if j < i then j else i)) S | _ => False
def dMax (xs : List D) (S : Sto) (Q : DK) : Prop := match xs with | [.int i, .int j] => Q (.int (if j > i then j else i)) S | _ => False
section
variable {G : Gm}
theorem sl_min : SL G rMnI dMin := by
  intro xs ds H S Q R hx s h k
  unfold dMin at h
  split at h
  · obtain ⟨v, w, rfl, i, j⟩ := ia2 hx
    cases im_int i
    cases im_int j
    exact ⟨_, _, rfl, k _ _ H S (.int _) s .refl h⟩
  · exact h.elim
theorem sl_max : SL G rMxI dMax := by
  intro xs ds H S Q R hx s h k
  unfold dMax at h
  split at h
  · obtain ⟨v, w, rfl, i, j⟩ := ia2 hx
    cases im_int i
    cases im_int j
    exact ⟨_, _, rfl, k _ _ H S (.int _) s .refl h⟩
  · exact h.elim
end
end Sd

set_option Elab.async false
set_option linter.all false
set_option maxRecDepth 100000
set_option maxHeartbeats 4000000
namespace Sd
open PySem PySem.Spec PyProof.Rows L2 GxR
def top (i : Nat) : Stmt := PySem.Challenge.pw_onewatcher_k50_spans.main.body.getD i (.Pass ⟨0, 0, 0, 0⟩)
abbrev s_is_number : Stmt := (top 9)
abbrev N_is_number : List Str := ["value", "most"]
theorem sc_is_number : FnScope N_is_number ["value", "most"] (defScope s_is_number) := ⟨rfl, rfl, rfl, by decide +kernel, rfl, by decide +kernel, by decide +kernel⟩
abbrev s__is_text : Stmt := (top 10)
abbrev N__is_text : List Str := ["value", "sign"]
theorem sc__is_text : FnScope N__is_text ["value"] (defScope s__is_text) := ⟨rfl, rfl, rfl, by decide +kernel, rfl, by decide +kernel, by decide +kernel⟩
abbrev s_is_parts : Stmt := (top 11)
abbrev N_is_parts : List Str := ["value", "element"]
theorem sc_is_parts : FnScope N_is_parts ["value"] (defScope s_is_parts) := ⟨rfl, rfl, rfl, by decide +kernel, rfl, by decide +kernel, by decide +kernel⟩
abbrev s_Notary___init__ : Stmt := (inClass (top 12) 0)
abbrev N_Notary___init__ : List Str := ["self"]
theorem sc_Notary___init__ : FnScope N_Notary___init__ ["self"] (defScope s_Notary___init__) := ⟨rfl, rfl, rfl, by decide +kernel, rfl, by decide +kernel, by decide +kernel⟩
abbrev s_Notary_seal : Stmt := (inClass (top 12) 1)
abbrev N_Notary_seal : List Str := ["self", "parts"]
theorem sc_Notary_seal : FnScope N_Notary_seal ["self", "parts"] (defScope s_Notary_seal) := ⟨rfl, rfl, rfl, by decide +kernel, rfl, by decide +kernel, by decide +kernel⟩
abbrev s_Notary_find : Stmt := (inClass (top 12) 2)
abbrev N_Notary_find : List Str := ["self", "parts"]
theorem sc_Notary_find : FnScope N_Notary_find ["self", "parts"] (defScope s_Notary_find) := ⟨rfl, rfl, rfl, by decide +kernel, rfl, by decide +kernel, by decide +kernel⟩
abbrev s_Notary_parts_of : Stmt := (inClass (top 12) 3)
abbrev N_Notary_parts_of : List Str := ["self", "seal"]
theorem sc_Notary_parts_of : FnScope N_Notary_parts_of ["self", "seal"] (defScope s_Notary_parts_of) := ⟨rfl, rfl, rfl, by decide +kernel, rfl, by decide +kernel, by decide +kernel⟩
abbrev s_Notary_size : Stmt := (inClass (top 12) 4)
abbrev N_Notary_size : List Str := ["self"]
theorem sc_Notary_size : FnScope N_Notary_size ["self"] (defScope s_Notary_size) := ⟨rfl, rfl, rfl, by decide +kernel, rfl, by decide +kernel, by decide +kernel⟩
abbrev s_is_seal : Stmt := (top 17)
abbrev N_is_seal : List Str := ["value"]
theorem sc_is_seal : FnScope N_is_seal ["value"] (defScope s_is_seal) := ⟨rfl, rfl, rfl, by decide +kernel, rfl, by decide +kernel, by decide +kernel⟩
abbrev s_is_opening : Stmt := (top 18)
abbrev N_is_opening : List Str := ["value", "element"]
theorem sc_is_opening : FnScope N_is_opening ["value"] (defScope s_is_opening) := ⟨rfl, rfl, rfl, by decide +kernel, rfl, by decide +kernel, by decide +kernel⟩
abbrev s_is_join : Stmt := (top 19)
abbrev N_is_join : List Str := ["parts"]
theorem sc_is_join : FnScope N_is_join ["parts"] (defScope s_is_join) := ⟨rfl, rfl, rfl, by decide +kernel, rfl, by decide +kernel, by decide +kernel⟩
abbrev s_history_of : Stmt := (top 20)
abbrev N_history_of : List Str := ["notary", "row", "lasts", "histories", "element", "last", "left", "right"]
theorem sc_history_of : FnScope N_history_of ["notary", "row"] (defScope s_history_of) := ⟨rfl, rfl, rfl, by decide +kernel, rfl, by decide +kernel, by decide +kernel⟩
abbrev s_opening : Stmt := (top 21)
abbrev N_opening : List Str := ["notary", "history", "parts"]
theorem sc_opening : FnScope N_opening ["notary", "history"] (defScope s_opening) := ⟨rfl, rfl, rfl, by decide +kernel, rfl, by decide +kernel, by decide +kernel⟩
abbrev s_last_of : Stmt := (top 22)
abbrev N_last_of : List Str := ["notary", "history", "parts"]
theorem sc_last_of : FnScope N_last_of ["notary", "history"] (defScope s_last_of) := ⟨rfl, rfl, rfl, by decide +kernel, rfl, by decide +kernel, by decide +kernel⟩
abbrev s_is_span : Stmt := (top 26)
abbrev N_is_span : List Str := ["value", "level", "first", "before", "start", "history"]
theorem sc_is_span : FnScope N_is_span ["value"] (defScope s_is_span) := ⟨rfl, rfl, rfl, by decide +kernel, rfl, by decide +kernel, by decide +kernel⟩
abbrev s_root_span : Stmt := (top 27)
abbrev N_root_span : List Str := ["question", "history", "_", "start", "level"]
theorem sc_root_span : FnScope N_root_span ["question", "history"] (defScope s_root_span) := ⟨rfl, rfl, rfl, by decide +kernel, rfl, by decide +kernel, by decide +kernel⟩
abbrev s_split_span : Stmt := (top 28)
abbrev N_split_span : List Str := ["span", "join", "behind", "middle", "level", "first", "before", "start", "_", "left", "right", "half"]
theorem sc_split_span : FnScope N_split_span ["span", "join", "behind", "middle"] (defScope s_split_span) := ⟨rfl, rfl, rfl, by decide +kernel, rfl, by decide +kernel, by decide +kernel⟩
abbrev s_halves_of : Stmt := (top 29)
abbrev N_halves_of : List Str := ["notary", "span", "level", "_", "before", "history", "join", "middle", "behind"]
theorem sc_halves_of : FnScope N_halves_of ["notary", "span"] (defScope s_halves_of) := ⟨rfl, rfl, rfl, by decide +kernel, rfl, by decide +kernel, by decide +kernel⟩
abbrev s_are_rivals : Stmt := (top 30)
abbrev N_are_rivals : List Str := ["one", "other"]
theorem sc_are_rivals : FnScope N_are_rivals ["one", "other"] (defScope s_are_rivals) := ⟨rfl, rfl, rfl, by decide +kernel, rfl, by decide +kernel, by decide +kernel⟩
abbrev s__law_same : Stmt := (top 32)
abbrev N__law_same : List Str := ["a", "b", "k"]
theorem sc__law_same : FnScope N__law_same ["a", "b"] (defScope s__law_same) := ⟨rfl, rfl, rfl, by decide +kernel, rfl, by decide +kernel, by decide +kernel⟩
abbrev s__law_box : Stmt := (top 33)
abbrev N__law_box : List Str := ["script", "nodes"]
theorem sc__law_box : FnScope N__law_box ["script", "nodes"] (defScope s__law_box) := ⟨rfl, rfl, rfl, by decide +kernel, rfl, by decide +kernel, by decide +kernel⟩
abbrev s__law_load : Stmt := (top 34)
abbrev N__law_load : List Str := ["box", "cells", "cell", "size", "first", "second"]
theorem sc__law_load : FnScope N__law_load ["box"] (defScope s__law_load) := ⟨rfl, rfl, rfl, by decide +kernel, rfl, by decide +kernel, by decide +kernel⟩
abbrev s__law_draw : Stmt := (top 35)
abbrev N__law_draw : List Str := ["box", "many", "digit"]
theorem sc__law_draw : FnScope N__law_draw ["box", "many"] (defScope s__law_draw) := ⟨rfl, rfl, rfl, by decide +kernel, rfl, by decide +kernel, by decide +kernel⟩
abbrev s__law_wrong_span : Stmt := (top 36)
abbrev N__law_wrong_span : List Str := ["box", "span", "at", "wrong", "bad"]
theorem sc__law_wrong_span : FnScope N__law_wrong_span ["box", "span"] (defScope s__law_wrong_span) := ⟨rfl, rfl, rfl, by decide +kernel, rfl, by decide +kernel, by decide +kernel⟩
abbrev s__law_due : Stmt := (top 37)
abbrev N__law_due : List Str := ["notary", "span", "parts", "left", "behind", "half", "first"]
theorem sc__law_due : FnScope N__law_due ["notary", "span"] (defScope s__law_due) := ⟨rfl, rfl, rfl, by decide +kernel, rfl, by decide +kernel, by decide +kernel⟩
abbrev s_law : Stmt := (top 38)
abbrev N_law : List Str := ["script", "box", "notary", "level", "many", "start", "question", "history", "span", "turn", "at", "other", "parts", "size", "halves", "stranger", "k"]
theorem sc_law : FnScope N_law ["script"] (defScope s_law) := ⟨rfl, rfl, rfl, by decide +kernel, rfl, by decide +kernel, by decide +kernel⟩
def nm_Notary : List Str := ["_seals", "_parts", "_finds"]
theorem nl_Notary : nm_Notary.length ≤ 999 := by decide
theorem fx_Notary__seals : FIx nm_Notary "_seals" 0 := ⟨rfl, by decide +kernel⟩
theorem fx_Notary__parts : FIx nm_Notary "_parts" 1 := ⟨rfl, by decide +kernel⟩
theorem fx_Notary__finds : FIx nm_Notary "_finds" 2 := ⟨rfl, by decide +kernel⟩
theorem fm_Notary___init__ : ("__init__" : Str) ∉ nm_Notary := by decide +kernel
theorem fm_Notary_seal : ("seal" : Str) ∉ nm_Notary := by decide +kernel
theorem fm_Notary_find : ("find" : Str) ∉ nm_Notary := by decide +kernel
theorem fm_Notary_parts_of : ("parts_of" : Str) ∉ nm_Notary := by decide +kernel
theorem fm_Notary_size : ("size" : Str) ∉ nm_Notary := by decide +kernel
/-- the addresses of classes, errors, tables, constants -/
structure Ad where
  C_Notary : Addr
  X_BadParts : Addr
  X_BadRow : Addr
  P__is_text : Addr
  P_is_parts : Addr
  P_is_opening : Addr
  P_history_of : Addr
  c__LENGTHS : Addr
  c__SIZES : Addr
def tb__SIZES (a : Ad) : KTb := ("step", some (.int 2)) :: ("join", some (.int 4)) :: ("behind", none) :: []
def tabs (a : Ad) : List Addr := [a.P__is_text, a.P_is_parts, a.P_is_opening, a.P_history_of]
structure TX (K : PySem.W.Frag) (mg : Str → Option Value) (w : World) (a : Ad) : Prop where
  b_triv : True
  b_all : mg "all" = none
  b_bool : mg "bool" = none
  b_int : mg "int" = none
  b_isinstance : mg "isinstance" = none
  b_len : mg "len" = none
  b_list : mg "list" = none
  b_min : mg "min" = none
  b_range : mg "range" = none
  b_str : mg "str" = none
  b_tuple : mg "tuple" = none
  b_zip : mg "zip" = none
  g_MAX_PART : ∃ u, mg "MAX_PART" = some u ∧ RelV (.int 281474976710656) u
  g__MAX_ELEMENTS : ∃ u, mg "_MAX_ELEMENTS" = some u ∧ RelV (.int 16) u
  g__MAX_TEXT : ∃ u, mg "_MAX_TEXT" = some u ∧ RelV (.int 24) u
  g_MAX_LEVEL : ∃ u, mg "MAX_LEVEL" = some u ∧ RelV (.int 10) u
  g__LENGTHS : ∃ u, mg "_LENGTHS" = some u ∧ RelV (.ref a.c__LENGTHS) u
  k__LENGTHS : CtOk K a.c__LENGTHS [.int 1, .int 2, .int 4, .int 8, .int 16, .int 32, .int 64, .int 128, .int 256, .int 512, .int 1024]
  g__SIZES : ∃ u, mg "_SIZES" = some u ∧ RelV (.ref a.c__SIZES) u
  kd__SIZES : KdOk K w a.c__SIZES (tb__SIZES a)
  g__PARTS : ∃ u, mg "_PARTS" = some u ∧ RelV (.int 5) u
  g__MAX_FIRST : ∃ u, mg "_MAX_FIRST" = some u ∧ RelV (.int 1023) u
  cls_Notary : Cls K a.C_Notary
  n_Notary__finds : NoAttr K a.C_Notary "_finds"
  n_Notary__parts : NoAttr K a.C_Notary "_parts"
  n_Notary__seals : NoAttr K a.C_Notary "_seals"
  x_BadParts : PySem.W.excIn K a.X_BadParts [.type "ValueError", .type "Exception", .type "BaseException", .type "object"] "ValueError.__new__" = true
  m_BadParts : mg "BadParts" = some (.ref a.X_BadParts)
  k_BadParts : PySem.W.keepIn K (.ref a.X_BadParts) = true
  bx_BadParts : PySem.W.subIn K (.ref a.X_BadParts) (.type "BaseException") = some true
  tx_BadParts : PySem.W.typeIn K (.ref a.X_BadParts) = some (.type "type")
  x_BadRow : PySem.W.excIn K a.X_BadRow [.type "ValueError", .type "Exception", .type "BaseException", .type "object"] "ValueError.__new__" = true
  m_BadRow : mg "BadRow" = some (.ref a.X_BadRow)
  k_BadRow : PySem.W.keepIn K (.ref a.X_BadRow) = true
  bx_BadRow : PySem.W.subIn K (.ref a.X_BadRow) (.type "BaseException") = some true
  tx_BadRow : PySem.W.typeIn K (.ref a.X_BadRow) = some (.type "type")
end Sd

set_option Elab.async false
set_option linter.all false
set_option maxRecDepth 100000
set_option maxHeartbeats 4000000
namespace Ow
open PySem PySem.Spec PyProof.Rows L2 GxR
/-! ### the walk, in words of this file -/
local macro_rules | `(tactic| walk_at "nin") => `(tactic| first | exact List.not_mem_nil | assumption | (simp only [List.mem_cons, List.mem_singleton, List.not_mem_nil, or_false, not_or]; (repeat' constructor) <;> walk_at "ne"))
local macro_rules | `(tactic| walk_at "ne") => `(tactic| first | assumption | (apply Ne.symm; assumption) | (apply ne_of_none; (walk_at "hp"); assumption) | (apply Ne.symm; apply ne_of_none; (walk_at "hp"); assumption) | (apply ne_of; (walk_at "hp"); (walk_at "hp"); (intro hz; cases hz; done)))
local macro_rules | `(tactic| walk_at "hp") => `(tactic| first | assumption | (apply Fr.lst; assumption; (walk_at "hp"); (exact rfl); (walk_at "nin")))
local macro_rules | `(tactic| walk_at "sqL") => `(tactic| first | assumption | (apply SqL.of; walk_at "hp") | (apply Fr.seqL; assumption; (walk_at "nin"); (walk_at "sqL")))
local macro_rules | `(tactic| walk_at "sqT") => `(tactic| first | assumption | (apply SqT.of; walk_at "hp") | (apply Fr.seqT; assumption; walk_at "sqT"))
local macro_rules | `(tactic| walk_at "ht") => `(tactic| first | assumption | (apply Fr.tup; assumption; walk_at "ht"))
local macro_rules | `(tactic| walk_at "im") => `(tactic| first | assumption | exact Im.int _ | exact Im.str _ (by first | assumption | decide | omega) | exact Im.bl _ | exact Im.non | (apply Im.tup; (walk_at "ht"); (walk_at "ima")) | (apply Im.go; rotate_left; assumption; walk_at "im"))
local macro_rules | `(tactic| walk_at "ima") => `(tactic| first | assumption | exact ImAll.nil | (apply ImAll.cons; (walk_at "im"); (walk_at "ima")) | (apply ImAll.go; rotate_left; assumption; walk_at "ima"))
local macro_rules | `(tactic| walk_at "fr") => `(tactic| first | assumption | exact Fr.refl | (apply Fr.snoc; rotate_left; assumption; (walk_at "sub"); (walk_at "fr")))
local macro_rules | `(tactic| walk_at "sub") => `(tactic| first | exact sub_nil | exact fun _ hz => Or.inl hz | assumption | (apply sub_cons; (first | (left; assumption) | (left; simp; done) | (right; walk_at "fre")); (walk_at "sub")))
local macro_rules | `(tactic| walk_at "fre") => `(tactic| first | assumption | (apply Fr.free; assumption; walk_at "fre"))
local macro_rules | `(tactic| walk_at "len") => `(tactic| first | decide | (simp only [List.length_cons, List.length_nil]; decide) | exact Nat.le_trans (by assumption) (by decide) | exact Nat.lt_of_le_of_lt (by assumption) (by decide) | (show _ ≤ sizeLine; decide) | omega)
local macro_rules | `(tactic| walk_at "ar") => `(tactic| first | assumption | (apply cdivW_of <;> omega) | omega | decide | (constructor <;> first | omega | decide) | (left; constructor <;> first | omega | decide) | (right; constructor <;> first | omega | decide))
local macro_rules | `(tactic| walk_at "lk") => `(tactic| first | rfl | assumption)
set_option hygiene false in
local macro_rules | `(tactic| walk_at "rd1") => `(tactic| first
  | with_reducible refine rd_var rfl ?_
  | with_reducible refine rd_c ?_
  | with_reducible refine rd_op ?_
  | with_reducible refine rd_seq ?_
  | with_reducible refine rd_asg ?_
  | with_reducible refine rd_name ?_
  | with_reducible refine rd_cons ?_
  | with_reducible refine rd_nil ?_
  | with_reducible refine rd_k ?_
  | with_reducible refine rd_test ?_
  | with_reducible refine rd_tB ?_
  | with_reducible refine rd_ifS ?_
  | with_reducible refine rd_iteT ?_
  | with_reducible refine rd_iteF ?_
  | with_reducible refine rd_addI ?_
  | with_reducible refine rd_I0 ?_
  | with_reducible refine rd_leI ?_
  | with_reducible refine rd_leS ?_
  | with_reducible refine rd_ltI ?_
  | with_reducible refine rd_geI ?_
  | with_reducible refine rd_gtI ?_
  | with_reducible refine rd_eqI ?_
  | with_reducible refine rd_eqS ?_
  | with_reducible refine rd_eqB ?_
  | with_reducible refine rd_neI ?_
  | with_reducible refine rd_neS ?_
  | with_reducible refine rd_ret ?_
  | with_reducible refine rd_retN ?_
  | with_reducible refine rd_drop ?_
  | with_reducible refine rd_next ?_
  | with_reducible refine rd_ca ?_
  | with_reducible refine rd_cb ?_
  | with_reducible refine rd_me ?_
  | ((with_reducible refine' rd_me2 ?h1 ?h2 ?_); (case h1 => walk_at "hp"); (case h2 => walk_at "lk"))
  | with_reducible refine rd_ma ?_
  | with_reducible refine rd_meS ?_
  | with_reducible refine rd_caS ?_
  | with_reducible refine rd_chain ?_
  | with_reducible refine rd_andV ?_
  | with_reducible refine rd_orV ?_
  | with_reducible refine rd_notV ?_
  | with_reducible refine rd_not ?_
  | with_reducible refine rd_nof ?_
  | with_reducible refine rd_if ?_
  | with_reducible refine rd_tand ?_
  | with_reducible refine rd_tor ?_
  | with_reducible refine rd_tnot ?_
  | ((with_reducible refine' rd_isi (b := true) ?h1 ?h2 ?_); (case h1 => walk_at "im"); (case h2 => rfl))
  | ((with_reducible refine' rd_isi (b := false) ?h1 ?h2 ?_); (case h1 => walk_at "im"); (case h2 => rfl))
  | with_reducible refine rd_int ?_
  | with_reducible refine rd_fld ?_
  | ((with_reducible refine' rd_fld2 ?h1 ?h2 ?h3 ?h4 ?_); (case h1 => walk_at "hp"); (case h2 => walk_at "cls"); (case h3 => walk_at "nat"); (case h4 => walk_at "lk"))
  | with_reducible refine rd_bm ?_
  | with_reducible refine rd_bm0 ?_
  | ((with_reducible refine' rd_tyL ?h1 ?_); (case h1 => walk_at "sqL"))
  | ((with_reducible refine' rd_ixL ?h1 ?h2 ?_); (case h1 => walk_at "sqL"); (case h2 => walk_at "atI"))
  | ((with_reducible refine' rd_ixT ?h1 ?h2 ?_); (case h1 => walk_at "sqT"); (case h2 => walk_at "atI"))
  | ((with_reducible refine' rd_lenS ?h1 ?_); (case h1 => walk_at "len"))
  | ((with_reducible refine' rd_lenL ?h1 ?_); (case h1 => walk_at "sqL"))
  | ((with_reducible refine' rd_lenT ?h1 ?_); (case h1 => walk_at "sqT"))
  | ((with_reducible refine' rv_mulI ?h1 ?_); (case h1 => walk_at "ar"))
  | ((with_reducible refine' rv_mulS ?h1 ?_); (case h1 => decide))
  | ((with_reducible refine' rv_mulT ?h1 ?h2 ?_); (case h1 => walk_at "sqT"); (case h2 => (refine ⟨by simp, by decide, by decide, by simp⟩)); intro p Hn hn0 hn1 hnf)
  | with_reducible refine rd_nn ?_
  | with_reducible refine rd_for ?_
  | with_reducible refine rd_lc ?_
  | with_reducible refine rd_rng1 ?_
  | ((with_reducible refine' rd_rng1b ?h1 ?_); (case h1 => walk_at "ar"))
  | with_reducible refine rd_subI ?_
  | ((with_reducible refine' rd_I ?h1 ?_); (case h1 => walk_at "ar"))
  | with_reducible refine rd_un ?_
  | with_reducible refine rd_neg ?_
  | with_reducible refine rd_gsub ?_
  | with_reducible refine rd_tup ?_
  | with_reducible refine rd_lst ?_
  | ((with_reducible refine' rd_dT ?_); intro p Hn hn0 hn1 hnf)
  | ((with_reducible refine' rd_kMa ?_); intro p dx Hn hn0 hn2 hn1 hnf)
  | with_reducible refine rd_allG ?_
  | with_reducible refine rd_iStr ?_
  | with_reducible refine rd_iStr2 ?_
  | with_reducible refine rd_iTup ?_
  | ((with_reducible refine' rd_iTup2 ?h1 ?_); (case h1 => walk_at "sqT"))
  | ((with_reducible refine' rd_kTup ?h1 ?_); (case h1 => walk_at "len"); intro p Hn hn0 hn1 hnf)
  | ((with_reducible refine' rd_kLst ?h1 ?_); (case h1 => walk_at "len"); intro p Hn hn0 hn1 hnf)
  | ((with_reducible refine' rd_listL ?h1 ?_); (case h1 => walk_at "sqL"); intro p Hn hn0 hn1 hnf)
  | ((with_reducible refine' rd_listT ?h1 ?_); (case h1 => walk_at "sqT"); intro p Hn hn0 hn1 hnf)
  | ((with_reducible refine' rd_tupL ?h1 ?_); (case h1 => walk_at "sqL"); intro p Hn hn0 hn1 hnf)
  | ((with_reducible refine' rd_app ?h1 ?h2 ?_); (case h1 => walk_at "hp"); (case h2 => walk_at "len"); intro Hn hn1 hnf)
  | ((with_reducible refine' rd_pop0 ?h1 ?_); (case h1 => walk_at "hp"); intro Hn hn1 hnf)
  | ((with_reducible refine' rd_setL ?h1 ?h2 ?_); (case h1 => walk_at "hp"); (case h2 => walk_at "ixN"); intro Hn hn1 hnf)
  | with_reducible refine rd_sfld ?_
  | ((with_reducible refine' rd_sfld2 ?h1 ?h2 ?h3 ?h4 ?_); (case h1 => walk_at "hp"); (case h2 => walk_at "cls"); (case h3 => walk_at "nat"); (case h4 => walk_at "lf"); intro Hn hn1 hnf)
  | with_reducible refine rd_sfaug ?_
  | ((with_reducible refine' rd_sfaug2 ?h1 ?h2 ?h3 ?h4 ?_); (case h1 => walk_at "hp"); (case h2 => walk_at "cls"); (case h3 => walk_at "nat"); (case h4 => walk_at "lk"))
  | with_reducible refine rd_inadd ?_
  | ((with_reducible refine' rd_sfaug3 ?h1 ?h2 ?_); (case h1 => walk_at "hp"); (case h2 => walk_at "lf"); intro Hn hn1 hnf)
  | walk_at "sp")
local macro_rules | `(tactic| walk_at "tab") => `(tactic| first | assumption | (apply Fr.tab; assumption; walk_at "tab"))
local macro_rules | `(tactic| walk_at "lf") => `(tactic| first | decide | exact Nat.le_of_ble_eq_true (by rfl) | (simp; done))
local macro_rules | `(tactic| walk_at "atI") => `(tactic| first | rfl | assumption)
local macro_rules | `(tactic| walk_at "ixN") => `(tactic| first | rfl | assumption)
local macro_rules | `(tactic| walk_at "rd") => `(tactic| repeat (walk_at "rd1"))
set_option hygiene false in
local macro_rules | `(tactic| walk_at "ite") => `(tactic| first
  | with_reducible refine rd_ite (fun hc => ?_) (fun hc => ?_)
  | with_reducible refine rd_iteN (fun hc => ?_) (fun hc => ?_)
  | with_reducible refine rd_iteNB (fun hc => ?_) (fun hc => ?_)
  | with_reducible refine rd_iteB (fun hc => ?_) (fun hc => ?_))

local macro_rules | `(tactic| walk_at "cls") => `(tactic| assumption)
local macro_rules | `(tactic| walk_at "nat") => `(tactic| assumption)

structure TxtL (K : PySem.W.Frag) (mg : Str → Option Value) : Prop where
  b_isinstance : mg "isinstance" = none
  b_int : mg "int" = none
  b_bool : mg "bool" = none
  b_str : mg "str" = none
  b_tuple : mg "tuple" = none
  b_list : mg "list" = none
  b_len : mg "len" = none
  b_range : mg "range" = none
section
variable {P : Program} {w : World} {K : PySem.W.Frag} {mg : Str → Option Value} {base : Heap}
/-! ### the box -/
structure Bx (H : Hp) (b c : Addr) (nd : V) : Prop where
  bc : c ≠ b
  ex : ∃ (ns : List Int) (v1 v2 : Int), H b = some (.lst [.ref c, .int v1, .int v2, nd]) ∧ H c = some (.lst (ns.map V.int))
theorem Bx.go {H H' : Hp} {b c : Addr} {nd : V} {ch : List Addr} (h : Bx H b c nd) (f : Fr ch H H') (hb : b ∉ ch) (hc : c ∉ ch) : Bx H' b c nd := by
  obtain ⟨ns, v1, v2, h1, h2⟩ := h.ex
  exact ⟨h.bc, ns, v1, v2, f.lst h1 rfl hb, f.lst h2 rfl hc⟩
def spBox (K : PySem.W.Frag) : Sp := fun vs H Q _ => ∃ (s : Addr) (ns : List Int) (nd : V), vs = [.ref s, nd] ∧ SqL K H s (ns.map V.int) ∧ ∀ b c H', H b = none → H c = none → Fr [] H H' → Bx H' b c nd → Q (.ref b) H'
theorem ok_box {f : Addr} {fd : FuncData} (F : Fun K "_law_box" "_law_box" Sd.s__law_box f fd) (T : TxtL K mg) : FnOk P w K mg base (L2.CX P w) 1 f fd ["script", "nodes"] (spBox K) := by
  refine F.okX Sd.sc__law_box (fun vs H Q E h => ?_) (fun cdv A outer s H vs Q E hr h => ?_)
  · obtain ⟨s, ns, nd, rfl, _⟩ := h
    rfl
  · obtain ⟨s', ns, nd, rfl, hs, k⟩ := h
    refine ⟨_, (pss_one (ps_ret (pe_lst (pa_cons (pe_callTy listU (by rfl) T.b_list (by decide +kernel) (pa_cons (pv 0) pa_nil)) (pa_cons pe_int (pa_cons (pe_op opU_add pe_int (pe_callB lenU (by rfl) T.b_len PySem.boot_len (pa_cons (pv 0) pa_nil))) (pa_cons (pv 1) pa_nil))))))), ?_⟩
    walk_at "rd"
    rename_i c H1 c0 hc hf
    have n1 : c ≠ p := ne_of_none hc hn0
    exact k p c Hn (hf.free hn0) c0 (hf.snoc hnf sub_nil) ⟨n1, ns, _, _, hn1, hnf.lst hc rfl (by simp)⟩
def spLoad : Sp := fun vs H Q _ => ∃ b c nd, vs = [.ref b] ∧ Bx H b c nd ∧ ∀ i H', Fr [b, c] H H' → Bx H' b c nd → Q (.int i) H'
theorem ok_load {f : Addr} {fd : FuncData} (F : Fun K "_law_load" "_law_load" Sd.s__law_load f fd) (T : TxtL K mg) : FnOk P w K mg base (L2.CX P w) 1 f fd ["box"] spLoad := by
  refine F.okX Sd.sc__law_load (fun vs H Q E h => ?_) (fun cdv A outer s H vs Q E hr h => ?_)
  · obtain ⟨b, c, nd, rfl, _⟩ := h
    rfl
  · obtain ⟨b, c, nd, rfl, hB, k⟩ := h
    obtain ⟨ns, v1, v2, hb, hcc⟩ := hB.ex
    have bc := hB.bc
    refine ⟨_, (pss_cons (ps_asg (pe_ix ixU (pv 0) pe_int (fun _ _ => rfl)) (pg_name (i := 1) Sd.sc__law_load.nd rfl (by first | exact Or.inl rfl | exact Or.inr rfl))) (pss_cons (ps_if (pt_cmpR opU_gt (pe_callB lenU (by rfl) T.b_len PySem.boot_len (pa_cons (pv 1) pa_nil)) pe_int (nomark _)) (pss_cons (ps_asg (pe_callTy intU (by rfl) T.b_int (by decide +kernel) (pa_cons (pe_bm PySem.F.plainAttrs_list PySem.F.slot_list_pop PySem.F.type_list_pop mt_popAt (pv 1) (pa_cons pe_int pa_nil)) pa_nil)) (pg_name (i := 2) Sd.sc__law_load.nd rfl (by first | exact Or.inl rfl | exact Or.inr rfl))) (pss_cons (ps_asg (pe_ifExp (pt_cmpR opU_ge (pv 2) pe_int (nomark _)) (pe_op opV_mul pe_int (pv 2)) (pe_op op_sub (pe_op opV_mul (pe_un un_neg pe_int) (pv 2)) pe_int)) (pg_name (i := 3) Sd.sc__law_load.nd rfl (by first | exact Or.inl rfl | exact Or.inr rfl))) (pss_cons (ps_if (pt_cmpR opU_ge (pv 3) pe_int (nomark _)) (pss_one (ps_ret (pv 3))) pss_nil) (pss_one (ps_asg (pe_op op_mod (pe_callTy intU (by rfl) T.b_int (by decide +kernel) (pa_cons (pe_op opU_add (pe_op opU_add (pe_op opV_mul (pe_ix ixU (pv 0) pe_int (fun _ _ => rfl)) pe_int) (pe_op opV_mul (pv 3) pe_int)) pe_int) pa_nil)) pe_int) (pg_sub (pv 0) pe_int set_list)))))) pss_nil) (pss_cons (ps_asg (pe_op op_mod (pe_callTy intU (by rfl) T.b_int (by decide +kernel) (pa_cons (pe_op opU_add (pe_op opV_mul (pe_ix ixU (pv 0) pe_int (fun _ _ => rfl)) pe_int) pe_int) pa_nil)) pe_int) (pg_name (i := 4) Sd.sc__law_load.nd rfl (by first | exact Or.inl rfl | exact Or.inr rfl))) (pss_cons (ps_asg (pe_op op_mod (pe_callTy intU (by rfl) T.b_int (by decide +kernel) (pa_cons (pe_op opU_add (pe_op opV_mul (pv 4) pe_int) pe_int) pa_nil)) pe_int) (pg_name (i := 5) Sd.sc__law_load.nd rfl (by first | exact Or.inl rfl | exact Or.inr rfl))) (pss_cons (ps_asg (pe_op op_mod (pe_callTy intU (by rfl) T.b_int (by decide +kernel) (pa_cons (pe_op opU_add (pe_op opV_mul (pv 5) pe_int) pe_int) pa_nil)) pe_int) (pg_sub (pv 0) pe_int set_list)) (pss_one (ps_ret (pe_op opU_add (pe_op opU_add (pe_op opV_mul (pv 4) pe_int) (pe_op opV_mul (pv 5) pe_int)) (pe_ix ixU (pv 0) pe_int (fun _ _ => rfl)))))))))), ?_⟩
    cases ns with
    | nil =>
      walk_at "rd"
      walk_at "ite"
      · exact absurd hc (by decide)
      · walk_at "rd"
        exact k _ Hn (hnf.wide (by simp)) ⟨bc, [], _, _, hn1, hnf.lst hcc rfl (by simp [bc])⟩
    | cons n ns =>
      rw [List.map_cons] at hcc
      walk_at "rd"
      walk_at "ite"
      · walk_at "rd"
        have hb1 := hnf.lst hb rfl (by simp [Ne.symm bc])
        have f1 : Fr [b, c] H Hn := hnf.wide (by simp)
        have hc1 := hn1
        clear hn1 hnf
        walk_at "ite"
        all_goals walk_at "rd"
        all_goals walk_at "ite"
        all_goals walk_at "rd"
        all_goals first
          | exact k _ _ f1 ⟨bc, ns, _, _, hb1, hc1⟩
          | exact k _ Hn ((f1.snoc (by assumption) fun _ z => .inl (by simp at z; simp [z])).snoc hnf fun _ z => .inl (by simp at z; simp [z])) ⟨bc, ns, _, _, hn1, hnf.lst (Fr.lst (by assumption) hc1 rfl (by simp [bc])) rfl (by simp [bc])⟩
      · exact absurd (by simp) hc
theorem use_load {H : Hp} {Q : VK} {E : XK} {b c : Addr} {nd : V} (h : Bx H b c nd) (q : ∀ i H', Fr [b, c] H H' → Bx H' b c nd → Q (.int i) H') : spLoad [.ref b] H Q E := ⟨b, c, nd, rfl, h, q⟩
def spDraw : Sp := fun vs H Q _ => ∃ b c nd m, vs = [.ref b, .int m] ∧ Bx H b c nd ∧ 0 < m ∧ m < 1000000000000000000 ∧ ∀ i H', Fr [b, c] H H' → Bx H' b c nd → 0 ≤ i → i < m → Q (.int i) H'
theorem use_draw {H : Hp} {Q : VK} {E : XK} {b c : Addr} {nd : V} {m : Int} (h : Bx H b c nd) (hm : 0 < m ∧ m < 1000000000000000000) (q : ∀ i H', Fr [b, c] H H' → Bx H' b c nd → 0 ≤ i → i < m → Q (.int i) H') : spDraw [.ref b, .int m] H Q E := ⟨b, c, nd, m, rfl, h, hm.1, hm.2, q⟩
set_option hygiene false in
local macro_rules | `(tactic| walk_at "sp") => `(tactic| ((with_reducible refine' use_load ?h1 ?_); (case h1 => walk_at "bx"); intro i Hn hnf hbx))
local macro_rules | `(tactic| walk_at "bx") => `(tactic| first | assumption | (apply Bx.go; assumption; assumption; (walk_at "nin"); (walk_at "nin")))
theorem ok_draw {f : Addr} {fd : FuncData} (F : Fun K "_law_draw" "_law_draw" Sd.s__law_draw f fd) (T : TxtL K mg) (G__law_load : Ca P w K mg base 1 "_law_load" spLoad) : FnOk P w K mg base (L2.CX P w) 2 f fd ["box", "many"] spDraw := by
  refine F.okX Sd.sc__law_draw (fun vs H Q E h => ?_) (fun cdv A outer s H vs Q E hr h => ?_)
  · obtain ⟨b, c, nd, m, rfl, _⟩ := h
    rfl
  · obtain ⟨b, c, nd, m, rfl, hB, h0, h1, k⟩ := h
    obtain ⟨ns, v1, v2, hb, hcc⟩ := hB.ex
    have bc := hB.bc
    refine ⟨_, (pss_cons (ps_if (pt_cmpR opU_lt (pe_ix ixU (pv 0) pe_int (fun _ _ => rfl)) (pv 1) (nomark _)) (pss_one (ps_asg (pe_ca G__law_load hr (by first | decide | omega) (by rfl) (pa_cons (pv 0) pa_nil)) (pg_sub (pv 0) pe_int set_list))) pss_nil) (pss_cons (ps_asg (pe_op op_mod (pe_callTy intU (by rfl) T.b_int (by decide +kernel) (pa_cons (pe_ix ixU (pv 0) pe_int (fun _ _ => rfl)) pa_nil)) (pv 1)) (pg_name (i := 2) Sd.sc__law_draw.nd rfl (by first | exact Or.inl rfl | exact Or.inr rfl))) (pss_cons (ps_asg (pe_op op_fdivW (pe_ix ixU (pv 0) pe_int (fun _ _ => rfl)) (pv 1)) (pg_sub (pv 0) pe_int set_list)) (pss_one (ps_ret (pv 2)))))), ?_⟩
    walk_at "rd"
    walk_at "ite"
    · walk_at "rd"
      obtain ⟨ns2, w1, w2, hb2, hc2⟩ := hbx.ex
      clear hb hcc
      have f0 := hnf
      have g0 := Int.emod_nonneg i (show m ≠ 0 by omega)
      have g1 := Int.emod_lt_of_pos i h0
      walk_at "rd"
      rename_i H1 hf1 H2 hb3 f2
      have hc3 := hnf.lst (f2.lst hc2 rfl (by simp [bc])) rfl (by simp [bc])
      exact k _ Hn ((f0.snoc f2 fun _ z => .inl (by simp at z; simp [z])).snoc hnf fun _ z => .inl (by simp at z; simp [z])) ⟨bc, _, _, _, hn1, hc3⟩ g0 g1
    · have g0 := Int.emod_nonneg v1 (show m ≠ 0 by omega)
      have g1 := Int.emod_lt_of_pos v1 h0
      walk_at "rd"
      exact k _ Hn (hnf.wide (by simp)) ⟨bc, _, _, _, hn1, hnf.lst hcc rfl (by simp [bc])⟩ g0 g1
end
end Ow

namespace Sd
open PySem PySem.Spec PyProof.Rows L2 GxR
section
variable {P : Program} {w : World} {K : PySem.W.Frag} {mg : Str → Option Value} {base : Heap} {a : Ad}
def F__law_box (a : Ad) : WF := wBox
def F__law_load (a : Ad) : WF := wLoad
def F__law_draw (a : Ad) : WF := wDraw
theorem TX.low (T : TX K mg w a) : Ow.TxtL K mg := ⟨T.b_isinstance, T.b_int, T.b_bool, T.b_str, T.b_tuple, T.b_list, T.b_len, T.b_range⟩
theorem box_fr {G : Gm} {S : Sto} {H H' : Hp} {b c : Addr} {nd : V} (s : Sim G S H) (hb : S b = some (.box c)) (f : Ow.Fr [b, c] H H') (B : Ow.Bx H' b c nd) : Sim G S H' ∧ Up S S H H' := by
  obtain ⟨v1, v2, nd0, h1, h2, h3⟩ := s.ob _ _ hb
  obtain ⟨ns0, h4⟩ := s.ob _ _ h2
  obtain ⟨ns, w1, w2, g1, g2⟩ := B.ex
  have t : Tu H H' := f.tup
  refine ⟨⟨fun x o h => ?_, fun P hP => f.tab P (s.tab P hP), ?_⟩, ⟨fun x o h n z => ?_, fun x h _ => h, fun x z => ?_⟩⟩
  · by_cases e1 : x = b
    · subst e1
      rw [hb] at h
      cases h
      exact ⟨w1, w2, nd, g1, h2, h3⟩
    · by_cases e2 : x = c
      · subst e2
        rw [h2] at h
        cases h
        exact ⟨ns, g2⟩
      · exact (s.ob x o h).go (fun u hu n => f.keep x u hu n (by simp [e1, e2])) t fun _ z => z
  · rcases s.scr with ⟨k1, k2⟩ | k
    · have n1 : G.scr ≠ b := Ne.symm (sne hb k1)
      have n2 : G.scr ≠ c := Ne.symm (sne h2 k1)
      refine .inl ⟨k1, ?_⟩
      rcases k2 with k2 | ⟨o, k2⟩
      · exact .inl (f.keep _ _ k2 rfl (by simp [n1, n2]))
      · exact .inr ⟨o, f.keep _ _ k2 rfl (by simp [n1, n2])⟩
    · exact .inr k
  · exact f.keep x o h (by cases o <;> first | rfl | exact n) (by simp [Ne.symm (sne hb z), Ne.symm (sne h2 z)])
  · cases q : H x with
    | none => exact absurd q z
    | some o =>
      obtain ⟨o', e⟩ := f.there x o q
      rw [e]; simp
theorem bx_of {G : Gm} {S : Sto} {H : Hp} {b c : Addr} (s : Sim G S H) (hb : S b = some (.box c)) : ∃ nd, Ow.Bx H b c nd := by
  obtain ⟨v1, v2, nd, h1, h2, h3⟩ := s.ob _ _ hb
  obtain ⟨ns0, h4⟩ := s.ob _ _ h2
  exact ⟨nd, h3, ns0, v1, v2, h1, h4⟩
theorem ok__law_draw {f : Addr} {fd : FuncData} (Fm : Fun K "_law_draw" "_law_draw" s__law_draw f fd) (T : TX K mg w a) (G__law_load : Ow.Ca P w K mg base 1 "_law_load" Ow.spLoad) : FnOk P w K mg base (L2.CX P w) 2 f fd ["box", "many"] (spD K (tabs a) (F__law_draw a)) := by
  refine (Ow.ok_draw Fm T.low G__law_load).imp fun vs H Q E h => ?_
  obtain ⟨scr, ns, ds, S, Qd, Ed, i, s, hF, hq, _⟩ := h
  unfold F__law_draw wDraw at hF
  split at hF
  · obtain ⟨v, v2, rfl, i1, i2⟩ := ia2 i
    cases im_ref i1
    cases im_int i2
    obtain ⟨⟨c, hb⟩, m0, m1, k⟩ := hF
    obtain ⟨nd, B⟩ := bx_of s hb
    refine ⟨_, c, nd, _, rfl, B, m0, m1, fun j H' f B' j0 j1 => ?_⟩
    obtain ⟨s', u'⟩ := box_fr s hb f B'
    exact hq _ _ H' S (.int j) s' u' (k j j0 j1)
  · exact hF.elim
theorem ok__law_box {f : Addr} {fd : FuncData} (Fm : Fun K "_law_box" "_law_box" s__law_box f fd) (T : TX K mg w a) : FnOk P w K mg base (L2.CX P w) 1 f fd ["script", "nodes"] (spD K (tabs a) (F__law_box a)) := by
  refine (Ow.ok_box Fm T.low).imp fun vs H Q E h => ?_
  obtain ⟨scr, ns, ds, S, Qd, Ed, i, s, hF, hq, _⟩ := h
  unfold F__law_box wBox at hF
  split at hF
  · obtain ⟨v, v2, rfl, i1, i2⟩ := ia2 i
    have hs : SqL K H scr (ns.map V.int) := by
      rcases s.scr with ⟨_, k⟩ | k
      · exact .inl k
      · exact k H
    cases i1
    cases im_int i2
    refine ⟨scr, ns, _, rfl, hs, fun b c H' nb nc f B => ?_⟩
    have sb := s.free nb
    have sc := s.free nc
    have bc := B.bc
    obtain ⟨ns', w1, w2, g1, g2⟩ := B.ex
    refine hq _ _ H' _ (.ref b) ⟨fun x o h => ?_, fun P hP => f.tab P (s.tab P hP), ?_⟩ ⟨fun x o h n z => ?_, fun x h z => ?_, fun x z => ?_⟩ (hF b c sb sc bc)
    · by_cases e1 : x = b
      · subst e1
        rw [sup_same] at h
        cases h
        exact ⟨w1, w2, _, g1, by rw [sup_ne bc]; exact sup_same, bc⟩
      · rw [sup_ne e1] at h
        by_cases e2 : x = c
        · subst e2
          rw [sup_same] at h
          cases h
          exact ⟨ns', g2⟩
        · rw [sup_ne e2] at h
          refine (s.ob x o h).go (fun u hu n => f.keep x u hu n (by simp)) f.tup fun d z => ?_
          rw [sup_ne (sne z sb), sup_ne (sne z sc)]; exact z
    · rcases s.scr with ⟨k1, k2⟩ | k
      · have n1 : scr ≠ b := by rcases k2 with k2 | ⟨o, k2⟩ <;> exact ne_of_none k2 nb
        have n2 : scr ≠ c := by rcases k2 with k2 | ⟨o, k2⟩ <;> exact ne_of_none k2 nc
        refine .inl ⟨by show (sup (sup S c .cells) b (.box c)) scr = none; rw [sup_ne n1, sup_ne n2]; exact k1, ?_⟩
        rcases k2 with k2 | ⟨o, k2⟩
        · exact .inl (f.keep _ _ k2 rfl (by simp))
        · exact .inr ⟨o, f.keep _ _ k2 rfl (by simp)⟩
      · exact .inr k
    · exact f.keep x o h (by cases o <;> first | rfl | exact n) (by simp)
    · rw [sup_ne (fun y => z (by rw [y]; exact nb)), sup_ne (fun y => z (by rw [y]; exact nc))]; exact h
    · cases q : H x with
      | none => exact absurd q z
      | some o =>
        obtain ⟨o', e⟩ := f.there x o q
        rw [e]; simp
  · exact hF.elim
end
end Sd

set_option Elab.async false
set_option linter.all false
set_option maxRecDepth 100000
set_option maxHeartbeats 4000000
namespace Sd
open PySem PySem.Spec PyProof.Rows L2 GxR
section
variable {P : Program} {w : World} {K : PySem.W.Frag} {mg : Str → Option Value} {base : Heap} {a : Ad}
noncomputable def B_is_number (a : Ad) (Ed : XD) : DS :=
  (sRet (eAnd (eCB dIsi (aCons (eVar 0) (aCons (eC (.ty "int")) aNil))) (eAnd (eNot (eCB dIsi (aCons (eVar 0) (aCons (eC (.ty "bool")) aNil)))) (eChain dLe dLe (eC (.int 0)) (eVar 0) (eVar 1)))))
noncomputable def F_is_number (a : Ad) : WF := shut fun ds S Q Ed => ds.length = 2 ∧ B_is_number a Ed { nx := fun _ S' => Q .non S', rt := Q } (dstart N_is_number ds) S
theorem ok_is_number {f : Addr} {fd : FuncData} (Fm : Fun K "is_number" "is_number" s_is_number f fd) (T : TX K mg w a)  : FnOk P w K mg base (L2.CX P w) 1 f fd ["value", "most"] (spD K (tabs a) (F_is_number a)) := by
  refine def_ok (k := 0) Fm sc_is_number (fun ds S Q E h => (shut_of h).1) fun scr ns Ne Ed E cdv A outer s H hr hx => ?_
  exact ⟨_, B_is_number a Ed, (pss_one (ps_ret (pe_and (pe_callB (show CallR _ _ (rIsi K) from call_isi) (by rfl) T.b_isinstance (by decide +kernel) (pa_cons (pv 0) (pa_cons (pe_bltn (by rfl) T.b_int (by decide +kernel) (show RelV (.ty "int") _ from rfl)) pa_nil))) (pe_and (pe_not (pe_callB (show CallR _ _ (rIsi K) from call_isi) (by rfl) T.b_isinstance (by decide +kernel) (pa_cons (pv 0) (pa_cons (pe_bltn (by rfl) T.b_bool (by decide +kernel) (show RelV (.ty "bool") _ from rfl)) pa_nil)))) (pe_one (pe_chain Ow.opU_le Ow.opU_le pe_int (pv 0) (pv 1))))))), (ss_ret (se_and (se_cb sl_isi (sa_cons se_var (sa_cons se_ty sa_nil))) (se_and (se_not (se_cb sl_isi (sa_cons se_var (sa_cons se_ty sa_nil)))) (se_chain s2_le s2_le se_int se_var se_var)))), fun ds S Qd h => (shut_of h).2⟩
noncomputable def B__is_text (a : Ad) (Ed : XD) : DS :=
  (sRet (eAnd (eCB dIsi (aCons (eVar 0) (aCons (eC (.ty "str")) aNil))) (eAnd (eOp dLe (eCB dLen (aCons (eVar 0) aNil)) (eC (.int 24))) (eAll (iS (eVar 0)) (xName 1) (eChain dLe dLe (eC (.str " ")) (eVar 1) (eC (.str "~"))) [1]))))
noncomputable def F__is_text (a : Ad) : WF := shut fun ds S Q Ed => ds.length = 1 ∧ B__is_text a Ed { nx := fun _ S' => Q .non S', rt := Q } (dstart N__is_text ds) S
theorem ok__is_text {f : Addr} {fd : FuncData} (Fm : FunT K base mg "_is_text" "_is_text" s__is_text f fd a.P__is_text) (T : TX K mg w a)  : FnOk P w K mg base (L2.CX P w) 2 f fd ["value"] (spD K (tabs a) (F__is_text a)) := by
  refine def_okT (k := 1) Fm sc__is_text (fun ds S Q E h => (shut_of h).1) fun scr ns Ne Ed E cdv A outer s H TB hr hx => ?_
  have hP : a.P__is_text ∈ (⟨K, tabs a, scr, ns⟩ : Gm).tabs := by simp [tabs]
  exact ⟨_, B__is_text a Ed, (pss_one (ps_ret (pe_and (pe_callB (show CallR _ _ (rIsi K) from call_isi) (by rfl) T.b_isinstance (by decide +kernel) (pa_cons (pv 0) (pa_cons (pe_bltn (by rfl) T.b_str (by decide +kernel) (show RelV (.ty "str") _ from rfl)) pa_nil))) (pe_and (pe_cmpR Ow.opU_le (pe_callB (show CallR _ _ (Ow.rLenU K) from Ow.lenU) (by rfl) T.b_len PySem.boot_len (pa_cons (pv 0) pa_nil)) (Ow.pe_gi (by rfl) T.g__MAX_TEXT) (nomark _)) (pe_one (Ow.pe_allG (k := 0) (own := [("sign", 1)]) hr (by rfl) T.b_all (by decide +kernel) TB rfl sc__is_text.nd (blkOk_by (own := [("sign", 1)]) (N := N__is_text) (sc := defScope s__is_text) (by decide +kernel)) Ow.gxOk_by (pi_str (pv 0)) (fun _ _ _ _ _ _ _ _ hr1 => (pg_name (i := 1) sc__is_text.nd rfl (by first | exact Or.inl rfl | exact Or.inr rfl))) (fun _ _ _ _ _ _ _ _ hr1 => (pe_chain Ow.opU_le Ow.opU_le pe_str (pv 1) pe_str)) (fun _ => rfl))))))), (ss_ret (se_and (se_cb sl_isi (sa_cons se_var (sa_cons se_ty sa_nil))) (se_and (se_op s2_le (se_cb sl_len (sa_cons se_var sa_nil)) se_int) (se_all hP (si_str se_var) sg_name (se_chain s2_le s2_le (se_str (by decide +kernel)) se_var (se_str (by decide +kernel))) (by decide))))), fun ds S Qd h => (shut_of h).2⟩
noncomputable def B_is_parts (a : Ad) (Ed : XD) : DS :=
  (sSeq (sIf (tOr' (tNot' (tV (eCB dIsi (aCons (eVar 0) (aCons (eC (.ty "tuple")) aNil))))) (tNot' (tV (eChain dLe dLe (eC (.int 1)) (eCB dLen (aCons (eVar 0) aNil)) (eC (.int 16))))))
  (sRet (eC (.bl false)))
  sNext)
  (sRet (eAll (iT (eVar 0)) (xName 1) (eOr (eCa (F_is_number a) xF (aCons (eVar 1) (aCons (eC (.int 281474976710656)) aNil))) (eCa (F__is_text a) xF (aCons (eVar 1) aNil))) [1])))
noncomputable def F_is_parts (a : Ad) : WF := shut fun ds S Q Ed => ds.length = 1 ∧ B_is_parts a Ed { nx := fun _ S' => Q .non S', rt := Q } (dstart N_is_parts ds) S
theorem ok_is_parts {f : Addr} {fd : FuncData} (Fm : FunT K base mg "is_parts" "is_parts" s_is_parts f fd a.P_is_parts) (T : TX K mg w a) (G__is_text : Ow.Ca P w K mg base 2 "_is_text" (spD K (tabs a) (F__is_text a))) (G_is_number : Ow.Ca P w K mg base 1 "is_number" (spD K (tabs a) (F_is_number a))) : FnOk P w K mg base (L2.CX P w) 4 f fd ["value"] (spD K (tabs a) (F_is_parts a)) := by
  refine def_okT (k := 3) Fm sc_is_parts (fun ds S Q E h => (shut_of h).1) fun scr ns Ne Ed E cdv A outer s H TB hr hx => ?_
  have hP : a.P_is_parts ∈ (⟨K, tabs a, scr, ns⟩ : Gm).tabs := by simp [tabs]
  exact ⟨_, B_is_parts a Ed, (pss_cons (ps_if (PW.pt (pw_or (pt_not (pt_val (pe_callB (show CallR _ _ (rIsi K) from call_isi) (by rfl) T.b_isinstance (by decide +kernel) (pa_cons (pv 0) (pa_cons (pe_bltn (by rfl) T.b_tuple (by decide +kernel) (show RelV (.ty "tuple") _ from rfl)) pa_nil))))) (pw_or1 (pt_not (pt_chain Ow.opU_le Ow.opU_le pe_int (pe_callB (show CallR _ _ (Ow.rLenU K) from Ow.lenU) (by rfl) T.b_len PySem.boot_len (pa_cons (pv 0) pa_nil)) (Ow.pe_gi (by rfl) T.g__MAX_ELEMENTS)))))) (pss_one (ps_ret pe_bl)) pss_nil) (pss_one (ps_ret (Ow.pe_allG (k := 2) (own := [("element", 1)]) hr (by rfl) T.b_all (by decide +kernel) TB rfl sc_is_parts.nd (blkOk_by (own := [("element", 1)]) (N := N_is_parts) (sc := defScope s_is_parts) (by decide +kernel)) Ow.gxOk_by (pi_tup (pv 0)) (fun _ _ _ _ _ _ _ _ hr1 => (pg_name (i := 1) sc_is_parts.nd rfl (by first | exact Or.inl rfl | exact Or.inr rfl))) (fun _ _ _ _ _ _ _ _ hr1 => (pe_or (Ow.pe_ca G_is_number hr1 (by first | decide | omega) (by rfl) (pa_cons (pv 1) (pa_cons (Ow.pe_gi (by rfl) T.g_MAX_PART) pa_nil))) (pe_one (Ow.pe_ca G__is_text hr1 (by first | decide | omega) (by rfl) (pa_cons (pv 1) pa_nil))))) (fun _ => rfl))))), (ss_seq (ss_if (st_or (st_not (st_tB (se_cb sl_isi (sa_cons se_var (sa_cons se_ty sa_nil))))) (st_not (st_test (se_chain s2_le s2_le se_int (se_cb sl_len (sa_cons se_var sa_nil)) se_int)))) (ss_ret se_bl) ss_next) (ss_ret (se_all hP (si_tup se_var) sg_name (se_or (se_ca xok_F (sa_cons se_var (sa_cons se_int sa_nil))) (se_ca xok_F (sa_cons se_var sa_nil))) (by decide)))), fun ds S Qd h => (shut_of h).2⟩
noncomputable def B_Notary___init__ (a : Ad) (Ed : XD) : DS :=
  (sSeq (sFldD a.C_Notary nm_Notary 0 (eVar 0) eDT)
  (sSeq (sFldD a.C_Notary nm_Notary 1 (eVar 0) (eLst aNil))
  (sFldD a.C_Notary nm_Notary 2 (eVar 0) (eC (.int 0)))))
noncomputable def F_Notary___init__ (a : Ad) : WF := shut fun ds S Q Ed => ds.length = 1 ∧ B_Notary___init__ a Ed { nx := fun _ S' => Q .non S', rt := Q } (dstart N_Notary___init__ ds) S
theorem ok_Notary___init__ {f : Addr} {fd : FuncData} (Fm : Fun K "__init__" "Notary.__init__" s_Notary___init__ f fd) (T : TX K mg w a)  : FnOk P w K mg base (L2.CX P w) 1 f fd ["self"] (spD K (tabs a) (F_Notary___init__ a)) := by
  refine def_ok (k := 0) Fm sc_Notary___init__ (fun ds S Q E h => (shut_of h).1) fun scr ns Ne Ed E cdv A outer s H hr hx => ?_
  exact ⟨_, B_Notary___init__ a Ed, (pss_cons (ps_fld (pv 0) pe_dnewT rfl) (pss_cons (ps_fld (pv 0) (pe_lst pa_nil) rfl) (pss_one (ps_fld (pv 0) pe_int rfl)))), (ss_seq (ss_fld T.cls_Notary T.n_Notary__seals fx_Notary__seals se_var se_dT) (ss_seq (ss_fld T.cls_Notary T.n_Notary__parts fx_Notary__parts se_var (se_lst sa_nil)) (ss_fld T.cls_Notary T.n_Notary__finds fx_Notary__finds se_var se_int))), fun ds S Qd h => (shut_of h).2⟩
noncomputable def B_Notary_seal (a : Ad) (Ed : XD) : DS :=
  (sSeq (sIf (tNot' (tV (eCa (F_is_parts a) Ed (aCons (eVar 1) aNil))))
  (sRaise a.X_BadParts Ed)
  sNext)
  (sSeq (sIf (tV (eDNotIn (eVar 1) (eFld a.C_Notary nm_Notary 0 (eVar 0))))
  (sSeq (sDrop (eBM dAppend (eFld a.C_Notary nm_Notary 1 (eVar 0)) (aCons (eVar 1) aNil)))
  (sDPutD (eFld a.C_Notary nm_Notary 0 (eVar 0)) (eVar 1) (eCB dLen (aCons (eFld a.C_Notary nm_Notary 1 (eVar 0)) aNil))))
  sNext)
  (sRet (eDGet (eFld a.C_Notary nm_Notary 0 (eVar 0)) (eVar 1)))))
noncomputable def F_Notary_seal (a : Ad) : WF := shut fun ds S Q Ed => ds.length = 2 ∧ B_Notary_seal a Ed { nx := fun _ S' => Q .non S', rt := Q } (dstart N_Notary_seal ds) S
theorem ok_Notary_seal {f : Addr} {fd : FuncData} (Fm : Fun K "seal" "Notary.seal" s_Notary_seal f fd) (T : TX K mg w a) (G_is_parts : Ow.Ca P w K mg base 4 "is_parts" (spD K (tabs a) (F_is_parts a))) : FnOk P w K mg base (L2.CX P w) 5 f fd ["self", "parts"] (spD K (tabs a) (F_Notary_seal a)) := by
  refine def_ok (k := 4) Fm sc_Notary_seal (fun ds S Q E h => (shut_of h).1) fun scr ns Ne Ed E cdv A outer s H hr hx => ?_
  have hpx : Passes (L2.CX P w) (cxOf (L2.CX P w) P w K mg base N_Notary_seal "Notary.seal" (defScope s_Notary_seal) f cdv A outer s H E) E := passes_call (takes_of rfl rfl rfl rfl) (fun _ _ _ _ z => z)
  exact ⟨_, B_Notary_seal a Ed, (pss_cons (ps_if (pt_not (pt_val (Ow.pe_caX G_is_parts hr (by first | decide | omega) (by rfl) hpx (pa_cons (pv 1) pa_nil)))) (pss_one (ps_raise rfl (takes_of rfl rfl rfl rfl) (pmk_own PySem.F.excBase_ValueError T.x_BadParts T.m_BadParts T.k_BadParts (raises_own T.bx_BadParts T.tx_BadParts) (by rfl)))) pss_nil) (pss_cons (ps_if (pt_cmp (pc_dnotin (hu_of hr) (pv 1) (pe_fld (pv 0) rfl)) (by rfl)) (pss_cons (ps_expr (pe_bm PySem.F.plainAttrs_list PySem.F.slot_list_append PySem.F.type_list_append mt_append (pe_fld (pv 0) rfl) (pa_cons (pv 1) pa_nil))) (pss_one (ps_dput (hu_of hr) (pe_fld (pv 0) rfl) (pv 1) (pe_callB (show CallR _ _ (Ow.rLenU K) from Ow.lenU) (by rfl) T.b_len PySem.boot_len (pa_cons (pe_fld (pv 0) rfl) pa_nil)) rfl))) pss_nil) (pss_one (ps_ret (pe_dget (hu_of hr) (pe_fld (pv 0) rfl) (pv 1) (fun _ _ => rfl)))))), (ss_seq (ss_if (st_not (st_tB (se_ca hx (sa_cons se_var sa_nil)))) (ss_raise hx) ss_next) (ss_seq (ss_if (st_tB (se_dnotin se_var (se_fld T.cls_Notary T.n_Notary__seals fx_Notary__seals se_var))) (ss_seq (ss_drop (se_bmL sm_append (se_fld T.cls_Notary T.n_Notary__parts fx_Notary__parts se_var) (sa_cons se_var sa_nil))) (ss_dput (se_fld T.cls_Notary T.n_Notary__seals fx_Notary__seals se_var) se_var (se_cb sl_len (sa_cons (se_fld T.cls_Notary T.n_Notary__parts fx_Notary__parts se_var) sa_nil)))) ss_next) (ss_ret (se_dget (se_fld T.cls_Notary T.n_Notary__seals fx_Notary__seals se_var) se_var)))), fun ds S Qd h => (shut_of h).2⟩
noncomputable def B_Notary_find (a : Ad) (Ed : XD) : DS :=
  (sSeq (sFldAugD a.C_Notary nm_Notary 2 dIAdd (eVar 0) (eC (.int 1)))
  (sSeq (sIf (tNot' (tV (eCa (F_is_parts a) Ed (aCons (eVar 1) aNil))))
  (sRet (eC (.int 0)))
  sNext)
  (sRet (eDGet2 (eFld a.C_Notary nm_Notary 0 (eVar 0)) (eVar 1) (eC (.int 0))))))
noncomputable def F_Notary_find (a : Ad) : WF := shut fun ds S Q Ed => ds.length = 2 ∧ B_Notary_find a Ed { nx := fun _ S' => Q .non S', rt := Q } (dstart N_Notary_find ds) S
theorem ok_Notary_find {f : Addr} {fd : FuncData} (Fm : Fun K "find" "Notary.find" s_Notary_find f fd) (T : TX K mg w a) (G_is_parts : Ow.Ca P w K mg base 4 "is_parts" (spD K (tabs a) (F_is_parts a))) : FnOk P w K mg base (L2.CX P w) 5 f fd ["self", "parts"] (spD K (tabs a) (F_Notary_find a)) := by
  refine def_ok (k := 4) Fm sc_Notary_find (fun ds S Q E h => (shut_of h).1) fun scr ns Ne Ed E cdv A outer s H hr hx => ?_
  have hpx : Passes (L2.CX P w) (cxOf (L2.CX P w) P w K mg base N_Notary_find "Notary.find" (defScope s_Notary_find) f cdv A outer s H E) E := passes_call (takes_of rfl rfl rfl rfl) (fun _ _ _ _ z => z)
  exact ⟨_, B_Notary_find a Ed, (pss_cons (ps_fldaug (pv 0) pe_int in_add) (pss_cons (ps_if (pt_not (pt_val (Ow.pe_caX G_is_parts hr (by first | decide | omega) (by rfl) hpx (pa_cons (pv 1) pa_nil)))) (pss_one (ps_ret pe_int)) pss_nil) (pss_one (ps_ret (pe_dget2 (hu_of hr) (pe_fld (pv 0) rfl) (pv 1) pe_int (m2_get)))))), (ss_seq (ss_fldaug T.cls_Notary T.n_Notary__finds fx_Notary__finds s2_inadd se_var se_int) (ss_seq (ss_if (st_not (st_tB (se_ca hx (sa_cons se_var sa_nil)))) (ss_ret se_int) ss_next) (ss_ret (se_dget2 (se_fld T.cls_Notary T.n_Notary__seals fx_Notary__seals se_var) se_var se_int)))), fun ds S Qd h => (shut_of h).2⟩
noncomputable def B_Notary_parts_of (a : Ad) (Ed : XD) : DS :=
  (sSeq (sIf (tNot' (tV (eChain dLe dLe (eC (.int 1)) (eVar 1) (eCB dLen (aCons (eFld a.C_Notary nm_Notary 1 (eVar 0)) aNil)))))
  (sRet (eC .non))
  sNext)
  (sRet (eOp dIx (eFld a.C_Notary nm_Notary 1 (eVar 0)) (eOp dSub (eVar 1) (eC (.int 1))))))
noncomputable def F_Notary_parts_of (a : Ad) : WF := shut fun ds S Q Ed => ds.length = 2 ∧ B_Notary_parts_of a Ed { nx := fun _ S' => Q .non S', rt := Q } (dstart N_Notary_parts_of ds) S
theorem ok_Notary_parts_of {f : Addr} {fd : FuncData} (Fm : Fun K "parts_of" "Notary.parts_of" s_Notary_parts_of f fd) (T : TX K mg w a)  : FnOk P w K mg base (L2.CX P w) 1 f fd ["self", "seal"] (spD K (tabs a) (F_Notary_parts_of a)) := by
  refine def_ok (k := 0) Fm sc_Notary_parts_of (fun ds S Q E h => (shut_of h).1) fun scr ns Ne Ed E cdv A outer s H hr hx => ?_
  exact ⟨_, B_Notary_parts_of a Ed, (pss_cons (ps_if (pt_not (pt_chain Ow.opU_le Ow.opU_le pe_int (pv 1) (pe_callB (show CallR _ _ (Ow.rLenU K) from Ow.lenU) (by rfl) T.b_len PySem.boot_len (pa_cons (pe_fld (pv 0) rfl) pa_nil)))) (pss_one (ps_ret pe_non)) pss_nil) (pss_one (ps_ret (pe_ix (show IxR _ (rIx K) from Ow.ixU) (pe_fld (pv 0) rfl) (pe_op op_sub (pv 1) pe_int) (fun _ _ => rfl))))), (ss_seq (ss_if (st_not (st_test (se_chain s2_le s2_le se_int se_var (se_cb sl_len (sa_cons (se_fld T.cls_Notary T.n_Notary__parts fx_Notary__parts se_var) sa_nil))))) (ss_ret se_non) ss_next) (ss_ret (se_op s2_ix (se_fld T.cls_Notary T.n_Notary__parts fx_Notary__parts se_var) (se_op s2_sub se_var se_int)))), fun ds S Qd h => (shut_of h).2⟩
noncomputable def B_Notary_size (a : Ad) (Ed : XD) : DS :=
  (sRet (eCB dLen (aCons (eFld a.C_Notary nm_Notary 1 (eVar 0)) aNil)))
noncomputable def F_Notary_size (a : Ad) : WF := shut fun ds S Q Ed => ds.length = 1 ∧ B_Notary_size a Ed { nx := fun _ S' => Q .non S', rt := Q } (dstart N_Notary_size ds) S
theorem ok_Notary_size {f : Addr} {fd : FuncData} (Fm : Fun K "size" "Notary.size" s_Notary_size f fd) (T : TX K mg w a)  : FnOk P w K mg base (L2.CX P w) 1 f fd ["self"] (spD K (tabs a) (F_Notary_size a)) := by
  refine def_ok (k := 0) Fm sc_Notary_size (fun ds S Q E h => (shut_of h).1) fun scr ns Ne Ed E cdv A outer s H hr hx => ?_
  exact ⟨_, B_Notary_size a Ed, (pss_one (ps_ret (pe_callB (show CallR _ _ (Ow.rLenU K) from Ow.lenU) (by rfl) T.b_len PySem.boot_len (pa_cons (pe_fld (pv 0) rfl) pa_nil)))), (ss_ret (se_cb sl_len (sa_cons (se_fld T.cls_Notary T.n_Notary__parts fx_Notary__parts se_var) sa_nil))), fun ds S Qd h => (shut_of h).2⟩
noncomputable def B_is_seal (a : Ad) (Ed : XD) : DS :=
  (sRet (eAnd (eCa (F_is_number a) Ed (aCons (eVar 0) (aCons (eC (.int 281474976710656)) aNil))) (eOp dNe (eVar 0) (eC (.int 0)))))
noncomputable def F_is_seal (a : Ad) : WF := shut fun ds S Q Ed => ds.length = 1 ∧ B_is_seal a Ed { nx := fun _ S' => Q .non S', rt := Q } (dstart N_is_seal ds) S
theorem ok_is_seal {f : Addr} {fd : FuncData} (Fm : Fun K "is_seal" "is_seal" s_is_seal f fd) (T : TX K mg w a) (G_is_number : Ow.Ca P w K mg base 1 "is_number" (spD K (tabs a) (F_is_number a))) : FnOk P w K mg base (L2.CX P w) 2 f fd ["value"] (spD K (tabs a) (F_is_seal a)) := by
  refine def_ok (k := 1) Fm sc_is_seal (fun ds S Q E h => (shut_of h).1) fun scr ns Ne Ed E cdv A outer s H hr hx => ?_
  have hpx : Passes (L2.CX P w) (cxOf (L2.CX P w) P w K mg base N_is_seal "is_seal" (defScope s_is_seal) f cdv A outer s H E) E := passes_call (takes_of rfl rfl rfl rfl) (fun _ _ _ _ z => z)
  exact ⟨_, B_is_seal a Ed, (pss_one (ps_ret (pe_and (Ow.pe_caX G_is_number hr (by first | decide | omega) (by rfl) hpx (pa_cons (pv 0) (pa_cons (Ow.pe_gi (by rfl) T.g_MAX_PART) pa_nil))) (pe_one (pe_cmpR (show OpR _ _ (Ow.rNeU K) from Ow.opU_ne hr.units) (pv 0) pe_int (nomark _)))))), (ss_ret (se_and (se_ca hx (sa_cons se_var (sa_cons se_int sa_nil))) (se_op s2_ne se_var se_int))), fun ds S Qd h => (shut_of h).2⟩
noncomputable def B_is_opening (a : Ad) (Ed : XD) : DS :=
  (sSeq (sIf (tOr' (tNot' (tV (eCB dIsi (aCons (eVar 0) (aCons (eC (.ty "tuple")) aNil))))) (tOr' (tV (eOp dEq (eCB dLen (aCons (eVar 0) aNil)) (eC (.int 0)))) (tNot' (tV (eCB dIsi (aCons (eOp dIx (eVar 0) (eC (.int 0))) (aCons (eC (.ty "str")) aNil)))))))
  (sRet (eC (.bl false)))
  sNext)
  (sSeq (sIf (tV (eOp dNe (eKGet2 (tb__SIZES a) (eOp dIx (eVar 0) (eC (.int 0))) (eC (.int 0))) (eCB dLen (aCons (eVar 0) aNil))))
  (sRet (eC (.bl false)))
  sNext)
  (sRet (eAll (iT (eSl (eVar 0) (oSome (eC (.int 1))) oNone)) (xName 1) (eCa (F_is_seal a) xF (aCons (eVar 1) aNil)) [1]))))
noncomputable def F_is_opening (a : Ad) : WF := shut fun ds S Q Ed => ds.length = 1 ∧ B_is_opening a Ed { nx := fun _ S' => Q .non S', rt := Q } (dstart N_is_opening ds) S
theorem ok_is_opening {f : Addr} {fd : FuncData} (Fm : FunT K base mg "is_opening" "is_opening" s_is_opening f fd a.P_is_opening) (T : TX K mg w a) (G_is_seal : Ow.Ca P w K mg base 2 "is_seal" (spD K (tabs a) (F_is_seal a))) : FnOk P w K mg base (L2.CX P w) 4 f fd ["value"] (spD K (tabs a) (F_is_opening a)) := by
  refine def_okT (k := 3) Fm sc_is_opening (fun ds S Q E h => (shut_of h).1) fun scr ns Ne Ed E cdv A outer s H TB hr hx => ?_
  have hP : a.P_is_opening ∈ (⟨K, tabs a, scr, ns⟩ : Gm).tabs := by simp [tabs]
  exact ⟨_, B_is_opening a Ed, (pss_cons (ps_if (PW.pt (pw_or (pt_not (pt_val (pe_callB (show CallR _ _ (rIsi K) from call_isi) (by rfl) T.b_isinstance (by decide +kernel) (pa_cons (pv 0) (pa_cons (pe_bltn (by rfl) T.b_tuple (by decide +kernel) (show RelV (.ty "tuple") _ from rfl)) pa_nil))))) (pw_or (pt_cmpR (show OpR _ _ (Ow.rEqU K) from Ow.opU_eq hr.units) (pe_callB (show CallR _ _ (Ow.rLenU K) from Ow.lenU) (by rfl) T.b_len PySem.boot_len (pa_cons (pv 0) pa_nil)) pe_int (nomark _)) (pw_or1 (pt_not (pt_val (pe_callB (show CallR _ _ (rIsi K) from call_isi) (by rfl) T.b_isinstance (by decide +kernel) (pa_cons (pe_ix (show IxR _ (rIx K) from Ow.ixU) (pv 0) pe_int (fun _ _ => rfl)) (pa_cons (pe_bltn (by rfl) T.b_str (by decide +kernel) (show RelV (.ty "str") _ from rfl)) pa_nil))))))))) (pss_one (ps_ret pe_bl)) pss_nil) (pss_cons (ps_if (pt_cmpR (show OpR _ _ (Ow.rNeU K) from Ow.opU_ne hr.units) (Ow.pe_kget2 T.kd__SIZES (Ow.pe_gi (by rfl) (show ∃ u, mg "_SIZES" = some u ∧ RelV (.ref a.c__SIZES) u from T.g__SIZES)) (pe_ix (show IxR _ (rIx K) from Ow.ixU) (pv 0) pe_int (fun _ _ => rfl)) pe_int (m2_get)) (pe_callB (show CallR _ _ (Ow.rLenU K) from Ow.lenU) (by rfl) T.b_len PySem.boot_len (pa_cons (pv 0) pa_nil)) (nomark _)) (pss_one (ps_ret pe_bl)) pss_nil) (pss_one (ps_ret (Ow.pe_allG (k := 2) (own := [("element", 1)]) hr (by rfl) T.b_all (by decide +kernel) TB rfl sc_is_opening.nd (blkOk_by (own := [("element", 1)]) (N := N_is_opening) (sc := defScope s_is_opening) (by decide +kernel)) Ow.gxOk_by (pi_tup (pe_slice (show SlR _ (Ow.rSlU K) from Ow.slU) (pv 0) (po_some pe_int) po_none)) (fun _ _ _ _ _ _ _ _ hr1 => (pg_name (i := 1) sc_is_opening.nd rfl (by first | exact Or.inl rfl | exact Or.inr rfl))) (fun _ _ _ _ _ _ _ _ hr1 => (Ow.pe_ca G_is_seal hr1 (by first | decide | omega) (by rfl) (pa_cons (pv 1) pa_nil))) (fun _ => rfl)))))), (ss_seq (ss_if (st_or (st_not (st_tB (se_cb sl_isi (sa_cons se_var (sa_cons se_ty sa_nil))))) (st_or (st_test (se_op s2_eq (se_cb sl_len (sa_cons se_var sa_nil)) se_int)) (st_not (st_tB (se_cb sl_isi (sa_cons (se_op s2_ix se_var se_int) (sa_cons se_ty sa_nil))))))) (ss_ret se_bl) ss_next) (ss_seq (ss_if (st_test (se_op s2_ne (se_kget2 T.kd__SIZES (se_op s2_ix se_var se_int) se_int) (se_cb sl_len (sa_cons se_var sa_nil)))) (ss_ret se_bl) ss_next) (ss_ret (se_all hP (si_tup (se_sl se_var (so_some se_int) so_none)) sg_name (se_ca xok_F (sa_cons se_var sa_nil)) (by decide))))), fun ds S Qd h => (shut_of h).2⟩
noncomputable def B_is_join (a : Ad) (Ed : XD) : DS :=
  (sRet (eAnd (eOp (dIsN true) (eVar 0) (eC .non)) (eOp dEq (eOp dIx (eVar 0) (eC (.int 0))) (eC (.str "join")))))
noncomputable def F_is_join (a : Ad) : WF := shut fun ds S Q Ed => ds.length = 1 ∧ B_is_join a Ed { nx := fun _ S' => Q .non S', rt := Q } (dstart N_is_join ds) S
theorem ok_is_join {f : Addr} {fd : FuncData} (Fm : Fun K "is_join" "is_join" s_is_join f fd) (T : TX K mg w a)  : FnOk P w K mg base (L2.CX P w) 1 f fd ["parts"] (spD K (tabs a) (F_is_join a)) := by
  refine def_ok (k := 0) Fm sc_is_join (fun ds S Q E h => (shut_of h).1) fun scr ns Ne Ed E cdv A outer s H hr hx => ?_
  exact ⟨_, B_is_join a Ed, (pss_one (ps_ret (pe_and (pe_cmpR op_notN (pv 0) pe_non (nomark _)) (pe_one (pe_cmpR (show OpR _ _ (Ow.rEqU K) from Ow.opU_eq hr.units) (pe_ix (show IxR _ (rIx K) from Ow.ixU) (pv 0) pe_int (fun _ _ => rfl)) pe_str (nomark _)))))), (ss_ret (se_and (se_op s2_notN se_var se_non) (se_op s2_eq (se_op s2_ix se_var se_int) (se_str (by decide +kernel))))), fun ds S Qd h => (shut_of h).2⟩
noncomputable def B_history_of (a : Ad) (Ed : XD) : DS :=
  (sSeq (sIf (tOr' (tV (eOp (dIn true) (eCB dLen (aCons (eVar 1) aNil)) (eC (.ctup [.int 1, .int 2, .int 4, .int 8, .int 16, .int 32, .int 64, .int 128, .int 256, .int 512, .int 1024])))) (tNot' (tV (eAll (iT (eVar 1)) (xName 4) (eCa (F_is_seal a) xF (aCons (eVar 4) aNil)) [4]))))
  (sRaise a.X_BadRow Ed)
  sNext)
  (sSeq (sAsg (eCB dList (aCons (eVar 1) aNil)) (xName 2))
  (sSeq (sAsg (eLc (iT (eVar 1)) (xName 5) tYes' (eMe a.C_Notary nm_Notary (F_Notary_seal a) xF (eVar 0) (aCons (eTup (aCons (eC (.str "step")) (aCons (eVar 5) aNil))) aNil)) [5]) (xName 3))
  (sSeq (sWhile (tV (eOp dGt (eCB dLen (aCons (eVar 3) aNil)) (eC (.int 1))))
  (sSeq (sAsg (eEvry 1 (eVar 2)) (xName 2))
  (sAsg (eLc (iZip3D (aCons (eEvry 0 (eVar 3)) (aCons (eEvry 1 (eVar 3)) (aCons (eVar 2) aNil)))) (xTup 3 (xCons (xName 6) (xCons (xName 7) (xCons (xName 5) xNil)))) tYes' (eMe a.C_Notary nm_Notary (F_Notary_seal a) xF (eVar 0) (aCons (eTup (aCons (eC (.str "join")) (aCons (eVar 6) (aCons (eVar 7) (aCons (eVar 5) aNil))))) aNil)) [6, 7, 5]) (xName 3))))
  (sRet (eOp dIx (eVar 3) (eC (.int 0))))))))
noncomputable def F_history_of (a : Ad) : WF := shut fun ds S Q Ed => ds.length = 2 ∧ B_history_of a Ed { nx := fun _ S' => Q .non S', rt := Q } (dstart N_history_of ds) S
theorem ok_history_of {f : Addr} {fd : FuncData} (Fm : FunT K base mg "history_of" "history_of" s_history_of f fd a.P_history_of) (T : TX K mg w a) (G_is_seal : Ow.Ca P w K mg base 2 "is_seal" (spD K (tabs a) (F_is_seal a))) (G_Notary_seal : Ow.Me P w K mg base 5 a.C_Notary "seal" (spD K (tabs a) (F_Notary_seal a))) : FnOk P w K mg base (L2.CX P w) 7 f fd ["notary", "row"] (spD K (tabs a) (F_history_of a)) := by
  refine def_okT (k := 6) Fm sc_history_of (fun ds S Q E h => (shut_of h).1) fun scr ns Ne Ed E cdv A outer s H TB hr hx => ?_
  have hP : a.P_history_of ∈ (⟨K, tabs a, scr, ns⟩ : Gm).tabs := by simp [tabs]
  exact ⟨_, B_history_of a Ed, (pss_cons (ps_if (PW.pt (pw_or (pt_cmpR (show OpR _ _ (rNotInV K) from opV_notin (Ow.hu65 hr)) (pe_callB (show CallR _ _ (Ow.rLenU K) from Ow.lenU) (by rfl) T.b_len PySem.boot_len (pa_cons (pv 1) pa_nil)) (Ow.pe_gi (by rfl) (show ∃ u, mg "_LENGTHS" = some u ∧ RelV (.ref a.c__LENGTHS) u from T.g__LENGTHS)) (by rfl)) (pw_or1 (pt_not (pt_val (Ow.pe_allG (k := 5) (own := [("element", 4)]) hr (by rfl) T.b_all (by decide +kernel) TB rfl sc_history_of.nd (blkOk_by (own := [("element", 4)]) (N := N_history_of) (sc := defScope s_history_of) (by decide +kernel)) Ow.gxOk_by (pi_tup (pv 1)) (fun _ _ _ _ _ _ _ _ hr1 => (pg_name (i := 4) sc_history_of.nd rfl (by first | exact Or.inl rfl | exact Or.inr rfl))) (fun _ _ _ _ _ _ _ _ hr1 => (Ow.pe_ca G_is_seal hr1 (by first | decide | omega) (by rfl) (pa_cons (pv 4) pa_nil))) (fun _ => rfl))))))) (pss_one (ps_raise rfl (takes_of rfl rfl rfl rfl) (pmk_own PySem.F.excBase_ValueError T.x_BadRow T.m_BadRow T.k_BadRow (raises_own T.bx_BadRow T.tx_BadRow) (by rfl)))) pss_nil) (pss_cons (ps_asg (pe_callTy (show CallR _ _ (Ow.rListU K) from Ow.listU) (by rfl) T.b_list (by decide +kernel) (pa_cons (pv 1) pa_nil)) (pg_name (i := 2) sc_history_of.nd rfl (by first | exact Or.inl rfl | exact Or.inr rfl))) (pss_cons (ps_setLc (i := 3) (own := [("last", 5)]) (by rfl) sc_history_of.nd rfl rfl (sw_true rfl rfl rfl (by decide +kernel)) (pi_tup (pv 1)) (blkOk_by (own := [("last", 5)]) (N := N_history_of) (sc := defScope s_history_of) (by decide +kernel)) (fun _ _ _ _ _ => (pg_name (i := 5) sc_history_of.nd rfl (by first | exact Or.inl rfl | exact Or.inr rfl))) (fun _ _ _ _ _ => pts_nil) (fun _ _ _ _ _ => (Ow.pe_me G_Notary_seal hr (by first | decide | omega) (pv 0) (pa_cons (pe_tup (pa_cons pe_str (pa_cons (pv 5) pa_nil))) pa_nil)))) (pss_cons (ps_while (passes_of rfl) (pt_cmpR opV_gt (pe_callB (show CallR _ _ (Ow.rLenU K) from Ow.lenU) (by rfl) T.b_len PySem.boot_len (pa_cons (pv 3) pa_nil)) pe_int (nomark _)) (pss_cons (ps_asg (Ow.pe_evry (k := 1) (pv 2) (po_some pe_int) pe_int) (pg_name (i := 2) sc_history_of.nd rfl (by first | exact Or.inl rfl | exact Or.inr rfl))) (pss_one (ps_setLc (i := 3) (own := [("left", 6), ("right", 7), ("last", 5)]) (by rfl) sc_history_of.nd rfl rfl (sw_true rfl rfl rfl (by decide +kernel)) (Ow.pi_zip3 (by rfl) T.b_zip (pa_cons (Ow.pe_evry (k := 0) (pv 3) (po_some pe_int) pe_int) (pa_cons (Ow.pe_evry (k := 1) (pv 3) (po_some pe_int) pe_int) (pa_cons (pv 2) pa_nil)))) (blkOk_by (own := [("left", 6), ("right", 7), ("last", 5)]) (N := N_history_of) (sc := defScope s_history_of) (by decide +kernel)) (fun _ _ _ _ _ => (pg_tup (by rfl) (pgs_cons (pg_name (i := 6) sc_history_of.nd rfl (by first | exact Or.inl rfl | exact Or.inr rfl)) (pgs_cons (pg_name (i := 7) sc_history_of.nd rfl (by first | exact Or.inl rfl | exact Or.inr rfl)) (pgs_cons (pg_name (i := 5) sc_history_of.nd rfl (by first | exact Or.inl rfl | exact Or.inr rfl)) pgs_nil))))) (fun _ _ _ _ _ => pts_nil) (fun _ _ _ _ _ => (Ow.pe_me G_Notary_seal hr (by first | decide | omega) (pv 0) (pa_cons (pe_tup (pa_cons pe_str (pa_cons (pv 6) (pa_cons (pv 7) (pa_cons (pv 5) pa_nil))))) pa_nil))))))) (pss_one (ps_ret (pe_ix (show IxR _ (rIx K) from Ow.ixU) (pv 3) pe_int (fun _ _ => rfl)))))))), (ss_seq (ss_if (st_or (st_test (se_op s2_notin (se_cb sl_len (sa_cons se_var sa_nil)) (se_c (fun H => T.k__LENGTHS.im)))) (st_not (st_tB (se_all hP (si_tup se_var) sg_name (se_ca xok_F (sa_cons se_var sa_nil)) (by decide))))) (ss_raise hx) ss_next) (ss_seq (ss_asg (se_cb sl_list (sa_cons se_var sa_nil)) sg_name) (ss_seq (ss_asg (se_lc (si_tup se_var) sg_name st_yes (se_me fm_Notary_seal xok_F se_var (sa_cons (se_tup (sa_cons (se_str (by decide +kernel)) (sa_cons se_var sa_nil))) sa_nil)) (by decide)) sg_name) (ss_seq (ss_while (st_test (se_op s2_gt (se_cb sl_len (sa_cons se_var sa_nil)) se_int)) (ss_seq (ss_asg (se_evry (k := 1) se_var) sg_name) (ss_asg (se_lc (si_zip3 (sa_cons (se_evry (k := 0) se_var) (sa_cons (se_evry (k := 1) se_var) (sa_cons se_var sa_nil)))) (sg_tup (sgs_cons sg_name (sgs_cons sg_name (sgs_cons sg_name sgs_nil)))) st_yes (se_me fm_Notary_seal xok_F se_var (sa_cons (se_tup (sa_cons (se_str (by decide +kernel)) (sa_cons se_var (sa_cons se_var (sa_cons se_var sa_nil))))) sa_nil)) (by decide)) sg_name))) (ss_ret (se_op s2_ix se_var se_int)))))), fun ds S Qd h => (shut_of h).2⟩
noncomputable def B_opening (a : Ad) (Ed : XD) : DS :=
  (sSeq (sAsg (eMe a.C_Notary nm_Notary (F_Notary_parts_of a) Ed (eVar 0) (aCons (eVar 1) aNil)) (xName 2))
  (sRet (eIf (tV (eCa (F_is_opening a) Ed (aCons (eVar 2) aNil))) (eVar 2) (eC .non))))
noncomputable def F_opening (a : Ad) : WF := shut fun ds S Q Ed => ds.length = 2 ∧ B_opening a Ed { nx := fun _ S' => Q .non S', rt := Q } (dstart N_opening ds) S
theorem ok_opening {f : Addr} {fd : FuncData} (Fm : Fun K "opening" "opening" s_opening f fd) (T : TX K mg w a) (G_Notary_parts_of : Ow.Me P w K mg base 1 a.C_Notary "parts_of" (spD K (tabs a) (F_Notary_parts_of a))) (G_is_opening : Ow.Ca P w K mg base 4 "is_opening" (spD K (tabs a) (F_is_opening a))) : FnOk P w K mg base (L2.CX P w) 5 f fd ["notary", "history"] (spD K (tabs a) (F_opening a)) := by
  refine def_ok (k := 4) Fm sc_opening (fun ds S Q E h => (shut_of h).1) fun scr ns Ne Ed E cdv A outer s H hr hx => ?_
  have hpx : Passes (L2.CX P w) (cxOf (L2.CX P w) P w K mg base N_opening "opening" (defScope s_opening) f cdv A outer s H E) E := passes_call (takes_of rfl rfl rfl rfl) (fun _ _ _ _ z => z)
  exact ⟨_, B_opening a Ed, (pss_cons (ps_asg (Ow.pe_meX G_Notary_parts_of hr (by first | decide | omega) (pv 0) hpx (pa_cons (pv 1) pa_nil)) (pg_name (i := 2) sc_opening.nd rfl (by first | exact Or.inl rfl | exact Or.inr rfl))) (pss_one (ps_ret (pe_ifExp (pt_val (Ow.pe_caX G_is_opening hr (by first | decide | omega) (by rfl) hpx (pa_cons (pv 2) pa_nil))) (pv 2) pe_non)))), (ss_seq (ss_asg (se_me fm_Notary_parts_of hx se_var (sa_cons se_var sa_nil)) sg_name) (ss_ret (se_if (st_tB (se_ca hx (sa_cons se_var sa_nil))) se_var se_non))), fun ds S Qd h => (shut_of h).2⟩
noncomputable def B_last_of (a : Ad) (Ed : XD) : DS :=
  (sSeq (sAsg (eCa (F_opening a) Ed (aCons (eVar 0) (aCons (eVar 1) aNil))) (xName 2))
  (sRet (eIf (tV (eOp (dIsN false) (eVar 2) (eC .non))) (eC (.int 0)) (eOp dIx (eVar 2) (eUn dNeg (eC (.int 1)))))))
noncomputable def F_last_of (a : Ad) : WF := shut fun ds S Q Ed => ds.length = 2 ∧ B_last_of a Ed { nx := fun _ S' => Q .non S', rt := Q } (dstart N_last_of ds) S
theorem ok_last_of {f : Addr} {fd : FuncData} (Fm : Fun K "last_of" "last_of" s_last_of f fd) (T : TX K mg w a) (G_opening : Ow.Ca P w K mg base 5 "opening" (spD K (tabs a) (F_opening a))) : FnOk P w K mg base (L2.CX P w) 6 f fd ["notary", "history"] (spD K (tabs a) (F_last_of a)) := by
  refine def_ok (k := 5) Fm sc_last_of (fun ds S Q E h => (shut_of h).1) fun scr ns Ne Ed E cdv A outer s H hr hx => ?_
  have hpx : Passes (L2.CX P w) (cxOf (L2.CX P w) P w K mg base N_last_of "last_of" (defScope s_last_of) f cdv A outer s H E) E := passes_call (takes_of rfl rfl rfl rfl) (fun _ _ _ _ z => z)
  exact ⟨_, B_last_of a Ed, (pss_cons (ps_asg (Ow.pe_caX G_opening hr (by first | decide | omega) (by rfl) hpx (pa_cons (pv 0) (pa_cons (pv 1) pa_nil))) (pg_name (i := 2) sc_last_of.nd rfl (by first | exact Or.inl rfl | exact Or.inr rfl))) (pss_one (ps_ret (pe_ifExp (pt_cmpR op_isN (pv 2) pe_non (nomark _)) pe_int (pe_ix (show IxR _ (rIx K) from Ow.ixU) (pv 2) (pe_un un_neg pe_int) (fun _ _ => rfl)))))), (ss_seq (ss_asg (se_ca hx (sa_cons se_var (sa_cons se_var sa_nil))) sg_name) (ss_ret (se_if (st_test (se_op s2_isN se_var se_non)) se_int (se_op s2_ix se_var (se_un s1_neg se_int))))), fun ds S Qd h => (shut_of h).2⟩
noncomputable def B_is_span (a : Ad) (Ed : XD) : DS :=
  (sSeq (sIf (tOr' (tNot' (tV (eCB dIsi (aCons (eVar 0) (aCons (eC (.ty "tuple")) aNil))))) (tV (eOp dNe (eCB dLen (aCons (eVar 0) aNil)) (eC (.int 5)))))
  (sRet (eC (.bl false)))
  sNext)
  (sSeq (sAsg (eVar 0) (xTup 5 (xCons (xName 1) (xCons (xName 2) (xCons (xName 3) (xCons (xName 4) (xCons (xName 5) xNil)))))))
  (sSeq (sIf (tOr' (tNot' (tV (eCa (F_is_number a) Ed (aCons (eVar 1) (aCons (eC (.int 10)) aNil))))) (tNot' (tV (eCa (F_is_number a) Ed (aCons (eVar 2) (aCons (eC (.int 1023)) aNil))))))
  (sRet (eC (.bl false)))
  sNext)
  (sRet (eAnd (eCa (F_is_number a) Ed (aCons (eVar 3) (aCons (eC (.int 281474976710656)) aNil))) (eAnd (eCa (F_is_seal a) Ed (aCons (eVar 4) aNil)) (eCa (F_is_seal a) Ed (aCons (eVar 5) aNil))))))))
noncomputable def F_is_span (a : Ad) : WF := shut fun ds S Q Ed => ds.length = 1 ∧ B_is_span a Ed { nx := fun _ S' => Q .non S', rt := Q } (dstart N_is_span ds) S
theorem ok_is_span {f : Addr} {fd : FuncData} (Fm : Fun K "is_span" "is_span" s_is_span f fd) (T : TX K mg w a) (G_is_number : Ow.Ca P w K mg base 1 "is_number" (spD K (tabs a) (F_is_number a))) (G_is_seal : Ow.Ca P w K mg base 2 "is_seal" (spD K (tabs a) (F_is_seal a))) : FnOk P w K mg base (L2.CX P w) 3 f fd ["value"] (spD K (tabs a) (F_is_span a)) := by
  refine def_ok (k := 2) Fm sc_is_span (fun ds S Q E h => (shut_of h).1) fun scr ns Ne Ed E cdv A outer s H hr hx => ?_
  have hpx : Passes (L2.CX P w) (cxOf (L2.CX P w) P w K mg base N_is_span "is_span" (defScope s_is_span) f cdv A outer s H E) E := passes_call (takes_of rfl rfl rfl rfl) (fun _ _ _ _ z => z)
  exact ⟨_, B_is_span a Ed, (pss_cons (ps_if (PW.pt (pw_or (pt_not (pt_val (pe_callB (show CallR _ _ (rIsi K) from call_isi) (by rfl) T.b_isinstance (by decide +kernel) (pa_cons (pv 0) (pa_cons (pe_bltn (by rfl) T.b_tuple (by decide +kernel) (show RelV (.ty "tuple") _ from rfl)) pa_nil))))) (pw_or1 (pt_cmpR (show OpR _ _ (Ow.rNeU K) from Ow.opU_ne hr.units) (pe_callB (show CallR _ _ (Ow.rLenU K) from Ow.lenU) (by rfl) T.b_len PySem.boot_len (pa_cons (pv 0) pa_nil)) (Ow.pe_gi (by rfl) T.g__PARTS) (nomark _))))) (pss_one (ps_ret pe_bl)) pss_nil) (pss_cons (ps_asg (pv 0) (pg_tup (by rfl) (pgs_cons (pg_name (i := 1) sc_is_span.nd rfl (by first | exact Or.inl rfl | exact Or.inr rfl)) (pgs_cons (pg_name (i := 2) sc_is_span.nd rfl (by first | exact Or.inl rfl | exact Or.inr rfl)) (pgs_cons (pg_name (i := 3) sc_is_span.nd rfl (by first | exact Or.inl rfl | exact Or.inr rfl)) (pgs_cons (pg_name (i := 4) sc_is_span.nd rfl (by first | exact Or.inl rfl | exact Or.inr rfl)) (pgs_cons (pg_name (i := 5) sc_is_span.nd rfl (by first | exact Or.inl rfl | exact Or.inr rfl)) pgs_nil))))))) (pss_cons (ps_if (PW.pt (pw_or (pt_not (pt_val (Ow.pe_caX G_is_number hr (by first | decide | omega) (by rfl) hpx (pa_cons (pv 1) (pa_cons (Ow.pe_gi (by rfl) T.g_MAX_LEVEL) pa_nil))))) (pw_or1 (pt_not (pt_val (Ow.pe_caX G_is_number hr (by first | decide | omega) (by rfl) hpx (pa_cons (pv 2) (pa_cons (Ow.pe_gi (by rfl) T.g__MAX_FIRST) pa_nil)))))))) (pss_one (ps_ret pe_bl)) pss_nil) (pss_one (ps_ret (pe_and (Ow.pe_caX G_is_number hr (by first | decide | omega) (by rfl) hpx (pa_cons (pv 3) (pa_cons (Ow.pe_gi (by rfl) T.g_MAX_PART) pa_nil))) (pe_and (Ow.pe_caX G_is_seal hr (by first | decide | omega) (by rfl) hpx (pa_cons (pv 4) pa_nil)) (pe_one (Ow.pe_caX G_is_seal hr (by first | decide | omega) (by rfl) hpx (pa_cons (pv 5) pa_nil)))))))))), (ss_seq (ss_if (st_or (st_not (st_tB (se_cb sl_isi (sa_cons se_var (sa_cons se_ty sa_nil))))) (st_test (se_op s2_ne (se_cb sl_len (sa_cons se_var sa_nil)) se_int))) (ss_ret se_bl) ss_next) (ss_seq (ss_asg se_var (sg_tup (sgs_cons sg_name (sgs_cons sg_name (sgs_cons sg_name (sgs_cons sg_name (sgs_cons sg_name sgs_nil))))))) (ss_seq (ss_if (st_or (st_not (st_tB (se_ca hx (sa_cons se_var (sa_cons se_int sa_nil))))) (st_not (st_tB (se_ca hx (sa_cons se_var (sa_cons se_int sa_nil)))))) (ss_ret se_bl) ss_next) (ss_ret (se_and (se_ca hx (sa_cons se_var (sa_cons se_int sa_nil))) (se_and (se_ca hx (sa_cons se_var sa_nil)) (se_ca hx (sa_cons se_var sa_nil)))))))), fun ds S Qd h => (shut_of h).2⟩
noncomputable def B_root_span (a : Ad) (Ed : XD) : DS :=
  (sSeq (sAsg (eVar 0) (xTup 6 (xCons (xName 2) (xCons (xName 2) (xCons (xName 2) (xCons (xName 2) (xCons (xName 3) (xCons (xName 4) xNil))))))))
  (sRet (eTup (aCons (eVar 4) (aCons (eC (.int 0)) (aCons (eC (.int 0)) (aCons (eVar 3) (aCons (eVar 1) aNil))))))))
noncomputable def F_root_span (a : Ad) : WF := shut fun ds S Q Ed => ds.length = 2 ∧ B_root_span a Ed { nx := fun _ S' => Q .non S', rt := Q } (dstart N_root_span ds) S
theorem ok_root_span {f : Addr} {fd : FuncData} (Fm : Fun K "root_span" "root_span" s_root_span f fd) (T : TX K mg w a)  : FnOk P w K mg base (L2.CX P w) 1 f fd ["question", "history"] (spD K (tabs a) (F_root_span a)) := by
  refine def_ok (k := 0) Fm sc_root_span (fun ds S Q E h => (shut_of h).1) fun scr ns Ne Ed E cdv A outer s H hr hx => ?_
  exact ⟨_, B_root_span a Ed, (pss_cons (ps_asg (pv 0) (pg_tup (by rfl) (pgs_cons (pg_name (i := 2) sc_root_span.nd rfl (by first | exact Or.inl rfl | exact Or.inr rfl)) (pgs_cons (pg_name (i := 2) sc_root_span.nd rfl (by first | exact Or.inl rfl | exact Or.inr rfl)) (pgs_cons (pg_name (i := 2) sc_root_span.nd rfl (by first | exact Or.inl rfl | exact Or.inr rfl)) (pgs_cons (pg_name (i := 2) sc_root_span.nd rfl (by first | exact Or.inl rfl | exact Or.inr rfl)) (pgs_cons (pg_name (i := 3) sc_root_span.nd rfl (by first | exact Or.inl rfl | exact Or.inr rfl)) (pgs_cons (pg_name (i := 4) sc_root_span.nd rfl (by first | exact Or.inl rfl | exact Or.inr rfl)) pgs_nil)))))))) (pss_one (ps_ret (pe_tup (pa_cons (pv 4) (pa_cons pe_int (pa_cons pe_int (pa_cons (pv 3) (pa_cons (pv 1) pa_nil))))))))), (ss_seq (ss_asg se_var (sg_tup (sgs_cons sg_name (sgs_cons sg_name (sgs_cons sg_name (sgs_cons sg_name (sgs_cons sg_name (sgs_cons sg_name sgs_nil)))))))) (ss_ret (se_tup (sa_cons se_var (sa_cons se_int (sa_cons se_int (sa_cons se_var (sa_cons se_var sa_nil)))))))), fun ds S Qd h => (shut_of h).2⟩
noncomputable def B_split_span (a : Ad) (Ed : XD) : DS :=
  (sSeq (sAsg (eVar 0) (xTup 5 (xCons (xName 4) (xCons (xName 5) (xCons (xName 6) (xCons (xName 7) (xCons (xName 8) xNil)))))))
  (sSeq (sAsg (eVar 1) (xTup 4 (xCons (xName 8) (xCons (xName 9) (xCons (xName 10) (xCons (xName 8) xNil))))))
  (sSeq (sAsg (eOp dShl (eC (.int 1)) (eOp dSub (eVar 4) (eC (.int 1)))) (xName 11))
  (sRet (eTup (aCons (eTup (aCons (eOp dSub (eVar 4) (eC (.int 1))) (aCons (eVar 5) (aCons (eVar 6) (aCons (eVar 7) (aCons (eVar 9) aNil)))))) (aCons (eTup (aCons (eOp dSub (eVar 4) (eC (.int 1))) (aCons (eOp dAdd (eVar 5) (eVar 11)) (aCons (eVar 2) (aCons (eVar 3) (aCons (eVar 10) aNil)))))) aNil)))))))
noncomputable def F_split_span (a : Ad) : WF := shut fun ds S Q Ed => ds.length = 4 ∧ B_split_span a Ed { nx := fun _ S' => Q .non S', rt := Q } (dstart N_split_span ds) S
theorem ok_split_span {f : Addr} {fd : FuncData} (Fm : Fun K "split_span" "split_span" s_split_span f fd) (T : TX K mg w a)  : FnOk P w K mg base (L2.CX P w) 1 f fd ["span", "join", "behind", "middle"] (spD K (tabs a) (F_split_span a)) := by
  refine def_ok (k := 0) Fm sc_split_span (fun ds S Q E h => (shut_of h).1) fun scr ns Ne Ed E cdv A outer s H hr hx => ?_
  exact ⟨_, B_split_span a Ed, (pss_cons (ps_asg (pv 0) (pg_tup (by rfl) (pgs_cons (pg_name (i := 4) sc_split_span.nd rfl (by first | exact Or.inl rfl | exact Or.inr rfl)) (pgs_cons (pg_name (i := 5) sc_split_span.nd rfl (by first | exact Or.inl rfl | exact Or.inr rfl)) (pgs_cons (pg_name (i := 6) sc_split_span.nd rfl (by first | exact Or.inl rfl | exact Or.inr rfl)) (pgs_cons (pg_name (i := 7) sc_split_span.nd rfl (by first | exact Or.inl rfl | exact Or.inr rfl)) (pgs_cons (pg_name (i := 8) sc_split_span.nd rfl (by first | exact Or.inl rfl | exact Or.inr rfl)) pgs_nil))))))) (pss_cons (ps_asg (pv 1) (pg_tup (by rfl) (pgs_cons (pg_name (i := 8) sc_split_span.nd rfl (by first | exact Or.inl rfl | exact Or.inr rfl)) (pgs_cons (pg_name (i := 9) sc_split_span.nd rfl (by first | exact Or.inl rfl | exact Or.inr rfl)) (pgs_cons (pg_name (i := 10) sc_split_span.nd rfl (by first | exact Or.inl rfl | exact Or.inr rfl)) (pgs_cons (pg_name (i := 8) sc_split_span.nd rfl (by first | exact Or.inl rfl | exact Or.inr rfl)) pgs_nil)))))) (pss_cons (ps_asg (pe_op op_shl pe_int (pe_op op_sub (pv 4) pe_int)) (pg_name (i := 11) sc_split_span.nd rfl (by first | exact Or.inl rfl | exact Or.inr rfl))) (pss_one (ps_ret (pe_tup (pa_cons (pe_tup (pa_cons (pe_op op_sub (pv 4) pe_int) (pa_cons (pv 5) (pa_cons (pv 6) (pa_cons (pv 7) (pa_cons (pv 9) pa_nil)))))) (pa_cons (pe_tup (pa_cons (pe_op op_sub (pv 4) pe_int) (pa_cons (pe_op (show OpR _ _ (Ow.rAddU K) from Ow.opU_add) (pv 5) (pv 11)) (pa_cons (pv 2) (pa_cons (pv 3) (pa_cons (pv 10) pa_nil)))))) pa_nil)))))))), (ss_seq (ss_asg se_var (sg_tup (sgs_cons sg_name (sgs_cons sg_name (sgs_cons sg_name (sgs_cons sg_name (sgs_cons sg_name sgs_nil))))))) (ss_seq (ss_asg se_var (sg_tup (sgs_cons sg_name (sgs_cons sg_name (sgs_cons sg_name (sgs_cons sg_name sgs_nil)))))) (ss_seq (ss_asg (se_op s2_shl se_int (se_op s2_sub se_var se_int)) sg_name) (ss_ret (se_tup (sa_cons (se_tup (sa_cons (se_op s2_sub se_var se_int) (sa_cons se_var (sa_cons se_var (sa_cons se_var (sa_cons se_var sa_nil)))))) (sa_cons (se_tup (sa_cons (se_op s2_sub se_var se_int) (sa_cons (se_op s2_add se_var se_var) (sa_cons se_var (sa_cons se_var (sa_cons se_var sa_nil)))))) sa_nil))))))), fun ds S Qd h => (shut_of h).2⟩
noncomputable def B_halves_of (a : Ad) (Ed : XD) : DS :=
  (sSeq (sAsg (eVar 1) (xTup 5 (xCons (xName 2) (xCons (xName 3) (xCons (xName 4) (xCons (xName 3) (xCons (xName 5) xNil)))))))
  (sSeq (sAsg (eCa (F_opening a) Ed (aCons (eVar 0) (aCons (eVar 5) aNil))) (xName 6))
  (sSeq (sIf (tOr' (tV (eOp dEq (eVar 2) (eC (.int 0)))) (tNot' (tV (eCa (F_is_join a) Ed (aCons (eVar 6) aNil)))))
  (sRet (eC .non))
  sNext)
  (sSeq (sAsg (eCa (F_last_of a) Ed (aCons (eVar 0) (aCons (eOp dIx (eVar 6) (eC (.int 1))) aNil))) (xName 7))
  (sSeq (sAsg (eMe a.C_Notary nm_Notary (F_Notary_find a) Ed (eVar 0) (aCons (eTup (aCons (eC (.str "behind")) (aCons (eVar 4) (aCons (eOp dIx (eVar 6) (eC (.int 1))) aNil)))) aNil)) (xName 8))
  (sSeq (sIf (tOr' (tV (eOp dEq (eVar 7) (eC (.int 0)))) (tV (eOp dEq (eVar 8) (eC (.int 0)))))
  (sRet (eC .non))
  sNext)
  (sRet (eCa (F_split_span a) Ed (aCons (eVar 1) (aCons (eVar 6) (aCons (eVar 8) (aCons (eVar 7) aNil))))))))))))
noncomputable def F_halves_of (a : Ad) : WF := shut fun ds S Q Ed => ds.length = 2 ∧ B_halves_of a Ed { nx := fun _ S' => Q .non S', rt := Q } (dstart N_halves_of ds) S
theorem ok_halves_of {f : Addr} {fd : FuncData} (Fm : Fun K "halves_of" "halves_of" s_halves_of f fd) (T : TX K mg w a) (G_opening : Ow.Ca P w K mg base 5 "opening" (spD K (tabs a) (F_opening a))) (G_is_join : Ow.Ca P w K mg base 1 "is_join" (spD K (tabs a) (F_is_join a))) (G_last_of : Ow.Ca P w K mg base 6 "last_of" (spD K (tabs a) (F_last_of a))) (G_Notary_find : Ow.Me P w K mg base 5 a.C_Notary "find" (spD K (tabs a) (F_Notary_find a))) (G_split_span : Ow.Ca P w K mg base 1 "split_span" (spD K (tabs a) (F_split_span a))) : FnOk P w K mg base (L2.CX P w) 7 f fd ["notary", "span"] (spD K (tabs a) (F_halves_of a)) := by
  refine def_ok (k := 6) Fm sc_halves_of (fun ds S Q E h => (shut_of h).1) fun scr ns Ne Ed E cdv A outer s H hr hx => ?_
  have hpx : Passes (L2.CX P w) (cxOf (L2.CX P w) P w K mg base N_halves_of "halves_of" (defScope s_halves_of) f cdv A outer s H E) E := passes_call (takes_of rfl rfl rfl rfl) (fun _ _ _ _ z => z)
  exact ⟨_, B_halves_of a Ed, (pss_cons (ps_asg (pv 1) (pg_tup (by rfl) (pgs_cons (pg_name (i := 2) sc_halves_of.nd rfl (by first | exact Or.inl rfl | exact Or.inr rfl)) (pgs_cons (pg_name (i := 3) sc_halves_of.nd rfl (by first | exact Or.inl rfl | exact Or.inr rfl)) (pgs_cons (pg_name (i := 4) sc_halves_of.nd rfl (by first | exact Or.inl rfl | exact Or.inr rfl)) (pgs_cons (pg_name (i := 3) sc_halves_of.nd rfl (by first | exact Or.inl rfl | exact Or.inr rfl)) (pgs_cons (pg_name (i := 5) sc_halves_of.nd rfl (by first | exact Or.inl rfl | exact Or.inr rfl)) pgs_nil))))))) (pss_cons (ps_asg (Ow.pe_caX G_opening hr (by first | decide | omega) (by rfl) hpx (pa_cons (pv 0) (pa_cons (pv 5) pa_nil))) (pg_name (i := 6) sc_halves_of.nd rfl (by first | exact Or.inl rfl | exact Or.inr rfl))) (pss_cons (ps_if (PW.pt (pw_or (pt_cmpR (show OpR _ _ (Ow.rEqU K) from Ow.opU_eq hr.units) (pv 2) pe_int (nomark _)) (pw_or1 (pt_not (pt_val (Ow.pe_caX G_is_join hr (by first | decide | omega) (by rfl) hpx (pa_cons (pv 6) pa_nil))))))) (pss_one (ps_ret pe_non)) pss_nil) (pss_cons (ps_asg (Ow.pe_caX G_last_of hr (by first | decide | omega) (by rfl) hpx (pa_cons (pv 0) (pa_cons (pe_ix (show IxR _ (rIx K) from Ow.ixU) (pv 6) pe_int (fun _ _ => rfl)) pa_nil))) (pg_name (i := 7) sc_halves_of.nd rfl (by first | exact Or.inl rfl | exact Or.inr rfl))) (pss_cons (ps_asg (Ow.pe_meX G_Notary_find hr (by first | decide | omega) (pv 0) hpx (pa_cons (pe_tup (pa_cons pe_str (pa_cons (pv 4) (pa_cons (pe_ix (show IxR _ (rIx K) from Ow.ixU) (pv 6) pe_int (fun _ _ => rfl)) pa_nil)))) pa_nil)) (pg_name (i := 8) sc_halves_of.nd rfl (by first | exact Or.inl rfl | exact Or.inr rfl))) (pss_cons (ps_if (PW.pt (pw_or (pt_cmpR (show OpR _ _ (Ow.rEqU K) from Ow.opU_eq hr.units) (pv 7) pe_int (nomark _)) (pw_or1 (pt_cmpR (show OpR _ _ (Ow.rEqU K) from Ow.opU_eq hr.units) (pv 8) pe_int (nomark _))))) (pss_one (ps_ret pe_non)) pss_nil) (pss_one (ps_ret (Ow.pe_caX G_split_span hr (by first | decide | omega) (by rfl) hpx (pa_cons (pv 1) (pa_cons (pv 6) (pa_cons (pv 8) (pa_cons (pv 7) pa_nil))))))))))))), (ss_seq (ss_asg se_var (sg_tup (sgs_cons sg_name (sgs_cons sg_name (sgs_cons sg_name (sgs_cons sg_name (sgs_cons sg_name sgs_nil))))))) (ss_seq (ss_asg (se_ca hx (sa_cons se_var (sa_cons se_var sa_nil))) sg_name) (ss_seq (ss_if (st_or (st_test (se_op s2_eq se_var se_int)) (st_not (st_tB (se_ca hx (sa_cons se_var sa_nil))))) (ss_ret se_non) ss_next) (ss_seq (ss_asg (se_ca hx (sa_cons se_var (sa_cons (se_op s2_ix se_var se_int) sa_nil))) sg_name) (ss_seq (ss_asg (se_me fm_Notary_find hx se_var (sa_cons (se_tup (sa_cons (se_str (by decide +kernel)) (sa_cons se_var (sa_cons (se_op s2_ix se_var se_int) sa_nil)))) sa_nil)) sg_name) (ss_seq (ss_if (st_or (st_test (se_op s2_eq se_var se_int)) (st_test (se_op s2_eq se_var se_int))) (ss_ret se_non) ss_next) (ss_ret (se_ca hx (sa_cons se_var (sa_cons se_var (sa_cons se_var (sa_cons se_var sa_nil)))))))))))), fun ds S Qd h => (shut_of h).2⟩
noncomputable def B_are_rivals (a : Ad) (Ed : XD) : DS :=
  (sRet (eAnd (eOp dEq (eSl (eVar 0) oNone (oSome (eC (.int 4)))) (eSl (eVar 1) oNone (oSome (eC (.int 4))))) (eOp dNe (eOp dIx (eVar 0) (eC (.int 4))) (eOp dIx (eVar 1) (eC (.int 4))))))
noncomputable def F_are_rivals (a : Ad) : WF := shut fun ds S Q Ed => ds.length = 2 ∧ B_are_rivals a Ed { nx := fun _ S' => Q .non S', rt := Q } (dstart N_are_rivals ds) S
theorem ok_are_rivals {f : Addr} {fd : FuncData} (Fm : Fun K "are_rivals" "are_rivals" s_are_rivals f fd) (T : TX K mg w a)  : FnOk P w K mg base (L2.CX P w) 1 f fd ["one", "other"] (spD K (tabs a) (F_are_rivals a)) := by
  refine def_ok (k := 0) Fm sc_are_rivals (fun ds S Q E h => (shut_of h).1) fun scr ns Ne Ed E cdv A outer s H hr hx => ?_
  exact ⟨_, B_are_rivals a Ed, (pss_one (ps_ret (pe_and (pe_cmpR (show OpR _ _ (Ow.rEqU K) from Ow.opU_eq hr.units) (pe_slice (show SlR _ (Ow.rSlU K) from Ow.slU) (pv 0) po_none (po_some pe_int)) (pe_slice (show SlR _ (Ow.rSlU K) from Ow.slU) (pv 1) po_none (po_some pe_int)) (nomark _)) (pe_one (pe_cmpR (show OpR _ _ (Ow.rNeU K) from Ow.opU_ne hr.units) (pe_ix (show IxR _ (rIx K) from Ow.ixU) (pv 0) pe_int (fun _ _ => rfl)) (pe_ix (show IxR _ (rIx K) from Ow.ixU) (pv 1) pe_int (fun _ _ => rfl)) (nomark _)))))), (ss_ret (se_and (se_op s2_eq (se_sl se_var so_none (so_some se_int)) (se_sl se_var so_none (so_some se_int))) (se_op s2_ne (se_op s2_ix se_var se_int) (se_op s2_ix se_var se_int)))), fun ds S Qd h => (shut_of h).2⟩
noncomputable def B__law_same (a : Ad) (Fr : WF) (Ed : XD) : DS :=
  (sSeq (sIf (tAnd' (tV (eCB dIsi (aCons (eVar 0) (aCons (eC (.ty "tuple")) aNil)))) (tV (eCB dIsi (aCons (eVar 1) (aCons (eC (.ty "tuple")) aNil)))))
  (sSeq (sIf (tV (eOp dNe (eCB dLen (aCons (eVar 0) aNil)) (eCB dLen (aCons (eVar 1) aNil))))
  (sRet (eC (.bl false)))
  sNext)
  (sSeq (sFor (iR1 (aCons (eCB dLen (aCons (eVar 0) aNil)) aNil)) (xName 2)
  (sIf (tNot' (tV (eCa Fr Ed (aCons (eOp dIx (eVar 0) (eVar 2)) (aCons (eOp dIx (eVar 1) (eVar 2)) aNil)))))
  (sRet (eC (.bl false)))
  sNext))
  (sRet (eC (.bl true)))))
  sNext)
  (sSeq (sIf (tOr' (tV (eCB dIsi (aCons (eVar 0) (aCons (eC (.ty "bool")) aNil)))) (tV (eCB dIsi (aCons (eVar 1) (aCons (eC (.ty "bool")) aNil)))))
  (sRet (eAnd (eCB dIsi (aCons (eVar 0) (aCons (eC (.ty "bool")) aNil))) (eAnd (eCB dIsi (aCons (eVar 1) (aCons (eC (.ty "bool")) aNil))) (eOp dEq (eVar 0) (eVar 1)))))
  sNext)
  (sSeq (sIf (tAnd' (tV (eCB dIsi (aCons (eVar 0) (aCons (eC (.ty "int")) aNil)))) (tV (eCB dIsi (aCons (eVar 1) (aCons (eC (.ty "int")) aNil)))))
  (sRet (eOp dEq (eVar 0) (eVar 1)))
  sNext)
  (sSeq (sIf (tAnd' (tV (eCB dIsi (aCons (eVar 0) (aCons (eC (.ty "str")) aNil)))) (tV (eCB dIsi (aCons (eVar 1) (aCons (eC (.ty "str")) aNil)))))
  (sRet (eOp dEq (eVar 0) (eVar 1)))
  sNext)
  (sRet (eAnd (eOp (dIsN false) (eVar 0) (eC .non)) (eOp (dIsN false) (eVar 1) (eC .non))))))))
noncomputable def F__law_same (a : Ad) : Nat → WF
  | 0 => fun _ _ _ _ => False
  | n + 1 => shut fun ds S Q Ed => ds.length = 2 ∧ B__law_same a (F__law_same a n) Ed { nx := fun _ S' => Q .non S', rt := Q } (dstart N__law_same ds) S
theorem ok__law_same {f : Addr} {fd : FuncData} (Fm : Fun K "_law_same" "_law_same" s__law_same f fd) (T : TX K mg w a) (hm : mg "_law_same" = some (.ref f)) (kp : PySem.W.keepIn K (.ref f) = true) (hb : Binds K fd ["a", "b"] [])  : ∀ n, FnOk P w K mg base (L2.CX P w) (1 + n) f fd ["a", "b"] (spD K (tabs a) (F__law_same a n)) := by
  intro n
  induction n with
  | zero => exact ⟨fun _ _ _ _ h => by obtain ⟨_, _, _, _, _, _, _, _, z, _⟩ := h; exact z.elim, fun _ _ _ _ _ _ _ _ _ _ _ _ _ h => by obtain ⟨_, _, _, _, _, _, _, _, z, _⟩ := h; exact z.elim⟩
  | succ n ih =>
    have G__law_same : Ow.Ca P w K mg base (1 + n) "_law_same" (spD K (tabs a) (F__law_same a n)) := ⟨f, fd, _, ih, hm, kp, hb⟩
    refine def_ok (k := 1 + n) Fm sc__law_same (fun ds S Q E h => (shut_of h).1) fun scr ns Ne Ed E cdv A outer s H hr hx => ?_
    have hpx : Passes (L2.CX P w) (cxOf (L2.CX P w) P w K mg base N__law_same "_law_same" (defScope s__law_same) f cdv A outer s H E) E := passes_call (takes_of rfl rfl rfl rfl) (fun _ _ _ _ z => z)
    exact ⟨_, B__law_same a (F__law_same a n) Ed, (pss_cons (ps_if (PW.pt (pw_and (pt_val (pe_callB (show CallR _ _ (rIsi K) from call_isi) (by rfl) T.b_isinstance (by decide +kernel) (pa_cons (pv 0) (pa_cons (pe_bltn (by rfl) T.b_tuple (by decide +kernel) (show RelV (.ty "tuple") _ from rfl)) pa_nil)))) (pw_and1 (pt_val (pe_callB (show CallR _ _ (rIsi K) from call_isi) (by rfl) T.b_isinstance (by decide +kernel) (pa_cons (pv 1) (pa_cons (pe_bltn (by rfl) T.b_tuple (by decide +kernel) (show RelV (.ty "tuple") _ from rfl)) pa_nil))))))) (pss_cons (ps_if (pt_cmpR (show OpR _ _ (Ow.rNeU K) from Ow.opU_ne hr.units) (pe_callB (show CallR _ _ (Ow.rLenU K) from Ow.lenU) (by rfl) T.b_len PySem.boot_len (pa_cons (pv 0) pa_nil)) (pe_callB (show CallR _ _ (Ow.rLenU K) from Ow.lenU) (by rfl) T.b_len PySem.boot_len (pa_cons (pv 1) pa_nil)) (nomark _)) (pss_one (ps_ret pe_bl)) pss_nil) (pss_cons (ps_for (passes_of rfl) rfl (pi_range1 (by rfl) T.b_range (pa_cons (pe_callB (show CallR _ _ (Ow.rLenU K) from Ow.lenU) (by rfl) T.b_len PySem.boot_len (pa_cons (pv 0) pa_nil)) pa_nil)) (pg_name (i := 2) sc__law_same.nd rfl (by first | exact Or.inl rfl | exact Or.inr rfl)) (pss_one (ps_if (pt_not (pt_val (Ow.pe_caX G__law_same hr (by first | decide | omega) (by rfl) hpx (pa_cons (pe_ix (show IxR _ (rIx K) from Ow.ixU) (pv 0) (pv 2) (fun _ _ => rfl)) (pa_cons (pe_ix (show IxR _ (rIx K) from Ow.ixU) (pv 1) (pv 2) (fun _ _ => rfl)) pa_nil))))) (pss_one (ps_ret pe_bl)) pss_nil))) (pss_one (ps_ret pe_bl)))) pss_nil) (pss_cons (ps_if (PW.pt (pw_or (pt_val (pe_callB (show CallR _ _ (rIsi K) from call_isi) (by rfl) T.b_isinstance (by decide +kernel) (pa_cons (pv 0) (pa_cons (pe_bltn (by rfl) T.b_bool (by decide +kernel) (show RelV (.ty "bool") _ from rfl)) pa_nil)))) (pw_or1 (pt_val (pe_callB (show CallR _ _ (rIsi K) from call_isi) (by rfl) T.b_isinstance (by decide +kernel) (pa_cons (pv 1) (pa_cons (pe_bltn (by rfl) T.b_bool (by decide +kernel) (show RelV (.ty "bool") _ from rfl)) pa_nil))))))) (pss_one (ps_ret (pe_and (pe_callB (show CallR _ _ (rIsi K) from call_isi) (by rfl) T.b_isinstance (by decide +kernel) (pa_cons (pv 0) (pa_cons (pe_bltn (by rfl) T.b_bool (by decide +kernel) (show RelV (.ty "bool") _ from rfl)) pa_nil))) (pe_and (pe_callB (show CallR _ _ (rIsi K) from call_isi) (by rfl) T.b_isinstance (by decide +kernel) (pa_cons (pv 1) (pa_cons (pe_bltn (by rfl) T.b_bool (by decide +kernel) (show RelV (.ty "bool") _ from rfl)) pa_nil))) (pe_one (pe_cmpR (show OpR _ _ (Ow.rEqU K) from Ow.opU_eq hr.units) (pv 0) (pv 1) (nomark _))))))) pss_nil) (pss_cons (ps_if (PW.pt (pw_and (pt_val (pe_callB (show CallR _ _ (rIsi K) from call_isi) (by rfl) T.b_isinstance (by decide +kernel) (pa_cons (pv 0) (pa_cons (pe_bltn (by rfl) T.b_int (by decide +kernel) (show RelV (.ty "int") _ from rfl)) pa_nil)))) (pw_and1 (pt_val (pe_callB (show CallR _ _ (rIsi K) from call_isi) (by rfl) T.b_isinstance (by decide +kernel) (pa_cons (pv 1) (pa_cons (pe_bltn (by rfl) T.b_int (by decide +kernel) (show RelV (.ty "int") _ from rfl)) pa_nil))))))) (pss_one (ps_ret (pe_cmpR (show OpR _ _ (Ow.rEqU K) from Ow.opU_eq hr.units) (pv 0) (pv 1) (nomark _)))) pss_nil) (pss_cons (ps_if (PW.pt (pw_and (pt_val (pe_callB (show CallR _ _ (rIsi K) from call_isi) (by rfl) T.b_isinstance (by decide +kernel) (pa_cons (pv 0) (pa_cons (pe_bltn (by rfl) T.b_str (by decide +kernel) (show RelV (.ty "str") _ from rfl)) pa_nil)))) (pw_and1 (pt_val (pe_callB (show CallR _ _ (rIsi K) from call_isi) (by rfl) T.b_isinstance (by decide +kernel) (pa_cons (pv 1) (pa_cons (pe_bltn (by rfl) T.b_str (by decide +kernel) (show RelV (.ty "str") _ from rfl)) pa_nil))))))) (pss_one (ps_ret (pe_cmpR (show OpR _ _ (Ow.rEqU K) from Ow.opU_eq hr.units) (pv 0) (pv 1) (nomark _)))) pss_nil) (pss_one (ps_ret (pe_and (pe_cmpR op_isN (pv 0) pe_non (nomark _)) (pe_one (pe_cmpR op_isN (pv 1) pe_non (nomark _)))))))))), (ss_seq (ss_if (st_and (st_tB (se_cb sl_isi (sa_cons se_var (sa_cons se_ty sa_nil)))) (st_tB (se_cb sl_isi (sa_cons se_var (sa_cons se_ty sa_nil))))) (ss_seq (ss_if (st_test (se_op s2_ne (se_cb sl_len (sa_cons se_var sa_nil)) (se_cb sl_len (sa_cons se_var sa_nil)))) (ss_ret se_bl) ss_next) (ss_seq (ss_for (si_r1 (sa_cons (se_cb sl_len (sa_cons se_var sa_nil)) sa_nil)) sg_name (ss_if (st_not (st_tB (se_ca hx (sa_cons (se_op s2_ix se_var se_var) (sa_cons (se_op s2_ix se_var se_var) sa_nil))))) (ss_ret se_bl) ss_next)) (ss_ret se_bl))) ss_next) (ss_seq (ss_if (st_or (st_tB (se_cb sl_isi (sa_cons se_var (sa_cons se_ty sa_nil)))) (st_tB (se_cb sl_isi (sa_cons se_var (sa_cons se_ty sa_nil))))) (ss_ret (se_and (se_cb sl_isi (sa_cons se_var (sa_cons se_ty sa_nil))) (se_and (se_cb sl_isi (sa_cons se_var (sa_cons se_ty sa_nil))) (se_op s2_eq se_var se_var)))) ss_next) (ss_seq (ss_if (st_and (st_tB (se_cb sl_isi (sa_cons se_var (sa_cons se_ty sa_nil)))) (st_tB (se_cb sl_isi (sa_cons se_var (sa_cons se_ty sa_nil))))) (ss_ret (se_op s2_eq se_var se_var)) ss_next) (ss_seq (ss_if (st_and (st_tB (se_cb sl_isi (sa_cons se_var (sa_cons se_ty sa_nil)))) (st_tB (se_cb sl_isi (sa_cons se_var (sa_cons se_ty sa_nil))))) (ss_ret (se_op s2_eq se_var se_var)) ss_next) (ss_ret (se_and (se_op s2_isN se_var se_non) (se_op s2_isN se_var se_non))))))), fun ds S Qd h => (shut_of h).2⟩
noncomputable def B__law_wrong_span (a : Ad) (Ed : XD) : DS :=
  (sSeq (sAsg (eCa (F__law_draw a) Ed (aCons (eVar 0) (aCons (eC (.int 5)) aNil))) (xName 2))
  (sSeq (sAsg (eLst (aCons (eLst (aCons (eC (.int 11)) (aCons (eUn dNeg (eC (.int 1))) (aCons (eC (.bl true)) (aCons (eC .non) aNil))))) (aCons (eLst (aCons (eC (.int 1024)) (aCons (eUn dNeg (eC (.int 1))) (aCons (eC (.str "0")) (aCons (eC (.bl false)) aNil))))) (aCons (eLst (aCons (eUn dNeg (eC (.int 1))) (aCons (eC (.int 281474976710657)) (aCons (eC (.bl true)) (aCons (eC .non) aNil))))) aNil)))) (xName 3))
  (sSeq (sAsg (eOp dAdd (eVar 3) (eLst (aCons (eLst (aCons (eC (.int 0)) (aCons (eUn dNeg (eC (.int 1))) (aCons (eC (.int 281474976710657)) (aCons (eC (.bl true)) aNil))))) (aCons (eLst (aCons (eC (.int 0)) (aCons (eUn dNeg (eC (.int 1))) (aCons (eC (.int 281474976710657)) (aCons (eC .non) aNil))))) aNil)))) (xName 3))
  (sSeq (sAsg (eOp dIx (eOp dIx (eVar 3) (eVar 2)) (eCa (F__law_draw a) Ed (aCons (eVar 0) (aCons (eC (.int 4)) aNil)))) (xName 4))
  (sRet (eOp dIx (eLst (aCons (eOp dAdd (eOp dAdd (eSl (eVar 1) oNone (oSome (eVar 2))) (eTup (aCons (eVar 4) aNil))) (eSl (eVar 1) (oSome (eOp dAdd (eVar 2) (eC (.int 1)))) oNone)) (aCons (eSl (eVar 1) oNone (oSome (eC (.int 4)))) (aCons (eOp dAdd (eVar 1) (eTup (aCons (eC (.int 1)) aNil))) (aCons (eC .non) (aCons (eTup aNil) (aCons (eC (.int 5)) aNil))))))) (eCB dMin (aCons (eC (.int 5)) (aCons (eCa (F__law_draw a) Ed (aCons (eVar 0) (aCons (eC (.int 12)) aNil))) aNil)))))))))
noncomputable def F__law_wrong_span (a : Ad) : WF := shut fun ds S Q Ed => ds.length = 2 ∧ B__law_wrong_span a Ed { nx := fun _ S' => Q .non S', rt := Q } (dstart N__law_wrong_span ds) S
theorem ok__law_wrong_span {f : Addr} {fd : FuncData} (Fm : Fun K "_law_wrong_span" "_law_wrong_span" s__law_wrong_span f fd) (T : TX K mg w a) (G__law_draw : Ow.Ca P w K mg base 2 "_law_draw" (spD K (tabs a) (F__law_draw a))) : FnOk P w K mg base (L2.CX P w) 3 f fd ["box", "span"] (spD K (tabs a) (F__law_wrong_span a)) := by
  refine def_ok (k := 2) Fm sc__law_wrong_span (fun ds S Q E h => (shut_of h).1) fun scr ns Ne Ed E cdv A outer s H hr hx => ?_
  have hpx : Passes (L2.CX P w) (cxOf (L2.CX P w) P w K mg base N__law_wrong_span "_law_wrong_span" (defScope s__law_wrong_span) f cdv A outer s H E) E := passes_call (takes_of rfl rfl rfl rfl) (fun _ _ _ _ z => z)
  exact ⟨_, B__law_wrong_span a Ed, (pss_cons (ps_asg (Ow.pe_caX G__law_draw hr (by first | decide | omega) (by rfl) hpx (pa_cons (pv 0) (pa_cons pe_int pa_nil))) (pg_name (i := 2) sc__law_wrong_span.nd rfl (by first | exact Or.inl rfl | exact Or.inr rfl))) (pss_cons (ps_asg (pe_lst (pa_cons (pe_lst (pa_cons pe_int (pa_cons (pe_un un_neg pe_int) (pa_cons pe_bl (pa_cons pe_non pa_nil))))) (pa_cons (pe_lst (pa_cons pe_int (pa_cons (pe_un un_neg pe_int) (pa_cons pe_str (pa_cons pe_bl pa_nil))))) (pa_cons (pe_lst (pa_cons (pe_un un_neg pe_int) (pa_cons pe_int (pa_cons pe_bl (pa_cons pe_non pa_nil))))) pa_nil)))) (pg_name (i := 3) sc__law_wrong_span.nd rfl (by first | exact Or.inl rfl | exact Or.inr rfl))) (pss_cons (ps_asg (pe_op (show OpR _ _ (Ow.rAddU K) from Ow.opU_add) (pv 3) (pe_lst (pa_cons (pe_lst (pa_cons pe_int (pa_cons (pe_un un_neg pe_int) (pa_cons pe_int (pa_cons pe_bl pa_nil))))) (pa_cons (pe_lst (pa_cons pe_int (pa_cons (pe_un un_neg pe_int) (pa_cons pe_int (pa_cons pe_non pa_nil))))) pa_nil)))) (pg_name (i := 3) sc__law_wrong_span.nd rfl (by first | exact Or.inl rfl | exact Or.inr rfl))) (pss_cons (ps_asg (pe_ix (show IxR _ (rIx K) from Ow.ixU) (pe_ix (show IxR _ (rIx K) from Ow.ixU) (pv 3) (pv 2) (fun _ _ => rfl)) (Ow.pe_caX G__law_draw hr (by first | decide | omega) (by rfl) hpx (pa_cons (pv 0) (pa_cons pe_int pa_nil))) (fun _ _ => rfl)) (pg_name (i := 4) sc__law_wrong_span.nd rfl (by first | exact Or.inl rfl | exact Or.inr rfl))) (pss_one (ps_ret (pe_ix (show IxR _ (rIx K) from Ow.ixU) (pe_lst (pa_cons (pe_op (show OpR _ _ (Ow.rAddU K) from Ow.opU_add) (pe_op (show OpR _ _ (Ow.rAddU K) from Ow.opU_add) (pe_slice (show SlR _ (Ow.rSlU K) from Ow.slU) (pv 1) po_none (po_some (pv 2))) (pe_tup (pa_cons (pv 4) pa_nil))) (pe_slice (show SlR _ (Ow.rSlU K) from Ow.slU) (pv 1) (po_some (pe_op (show OpR _ _ (Ow.rAddU K) from Ow.opU_add) (pv 2) pe_int)) po_none)) (pa_cons (pe_slice (show SlR _ (Ow.rSlU K) from Ow.slU) (pv 1) po_none (po_some pe_int)) (pa_cons (pe_op (show OpR _ _ (Ow.rAddU K) from Ow.opU_add) (pv 1) (pe_tup (pa_cons pe_int pa_nil))) (pa_cons pe_non (pa_cons (pe_tup pa_nil) (pa_cons pe_int pa_nil))))))) (pe_callB (show CallR _ _ rMnI from call_min2 (by rfl)) (by rfl) T.b_min (by decide +kernel) (pa_cons pe_int (pa_cons (Ow.pe_caX G__law_draw hr (by first | decide | omega) (by rfl) hpx (pa_cons (pv 0) (pa_cons pe_int pa_nil))) pa_nil))) (fun _ _ => rfl)))))))), (ss_seq (ss_asg (se_ca hx (sa_cons se_var (sa_cons se_int sa_nil))) sg_name) (ss_seq (ss_asg (se_lst (sa_cons (se_lst (sa_cons se_int (sa_cons (se_un s1_neg se_int) (sa_cons se_bl (sa_cons se_non sa_nil))))) (sa_cons (se_lst (sa_cons se_int (sa_cons (se_un s1_neg se_int) (sa_cons (se_str (by decide +kernel)) (sa_cons se_bl sa_nil))))) (sa_cons (se_lst (sa_cons (se_un s1_neg se_int) (sa_cons se_int (sa_cons se_bl (sa_cons se_non sa_nil))))) sa_nil)))) sg_name) (ss_seq (ss_asg (se_op s2_add se_var (se_lst (sa_cons (se_lst (sa_cons se_int (sa_cons (se_un s1_neg se_int) (sa_cons se_int (sa_cons se_bl sa_nil))))) (sa_cons (se_lst (sa_cons se_int (sa_cons (se_un s1_neg se_int) (sa_cons se_int (sa_cons se_non sa_nil))))) sa_nil)))) sg_name) (ss_seq (ss_asg (se_op s2_ix (se_op s2_ix se_var se_var) (se_ca hx (sa_cons se_var (sa_cons se_int sa_nil)))) sg_name) (ss_ret (se_op s2_ix (se_lst (sa_cons (se_op s2_add (se_op s2_add (se_sl se_var so_none (so_some se_var)) (se_tup (sa_cons se_var sa_nil))) (se_sl se_var (so_some (se_op s2_add se_var se_int)) so_none)) (sa_cons (se_sl se_var so_none (so_some se_int)) (sa_cons (se_op s2_add se_var (se_tup (sa_cons se_int sa_nil))) (sa_cons se_non (sa_cons (se_tup sa_nil) (sa_cons se_int sa_nil))))))) (se_cb sl_min (sa_cons se_int (sa_cons (se_ca hx (sa_cons se_var (sa_cons se_int sa_nil))) sa_nil))))))))), fun ds S Qd h => (shut_of h).2⟩
noncomputable def B__law_due (a : Ad) (Ed : XD) : DS :=
  (sSeq (sAsg (eMe a.C_Notary nm_Notary (F_Notary_parts_of a) Ed (eVar 0) (aCons (eOp dIx (eVar 1) (eC (.int 4))) aNil)) (xName 2))
  (sSeq (sIf (tOr' (tV (eOp dEq (eOp dIx (eVar 1) (eC (.int 0))) (eC (.int 0)))) (tOr' (tV (eOp (dIsN false) (eVar 2) (eC .non))) (tV (eOp dNe (eOp dIx (eVar 2) (eC (.int 0))) (eC (.str "join"))))))
  (sRet (eC .non))
  sNext)
  (sSeq (sAsg (eMe a.C_Notary nm_Notary (F_Notary_parts_of a) Ed (eVar 0) (aCons (eOp dIx (eVar 2) (eC (.int 1))) aNil)) (xName 3))
  (sSeq (sIf (tOr' (tV (eOp (dIsN false) (eVar 3) (eC .non))) (tV (eOp (dIn true) (eOp dIx (eVar 3) (eC (.int 0))) (eLst (aCons (eC (.str "step")) (aCons (eC (.str "join")) aNil))))))
  (sRet (eC .non))
  sNext)
  (sSeq (sAsg (eMe a.C_Notary nm_Notary (F_Notary_find a) Ed (eVar 0) (aCons (eTup (aCons (eC (.str "behind")) (aCons (eOp dIx (eVar 1) (eC (.int 2))) (aCons (eOp dIx (eVar 2) (eC (.int 1))) aNil)))) aNil)) (xName 4))
  (sSeq (sIf (tV (eOp dEq (eVar 4) (eC (.int 0))))
  (sRet (eC .non))
  sNext)
  (sSeq (sAsg (eOp dIx (eLst (aCons (eC (.int 1)) (aCons (eC (.int 2)) (aCons (eC (.int 4)) (aCons (eC (.int 8)) aNil))))) (eOp dSub (eOp dIx (eVar 1) (eC (.int 0))) (eC (.int 1)))) (xName 5))
  (sSeq (sAsg (eTup (aCons (eOp dSub (eOp dIx (eVar 1) (eC (.int 0))) (eC (.int 1))) (aCons (eOp dIx (eVar 1) (eC (.int 1))) (aCons (eOp dIx (eVar 1) (eC (.int 2))) (aCons (eOp dIx (eVar 1) (eC (.int 3))) (aCons (eOp dIx (eVar 2) (eC (.int 1))) aNil)))))) (xName 6))
  (sRet (eTup (aCons (eVar 6) (aCons (eTup (aCons (eOp dSub (eOp dIx (eVar 1) (eC (.int 0))) (eC (.int 1))) (aCons (eOp dAdd (eOp dIx (eVar 1) (eC (.int 1))) (eVar 5)) (aCons (eVar 4) (aCons (eOp dIx (eVar 3) (eUn dNeg (eC (.int 1)))) (aCons (eOp dIx (eVar 2) (eC (.int 2))) aNil)))))) aNil))))))))))))
noncomputable def F__law_due (a : Ad) : WF := shut fun ds S Q Ed => ds.length = 2 ∧ B__law_due a Ed { nx := fun _ S' => Q .non S', rt := Q } (dstart N__law_due ds) S
theorem ok__law_due {f : Addr} {fd : FuncData} (Fm : Fun K "_law_due" "_law_due" s__law_due f fd) (T : TX K mg w a) (G_Notary_parts_of : Ow.Me P w K mg base 1 a.C_Notary "parts_of" (spD K (tabs a) (F_Notary_parts_of a))) (G_Notary_find : Ow.Me P w K mg base 5 a.C_Notary "find" (spD K (tabs a) (F_Notary_find a))) : FnOk P w K mg base (L2.CX P w) 6 f fd ["notary", "span"] (spD K (tabs a) (F__law_due a)) := by
  refine def_ok (k := 5) Fm sc__law_due (fun ds S Q E h => (shut_of h).1) fun scr ns Ne Ed E cdv A outer s H hr hx => ?_
  have hpx : Passes (L2.CX P w) (cxOf (L2.CX P w) P w K mg base N__law_due "_law_due" (defScope s__law_due) f cdv A outer s H E) E := passes_call (takes_of rfl rfl rfl rfl) (fun _ _ _ _ z => z)
  exact ⟨_, B__law_due a Ed, (pss_cons (ps_asg (Ow.pe_meX G_Notary_parts_of hr (by first | decide | omega) (pv 0) hpx (pa_cons (pe_ix (show IxR _ (rIx K) from Ow.ixU) (pv 1) pe_int (fun _ _ => rfl)) pa_nil)) (pg_name (i := 2) sc__law_due.nd rfl (by first | exact Or.inl rfl | exact Or.inr rfl))) (pss_cons (ps_if (PW.pt (pw_or (pt_cmpR (show OpR _ _ (Ow.rEqU K) from Ow.opU_eq hr.units) (pe_ix (show IxR _ (rIx K) from Ow.ixU) (pv 1) pe_int (fun _ _ => rfl)) pe_int (nomark _)) (pw_or (pt_cmpR op_isN (pv 2) pe_non (nomark _)) (pw_or1 (pt_cmpR (show OpR _ _ (Ow.rNeU K) from Ow.opU_ne hr.units) (pe_ix (show IxR _ (rIx K) from Ow.ixU) (pv 2) pe_int (fun _ _ => rfl)) pe_str (nomark _)))))) (pss_one (ps_ret pe_non)) pss_nil) (pss_cons (ps_asg (Ow.pe_meX G_Notary_parts_of hr (by first | decide | omega) (pv 0) hpx (pa_cons (pe_ix (show IxR _ (rIx K) from Ow.ixU) (pv 2) pe_int (fun _ _ => rfl)) pa_nil)) (pg_name (i := 3) sc__law_due.nd rfl (by first | exact Or.inl rfl | exact Or.inr rfl))) (pss_cons (ps_if (PW.pt (pw_or (pt_cmpR op_isN (pv 3) pe_non (nomark _)) (pw_or1 (pt_cmpR (show OpR _ _ (rNotInV K) from opV_notin (Ow.hu65 hr)) (pe_ix (show IxR _ (rIx K) from Ow.ixU) (pv 3) pe_int (fun _ _ => rfl)) (pe_lst (pa_cons pe_str (pa_cons pe_str pa_nil))) (by rfl))))) (pss_one (ps_ret pe_non)) pss_nil) (pss_cons (ps_asg (Ow.pe_meX G_Notary_find hr (by first | decide | omega) (pv 0) hpx (pa_cons (pe_tup (pa_cons pe_str (pa_cons (pe_ix (show IxR _ (rIx K) from Ow.ixU) (pv 1) pe_int (fun _ _ => rfl)) (pa_cons (pe_ix (show IxR _ (rIx K) from Ow.ixU) (pv 2) pe_int (fun _ _ => rfl)) pa_nil)))) pa_nil)) (pg_name (i := 4) sc__law_due.nd rfl (by first | exact Or.inl rfl | exact Or.inr rfl))) (pss_cons (ps_if (pt_cmpR (show OpR _ _ (Ow.rEqU K) from Ow.opU_eq hr.units) (pv 4) pe_int (nomark _)) (pss_one (ps_ret pe_non)) pss_nil) (pss_cons (ps_asg (pe_ix (show IxR _ (rIx K) from Ow.ixU) (pe_lst (pa_cons pe_int (pa_cons pe_int (pa_cons pe_int (pa_cons pe_int pa_nil))))) (pe_op op_sub (pe_ix (show IxR _ (rIx K) from Ow.ixU) (pv 1) pe_int (fun _ _ => rfl)) pe_int) (fun _ _ => rfl)) (pg_name (i := 5) sc__law_due.nd rfl (by first | exact Or.inl rfl | exact Or.inr rfl))) (pss_cons (ps_asg (pe_tup (pa_cons (pe_op op_sub (pe_ix (show IxR _ (rIx K) from Ow.ixU) (pv 1) pe_int (fun _ _ => rfl)) pe_int) (pa_cons (pe_ix (show IxR _ (rIx K) from Ow.ixU) (pv 1) pe_int (fun _ _ => rfl)) (pa_cons (pe_ix (show IxR _ (rIx K) from Ow.ixU) (pv 1) pe_int (fun _ _ => rfl)) (pa_cons (pe_ix (show IxR _ (rIx K) from Ow.ixU) (pv 1) pe_int (fun _ _ => rfl)) (pa_cons (pe_ix (show IxR _ (rIx K) from Ow.ixU) (pv 2) pe_int (fun _ _ => rfl)) pa_nil)))))) (pg_name (i := 6) sc__law_due.nd rfl (by first | exact Or.inl rfl | exact Or.inr rfl))) (pss_one (ps_ret (pe_tup (pa_cons (pv 6) (pa_cons (pe_tup (pa_cons (pe_op op_sub (pe_ix (show IxR _ (rIx K) from Ow.ixU) (pv 1) pe_int (fun _ _ => rfl)) pe_int) (pa_cons (pe_op (show OpR _ _ (Ow.rAddU K) from Ow.opU_add) (pe_ix (show IxR _ (rIx K) from Ow.ixU) (pv 1) pe_int (fun _ _ => rfl)) (pv 5)) (pa_cons (pv 4) (pa_cons (pe_ix (show IxR _ (rIx K) from Ow.ixU) (pv 3) (pe_un un_neg pe_int) (fun _ _ => rfl)) (pa_cons (pe_ix (show IxR _ (rIx K) from Ow.ixU) (pv 2) pe_int (fun _ _ => rfl)) pa_nil)))))) pa_nil))))))))))))), (ss_seq (ss_asg (se_me fm_Notary_parts_of hx se_var (sa_cons (se_op s2_ix se_var se_int) sa_nil)) sg_name) (ss_seq (ss_if (st_or (st_test (se_op s2_eq (se_op s2_ix se_var se_int) se_int)) (st_or (st_test (se_op s2_isN se_var se_non)) (st_test (se_op s2_ne (se_op s2_ix se_var se_int) (se_str (by decide +kernel)))))) (ss_ret se_non) ss_next) (ss_seq (ss_asg (se_me fm_Notary_parts_of hx se_var (sa_cons (se_op s2_ix se_var se_int) sa_nil)) sg_name) (ss_seq (ss_if (st_or (st_test (se_op s2_isN se_var se_non)) (st_test (se_op s2_notin (se_op s2_ix se_var se_int) (se_lst (sa_cons (se_str (by decide +kernel)) (sa_cons (se_str (by decide +kernel)) sa_nil)))))) (ss_ret se_non) ss_next) (ss_seq (ss_asg (se_me fm_Notary_find hx se_var (sa_cons (se_tup (sa_cons (se_str (by decide +kernel)) (sa_cons (se_op s2_ix se_var se_int) (sa_cons (se_op s2_ix se_var se_int) sa_nil)))) sa_nil)) sg_name) (ss_seq (ss_if (st_test (se_op s2_eq se_var se_int)) (ss_ret se_non) ss_next) (ss_seq (ss_asg (se_op s2_ix (se_lst (sa_cons se_int (sa_cons se_int (sa_cons se_int (sa_cons se_int sa_nil))))) (se_op s2_sub (se_op s2_ix se_var se_int) se_int)) sg_name) (ss_seq (ss_asg (se_tup (sa_cons (se_op s2_sub (se_op s2_ix se_var se_int) se_int) (sa_cons (se_op s2_ix se_var se_int) (sa_cons (se_op s2_ix se_var se_int) (sa_cons (se_op s2_ix se_var se_int) (sa_cons (se_op s2_ix se_var se_int) sa_nil)))))) sg_name) (ss_ret (se_tup (sa_cons se_var (sa_cons (se_tup (sa_cons (se_op s2_sub (se_op s2_ix se_var se_int) se_int) (sa_cons (se_op s2_add (se_op s2_ix se_var se_int) se_var) (sa_cons se_var (sa_cons (se_op s2_ix se_var (se_un s1_neg se_int)) (sa_cons (se_op s2_ix se_var se_int) sa_nil)))))) sa_nil)))))))))))), fun ds S Qd h => (shut_of h).2⟩
noncomputable def B_law (a : Ad) (Ed : XD) : DS :=
  (sSeq (sAsg (eCa (F__law_box a) Ed (aCons (eVar 0) (aCons (eC (.int 0)) aNil))) (xName 1))
  (sSeq (sAsg (eMa a.C_Notary nm_Notary (F_Notary___init__ a) xF aNil) (xName 2))
  (sSeq (sAsg (eCa (F__law_draw a) Ed (aCons (eVar 1) (aCons (eC (.int 5)) aNil))) (xName 3))
  (sSeq (sAsg (eOp dIx (eLst (aCons (eC (.int 1)) (aCons (eC (.int 2)) (aCons (eC (.int 4)) (aCons (eC (.int 8)) (aCons (eC (.int 16)) aNil)))))) (eVar 3)) (xName 4))
  (sSeq (sAsg (eOp dAdd (eC (.int 1)) (eCa (F__law_draw a) Ed (aCons (eVar 1) (aCons (eC (.int 9)) aNil)))) (xName 5))
  (sSeq (sAsg (eTup (aCons (eC (.int 3)) (aCons (eC (.int 5)) (aCons (eC (.int 4)) (aCons (eC (.int 0)) (aCons (eVar 5) (aCons (eVar 3) aNil))))))) (xName 6))
  (sSeq (sAsg (eCa (F_history_of a) Ed (aCons (eVar 2) (aCons (eCB dTuple (aCons (eLc (iR1 (aCons (eVar 4) aNil)) (xName 16) tYes' (eOp dAdd (eC (.int 1)) (eCa (F__law_draw a) xF (aCons (eVar 1) (aCons (eC (.int 9)) aNil)))) [16]) aNil)) aNil))) (xName 7))
  (sSeq (sAsg (eCa (F_root_span a) Ed (aCons (eVar 6) (aCons (eVar 7) aNil))) (xName 8))
  (sSeq (sIf (tNot' (tV (eCa (F__law_same a 8) Ed (aCons (eVar 8) (aCons (eTup (aCons (eVar 3) (aCons (eC (.int 0)) (aCons (eC (.int 0)) (aCons (eVar 5) (aCons (eVar 7) aNil)))))) aNil)))))
  (sRet (eC (.bl false)))
  sNext)
  (sSeq (sFor (iR1 (aCons (eC (.int 6)) aNil)) (xName 9)
  (sSeq (sIf (tOr' (tV (eOp (dIsB true) (eCa (F_is_span a) Ed (aCons (eVar 8) aNil)) (eC (.bl true)))) (tV (eOp (dIsB true) (eCa (F_is_span a) Ed (aCons (eCa (F__law_wrong_span a) Ed (aCons (eVar 1) (aCons (eVar 8) aNil))) aNil)) (eC (.bl false)))))
  (sRet (eC (.bl false)))
  sNext)
  (sSeq (sAsg (eCa (F__law_draw a) Ed (aCons (eVar 1) (aCons (eC (.int 5)) aNil))) (xName 10))
  (sSeq (sAsg (eOp dAdd (eOp dAdd (eSl (eVar 8) oNone (oSome (eVar 10))) (eTup (aCons (eOp dAdd (eOp dIx (eVar 8) (eVar 10)) (eC (.int 1))) aNil))) (eSl (eVar 8) (oSome (eOp dAdd (eVar 10) (eC (.int 1)))) oNone)) (xName 11))
  (sSeq (sIf (tOr' (tNot' (tV (eCa (F__law_same a 8) Ed (aCons (eCa (F_are_rivals a) Ed (aCons (eVar 8) (aCons (eVar 11) aNil))) (aCons (eOp dEq (eVar 10) (eC (.int 4))) aNil))))) (tNot' (tV (eCa (F__law_same a 8) Ed (aCons (eCa (F_are_rivals a) Ed (aCons (eVar 11) (aCons (eVar 8) aNil))) (aCons (eOp dEq (eVar 10) (eC (.int 4))) aNil))))))
  (sRet (eC (.bl false)))
  sNext)
  (sSeq (sIf (tV (eOp (dIsB true) (eCa (F_are_rivals a) Ed (aCons (eVar 8) (aCons (eVar 8) aNil))) (eC (.bl false))))
  (sRet (eC (.bl false)))
  sNext)
  (sSeq (sAsg (eMe a.C_Notary nm_Notary (F_Notary_parts_of a) Ed (eVar 2) (aCons (eOp dIx (eVar 8) (eC (.int 4))) aNil)) (xName 12))
  (sSeq (sIf (tAnd' (tV (eOp (dIsN true) (eVar 12) (eC .non))) (tAnd' (tV (eOp dEq (eOp dIx (eVar 12) (eC (.int 0))) (eC (.str "join")))) (tV (eOp dGt (eCa (F__law_draw a) Ed (aCons (eVar 1) (aCons (eC (.int 4)) aNil))) (eC (.int 0))))))
  (sDrop (eMe a.C_Notary nm_Notary (F_Notary_seal a) Ed (eVar 2) (aCons (eTup (aCons (eC (.str "behind")) (aCons (eOp dIx (eVar 8) (eC (.int 2))) (aCons (eOp dIx (eVar 12) (eC (.int 1))) aNil)))) aNil)))
  sNext)
  (sSeq (sAsg (eMe a.C_Notary nm_Notary (F_Notary_size a) xF (eVar 2) aNil) (xName 13))
  (sSeq (sAsg (eCa (F_halves_of a) Ed (aCons (eVar 2) (aCons (eVar 8) aNil))) (xName 14))
  (sSeq (sIf (tOr' (tNot' (tV (eCa (F__law_same a 8) Ed (aCons (eVar 14) (aCons (eCa (F__law_due a) Ed (aCons (eVar 2) (aCons (eVar 8) aNil))) aNil))))) (tV (eOp dNe (eMe a.C_Notary nm_Notary (F_Notary_size a) xF (eVar 2) aNil) (eVar 13))))
  (sRet (eC (.bl false)))
  sNext)
  (sSeq (sIf (tV (eOp (dIsN false) (eVar 14) (eC .non)))
  (sSeq (sAsg (eOp dAdd (eSl (eVar 8) oNone (oSome (eC (.int 4)))) (eTup (aCons (eOp dAdd (eMe a.C_Notary nm_Notary (F_Notary_size a) xF (eVar 2) aNil) (eC (.int 3))) aNil))) (xName 15))
  (sRet (eOp (dIsN false) (eCa (F_halves_of a) Ed (aCons (eVar 2) (aCons (eVar 15) aNil))) (eC .non))))
  sNext)
  (sAsg (eOp dIx (eVar 14) (eCa (F__law_draw a) Ed (aCons (eVar 1) (aCons (eC (.int 2)) aNil)))) (xName 8))))))))))))))
  (sRet (eC (.bl true)))))))))))))
noncomputable def F_law (a : Ad) : WF := shut fun ds S Q Ed => ds.length = 1 ∧ B_law a Ed { nx := fun _ S' => Q .non S', rt := Q } (dstart N_law ds) S
theorem ok_law {f : Addr} {fd : FuncData} (Fm : Fun K "law" "law" s_law f fd) (T : TX K mg w a) (G__law_box : Ow.Ca P w K mg base 1 "_law_box" (spD K (tabs a) (F__law_box a))) (G_Notary___init__ : Ow.Ma P w K mg base 1 "Notary" a.C_Notary (spD K (tabs a) (F_Notary___init__ a))) (G__law_draw : Ow.Ca P w K mg base 2 "_law_draw" (spD K (tabs a) (F__law_draw a))) (G_history_of : Ow.Ca P w K mg base 7 "history_of" (spD K (tabs a) (F_history_of a))) (G_root_span : Ow.Ca P w K mg base 1 "root_span" (spD K (tabs a) (F_root_span a))) (G__law_same : Ow.Ca P w K mg base 9 "_law_same" (spD K (tabs a) (F__law_same a 8))) (G_is_span : Ow.Ca P w K mg base 3 "is_span" (spD K (tabs a) (F_is_span a))) (G__law_wrong_span : Ow.Ca P w K mg base 3 "_law_wrong_span" (spD K (tabs a) (F__law_wrong_span a))) (G_are_rivals : Ow.Ca P w K mg base 1 "are_rivals" (spD K (tabs a) (F_are_rivals a))) (G_Notary_parts_of : Ow.Me P w K mg base 1 a.C_Notary "parts_of" (spD K (tabs a) (F_Notary_parts_of a))) (G_Notary_seal : Ow.Me P w K mg base 5 a.C_Notary "seal" (spD K (tabs a) (F_Notary_seal a))) (G_Notary_size : Ow.Me P w K mg base 1 a.C_Notary "size" (spD K (tabs a) (F_Notary_size a))) (G_halves_of : Ow.Ca P w K mg base 7 "halves_of" (spD K (tabs a) (F_halves_of a))) (G__law_due : Ow.Ca P w K mg base 6 "_law_due" (spD K (tabs a) (F__law_due a))) : FnOk P w K mg base (L2.CX P w) 10 f fd ["script"] (spD K (tabs a) (F_law a)) := by
  refine def_ok (k := 9) Fm sc_law (fun ds S Q E h => (shut_of h).1) fun scr ns Ne Ed E cdv A outer s H hr hx => ?_
  have hpx : Passes (L2.CX P w) (cxOf (L2.CX P w) P w K mg base N_law "law" (defScope s_law) f cdv A outer s H E) E := passes_call (takes_of rfl rfl rfl rfl) (fun _ _ _ _ z => z)
  exact ⟨_, B_law a Ed, (pss_cons (ps_asg (Ow.pe_caX G__law_box hr (by first | decide | omega) (by rfl) hpx (pa_cons (pv 0) (pa_cons pe_int pa_nil))) (pg_name (i := 1) sc_law.nd rfl (by first | exact Or.inl rfl | exact Or.inr rfl))) (pss_cons (ps_asg (Ow.pe_ma0 G_Notary___init__ hr (by first | decide | omega) (by rfl)) (pg_name (i := 2) sc_law.nd rfl (by first | exact Or.inl rfl | exact Or.inr rfl))) (pss_cons (ps_asg (Ow.pe_caX G__law_draw hr (by first | decide | omega) (by rfl) hpx (pa_cons (pv 1) (pa_cons pe_int pa_nil))) (pg_name (i := 3) sc_law.nd rfl (by first | exact Or.inl rfl | exact Or.inr rfl))) (pss_cons (ps_asg (pe_ix (show IxR _ (rIx K) from Ow.ixU) (pe_lst (pa_cons pe_int (pa_cons pe_int (pa_cons pe_int (pa_cons pe_int (pa_cons pe_int pa_nil)))))) (pv 3) (fun _ _ => rfl)) (pg_name (i := 4) sc_law.nd rfl (by first | exact Or.inl rfl | exact Or.inr rfl))) (pss_cons (ps_asg (pe_op (show OpR _ _ (Ow.rAddU K) from Ow.opU_add) pe_int (Ow.pe_caX G__law_draw hr (by first | decide | omega) (by rfl) hpx (pa_cons (pv 1) (pa_cons pe_int pa_nil)))) (pg_name (i := 5) sc_law.nd rfl (by first | exact Or.inl rfl | exact Or.inr rfl))) (pss_cons (ps_asg (pe_tup (pa_cons pe_int (pa_cons pe_int (pa_cons pe_int (pa_cons pe_int (pa_cons (pv 5) (pa_cons (pv 3) pa_nil))))))) (pg_name (i := 6) sc_law.nd rfl (by first | exact Or.inl rfl | exact Or.inr rfl))) (pss_cons (ps_asg (Ow.pe_caX G_history_of hr (by first | decide | omega) (by rfl) hpx (pa_cons (pv 2) (pa_cons (pe_callTy (show CallR _ _ (Ow.rTupleU K) from Ow.tupleU) (by rfl) T.b_tuple (by decide +kernel) (pa_cons (pe_lc (own := [("k", 16)]) (by rfl) sc_law.nd (pi_range1 (by rfl) T.b_range (pa_cons (pv 4) pa_nil)) (blkOk_by (own := [("k", 16)]) (N := N_law) (sc := defScope s_law) (by decide +kernel)) (fun _ _ _ _ _ => (pg_name (i := 16) sc_law.nd rfl (by first | exact Or.inl rfl | exact Or.inr rfl))) (fun _ _ _ _ _ => pts_nil) (fun _ _ _ _ _ => (pe_op (show OpR _ _ (Ow.rAddU K) from Ow.opU_add) pe_int (Ow.pe_ca G__law_draw hr (by first | decide | omega) (by rfl) (pa_cons (pv 1) (pa_cons pe_int pa_nil)))))) pa_nil)) pa_nil))) (pg_name (i := 7) sc_law.nd rfl (by first | exact Or.inl rfl | exact Or.inr rfl))) (pss_cons (ps_asg (Ow.pe_caX G_root_span hr (by first | decide | omega) (by rfl) hpx (pa_cons (pv 6) (pa_cons (pv 7) pa_nil))) (pg_name (i := 8) sc_law.nd rfl (by first | exact Or.inl rfl | exact Or.inr rfl))) (pss_cons (ps_if (pt_not (pt_val (Ow.pe_caX G__law_same hr (by first | decide | omega) (by rfl) hpx (pa_cons (pv 8) (pa_cons (pe_tup (pa_cons (pv 3) (pa_cons pe_int (pa_cons pe_int (pa_cons (pv 5) (pa_cons (pv 7) pa_nil)))))) pa_nil))))) (pss_one (ps_ret pe_bl)) pss_nil) (pss_cons (ps_for (passes_of rfl) rfl (pi_range1 (by rfl) T.b_range (pa_cons pe_int pa_nil)) (pg_name (i := 9) sc_law.nd rfl (by first | exact Or.inl rfl | exact Or.inr rfl)) (pss_cons (ps_if (PW.pt (pw_or (pt_cmpR op_isnot_bl (Ow.pe_caX G_is_span hr (by first | decide | omega) (by rfl) hpx (pa_cons (pv 8) pa_nil)) pe_bl (nomark _)) (pw_or1 (pt_cmpR op_isnot_bl (Ow.pe_caX G_is_span hr (by first | decide | omega) (by rfl) hpx (pa_cons (Ow.pe_caX G__law_wrong_span hr (by first | decide | omega) (by rfl) hpx (pa_cons (pv 1) (pa_cons (pv 8) pa_nil))) pa_nil)) pe_bl (nomark _))))) (pss_one (ps_ret pe_bl)) pss_nil) (pss_cons (ps_asg (Ow.pe_caX G__law_draw hr (by first | decide | omega) (by rfl) hpx (pa_cons (pv 1) (pa_cons pe_int pa_nil))) (pg_name (i := 10) sc_law.nd rfl (by first | exact Or.inl rfl | exact Or.inr rfl))) (pss_cons (ps_asg (pe_op (show OpR _ _ (Ow.rAddU K) from Ow.opU_add) (pe_op (show OpR _ _ (Ow.rAddU K) from Ow.opU_add) (pe_slice (show SlR _ (Ow.rSlU K) from Ow.slU) (pv 8) po_none (po_some (pv 10))) (pe_tup (pa_cons (pe_op (show OpR _ _ (Ow.rAddU K) from Ow.opU_add) (pe_ix (show IxR _ (rIx K) from Ow.ixU) (pv 8) (pv 10) (fun _ _ => rfl)) pe_int) pa_nil))) (pe_slice (show SlR _ (Ow.rSlU K) from Ow.slU) (pv 8) (po_some (pe_op (show OpR _ _ (Ow.rAddU K) from Ow.opU_add) (pv 10) pe_int)) po_none)) (pg_name (i := 11) sc_law.nd rfl (by first | exact Or.inl rfl | exact Or.inr rfl))) (pss_cons (ps_if (PW.pt (pw_or (pt_not (pt_val (Ow.pe_caX G__law_same hr (by first | decide | omega) (by rfl) hpx (pa_cons (Ow.pe_caX G_are_rivals hr (by first | decide | omega) (by rfl) hpx (pa_cons (pv 8) (pa_cons (pv 11) pa_nil))) (pa_cons (pe_cmpR (show OpR _ _ (Ow.rEqU K) from Ow.opU_eq hr.units) (pv 10) pe_int (nomark _)) pa_nil))))) (pw_or1 (pt_not (pt_val (Ow.pe_caX G__law_same hr (by first | decide | omega) (by rfl) hpx (pa_cons (Ow.pe_caX G_are_rivals hr (by first | decide | omega) (by rfl) hpx (pa_cons (pv 11) (pa_cons (pv 8) pa_nil))) (pa_cons (pe_cmpR (show OpR _ _ (Ow.rEqU K) from Ow.opU_eq hr.units) (pv 10) pe_int (nomark _)) pa_nil)))))))) (pss_one (ps_ret pe_bl)) pss_nil) (pss_cons (ps_if (pt_cmpR op_isnot_bl (Ow.pe_caX G_are_rivals hr (by first | decide | omega) (by rfl) hpx (pa_cons (pv 8) (pa_cons (pv 8) pa_nil))) pe_bl (nomark _)) (pss_one (ps_ret pe_bl)) pss_nil) (pss_cons (ps_asg (Ow.pe_meX G_Notary_parts_of hr (by first | decide | omega) (pv 2) hpx (pa_cons (pe_ix (show IxR _ (rIx K) from Ow.ixU) (pv 8) pe_int (fun _ _ => rfl)) pa_nil)) (pg_name (i := 12) sc_law.nd rfl (by first | exact Or.inl rfl | exact Or.inr rfl))) (pss_cons (ps_if (PW.pt (pw_and (pt_cmpR op_notN (pv 12) pe_non (nomark _)) (pw_and (pt_cmpR (show OpR _ _ (Ow.rEqU K) from Ow.opU_eq hr.units) (pe_ix (show IxR _ (rIx K) from Ow.ixU) (pv 12) pe_int (fun _ _ => rfl)) pe_str (nomark _)) (pw_and1 (pt_cmpR opV_gt (Ow.pe_caX G__law_draw hr (by first | decide | omega) (by rfl) hpx (pa_cons (pv 1) (pa_cons pe_int pa_nil))) pe_int (nomark _)))))) (pss_one (ps_expr (Ow.pe_meX G_Notary_seal hr (by first | decide | omega) (pv 2) hpx (pa_cons (pe_tup (pa_cons pe_str (pa_cons (pe_ix (show IxR _ (rIx K) from Ow.ixU) (pv 8) pe_int (fun _ _ => rfl)) (pa_cons (pe_ix (show IxR _ (rIx K) from Ow.ixU) (pv 12) pe_int (fun _ _ => rfl)) pa_nil)))) pa_nil)))) pss_nil) (pss_cons (ps_asg (Ow.pe_me0 G_Notary_size hr (by first | decide | omega) (pv 2)) (pg_name (i := 13) sc_law.nd rfl (by first | exact Or.inl rfl | exact Or.inr rfl))) (pss_cons (ps_asg (Ow.pe_caX G_halves_of hr (by first | decide | omega) (by rfl) hpx (pa_cons (pv 2) (pa_cons (pv 8) pa_nil))) (pg_name (i := 14) sc_law.nd rfl (by first | exact Or.inl rfl | exact Or.inr rfl))) (pss_cons (ps_if (PW.pt (pw_or (pt_not (pt_val (Ow.pe_caX G__law_same hr (by first | decide | omega) (by rfl) hpx (pa_cons (pv 14) (pa_cons (Ow.pe_caX G__law_due hr (by first | decide | omega) (by rfl) hpx (pa_cons (pv 2) (pa_cons (pv 8) pa_nil))) pa_nil))))) (pw_or1 (pt_cmpR (show OpR _ _ (Ow.rNeU K) from Ow.opU_ne hr.units) (Ow.pe_me0 G_Notary_size hr (by first | decide | omega) (pv 2)) (pv 13) (nomark _))))) (pss_one (ps_ret pe_bl)) pss_nil) (pss_cons (ps_if (pt_cmpR op_isN (pv 14) pe_non (nomark _)) (pss_cons (ps_asg (pe_op (show OpR _ _ (Ow.rAddU K) from Ow.opU_add) (pe_slice (show SlR _ (Ow.rSlU K) from Ow.slU) (pv 8) po_none (po_some pe_int)) (pe_tup (pa_cons (pe_op (show OpR _ _ (Ow.rAddU K) from Ow.opU_add) (Ow.pe_me0 G_Notary_size hr (by first | decide | omega) (pv 2)) pe_int) pa_nil))) (pg_name (i := 15) sc_law.nd rfl (by first | exact Or.inl rfl | exact Or.inr rfl))) (pss_one (ps_ret (pe_cmpR op_isN (Ow.pe_caX G_halves_of hr (by first | decide | omega) (by rfl) hpx (pa_cons (pv 2) (pa_cons (pv 15) pa_nil))) pe_non (nomark _))))) pss_nil) (pss_one (ps_asg (pe_ix (show IxR _ (rIx K) from Ow.ixU) (pv 14) (Ow.pe_caX G__law_draw hr (by first | decide | omega) (by rfl) hpx (pa_cons (pv 1) (pa_cons pe_int pa_nil))) (fun _ _ => rfl)) (pg_name (i := 8) sc_law.nd rfl (by first | exact Or.inl rfl | exact Or.inr rfl)))))))))))))))) (pss_one (ps_ret pe_bl)))))))))))), (ss_seq (ss_asg (se_ca hx (sa_cons se_var (sa_cons se_int sa_nil))) sg_name) (ss_seq (ss_asg (se_ma nl_Notary xok_F sa_nil) sg_name) (ss_seq (ss_asg (se_ca hx (sa_cons se_var (sa_cons se_int sa_nil))) sg_name) (ss_seq (ss_asg (se_op s2_ix (se_lst (sa_cons se_int (sa_cons se_int (sa_cons se_int (sa_cons se_int (sa_cons se_int sa_nil)))))) se_var) sg_name) (ss_seq (ss_asg (se_op s2_add se_int (se_ca hx (sa_cons se_var (sa_cons se_int sa_nil)))) sg_name) (ss_seq (ss_asg (se_tup (sa_cons se_int (sa_cons se_int (sa_cons se_int (sa_cons se_int (sa_cons se_var (sa_cons se_var sa_nil))))))) sg_name) (ss_seq (ss_asg (se_ca hx (sa_cons se_var (sa_cons (se_cb sl_tuple (sa_cons (se_lc (si_r1 (sa_cons se_var sa_nil)) sg_name st_yes (se_op s2_add se_int (se_ca xok_F (sa_cons se_var (sa_cons se_int sa_nil)))) (by decide)) sa_nil)) sa_nil))) sg_name) (ss_seq (ss_asg (se_ca hx (sa_cons se_var (sa_cons se_var sa_nil))) sg_name) (ss_seq (ss_if (st_not (st_tB (se_ca hx (sa_cons se_var (sa_cons (se_tup (sa_cons se_var (sa_cons se_int (sa_cons se_int (sa_cons se_var (sa_cons se_var sa_nil)))))) sa_nil))))) (ss_ret se_bl) ss_next) (ss_seq (ss_for (si_r1 (sa_cons se_int sa_nil)) sg_name (ss_seq (ss_if (st_or (st_test (se_op s2_notB (se_ca hx (sa_cons se_var sa_nil)) se_bl)) (st_test (se_op s2_notB (se_ca hx (sa_cons (se_ca hx (sa_cons se_var (sa_cons se_var sa_nil))) sa_nil)) se_bl))) (ss_ret se_bl) ss_next) (ss_seq (ss_asg (se_ca hx (sa_cons se_var (sa_cons se_int sa_nil))) sg_name) (ss_seq (ss_asg (se_op s2_add (se_op s2_add (se_sl se_var so_none (so_some se_var)) (se_tup (sa_cons (se_op s2_add (se_op s2_ix se_var se_var) se_int) sa_nil))) (se_sl se_var (so_some (se_op s2_add se_var se_int)) so_none)) sg_name) (ss_seq (ss_if (st_or (st_not (st_tB (se_ca hx (sa_cons (se_ca hx (sa_cons se_var (sa_cons se_var sa_nil))) (sa_cons (se_op s2_eq se_var se_int) sa_nil))))) (st_not (st_tB (se_ca hx (sa_cons (se_ca hx (sa_cons se_var (sa_cons se_var sa_nil))) (sa_cons (se_op s2_eq se_var se_int) sa_nil)))))) (ss_ret se_bl) ss_next) (ss_seq (ss_if (st_test (se_op s2_notB (se_ca hx (sa_cons se_var (sa_cons se_var sa_nil))) se_bl)) (ss_ret se_bl) ss_next) (ss_seq (ss_asg (se_me fm_Notary_parts_of hx se_var (sa_cons (se_op s2_ix se_var se_int) sa_nil)) sg_name) (ss_seq (ss_if (st_and (st_test (se_op s2_notN se_var se_non)) (st_and (st_test (se_op s2_eq (se_op s2_ix se_var se_int) (se_str (by decide +kernel)))) (st_test (se_op s2_gt (se_ca hx (sa_cons se_var (sa_cons se_int sa_nil))) se_int)))) (ss_drop (se_me fm_Notary_seal hx se_var (sa_cons (se_tup (sa_cons (se_str (by decide +kernel)) (sa_cons (se_op s2_ix se_var se_int) (sa_cons (se_op s2_ix se_var se_int) sa_nil)))) sa_nil))) ss_next) (ss_seq (ss_asg (se_me fm_Notary_size xok_F se_var sa_nil) sg_name) (ss_seq (ss_asg (se_ca hx (sa_cons se_var (sa_cons se_var sa_nil))) sg_name) (ss_seq (ss_if (st_or (st_not (st_tB (se_ca hx (sa_cons se_var (sa_cons (se_ca hx (sa_cons se_var (sa_cons se_var sa_nil))) sa_nil))))) (st_test (se_op s2_ne (se_me fm_Notary_size xok_F se_var sa_nil) se_var))) (ss_ret se_bl) ss_next) (ss_seq (ss_if (st_test (se_op s2_isN se_var se_non)) (ss_seq (ss_asg (se_op s2_add (se_sl se_var so_none (so_some se_int)) (se_tup (sa_cons (se_op s2_add (se_me fm_Notary_size xok_F se_var sa_nil) se_int) sa_nil))) sg_name) (ss_ret (se_op s2_isN (se_ca hx (sa_cons se_var (sa_cons se_var sa_nil))) se_non))) ss_next) (ss_asg (se_op s2_ix se_var (se_ca hx (sa_cons se_var (sa_cons se_int sa_nil)))) sg_name))))))))))))) (ss_ret se_bl))))))))))), fun ds S Qd h => (shut_of h).2⟩
end
end Sd

set_option Elab.async false
set_option linter.all false
set_option maxRecDepth 100000
set_option maxHeartbeats 4000000
namespace Sd
open PySem PySem.Spec PyProof.Rows L2 GxR
local macro_rules | `(tactic| walk_at "dr") => `(tactic| try simp only [shut_eq, eVar, eC, eKIx, eKIn, eKGet2, eEvry, eTupG, iZip3D, dIsB, kLook_c, atI_c0, atI_c1, atI_c2, atI_c3, atI_c4, atI_c5, cut_t1, cut_t2, cut_t3, cut_t4, cut_t5, cut_d1, cut_d2, cut_d3, tk1, tk2, tk5, dp1, dp2,  eOp, eUn, asB, eAnd, eOr, eNot, eIf, eChain, tV, tAnd', tOr', tNot', aNil, aCons, eTup, eLst, eCB, eDK, eDT, dAdd, dI, dSub, dMod, dDiv, dXor, dShl, dShr, dMul, dCmp, dLe, dLt, dGe, dGt, dEq, dNe, dIn, dIsN, dIx_t, dIx_c, dIx_s, dIx_r, dIx_iD, dNeg, dLen_iD, dLen_s, dLen_t, dLen_c, dLen_r, dList, dTuple, dInt, dIsi, dAll, oNone, oSome, dSl, eSl,
  xName, xNil, xCons, xTup, xSub, sNext, sSeq, sBreak, sCont, sDrop, sRet, sRetN, sIf, sAsg, sAug, sFor, iL, iT, iS, iR1, iR2, iRev1, iRev2, tYes', eLc, eAll, dIAdd, dISub, eBM, eBM0, asRef, eDGet, eDGet1, eDGet2, eDIn, eDNotIn, sDPutD, sDDelD, eCa, eMe, eMa, eFld, sFldD, sFldAugD, setO, dAppend, dPopAt, isBl, isTr, List.length_set, List.lookup, Nat.reduceLT, Nat.reduceLeDiff, Nat.lt_irrefl, Nat.not_lt_zero, Nat.zero_le, Nat.le_refl, Nat.zero_lt_succ, Nat.lt_add_one, sRaise, eJoin, dJoin, F__law_draw, F__law_box, wDraw, wBox, br, Int.natCast_nonneg, Int.cast_ofNat_Int, Int.reduceEq, 
  dstart, List.map_cons, List.map_nil, List.length_cons, List.length_nil, List.replicate, List.cons_append, List.nil_append, List.append_nil, List.getElem?_cons_zero, List.getElem?_cons_succ, List.set_cons_zero, List.set_cons_succ, Nat.sub_self, Nat.reduceAdd, Nat.reduceSub, wipeD,
  dat_i, dat_s, dat_b, dat_n, dats_c, dats_e, eqD_ii, eqD_ss, eqD_bb, eqD_nn, eqD_is, eqD_si, isNon, unC_i, unC_s, unC_b, unC_n, unC_t, unC_c, flatD, List.all_cons, List.all_nil, List.any_cons, List.any_nil, decide_true, decide_false, List.mem_cons, tyD, isTy, tyKn, String.reduceBEq, Bool.or_true, Bool.true_or, Bool.or_false, Bool.false_or, Bool.and_true, Bool.true_and, Bool.and_false, Bool.false_and, Bool.or_self, Bool.and_self, true_and, and_true, true_implies, false_implies, forall_const, reduceCtorEq, Bool.true_eq_false, Bool.false_eq_true, if_true, if_false, ite_true, ite_false, Bool.not_true, Bool.not_false, implies_true, eq_self])
local macro_rules | `(tactic| walk_at "drn") => `(tactic| try simp only [shut_eq, eVar, eC, eKIx, eKIn, eKGet2, eEvry, eTupG, iZip3D, dIsB, kLook_c, atI_c0, atI_c1, atI_c2, atI_c3, atI_c4, atI_c5, cut_t1, cut_t2, cut_t3, cut_t4, cut_t5, cut_d1, cut_d2, cut_d3, tk1, tk2, tk5, dp1, dp2,  eOp, eUn, asB, eAnd, eOr, eNot, eIf, eChain, tV, tAnd', tOr', tNot', aNil, aCons, eTup, eLst, eCB, eDK, eDT, dAdd, dI, dSub, dMod, dDiv, dXor, dShl, dShr, dMul, dCmp, dLe, dLt, dGe, dGt, dEq, dNe, dIn, dIsN, dIx_t, dIx_c, dIx_s, dIx_r, dIx_iD, dNeg, dLen_iD, dLen_s, dLen_t, dLen_c, dLen_r, dList, dTuple, dInt, dIsi, dAll, oNone, oSome, dSl, eSl,
  xName, xNil, xCons, xTup, xSub, sNext, sSeq, NX_eq, sBreak, sCont, sDrop, sRet, sRetN, sIf, sAsg, sAug, sFor, iL, iT, iS, iR1, iR2, iRev1, iRev2, tYes', eLc, eAll, dIAdd, dISub, eBM, eBM0, asRef, eDGet, eDGet1, eDGet2, eDIn, eDNotIn, sDPutD, sDDelD, eCa, eMe, eMa, eFld, sFldD, sFldAugD, setO, dAppend, dPopAt, isBl, isTr, List.length_set, List.lookup, Nat.reduceLT, Nat.reduceLeDiff, Nat.lt_irrefl, Nat.not_lt_zero, Nat.zero_le, Nat.le_refl, Nat.zero_lt_succ, Nat.lt_add_one, sRaise, eJoin, dJoin, F__law_draw, F__law_box, wDraw, wBox, br, Int.natCast_nonneg, Int.cast_ofNat_Int, Int.reduceEq, 
  dstart, List.map_cons, List.map_nil, List.length_cons, List.length_nil, List.replicate, List.cons_append, List.nil_append, List.append_nil, List.getElem?_cons_zero, List.getElem?_cons_succ, List.set_cons_zero, List.set_cons_succ, Nat.sub_self, Nat.reduceAdd, Nat.reduceSub, wipeD,
  dat_i, dat_s, dat_b, dat_n, dats_c, dats_e, eqD_ii, eqD_ss, eqD_bb, eqD_nn, eqD_is, eqD_si, isNon, unC_i, unC_s, unC_b, unC_n, unC_t, unC_c, flatD, List.all_cons, List.all_nil, List.any_cons, List.any_nil, decide_true, decide_false, List.mem_cons, tyD, isTy, tyKn, String.reduceBEq, Bool.or_true, Bool.true_or, Bool.or_false, Bool.false_or, Bool.and_true, Bool.true_and, Bool.and_false, Bool.false_and, Bool.or_self, Bool.and_self, true_and, and_true, true_implies, false_implies, forall_const, reduceCtorEq, Bool.true_eq_false, Bool.false_eq_true, if_true, if_false, ite_true, ite_false, Bool.not_true, Bool.not_false, implies_true, eq_self])

/-! ### parts, by data -/
def numD (m : Int) : D → Bool
  | .int i => decide (0 ≤ i) && decide (i ≤ m)
  | _ => false
theorem w_is_number (a : Ad) {v : D} {m : Int} {S : Sto} {Q : DK} {Ed : XD} (hv : dat 60 v = true) : F_is_number a [v, .int m] S Q Ed = Q (.bl (numD m v)) S := by
  unfold F_is_number B_is_number
  cases v
  all_goals first | (simp [dat] at hv; done) | walk_at "drn"
  all_goals first | (simp [numD]; done) | skip
  rename_i i
  by_cases h : 0 ≤ i <;> simp [numD, h]
def signOk (d : D) : Bool := match d with | .str z => decide (z.cps.toList ≤ [126]) && decide ([32] ≤ z.cps.toList) | _ => false
def textD : D → Bool
  | .str x => decide (x.length ≤ 24) && x.cps.toList.all fun c => decide (32 ≤ c) && decide (c ≤ 126)
  | _ => false
theorem lt1 (a b : Nat) : decide (([a] : List Nat) < [b]) = decide (a < b) := by
  by_cases h : a < b
  · rw [decide_eq_true h, decide_eq_true]
    exact List.cons_lt_cons_iff.mpr (.inl h)
  · rw [decide_eq_false h, decide_eq_false]
    intro z
    rcases List.cons_lt_cons_iff.mp z with z | ⟨_, z⟩
    · exact h z
    · simp at z
theorem sLt_sp (c : Nat) : sLt ⟨#[c]⟩ (Str.ofString " ") = decide (c < 32) := lt1 c 32
theorem sLt_ti (c : Nat) : sLt (Str.ofString "~") ⟨#[c]⟩ = decide (126 < c) := lt1 126 c
theorem w__is_text (a : Ad) {v : D} {S : Sto} {Q : DK} {Ed : XD} (hv : dat 60 v = true) : F__is_text a [v] S Q Ed = Q (.bl (textD v)) S := by
  unfold F__is_text B__is_text
  cases v
  all_goals first | (simp [dat] at hv; done) | walk_at "drn"
  all_goals first | (simp [textD]; done) | skip
  rename_i x
  have key : ∀ R : Bool → Sto → Prop, allD (fun _ => True) (xName 1) (eChain dLe dLe (eC (.str " ")) (eVar 1) (eC (.str "~"))) [some (.str x), none] (signs x) S R = R (x.cps.toList.all fun c => decide (32 ≤ c) && decide (c ≤ 126)) S := by
    intro R
    rw [allD_eq (p := fun d => match d with | .str z => !sLt z " " && !sLt "~" z | _ => false) trivial]
    · congr 1
      unfold signs
      rw [List.all_map]
      congr 1
      funext c
      show (!sLt ⟨#[c]⟩ (Str.ofString " ") && !sLt (Str.ofString "~") ⟨#[c]⟩) = _
      rw [sLt_sp, sLt_ti]
      by_cases h1 : c < 32 <;> by_cases h2 : 126 < c <;> simp [h1, h2] <;> omega
    · intro d hd R
      obtain ⟨c, _, rfl⟩ := List.mem_map.mp hd
      walk_at "drn"
      cases sLt (⟨#[c]⟩ : Str) " " <;> simp
  simp only [key]
  have e : decide ((x.length : Int) ≤ 24) = decide (x.length ≤ 24) := by
    by_cases h : x.length ≤ 24 <;> simp [h] <;> omega
  rw [e]
  unfold textD
  by_cases h : x.length ≤ 24 <;> simp [h]
def elD (d : D) : Bool := numD 281474976710656 d || textD d
def partsL (ds : List D) : Bool := decide (1 ≤ ds.length) && decide (ds.length ≤ 16) && ds.all elD
def partsD : D → Bool
  | .tup ds => partsL ds
  | .ctup ds => partsL ds
  | _ => false
theorem w_is_parts (a : Ad) {v : D} {S : Sto} {Q : DK} {Ed : XD} (hv : dat 60 v = true) : F_is_parts a [v] S Q Ed = Q (.bl (partsD v)) S := by
  unfold F_is_parts B_is_parts
  cases v
  all_goals first | (simp [dat] at hv; done) | walk_at "drn"
  all_goals first | (simp [partsD]; done) | skip
  all_goals
    rename_i ds
    rw [dat, Bool.and_eq_true] at hv
    replace hv := hv.2
    have hd : ∀ d ∈ ds, dat 60 d = true := fun d h => dat_up (dats_mem hv d h)
    have key : ∀ (x : Option D) (R : Bool → Sto → Prop), allD (fun _ => True) (xName 1) (eOr (eCa (F_is_number a) xF (aCons (eVar 1) (aCons (eC (.int 281474976710656)) aNil))) (eCa (F__is_text a) xF (aCons (eVar 1) aNil))) [x, none] ds S R = R (ds.all elD) S := by
      intro x R
      refine allD_eq trivial fun d h R => ?_
      walk_at "drn"
      rw [w_is_number a (hd d h)]
      walk_at "drn"
      rw [w__is_text a (hd d h)]
      unfold elD
      cases numD 281474976710656 d <;> simp
    simp only [key]
    unfold partsD partsL
    have e1 : decide ((1 : Int) ≤ (ds.length : Int)) = decide (1 ≤ ds.length) := by
      by_cases h : 1 ≤ ds.length <;> simp [h] <;> omega
    have e2 : decide ((ds.length : Int) ≤ 16) = decide (ds.length ≤ 16) := by
      by_cases h : ds.length ≤ 16 <;> simp [h] <;> omega
    rw [e1, e2]
    by_cases h1 : 1 ≤ ds.length <;> by_cases h2 : ds.length ≤ 16 <;> simp [h1, h2]

/-! ### the notary, by data -/
def kD : Key → D
  | .inl i => .int i
  | .inr x => .str x
def tupK (ks : List Key) : D := .tup (ks.map kD)
theorem keyD_kD (k : Key) : keyD (kD k) = some k := by cases k <;> rfl
theorem keysD_kD : ∀ ks : List Key, keysD (ks.map kD) = some ks
  | [] => rfl
  | k :: ks => by
    rw [List.map_cons, keysD, keyD_kD, keysD_kD ks]; rfl
theorem keyT_tupK (ks : List Key) : keyT (tupK ks) = some ks := keysD_kD ks
def keyOf : D → Key
  | .int i => .inl i
  | .str x => .inr x
  | _ => .inl 0
/-- the keys of parts -/
def keysOf : D → List Key
  | .tup ds => ds.map keyOf
  | _ => []
theorem elD_key {d : D} (h : elD d = true) : kD (keyOf d) = d := by
  cases d <;> first | rfl | (simp [elD, numD, textD] at h)
theorem parts_keys {ds : List D} (h : partsD (.tup ds) = true) : D.tup ds = tupK (keysOf (.tup ds)) := by
  have h1 : ds.all elD = true := by
    simp only [partsD, partsL, Bool.and_eq_true] at h
    exact h.2
  unfold tupK keysOf
  rw [List.map_map]
  congr 1
  have : ∀ es : List D, es.all elD = true → es = es.map (kD ∘ keyOf) := by
    intro es
    induction es with
    | nil => intro _; rfl
    | cons e es ih =>
      intro h
      rw [List.all_cons, Bool.and_eq_true] at h
      rw [List.map_cons, ← ih h.2]
      show _ = kD (keyOf e) :: _
      rw [elD_key h.1]
  exact this ds h1
/-- the place of parts among those that were sealed -/
def posK (ps : List (List Key)) (k : List Key) : Option Nat := ps.findIdx? fun q => decide (q = k)
def numb (ps : List (List Key)) : List (List Key × D) := ps.zipIdx.map fun p => (p.1, .int ((p.2 : Nat) + 1))
theorem numb_snoc (ps : List (List Key)) (k : List Key) : numb (ps ++ [k]) = numb ps ++ [(k, .int ((ps.length : Nat) + 1))] := by
  unfold numb
  rw [List.zipIdx_append, List.map_append]
  simp
theorem numb_length (ps : List (List Key)) : (numb ps).length = ps.length := by simp [numb]
theorem val_numb (ps : List (List Key)) (k : List Key) : valD (numb ps) k = (posK ps k).map fun i => .int ((i : Nat) + 1) := by
  have gen : ∀ (ps : List (List Key)) (j : Nat), valD ((ps.zipIdx j).map fun p => (p.1, D.int ((p.2 : Nat) + 1))) k = (posK ps k).map fun i => .int (((i + j : Nat) : Int) + 1) := by
    intro ps
    induction ps with
    | nil => intro j; rfl
    | cons q ps ih =>
      intro j
      have ih := ih (j + 1)
      unfold valD posK at ih ⊢
      rw [List.zipIdx_cons, List.map_cons, List.find?_cons, List.findIdx?_cons]
      by_cases h : q = k
      · simp [h]
      · simp only [h, decide_false]
        rw [ih]
        cases List.findIdx? (fun q => decide (q = k)) ps with
        | none => rfl
        | some i =>
          simp only [Option.map_some, Bool.false_eq_true, if_false]
          congr 2
          omega
  have := gen ps 0
  simpa [numb] using this
theorem posK_none {ps : List (List Key)} {k : List Key} : posK ps k = none ↔ k ∉ ps := by
  unfold posK
  rw [List.findIdx?_eq_none_iff]
  constructor
  · intro h z
    simpa using h k z
  · intro h q hq
    simp
    intro e
    exact h (e ▸ hq)
theorem posK_snoc {ps : List (List Key)} {k : List Key} (h : posK ps k = none) : posK (ps ++ [k]) k = some ps.length := by
  unfold posK at h ⊢
  rw [List.findIdx?_append, h]
  simp [List.findIdx?_cons]
theorem put_numb {ps : List (List Key)} {k : List Key} (h : posK ps k = none) : putKD (numb ps) k (.int ((ps.length : Nat) + 1)) = numb (ps ++ [k]) := by
  have h2 : valD (numb ps) k = none := by rw [val_numb, h]; rfl
  have h3 : ((numb ps).any fun kv => decide (kv.1 = k)) = false := by
    unfold valD at h2
    rw [Option.map_eq_none_iff, List.find?_eq_none] at h2
    rw [List.any_eq_false]
    intro x hx
    simpa using h2 x hx
  unfold putKD
  rw [h3, numb_snoc]
  simp
def newPs (ps : List (List Key)) (k : List Key) : List (List Key) := match posK ps k with | some _ => ps | none => ps ++ [k]
/-- the seal that parts have -/
def sealOf (ps : List (List Key)) (k : List Key) : Int := match posK ps k with | some i => (i : Nat) + 1 | none => 0
/-- what find gives for any value -/
def dueD (ps : List (List Key)) (v : D) : Int := if partsD v then sealOf ps (keysOf v) else 0
/-- the store with a notary at a (its dict at d, its list at l): the parts ps sealed, asked n times -/
def ntS (C a d l : Addr) (ps : List (List Key)) (n : Int) (S : Sto) : Sto :=
  sup (sup (sup S l (.lst (ps.map tupK))) d (.dT (numb ps))) a (.ins C nm_Notary [.ref d, .ref l, .int n])
section
variable {C a d l : Addr} {ps : List (List Key)} {n : Int} {S : Sto}
theorem nt_a : ntS C a d l ps n S a = some (.ins C nm_Notary [.ref d, .ref l, .int n]) := sup_same
theorem nt_d (h : d ≠ a) : ntS C a d l ps n S d = some (.dT (numb ps)) := by unfold ntS; rw [sup_ne h]; exact sup_same
theorem nt_l (h1 : l ≠ a) (h2 : l ≠ d) : ntS C a d l ps n S l = some (.lst (ps.map tupK)) := by unfold ntS; rw [sup_ne h1, sup_ne h2]; exact sup_same
theorem nt_ne {x : Addr} (h1 : x ≠ a) (h2 : x ≠ d) (h3 : x ≠ l) : ntS C a d l ps n S x = S x := by unfold ntS; rw [sup_ne h1, sup_ne h2, sup_ne h3]
theorem nt_setA {m : Int} : sup (ntS C a d l ps n S) a (.ins C nm_Notary [.ref d, .ref l, .int m]) = ntS C a d l ps m S := by unfold ntS; rw [sup_sup]
theorem nt_sup {x : Addr} {o : O} (h1 : x ≠ a) (h2 : x ≠ d) (h3 : x ≠ l) : sup (ntS C a d l ps n S) x o = ntS C a d l ps n (sup S x o) := by
  unfold ntS
  rw [sup_comm (Ne.symm h1), sup_comm (Ne.symm h2), sup_comm (Ne.symm h3)]
theorem nt_grow {qs : List (List Key)} (h1 : d ≠ a) (h2 : l ≠ a) (h3 : l ≠ d) : sup (sup (ntS C a d l ps n S) l (.lst (qs.map tupK))) d (.dT (numb qs)) = ntS C a d l qs n S := by
  unfold ntS
  rw [sup_comm (Ne.symm h2), sup_comm (Ne.symm h1)]
  congr 1
  rw [sup_comm (Ne.symm h3), sup_sup, sup_sup]
end

theorem due_key {ps : List (List Key)} {ks : List Key} (h : partsD (tupK ks) = true) : dueD ps (tupK ks) = sealOf ps ks := by
  unfold dueD
  rw [h]
  have : keysOf (tupK ks) = ks := by
    unfold tupK keysOf
    show List.map keyOf (List.map kD ks) = ks
    rw [List.map_map]
    have : ∀ ks : List Key, List.map (keyOf ∘ kD) ks = ks := by
      intro ks
      induction ks with
      | nil => rfl
      | cons k ks ih =>
        rw [List.map_cons, ih]
        cases k <;> rfl
    exact this ks
  rw [this]; rfl
theorem data_parts {v : D} (hv : dat 60 v = true) (hp : partsD v = true) : ∃ ks, v = tupK ks := by
  cases v with
  | tup ds => exact ⟨_, parts_keys hp⟩
  | ctup ds => simp [dat] at hv
  | _ => cases hp
theorem w_find (A : Ad) {a d l : Addr} {ps : List (List Key)} {n : Int} {S : Sto} {Q : DK} {Ed : XD} {v : D} (h1 : d ≠ a) (hv : dat 60 v = true) :
    F_Notary_find A [.ref a, v] (ntS A.C_Notary a d l ps n S) Q Ed = Q (.int (dueD ps v)) (ntS A.C_Notary a d l ps (n + 1) S) := by
  unfold F_Notary_find B_Notary_find
  walk_at "drn"
  rw [atO_eq nt_a]
  walk_at "drn"
  rw [atO_eq nt_a]
  walk_at "drn"
  rw [nt_setA, w_is_parts A hv]
  walk_at "drn"
  cases hp : partsD v
  · have e : dueD ps v = 0 := by simp [dueD, hp]
    rw [e]
    walk_at "drn"
  · obtain ⟨ks, rfl⟩ := data_parts hv hp
    walk_at "drn"
    rw [atO_eq nt_a]
    walk_at "drn"
    have hd := nt_d (C := A.C_Notary) (l := l) (ps := ps) (n := n + 1) (S := S) h1
    rw [isDict_T hd, dget_T hd (keyT_tupK ks), due_key hp]
    simp only [true_and, val_numb]
    unfold sealOf
    cases posK ps ks <;> rfl
theorem w_size (A : Ad) {a d l : Addr} {ps : List (List Key)} {n : Int} {S : Sto} {Q : DK} {Ed : XD} (h1 : l ≠ a) (h2 : l ≠ d) :
    F_Notary_size A [.ref a] (ntS A.C_Notary a d l ps n S) Q Ed = Q (.int (ps.length : Nat)) (ntS A.C_Notary a d l ps n S) := by
  unfold F_Notary_size B_Notary_size
  walk_at "drn"
  rw [atO_eq nt_a]
  walk_at "drn"
  rw [atL_eq (nt_l h1 h2), List.length_map]
theorem w_seal_no (A : Ad) {a d l : Addr} {ps : List (List Key)} {n : Int} {S : Sto} {Q : DK} {Ed : XD} {v : D} (hv : dat 60 v = true) (hp : partsD v = false) :
    F_Notary_seal A [.ref a, v] (ntS A.C_Notary a d l ps n S) Q Ed = Ed A.X_BadParts [] (ntS A.C_Notary a d l ps n S) := by
  unfold F_Notary_seal B_Notary_seal
  walk_at "drn"
  rw [w_is_parts A hv, hp]
  walk_at "drn"
theorem w_seal (A : Ad) {a d l : Addr} {ps : List (List Key)} {n : Int} {S : Sto} {Q : DK} {Ed : XD} {ks : List Key} (h1 : d ≠ a) (h2 : l ≠ a) (h3 : l ≠ d) (hv : dat 60 (tupK ks) = true) (hp : partsD (tupK ks) = true) (hl : ps.length < 999999) :
    F_Notary_seal A [.ref a, tupK ks] (ntS A.C_Notary a d l ps n S) Q Ed = Q (.int (sealOf (newPs ps ks) ks)) (ntS A.C_Notary a d l (newPs ps ks) n S) := by
  unfold F_Notary_seal B_Notary_seal
  walk_at "drn"
  rw [w_is_parts A hv, hp]
  walk_at "drn"
  rw [atO_eq nt_a]
  walk_at "drn"
  rw [dget_T (nt_d h1) (keyT_tupK ks), val_numb]
  cases hq : posK ps ks with
  | some i =>
    have e1 : newPs ps ks = ps := by simp [newPs, hq]
    have e2 : sealOf ps ks = (i : Nat) + 1 := by simp [sealOf, hq]
    rw [e1, e2]
    simp only [Option.map_some, Option.isSome_some]
    walk_at "drn"
    rw [atO_eq nt_a]
    walk_at "drn"
    rw [dget_T (nt_d h1) (keyT_tupK ks), val_numb, hq]
    rfl
  | none =>
    have e1 : newPs ps ks = ps ++ [ks] := by simp [newPs, hq]
    have e2 : sealOf (ps ++ [ks]) ks = (ps.length : Nat) + 1 := by simp [sealOf, posK_snoc hq]
    rw [e1, e2]
    simp only [Option.map_none, Option.isSome_none]
    walk_at "drn"
    rw [atO_eq nt_a]
    walk_at "drn"
    rw [atL_eq (nt_l h2 h3), atL_eq (nt_l h2 h3)]
    have z1 : ∀ o, sup (ntS A.C_Notary a d l ps n S) l o a = some (.ins A.C_Notary nm_Notary [.ref d, .ref l, .int n]) := fun o => by rw [sup_ne (Ne.symm h2)]; exact nt_a
    have z2 : ∀ o, sup (ntS A.C_Notary a d l ps n S) l o d = some (.dT (numb ps)) := fun o => by rw [sup_ne (Ne.symm h3)]; exact nt_d h1
    simp only [List.length_map, show ps.length < 1000000 by omega, true_and]
    rw [atO_eq (z1 _)]
    walk_at "drn"
    rw [atL_eq sup_same]
    walk_at "drn"
    rw [atO_eq (z1 _)]
    walk_at "drn"
    have el : (((List.map tupK ps ++ [tupK ks]).length : Nat) : Int) = ((ps.length : Nat) : Int) + 1 := by simp
    rw [dput_T (z2 _) (keyT_tupK ks) (by rw [numb_length]; omega), el, put_numb hq]
    have eg := nt_grow (C := A.C_Notary) (a := a) (d := d) (l := l) (ps := ps) (n := n) (S := S) (qs := ps ++ [ks]) h1 h2 h3
    rw [List.map_append] at eg
    simp only [List.map_cons, List.map_nil] at eg
    rw [eg, atO_eq nt_a]
    walk_at "drn"
    rw [dget_T (nt_d h1) (keyT_tupK ks), val_numb, posK_snoc hq]
    rfl
theorem w_make (A : Ad) {p : Addr} {S : Sto} {Q : DK} {Ed : XD} (hp : S p = none) (h : ∀ d l, S d = none → S l = none → d ≠ p → l ≠ p → l ≠ d → Q .non (ntS A.C_Notary p d l [] 0 S)) : F_Notary___init__ A [.ref p] (sup S p (.ins A.C_Notary nm_Notary [])) Q Ed := by
  unfold F_Notary___init__ B_Notary___init__
  walk_at "drn"
  refine fun d hd => ?_
  have dp : d ≠ p := fun e => by rw [e, sup_same] at hd; cases hd
  have e1 : sup (sup S p (.ins A.C_Notary nm_Notary [])) d (.dT []) p = some (.ins A.C_Notary nm_Notary []) := by rw [sup_ne (Ne.symm dp), sup_same]
  rw [atO_eq e1]
  walk_at "drn"
  refine fun l hl => ?_
  have lp : l ≠ p := fun e => by rw [e, sup_same] at hl; cases hl
  rw [sup_ne lp] at hl
  have ld : l ≠ d := fun e => by rw [e, sup_same] at hl; cases hl
  rw [sup_ne ld, sup_ne lp] at hl
  rw [sup_ne dp] at hd
  rw [atO_eq (by rw [sup_ne (Ne.symm lp), sup_same])]
  walk_at "drn"
  rw [atO_eq sup_same]
  walk_at "drn"
  have e : ∀ {o1 o2 o3 o4 : O}, sup (sup (sup (sup (sup (sup S p o1) d (.dT [])) p o2) l (.lst [])) p o3) p o4 = sup (sup (sup S l (.lst [])) d (.dT [])) p o4 := by
    intro o1 o2 o3 o4
    funext x
    unfold sup
    by_cases x1 : x = p <;> by_cases x2 : x = l <;> by_cases x3 : x = d <;> simp_all
  rw [e]
  exact h d l hd hl dp lp ld

end Sd

set_option Elab.async false
set_option linter.all false
set_option maxRecDepth 100000
set_option maxHeartbeats 400000
-- SUB tb__SIZES tb__SIZES
namespace Sd
open PySem PySem.Spec PyProof.Rows L2 GxR
local macro_rules | `(tactic| walk_at "dr") => `(tactic| try simp only [shut_eq, eVar, eC, eKIx, eKIn, eKGet2, eEvry, eTupG, iZip3D, dIsB, kLook_c, atI_c0, atI_c1, atI_c2, atI_c3, atI_c4, atI_c5, cut_t1, cut_t2, cut_t3, cut_t4, cut_t5, cut_d1, cut_d2, cut_d3, tk1, tk2, tk5, dp1, dp2,  eOp, eUn, asB, eAnd, eOr, eNot, eIf, eChain, tV, tAnd', tOr', tNot', aNil, aCons, eTup, eLst, eCB, eDK, eDT, dAdd, dI, dSub, dMod, dDiv, dXor, dShl, dShr, dMul, dCmp, dLe, dLt, dGe, dGt, dEq, dNe, dIn, dIsN, dIx_t, dIx_c, dIx_s, dIx_r, dIx_iD, dNeg, dLen_iD, dLen_s, dLen_t, dLen_c, dLen_r, dList, dTuple, dInt, dIsi, dAll, oNone, oSome, dSl, eSl,
  xName, xNil, xCons, xTup, xSub, sNext, sSeq, sBreak, sCont, sDrop, sRet, sRetN, sIf, sAsg, sAug, sFor, iL, iT, iS, iR1, iR2, iRev1, iRev2, tYes', eLc, eAll, dIAdd, dISub, eBM, eBM0, asRef, eDGet, eDGet1, eDGet2, eDIn, eDNotIn, sDPutD, sDDelD, eCa, eMe, eMa, eFld, sFldD, sFldAugD, setO, dAppend, dPopAt, isBl, isTr, List.length_set, List.lookup, Nat.reduceLT, Nat.reduceLeDiff, Nat.lt_irrefl, Nat.not_lt_zero, Nat.zero_le, Nat.le_refl, Nat.zero_lt_succ, Nat.lt_add_one, sRaise, eJoin, dJoin, F__law_draw, F__law_box, wDraw, wBox, br, Int.natCast_nonneg, Int.cast_ofNat_Int, Int.reduceEq, 
  dstart, List.map_cons, List.map_nil, List.length_cons, List.length_nil, List.replicate, List.cons_append, List.nil_append, List.append_nil, List.getElem?_cons_zero, List.getElem?_cons_succ, List.set_cons_zero, List.set_cons_succ, Nat.sub_self, Nat.reduceAdd, Nat.reduceSub, wipeD,
  dat_i, dat_s, dat_b, dat_n, dats_c, dats_e, eqD_ii, eqD_ss, eqD_bb, eqD_nn, eqD_is, eqD_si, isNon, unC_i, unC_s, unC_b, unC_n, unC_t, unC_c, flatD, List.all_cons, List.all_nil, List.any_cons, List.any_nil, decide_true, decide_false, List.mem_cons, tyD, isTy, tyKn, String.reduceBEq, Bool.or_true, Bool.true_or, Bool.or_false, Bool.false_or, Bool.and_true, Bool.true_and, Bool.and_false, Bool.false_and, Bool.or_self, Bool.and_self, true_and, and_true, true_implies, false_implies, forall_const, reduceCtorEq, Bool.true_eq_false, Bool.false_eq_true, if_true, if_false, ite_true, ite_false, Bool.not_true, Bool.not_false, implies_true, eq_self])
local macro_rules | `(tactic| walk_at "drn") => `(tactic| try simp only [shut_eq, eVar, eC, eKIx, eKIn, eKGet2, eEvry, eTupG, iZip3D, dIsB, kLook_c, atI_c0, atI_c1, atI_c2, atI_c3, atI_c4, atI_c5, cut_t1, cut_t2, cut_t3, cut_t4, cut_t5, cut_d1, cut_d2, cut_d3, tk1, tk2, tk5, dp1, dp2,  eOp, eUn, asB, eAnd, eOr, eNot, eIf, eChain, tV, tAnd', tOr', tNot', aNil, aCons, eTup, eLst, eCB, eDK, eDT, dAdd, dI, dSub, dMod, dDiv, dXor, dShl, dShr, dMul, dCmp, dLe, dLt, dGe, dGt, dEq, dNe, dIn, dIsN, dIx_t, dIx_c, dIx_s, dIx_r, dIx_iD, dNeg, dLen_iD, dLen_s, dLen_t, dLen_c, dLen_r, dList, dTuple, dInt, dIsi, dAll, oNone, oSome, dSl, eSl,
  xName, xNil, xCons, xTup, xSub, sNext, sSeq, NX_eq, sBreak, sCont, sDrop, sRet, sRetN, sIf, sAsg, sAug, sFor, iL, iT, iS, iR1, iR2, iRev1, iRev2, tYes', eLc, eAll, dIAdd, dISub, eBM, eBM0, asRef, eDGet, eDGet1, eDGet2, eDIn, eDNotIn, sDPutD, sDDelD, eCa, eMe, eMa, eFld, sFldD, sFldAugD, setO, dAppend, dPopAt, isBl, isTr, List.length_set, List.lookup, Nat.reduceLT, Nat.reduceLeDiff, Nat.lt_irrefl, Nat.not_lt_zero, Nat.zero_le, Nat.le_refl, Nat.zero_lt_succ, Nat.lt_add_one, sRaise, eJoin, dJoin, F__law_draw, F__law_box, wDraw, wBox, br, Int.natCast_nonneg, Int.cast_ofNat_Int, Int.reduceEq, 
  dstart, List.map_cons, List.map_nil, List.length_cons, List.length_nil, List.replicate, List.cons_append, List.nil_append, List.append_nil, List.getElem?_cons_zero, List.getElem?_cons_succ, List.set_cons_zero, List.set_cons_succ, Nat.sub_self, Nat.reduceAdd, Nat.reduceSub, wipeD,
  dat_i, dat_s, dat_b, dat_n, dats_c, dats_e, eqD_ii, eqD_ss, eqD_bb, eqD_nn, eqD_is, eqD_si, isNon, unC_i, unC_s, unC_b, unC_n, unC_t, unC_c, flatD, List.all_cons, List.all_nil, List.any_cons, List.any_nil, decide_true, decide_false, List.mem_cons, tyD, isTy, tyKn, String.reduceBEq, Bool.or_true, Bool.true_or, Bool.or_false, Bool.false_or, Bool.and_true, Bool.true_and, Bool.and_false, Bool.false_and, Bool.or_self, Bool.and_self, true_and, and_true, true_implies, false_implies, forall_const, reduceCtorEq, Bool.true_eq_false, Bool.false_eq_true, if_true, if_false, ite_true, ite_false, Bool.not_true, Bool.not_false, implies_true, eq_self])

/-! ### what is sealed stays -/
def Pre (ps qs : List (List Key)) : Prop := ∃ r, qs = ps ++ r
theorem Pre.refl {ps : List (List Key)} : Pre ps ps := ⟨[], by simp⟩
theorem Pre.trans {p q r : List (List Key)} (h : Pre p q) (k : Pre q r) : Pre p r := by
  obtain ⟨x, rfl⟩ := h
  obtain ⟨y, rfl⟩ := k
  exact ⟨x ++ y, by rw [List.append_assoc]⟩
theorem Pre.new {ps : List (List Key)} {k : List Key} : Pre ps (newPs ps k) := by
  unfold newPs
  split
  · exact .refl
  · exact ⟨[k], rfl⟩
theorem posK_app {ps qs : List (List Key)} {k : List Key} {i : Nat} (h : posK ps k = some i) : posK (ps ++ qs) k = some i := by
  unfold posK at h ⊢
  rw [List.findIdx?_append, h]
  rfl
theorem posK_get {ps : List (List Key)} {k : List Key} {i : Nat} (h : posK ps k = some i) : ps[i]? = some k := by
  unfold posK at h
  obtain ⟨h1, h2, _⟩ := List.findIdx?_eq_some_iff_getElem.mp h
  rw [List.getElem?_eq_getElem h1]
  simpa using h2
/-- k has the number s -/
def Has (ps : List (List Key)) (k : List Key) (s : Int) : Prop := ∃ i, posK ps k = some i ∧ s = (i : Nat) + 1
theorem Has.mono {ps qs : List (List Key)} {k : List Key} {s : Int} (h : Has ps k s) (p : Pre ps qs) : Has qs k s := by
  obtain ⟨i, h1, h2⟩ := h
  obtain ⟨r, rfl⟩ := p
  exact ⟨i, posK_app h1, h2⟩
theorem Has.seal {ps : List (List Key)} {k : List Key} {s : Int} (h : Has ps k s) : sealOf ps k = s := by
  obtain ⟨i, h1, h2⟩ := h
  simp [sealOf, h1, h2]
theorem has_new (ps : List (List Key)) (k : List Key) : Has (newPs ps k) k (sealOf (newPs ps k) k) := by
  cases h : posK ps k with
  | some i =>
    have e : newPs ps k = ps := by simp [newPs, h]
    rw [e]
    exact ⟨i, h, by simp [sealOf, h]⟩
  | none =>
    have e : newPs ps k = ps ++ [k] := by simp [newPs, h]
    have h2 := posK_snoc h
    rw [e]
    exact ⟨_, h2, by simp [sealOf, h2]⟩
theorem Has.inj {ps : List (List Key)} {k k' : List Key} {s : Int} (h : Has ps k s) (h' : Has ps k' s) : k = k' := by
  obtain ⟨i, h1, h2⟩ := h
  obtain ⟨j, h3, h4⟩ := h'
  have : i = j := by omega
  subst this
  have a := posK_get h1
  have b := posK_get h3
  rw [a] at b
  exact Option.some.inj b
theorem Has.pos {ps : List (List Key)} {k : List Key} {s : Int} (h : Has ps k s) : 1 ≤ s ∧ s ≤ ps.length := by
  obtain ⟨i, h1, h2⟩ := h
  have := List.getElem?_eq_some_iff.mp (posK_get h1)
  obtain ⟨h3, _⟩ := this
  omega
theorem has_of {ps : List (List Key)} {k : List Key} (h : sealOf ps k ≠ 0) : Has ps k (sealOf ps k) := by
  unfold sealOf at h ⊢
  cases e : posK ps k with
  | none => rw [e] at h; exact absurd rfl h
  | some i => exact ⟨i, e, rfl⟩
theorem new_len (ps : List (List Key)) (k : List Key) : (newPs ps k).length ≤ ps.length + 1 := by
  unfold newPs
  split <;> simp

def okSeal (i : Int) : Prop := 1 ≤ i ∧ i ≤ 281474976710656
def okRow (row : List Int) : Prop := ∀ s ∈ row, okSeal s
def GK (k : List Key) : Prop := (∃ s, k = [.inr "step", .inl s] ∧ okSeal s) ∨ (∃ a b s, k = [.inr "join", .inl a, .inl b, .inl s] ∧ okSeal a ∧ okSeal b ∧ okSeal s) ∨ ∃ x y : Int, k = [.inr "behind", .inl x, .inl y]
/-! ### histories, by data -/
def sealB : D → Bool
  | .int i => decide (1 ≤ i) && decide (i ≤ 281474976710656)
  | _ => false
theorem w_is_seal (a : Ad) {v : D} {S : Sto} {Q : DK} {Ed : XD} (hv : dat 60 v = true) : F_is_seal a [v] S Q Ed = Q (.bl (sealB v)) S := by
  unfold F_is_seal B_is_seal
  walk_at "drn"
  rw [w_is_number a hv]
  cases v
  all_goals first | (simp [dat] at hv; done) | walk_at "drn"
  all_goals first | (simp [numD, sealB]; done) | skip
  rename_i i
  have e : decide (1 ≤ i) = (decide (0 ≤ i) && !decide (i = 0)) := by
    by_cases h1 : 0 ≤ i <;> by_cases h3 : i = 0 <;> simp [h1, h3] <;> omega
  show _ = Q (.bl (decide (1 ≤ i) && decide (i ≤ 281474976710656))) S
  rw [e]
  by_cases h1 : 0 ≤ i <;> by_cases h2 : i ≤ 281474976710656 <;> by_cases h3 : i = 0 <;> simp [numD, h1, h2, h3]
/-- a text that the table of sizes tells of -/
def KnZ (a : Ad) (z : Str) : Prop := kLook (tb__SIZES a) z = some (some (.int 2)) ∧ z = "step" ∨ kLook (tb__SIZES a) z = some (some (.int 4)) ∧ z = "join" ∨ kLook (tb__SIZES a) z = some none ∧ z ≠ "step" ∧ z ≠ "join"
def sizeZ (z : Str) : Int := if z = "step" then 2 else if z = "join" then 4 else 0
def KnK (a : Ad) (k : List Key) : Prop := ((∃ z r, k = .inr z :: r ∧ KnZ a z) ∨ ∃ i r, k = .inl i :: r) ∧ GK k
def opnB : List Key → Bool
  | .inr z :: r => decide (sizeZ z = (r.length : Int) + 1) && (r.map kD).all sealB
  | _ => false
theorem dat_kD {n : Nat} (k : Key) : dat n (kD k) = true := by cases k <;> first | exact dat_i | exact dat_s
theorem dat_tupK {n : Nat} {k : List Key} (h : k.length ≤ 1000000) : dat (n + 1) (tupK k) = true := dat_tup' (by rw [List.length_map]; exact h) fun d hd => by
  obtain ⟨x, _, rfl⟩ := List.mem_map.mp hd
  exact dat_kD x
theorem step_ne_join : ("step" : Str) ≠ "join" := by decide +kernel
theorem w_is_opening (a : Ad) {k : List Key} {S : Sto} {Q : DK} {Ed : XD} (hk : KnK a k) (hl : k.length ≤ 1000) (q : Q (.bl (opnB k)) S) : F_is_opening a [tupK k] S Q Ed := by
  rcases hk.1 with ⟨z, r, rfl, hz⟩ | ⟨i, r, rfl⟩
  rotate_left
  · have q : Q (.bl false) S := q
    unfold F_is_opening B_is_opening
    unfold tupK
    rw [List.map_cons, show kD (.inl i) = .int i from rfl]
    walk_at "dr"
    exact ⟨fun _ => q, fun _ => q⟩
  have q : Q (.bl (decide (sizeZ z = (r.length : Int) + 1) && (r.map kD).all sealB)) S := q
  unfold F_is_opening B_is_opening
  unfold tupK
  rw [List.map_cons, show kD (.inr z) = .str z from rfl]
  walk_at "dr"
  have e0 : decide ((((D.str z :: r.map kD).length : Nat) : Int) = 0) = false := decide_eq_false (by rw [List.length_cons]; omega)
  have all_ : ∀ (x : Option D) (D1 : D) (R : Bool → Sto → Prop), R ((r.map kD).all sealB) S → allD (fun _ => True) (xName 1) (eCa (F_is_seal a) xF (aCons (eVar 1) aNil)) [some D1, x] (r.map kD) S R := by
    intro x D1 R hR
    refine allD_st trivial (fun d hd R hR => ?_) hR
    obtain ⟨y, _, rfl⟩ := List.mem_map.mp hd
    walk_at "dr"
    rw [w_is_seal a (dat_kD y)]
    exact hR
  refine ⟨fun h => absurd (of_decide_eq_true h) (by omega), fun _ => nx_go ?_⟩
  have sz : ∃ o, kLook (tb__SIZES a) z = some o ∧ o.getD (.int 0) = .int (sizeZ z) := by
    rcases hz with ⟨h, rfl⟩ | ⟨h, rfl⟩ | ⟨h, h1, h2⟩
    · exact ⟨_, h, by unfold sizeZ; rw [if_pos rfl]; rfl⟩
    · exact ⟨_, h, by unfold sizeZ; rw [if_neg (fun e => step_ne_join e.symm), if_pos rfl]; rfl⟩
    · exact ⟨_, h, by unfold sizeZ; rw [if_neg h1, if_neg h2]; rfl⟩
  obtain ⟨o, ho, hv⟩ := sz
  walk_at "dr"
  rw [ho]
  dsimp only
  rw [hv]
  walk_at "dr"
  have el : (((r.map kD).length + 1 : Nat) : Int) = (r.length : Int) + 1 := by rw [List.length_map]; omega
  rw [el]
  by_cases c : sizeZ z = (r.length : Int) + 1
  · rw [decide_eq_true c] at q ⊢
    rw [Bool.true_and] at q
    refine ⟨fun h => (by cases h), fun _ => nx_go ?_⟩
    walk_at "dr"
    exact all_ _ _ _ q
  · rw [decide_eq_false c] at q ⊢
    exact ⟨fun _ => q, fun h => (by cases h)⟩
def getK (ps : List (List Key)) (h : Int) : Option (List Key) := if 1 ≤ h then ps[(h - 1).toNat]? else none
theorem has_get {ps : List (List Key)} {k : List Key} {s : Int} (h : Has ps k s) : getK ps s = some k := by
  obtain ⟨i, h1, rfl⟩ := h
  unfold getK
  rw [if_pos (by omega), show (((i : Nat) : Int) + 1 - 1).toNat = i by omega]
  exact posK_get h1
/-- the parts that have been sealed: all of them known, none long -/
structure KnP (a : Ad) (ps : List (List Key)) : Prop where
  kn : ∀ k ∈ ps, KnK a k
  le : ∀ k ∈ ps, k.length ≤ 1000
def opnD (ps : List (List Key)) (h : Int) : D := match getK ps h with | some k => if opnB k then tupK k else .non | none => .non
theorem w_parts_of (A : Ad) {a d l : Addr} {ps : List (List Key)} {n : Int} {h : Int} {S : Sto} {Q : DK} {Ed : XD} (h2 : l ≠ a) (h3 : l ≠ d) (hq : Q (match getK ps h with | some k => tupK k | none => .non) (ntS A.C_Notary a d l ps n S)) :
    F_Notary_parts_of A [.ref a, .int h] (ntS A.C_Notary a d l ps n S) Q Ed := by
  unfold F_Notary_parts_of B_Notary_parts_of
  walk_at "dr"
  rw [atO_eq nt_a]
  walk_at "dr"
  rw [atL_eq (nt_l h2 h3), List.length_map]
  have key : ¬ (1 ≤ h ∧ h ≤ (ps.length : Int)) → Q .non (ntS A.C_Notary a d l ps n S) := fun c => by
    unfold getK at hq
    by_cases c1 : 1 ≤ h
    · rw [if_pos c1, List.getElem?_eq_none (by omega)] at hq
      exact hq
    · rw [if_neg c1] at hq
      exact hq
  refine ⟨fun c1 => ⟨fun c2 => key fun c => ?_, fun c2 => nx_go ?_⟩, fun c1 => key fun c => ?_⟩
  · have c2 : decide (h ≤ (ps.length : Int)) = false := by simpa using c2
    exact of_decide_eq_false c2 c.2
  · have c1 : 1 ≤ h := of_decide_eq_true c1
    have c2 : h ≤ (ps.length : Int) := by simpa using c2
    walk_at "dr"
    rw [atO_eq nt_a]
    walk_at "dr"
    obtain ⟨i, hi⟩ : ∃ i : Nat, h - 1 = (i : Int) := ⟨(h - 1).toNat, by omega⟩
    have hl : i < ps.length := by omega
    rw [atL_eq (nt_l h2 h3), hi, atI_getElem (by rw [List.length_map]; exact hl), List.getElem_map]
    unfold getK at hq
    rw [if_pos c1, hi, Int.toNat_natCast, List.getElem?_eq_getElem hl] at hq
    exact hq
  · exact of_decide_eq_false c1 c.1
theorem w_opening (A : Ad) {a d l : Addr} {ps : List (List Key)} {n : Int} {h : Int} {S : Sto} {Q : DK} {Ed : XD} (h2 : l ≠ a) (h3 : l ≠ d) (hk : KnP A ps) (hq : Q (opnD ps h) (ntS A.C_Notary a d l ps n S)) :
    F_opening A [.ref a, .int h] (ntS A.C_Notary a d l ps n S) Q Ed := by
  unfold F_opening B_opening
  walk_at "dr"
  rw [atO_eq nt_a]
  refine ⟨trivial, ?_⟩
  refine w_parts_of A h2 h3 (nx_go ?_)
  unfold opnD at hq
  cases hg : getK ps h with
  | none =>
    rw [hg] at hq
    dsimp only at hq ⊢
    walk_at "dr"
    unfold F_is_opening B_is_opening
    walk_at "dr"
    exact hq
  | some k =>
    rw [hg] at hq
    dsimp only at hq ⊢
    have hm : k ∈ ps := by
      unfold getK at hg
      split at hg
      · exact List.mem_of_getElem? hg
      · cases hg
    walk_at "dr"
    refine w_is_opening A (hk.kn k hm) (hk.le k hm) ?_
    cases hb : opnB k
    · rw [hb] at hq
      walk_at "dr"
      exact hq
    · rw [hb] at hq
      walk_at "dr"
      exact hq
/-- the last state that a history tells -/
def lastI (ps : List (List Key)) (h : Int) : Int := match getK ps h with | some k => if opnB k then (match k.getLast? with | some (.inl s) => s | _ => 0) else 0 | none => 0
theorem opnB_ne {k : List Key} (h : opnB k = true) : ∃ z r s, k = .inr z :: (r ++ [.inl s]) ∧ 1 ≤ s ∧ s ≤ 281474976710656 ∧ (sizeZ z = (r.length : Int) + 2) := by
  match k, h with
  | .inr z :: r, h =>
    have h : (decide (sizeZ z = (r.length : Int) + 1) && (r.map kD).all sealB) = true := h
    rw [Bool.and_eq_true] at h
    obtain ⟨h1, h2⟩ := h
    have h1 := of_decide_eq_true h1
    have hr : r ≠ [] := by
      rintro rfl
      unfold sizeZ at h1
      split at h1
      · simp at h1
      · split at h1 <;> simp at h1
    obtain ⟨r', x, rfl⟩ : ∃ r' x, r = r' ++ [x] := ⟨r.dropLast, r.getLast hr, (List.dropLast_concat_getLast hr).symm⟩
    rw [List.map_append, List.all_append, Bool.and_eq_true] at h2
    have h3 : sealB (kD x) = true := by simpa using h2.2
    cases x with
    | inr y => cases h3
    | inl s =>
      have h3 : (decide (1 ≤ s) && decide (s ≤ 281474976710656)) = true := h3
      rw [Bool.and_eq_true] at h3
      refine ⟨z, r', s, rfl, of_decide_eq_true h3.1, of_decide_eq_true h3.2, ?_⟩
      rw [h1]
      simp
      omega
theorem w_last_of (A : Ad) {a d l : Addr} {ps : List (List Key)} {n : Int} {h : Int} {S : Sto} {Q : DK} {Ed : XD} (h2 : l ≠ a) (h3 : l ≠ d) (hk : KnP A ps) (hq : Q (.int (lastI ps h)) (ntS A.C_Notary a d l ps n S)) :
    F_last_of A [.ref a, .int h] (ntS A.C_Notary a d l ps n S) Q Ed := by
  unfold F_last_of B_last_of
  walk_at "dr"
  refine w_opening A h2 h3 hk (nx_go ?_)
  unfold lastI at hq
  unfold opnD
  cases hg : getK ps h with
  | none =>
    rw [hg] at hq
    dsimp only at hq ⊢
    walk_at "dr"
    exact hq
  | some k =>
    rw [hg] at hq
    dsimp only at hq ⊢
    cases hb : opnB k
    · rw [hb] at hq
      walk_at "dr"
      simpa using hq
    · rw [hb] at hq
      obtain ⟨z, r, s, rfl, _⟩ := opnB_ne hb
      rw [if_pos rfl]
      rw [if_pos rfl, show (Sum.inr z :: (r ++ [Sum.inl s]) : List Key).getLast? = some (.inl s) by rw [← List.cons_append, List.getLast?_concat]] at hq
      unfold tupK
      walk_at "dr"
      rw [List.map_append, List.map_cons, List.map_nil, ← List.cons_append, atI_last]
      exact hq

end Sd

set_option Elab.async false
set_option linter.all false
set_option maxRecDepth 100000
set_option maxHeartbeats 400000
-- SUB tb__SIZES tb__SIZES
namespace Sd
open PySem PySem.Spec PyProof.Rows L2 GxR
local macro_rules | `(tactic| walk_at "dr") => `(tactic| try simp only [shut_eq, eVar, eC, eKIx, eKIn, eKGet2, eEvry, eTupG, iZip3D, dIsB, kLook_c, atI_c0, atI_c1, atI_c2, atI_c3, atI_c4, atI_c5, cut_t1, cut_t2, cut_t3, cut_t4, cut_t5, cut_d1, cut_d2, cut_d3, tk1, tk2, tk5, dp1, dp2,  eOp, eUn, asB, eAnd, eOr, eNot, eIf, eChain, tV, tAnd', tOr', tNot', aNil, aCons, eTup, eLst, eCB, eDK, eDT, dAdd, dI, dSub, dMod, dDiv, dXor, dShl, dShr, dMul, dCmp, dLe, dLt, dGe, dGt, dEq, dNe, dIn, dIsN, dIx_t, dIx_c, dIx_s, dIx_r, dIx_iD, dNeg, dLen_iD, dLen_s, dLen_t, dLen_c, dLen_r, dList, dTuple, dInt, dIsi, dAll, oNone, oSome, dSl, eSl,
  xName, xNil, xCons, xTup, xSub, sNext, sSeq, sBreak, sCont, sDrop, sRet, sRetN, sIf, sAsg, sAug, sFor, iL, iT, iS, iR1, iR2, iRev1, iRev2, tYes', eLc, eAll, dIAdd, dISub, eBM, eBM0, asRef, eDGet, eDGet1, eDGet2, eDIn, eDNotIn, sDPutD, sDDelD, eCa, eMe, eMa, eFld, sFldD, sFldAugD, setO, dAppend, dPopAt, isBl, isTr, List.length_set, List.lookup, Nat.reduceLT, Nat.reduceLeDiff, Nat.lt_irrefl, Nat.not_lt_zero, Nat.zero_le, Nat.le_refl, Nat.zero_lt_succ, Nat.lt_add_one, sRaise, eJoin, dJoin, F__law_draw, F__law_box, wDraw, wBox, br, Int.natCast_nonneg, Int.cast_ofNat_Int, Int.reduceEq, 
  dstart, List.map_cons, List.map_nil, List.length_cons, List.length_nil, List.replicate, List.cons_append, List.nil_append, List.append_nil, List.getElem?_cons_zero, List.getElem?_cons_succ, List.set_cons_zero, List.set_cons_succ, Nat.sub_self, Nat.reduceAdd, Nat.reduceSub, wipeD,
  dat_i, dat_s, dat_b, dat_n, dats_c, dats_e, eqD_ii, eqD_ss, eqD_bb, eqD_nn, eqD_is, eqD_si, isNon, unC_i, unC_s, unC_b, unC_n, unC_t, unC_c, flatD, List.all_cons, List.all_nil, List.any_cons, List.any_nil, decide_true, decide_false, List.mem_cons, tyD, isTy, tyKn, String.reduceBEq, Bool.or_true, Bool.true_or, Bool.or_false, Bool.false_or, Bool.and_true, Bool.true_and, Bool.and_false, Bool.false_and, Bool.or_self, Bool.and_self, true_and, and_true, true_implies, false_implies, forall_const, reduceCtorEq, Bool.true_eq_false, Bool.false_eq_true, if_true, if_false, ite_true, ite_false, Bool.not_true, Bool.not_false, implies_true, eq_self])
local macro_rules | `(tactic| walk_at "drn") => `(tactic| try simp only [shut_eq, eVar, eC, eKIx, eKIn, eKGet2, eEvry, eTupG, iZip3D, dIsB, kLook_c, atI_c0, atI_c1, atI_c2, atI_c3, atI_c4, atI_c5, cut_t1, cut_t2, cut_t3, cut_t4, cut_t5, cut_d1, cut_d2, cut_d3, tk1, tk2, tk5, dp1, dp2,  eOp, eUn, asB, eAnd, eOr, eNot, eIf, eChain, tV, tAnd', tOr', tNot', aNil, aCons, eTup, eLst, eCB, eDK, eDT, dAdd, dI, dSub, dMod, dDiv, dXor, dShl, dShr, dMul, dCmp, dLe, dLt, dGe, dGt, dEq, dNe, dIn, dIsN, dIx_t, dIx_c, dIx_s, dIx_r, dIx_iD, dNeg, dLen_iD, dLen_s, dLen_t, dLen_c, dLen_r, dList, dTuple, dInt, dIsi, dAll, oNone, oSome, dSl, eSl,
  xName, xNil, xCons, xTup, xSub, sNext, sSeq, NX_eq, sBreak, sCont, sDrop, sRet, sRetN, sIf, sAsg, sAug, sFor, iL, iT, iS, iR1, iR2, iRev1, iRev2, tYes', eLc, eAll, dIAdd, dISub, eBM, eBM0, asRef, eDGet, eDGet1, eDGet2, eDIn, eDNotIn, sDPutD, sDDelD, eCa, eMe, eMa, eFld, sFldD, sFldAugD, setO, dAppend, dPopAt, isBl, isTr, List.length_set, List.lookup, Nat.reduceLT, Nat.reduceLeDiff, Nat.lt_irrefl, Nat.not_lt_zero, Nat.zero_le, Nat.le_refl, Nat.zero_lt_succ, Nat.lt_add_one, sRaise, eJoin, dJoin, F__law_draw, F__law_box, wDraw, wBox, br, Int.natCast_nonneg, Int.cast_ofNat_Int, Int.reduceEq, 
  dstart, List.map_cons, List.map_nil, List.length_cons, List.length_nil, List.replicate, List.cons_append, List.nil_append, List.append_nil, List.getElem?_cons_zero, List.getElem?_cons_succ, List.set_cons_zero, List.set_cons_succ, Nat.sub_self, Nat.reduceAdd, Nat.reduceSub, wipeD,
  dat_i, dat_s, dat_b, dat_n, dats_c, dats_e, eqD_ii, eqD_ss, eqD_bb, eqD_nn, eqD_is, eqD_si, isNon, unC_i, unC_s, unC_b, unC_n, unC_t, unC_c, flatD, List.all_cons, List.all_nil, List.any_cons, List.any_nil, decide_true, decide_false, List.mem_cons, tyD, isTy, tyKn, String.reduceBEq, Bool.or_true, Bool.true_or, Bool.or_false, Bool.false_or, Bool.and_true, Bool.true_and, Bool.and_false, Bool.false_and, Bool.or_self, Bool.and_self, true_and, and_true, true_implies, false_implies, forall_const, reduceCtorEq, Bool.true_eq_false, Bool.false_eq_true, if_true, if_false, ite_true, ite_false, Bool.not_true, Bool.not_false, implies_true, eq_self])

/-! ### trees of histories -/
inductive HT where
  | st (s : Int) | jo (l r : HT)
def HT.row : HT → List Int
  | .st s => [s]
  | .jo l r => l.row ++ r.row
def HT.last : HT → Int
  | .st s => s
  | .jo _ r => r.last
def HT.lv : Nat → HT → Prop
  | 0, .st _ => True
  | n + 1, .jo l r => HT.lv n l ∧ HT.lv n r
  | _, _ => False
def stK (s : Int) : List Key := [.inr "step", .inl s]
def joK (a b s : Int) : List Key := [.inr "join", .inl a, .inl b, .inl s]
def Enc (ps : List (List Key)) : HT → Int → Prop
  | .st s, h => Has ps (stK s) h
  | .jo l r, h => ∃ a b, Enc ps l a ∧ Enc ps r b ∧ Has ps (joK a b r.last) h
theorem Enc.mono {ps qs : List (List Key)} (p : Pre ps qs) : ∀ {t : HT} {h : Int}, Enc ps t h → Enc qs t h
  | .st _, _, h => Has.mono h p
  | .jo _ _, _, ⟨a, b, h1, h2, h3⟩ => ⟨a, b, h1.mono p, h2.mono p, h3.mono p⟩
theorem Enc.uniq {ps : List (List Key)} : ∀ {t : HT} {h h' : Int}, Enc ps t h → Enc ps t h' → h = h'
  | .st _, _, _, h, h' => by rw [← Has.seal h, ← Has.seal h']
  | .jo _ _, _, _, ⟨a, b, h1, h2, h3⟩, ⟨a', b', k1, k2, k3⟩ => by
    have e1 := Enc.uniq h1 k1
    have e2 := Enc.uniq h2 k2
    subst e1 e2
    rw [← h3.seal, ← k3.seal]
theorem st_jo {s a b x : Int} : stK s ≠ joK a b x := fun h => by simp [stK, joK] at h
theorem joK_inj {a b s a' b' s' : Int} (h : joK a b s = joK a' b' s') : a = a' ∧ b = b' ∧ s = s' := by simpa [joK] using h
theorem stK_inj {s s' : Int} (h : stK s = stK s') : s = s' := by simpa [stK] using h
theorem Enc.inj {ps : List (List Key)} : ∀ {t t' : HT} {h : Int}, Enc ps t h → Enc ps t' h → t = t'
  | .st s, .st s', _, h, h' => by rw [stK_inj (Has.inj h h')]
  | .st _, .jo _ _, _, h, ⟨_, _, _, _, h'⟩ => absurd (Has.inj h h') st_jo
  | .jo _ _, .st _, _, ⟨_, _, _, _, h⟩, h' => absurd (Has.inj h' h) st_jo
  | .jo l r, .jo l' r', _, ⟨a, b, h1, h2, h3⟩, ⟨a', b', k1, k2, k3⟩ => by
    obtain ⟨e1, e2, _⟩ := joK_inj (Has.inj h3 k3)
    subst e1 e2
    rw [Enc.inj h1 k1, Enc.inj h2 k2]
theorem HT.row_len : ∀ {n : Nat} {t : HT}, t.lv n → t.row.length = 2 ^ n
  | 0, .st _, _ => rfl
  | 0, .jo _ _, h => h.elim
  | n + 1, .st _, h => h.elim
  | n + 1, .jo l r, ⟨h1, h2⟩ => by
    show (l.row ++ r.row).length = _
    rw [List.length_append, HT.row_len h1, HT.row_len h2, Nat.pow_succ]
    omega
theorem HT.row_inj : ∀ {n : Nat} {t t' : HT}, t.lv n → t'.lv n → t.row = t'.row → t = t'
  | 0, .st _, .st _, _, _, h => by cases h; rfl
  | 0, .jo _ _, _, h, _, _ => h.elim
  | 0, .st _, .jo _ _, _, h, _ => h.elim
  | n + 1, .st _, _, h, _, _ => h.elim
  | n + 1, .jo _ _, .st _, _, h, _ => h.elim
  | n + 1, .jo l r, .jo l' r', ⟨h1, h2⟩, ⟨k1, k2⟩, h => by
    have e : l.row = l'.row ∧ r.row = r'.row := List.append_inj h (by rw [HT.row_len h1, HT.row_len k1])
    rw [HT.row_inj h1 k1 e.1, HT.row_inj h2 k2 e.2]
theorem HT.last_row : ∀ t : HT, t.row.getLast? = some t.last
  | .st _ => rfl
  | .jo l r => by
    show (l.row ++ r.row).getLast? = some r.last
    rw [List.getLast?_append, HT.last_row r]
    rfl
def Encs (ps : List (List Key)) : List HT → List Int → Prop
  | [], [] => True
  | t :: ts, h :: hs => Enc ps t h ∧ Encs ps ts hs
  | _, _ => False
theorem Encs.mono {ps qs : List (List Key)} (p : Pre ps qs) : ∀ {ts : List HT} {hs : List Int}, Encs ps ts hs → Encs qs ts hs
  | [], [], _ => trivial
  | _ :: _, _ :: _, ⟨h1, h2⟩ => ⟨h1.mono p, h2.mono p⟩
  | [], _ :: _, h => h.elim
  | _ :: _, [], h => h.elim
theorem Encs.len {ps : List (List Key)} : ∀ {ts : List HT} {hs : List Int}, Encs ps ts hs → ts.length = hs.length
  | [], [], _ => rfl
  | _ :: _, _ :: _, ⟨_, h2⟩ => by rw [List.length_cons, List.length_cons, h2.len]
  | [], _ :: _, h => h.elim
  | _ :: _, [], h => h.elim
theorem Encs.snoc {ps : List (List Key)} {t : HT} {h : Int} (k : Enc ps t h) : ∀ {ts : List HT} {hs : List Int}, Encs ps ts hs → Encs ps (ts ++ [t]) (hs ++ [h])
  | [], [], _ => ⟨k, trivial⟩
  | _ :: _, _ :: _, ⟨h1, h2⟩ => ⟨h1, h2.snoc k⟩
  | [], _ :: _, h => h.elim
  | _ :: _, [], h => h.elim
def pairUp : List HT → List HT
  | a :: b :: r => .jo a b :: pairUp r
  | _ => []
theorem pairUp_len : ∀ {ts : List HT} {m : Nat}, ts.length = 2 * m → (pairUp ts).length = m
  | [], m, h => by simp only [List.length_nil] at h; show 0 = m; omega
  | [_], m, h => by simp at h; omega
  | _ :: _ :: r, m, h => by
    simp only [List.length_cons] at h
    show (pairUp r).length + 1 = m
    rw [pairUp_len (m := m - 1) (by omega)]
    omega
theorem pairUp_row : ∀ {ts : List HT} {m : Nat}, ts.length = 2 * m → (pairUp ts).flatMap HT.row = ts.flatMap HT.row
  | [], _, _ => rfl
  | [_], m, h => by simp at h; omega
  | a :: b :: r, m, h => by
    simp only [List.length_cons] at h
    show (HT.jo a b :: pairUp r).flatMap HT.row = _
    rw [List.flatMap_cons, List.flatMap_cons, List.flatMap_cons, pairUp_row (m := m - 1) (by omega)]
    show (a.row ++ b.row) ++ _ = _
    rw [List.append_assoc]
theorem pairUp_lv {n : Nat} : ∀ {ts : List HT}, (∀ t ∈ ts, t.lv n) → ∀ t ∈ pairUp ts, t.lv (n + 1)
  | [], _, t, ht => by cases ht
  | [_], _, t, ht => by cases ht
  | a :: b :: r, h, t, ht => by
    rcases List.mem_cons.mp ht with rfl | ht
    · exact ⟨h a List.mem_cons_self, h b (List.mem_cons_of_mem _ List.mem_cons_self)⟩
    · exact pairUp_lv (fun x hx => h x (List.mem_cons_of_mem _ (List.mem_cons_of_mem _ hx))) t ht
theorem pairUp_last : ∀ {ts : List HT} {m : Nat}, ts.length = 2 * m → Ow.evry ((ts.map HT.last).drop 1) = (pairUp ts).map HT.last
  | [], _, _ => rfl
  | [_], m, h => by simp at h; omega
  | [a, b], _, _ => rfl
  | a :: b :: c :: r, m, h => by
    simp only [List.length_cons] at h
    have := pairUp_last (ts := c :: r) (m := m - 1) (by simp only [List.length_cons]; omega)
    simp only [List.map_cons, List.drop_succ_cons, List.drop_zero] at this ⊢
    show b.last :: Ow.evry (r.map HT.last) = b.last :: _
    rw [this]
/-- what is zipped: two histories and the last state of the second -/
def zItems (hs ls : List Int) : List D := zip3D ((Ow.evry hs).map D.int) ((Ow.evry (hs.drop 1)).map D.int) (ls.map D.int)
theorem zItems_at {ps : List (List Key)} : ∀ {ts : List HT} {hs : List Int} {m : Nat}, ts.length = 2 * m → Encs ps ts hs → (zItems hs ((pairUp ts).map HT.last)).length = m ∧ ∀ (k : Nat) x, (zItems hs ((pairUp ts).map HT.last))[k]? = some x → ∃ l r a b, (pairUp ts)[k]? = some (.jo l r) ∧ Enc ps l a ∧ Enc ps r b ∧ x = .tup [.int a, .int b, .int r.last]
  | [], [], m, h, _ => by
    simp only [List.length_nil] at h
    have : m = 0 := by omega
    subst this
    exact ⟨rfl, fun k x hx => by simp [zItems, Ow.evry, zip3D] at hx⟩
  | [_], _, m, h, _ => by simp at h; omega
  | [a, b], [x, y], m, h, ⟨h1, h2, _⟩ => by
    simp at h
    have : m = 1 := by omega
    subst this
    refine ⟨rfl, fun k z hz => ?_⟩
    match k with
    | 0 => cases hz; exact ⟨a, b, x, y, rfl, h1, h2, rfl⟩
    | k + 1 => simp [zItems, Ow.evry, zip3D, pairUp] at hz
  | a :: b :: c :: r, x :: y :: z :: s, m, h, ⟨h1, h2, h3⟩ => by
    simp only [List.length_cons] at h
    obtain ⟨i1, i2⟩ := zItems_at (ts := c :: r) (hs := z :: s) (m := m - 1) (by simp only [List.length_cons]; omega) h3
    have e : zItems (x :: y :: z :: s) ((pairUp (a :: b :: c :: r)).map HT.last) = .tup [.int x, .int y, .int b.last] :: zItems (z :: s) ((pairUp (c :: r)).map HT.last) := by
      unfold zItems
      simp only [List.drop_succ_cons, List.drop_zero]
      show zip3D ((x :: Ow.evry (z :: s)).map D.int) ((y :: Ow.evry s).map D.int) ((b.last :: (pairUp (c :: r)).map HT.last).map D.int) = _
      rfl
    rw [e]
    refine ⟨by rw [List.length_cons, i1]; omega, fun k w hw => ?_⟩
    match k with
    | 0 => cases hw; exact ⟨a, b, x, y, rfl, h1, h2, rfl⟩
    | k + 1 =>
      rw [List.getElem?_cons_succ] at hw
      obtain ⟨l, r', a', b', j1, j2, j3, j4⟩ := i2 k w hw
      exact ⟨l, r', a', b', j1, j2, j3, j4⟩
  | [], _ :: _, _, _, h => h.elim
  | _ :: _, [], _, _, h => h.elim
  | [_, _], [_], _, _, h => h.2.elim
  | [_, _], _ :: _ :: _ :: _, _, _, h => h.2.2.elim
  | _ :: _ :: _ :: _, [_], _, _, h => h.2.elim
  | _ :: _ :: _ :: _, [_, _], _, _, h => h.2.2.elim

end Sd

set_option Elab.async false
set_option linter.all false
set_option maxRecDepth 100000
set_option maxHeartbeats 400000
-- SUB tb__SIZES tb__SIZES
namespace Sd
open PySem PySem.Spec PyProof.Rows L2 GxR
local macro_rules | `(tactic| walk_at "dr") => `(tactic| try simp only [shut_eq, eVar, eC, eKIx, eKIn, eKGet2, eEvry, eTupG, iZip3D, dIsB, kLook_c, atI_c0, atI_c1, atI_c2, atI_c3, atI_c4, atI_c5, cut_t1, cut_t2, cut_t3, cut_t4, cut_t5, cut_d1, cut_d2, cut_d3, tk1, tk2, tk5, dp1, dp2,  eOp, eUn, asB, eAnd, eOr, eNot, eIf, eChain, tV, tAnd', tOr', tNot', aNil, aCons, eTup, eLst, eCB, eDK, eDT, dAdd, dI, dSub, dMod, dDiv, dXor, dShl, dShr, dMul, dCmp, dLe, dLt, dGe, dGt, dEq, dNe, dIn, dIsN, dIx_t, dIx_c, dIx_s, dIx_r, dIx_iD, dNeg, dLen_iD, dLen_s, dLen_t, dLen_c, dLen_r, dList, dTuple, dInt, dIsi, dAll, oNone, oSome, dSl, eSl,
  xName, xNil, xCons, xTup, xSub, sNext, sSeq, sBreak, sCont, sDrop, sRet, sRetN, sIf, sAsg, sAug, sFor, iL, iT, iS, iR1, iR2, iRev1, iRev2, tYes', eLc, eAll, dIAdd, dISub, eBM, eBM0, asRef, eDGet, eDGet1, eDGet2, eDIn, eDNotIn, sDPutD, sDDelD, eCa, eMe, eMa, eFld, sFldD, sFldAugD, setO, dAppend, dPopAt, isBl, isTr, List.length_set, List.lookup, Nat.reduceLT, Nat.reduceLeDiff, Nat.lt_irrefl, Nat.not_lt_zero, Nat.zero_le, Nat.le_refl, Nat.zero_lt_succ, Nat.lt_add_one, sRaise, eJoin, dJoin, F__law_draw, F__law_box, wDraw, wBox, br, Int.natCast_nonneg, Int.cast_ofNat_Int, Int.reduceEq, 
  dstart, List.map_cons, List.map_nil, List.length_cons, List.length_nil, List.replicate, List.cons_append, List.nil_append, List.append_nil, List.getElem?_cons_zero, List.getElem?_cons_succ, List.set_cons_zero, List.set_cons_succ, Nat.sub_self, Nat.reduceAdd, Nat.reduceSub, wipeD,
  dat_i, dat_s, dat_b, dat_n, dats_c, dats_e, eqD_ii, eqD_ss, eqD_bb, eqD_nn, eqD_is, eqD_si, isNon, unC_i, unC_s, unC_b, unC_n, unC_t, unC_c, flatD, List.all_cons, List.all_nil, List.any_cons, List.any_nil, decide_true, decide_false, List.mem_cons, tyD, isTy, tyKn, String.reduceBEq, Bool.or_true, Bool.true_or, Bool.or_false, Bool.false_or, Bool.and_true, Bool.true_and, Bool.and_false, Bool.false_and, Bool.or_self, Bool.and_self, true_and, and_true, true_implies, false_implies, forall_const, reduceCtorEq, Bool.true_eq_false, Bool.false_eq_true, if_true, if_false, ite_true, ite_false, Bool.not_true, Bool.not_false, implies_true, eq_self])
local macro_rules | `(tactic| walk_at "drn") => `(tactic| try simp only [shut_eq, eVar, eC, eKIx, eKIn, eKGet2, eEvry, eTupG, iZip3D, dIsB, kLook_c, atI_c0, atI_c1, atI_c2, atI_c3, atI_c4, atI_c5, cut_t1, cut_t2, cut_t3, cut_t4, cut_t5, cut_d1, cut_d2, cut_d3, tk1, tk2, tk5, dp1, dp2,  eOp, eUn, asB, eAnd, eOr, eNot, eIf, eChain, tV, tAnd', tOr', tNot', aNil, aCons, eTup, eLst, eCB, eDK, eDT, dAdd, dI, dSub, dMod, dDiv, dXor, dShl, dShr, dMul, dCmp, dLe, dLt, dGe, dGt, dEq, dNe, dIn, dIsN, dIx_t, dIx_c, dIx_s, dIx_r, dIx_iD, dNeg, dLen_iD, dLen_s, dLen_t, dLen_c, dLen_r, dList, dTuple, dInt, dIsi, dAll, oNone, oSome, dSl, eSl,
  xName, xNil, xCons, xTup, xSub, sNext, sSeq, NX_eq, sBreak, sCont, sDrop, sRet, sRetN, sIf, sAsg, sAug, sFor, iL, iT, iS, iR1, iR2, iRev1, iRev2, tYes', eLc, eAll, dIAdd, dISub, eBM, eBM0, asRef, eDGet, eDGet1, eDGet2, eDIn, eDNotIn, sDPutD, sDDelD, eCa, eMe, eMa, eFld, sFldD, sFldAugD, setO, dAppend, dPopAt, isBl, isTr, List.length_set, List.lookup, Nat.reduceLT, Nat.reduceLeDiff, Nat.lt_irrefl, Nat.not_lt_zero, Nat.zero_le, Nat.le_refl, Nat.zero_lt_succ, Nat.lt_add_one, sRaise, eJoin, dJoin, F__law_draw, F__law_box, wDraw, wBox, br, Int.natCast_nonneg, Int.cast_ofNat_Int, Int.reduceEq, 
  dstart, List.map_cons, List.map_nil, List.length_cons, List.length_nil, List.replicate, List.cons_append, List.nil_append, List.append_nil, List.getElem?_cons_zero, List.getElem?_cons_succ, List.set_cons_zero, List.set_cons_succ, Nat.sub_self, Nat.reduceAdd, Nat.reduceSub, wipeD,
  dat_i, dat_s, dat_b, dat_n, dats_c, dats_e, eqD_ii, eqD_ss, eqD_bb, eqD_nn, eqD_is, eqD_si, isNon, unC_i, unC_s, unC_b, unC_n, unC_t, unC_c, flatD, List.all_cons, List.all_nil, List.any_cons, List.any_nil, decide_true, decide_false, List.mem_cons, tyD, isTy, tyKn, String.reduceBEq, Bool.or_true, Bool.true_or, Bool.or_false, Bool.false_or, Bool.and_true, Bool.true_and, Bool.and_false, Bool.false_and, Bool.or_self, Bool.and_self, true_and, and_true, true_implies, false_implies, forall_const, reduceCtorEq, Bool.true_eq_false, Bool.false_eq_true, if_true, if_false, ite_true, ite_false, Bool.not_true, Bool.not_false, implies_true, eq_self])

theorem kn_st (A : Ad) {s : Int} (o : okSeal s) : KnK A (stK s) := ⟨.inl ⟨_, _, rfl, .inl ⟨rfl, rfl⟩⟩, .inl ⟨s, rfl, o⟩⟩
theorem kn_jo (A : Ad) {a b s : Int} (o1 : okSeal a) (o2 : okSeal b) (o3 : okSeal s) : KnK A (joK a b s) := ⟨.inl ⟨_, _, rfl, .inr (.inl ⟨rfl, rfl⟩)⟩, .inr (.inl ⟨a, b, s, rfl, o1, o2, o3⟩)⟩
def beK (x y : Int) : List Key := [.inr "behind", .inl x, .inl y]
theorem kn_be (A : Ad) {x y : Int} : KnK A (beK x y) := ⟨.inl ⟨"behind", _, rfl, .inr (.inr ⟨rfl, by decide +kernel, by decide +kernel⟩)⟩, .inr (.inr ⟨x, y, rfl⟩)⟩
/-! ### making a history -/
theorem nt_new {C a d l : Addr} {ps : List (List Key)} {n : Int} {S : Sto} {p : Addr} (hp : ntS C a d l ps n S p = none) : S p = none ∧ p ≠ a ∧ p ≠ d ∧ p ≠ l := by
  have h1 : p ≠ a := fun e => by rw [e, nt_a] at hp; cases hp
  have h2 : p ≠ d := fun e => by
    subst e
    unfold ntS at hp
    rw [sup_ne h1, sup_same] at hp
    cases hp
  have h3 : p ≠ l := fun e => by
    subst e
    unfold ntS at hp
    rw [sup_ne h1, sup_ne h2, sup_same] at hp
    cases hp
  exact ⟨by rw [nt_ne h1 h2 h3] at hp; exact hp, h1, h2, h3⟩
theorem row1 {x : Int} (o : okSeal x) : okRow [x] := fun s hs => by rw [List.mem_singleton.mp hs]; exact o
theorem rowC {x : Int} {xs : List Int} (o : okSeal x) (os : okRow xs) : okRow (x :: xs) := fun s hs => by
  rcases List.mem_cons.mp hs with rfl | hs
  · exact o
  · exact os s hs
theorem KnP.new {A : Ad} {ps : List (List Key)} {k : List Key} (h : KnP A ps) (h1 : KnK A k) (h2 : k.length ≤ 1000) : KnP A (newPs ps k) := by
  unfold newPs
  split
  · exact h
  · refine ⟨fun q hq => ?_, fun q hq => ?_⟩
    · rcases List.mem_append.mp hq with hq | hq
      · exact h.kn q hq
      · rw [List.mem_singleton.mp hq]; exact h1
    · rcases List.mem_append.mp hq with hq | hq
      · exact h.le q hq
      · rw [List.mem_singleton.mp hq]; exact h2
theorem el_int {i : Int} (h : 0 ≤ i ∧ i ≤ 281474976710656) : elD (.int i) = true := by
  simp [elD, numD, h.1, h.2]
theorem el_step : elD (.str "step") = true := by decide +kernel
theorem el_join : elD (.str "join") = true := by decide +kernel
theorem pa_st {s : Int} (h : okSeal s) : partsD (tupK (stK s)) = true := by
  show (decide (1 ≤ 2) && decide (2 ≤ 16) && (elD (.str "step") && (elD (.int s) && true))) = true
  rw [el_step, el_int ⟨by have := h.1; omega, h.2⟩]
  rfl
theorem pa_jo {a b s : Int} (ha : okSeal a) (hb : okSeal b) (hs : okSeal s) : partsD (tupK (joK a b s)) = true := by
  show (decide (1 ≤ 4) && decide (4 ≤ 16) && (elD (.str "join") && (elD (.int a) && (elD (.int b) && (elD (.int s) && true))))) = true
  rw [el_join, el_int ⟨by have := ha.1; omega, ha.2⟩, el_int ⟨by have := hb.1; omega, hb.2⟩, el_int ⟨by have := hs.1; omega, hs.2⟩]
  rfl
theorem Enc.pos {ps : List (List Key)} {t : HT} {h : Int} (e : Enc ps t h) : 1 ≤ h ∧ h ≤ ps.length := by
  cases t with
  | st s => exact Has.pos e
  | jo l r => obtain ⟨_, _, _, _, e⟩ := e; exact Has.pos e
theorem HT.last_mem (t : HT) : t.last ∈ t.row := by
  have := t.last_row
  exact List.mem_of_getLast? this
section
variable (A : Ad) {a d l : Addr} {ps : List (List Key)} {n : Int} {S : Sto} {Q : DK} {Ed : XD}
theorem all_seal {row : List Int} (h : okRow row) : (row.map D.int).all sealB = true := by
  rw [List.all_map, List.all_eq_true]
  intro x hx
  obtain ⟨h1, h2⟩ := h x hx
  show (decide (1 ≤ x) && decide (x ≤ 281474976710656)) = true
  rw [decide_eq_true h1, decide_eq_true h2]
  rfl
/-- what a comprehension has made: the first trees of ts -/
def Made (a d l : Addr) (n : Int) (ps : List (List Key)) (B : Nat) (S0 : Sto) (ts : List HT) (acc : List D) (S' : Sto) : Prop :=
  ∃ qs hs S'', S' = ntS A.C_Notary a d l qs n S'' ∧ acc = hs.map D.int ∧ Pre ps qs ∧ KnP A qs ∧ qs.length ≤ B + acc.length ∧ Encs qs (ts.take acc.length) hs ∧ Se S0 S''
theorem Made.add {B : Nat} {S0 S' : Sto} {ts : List HT} {acc : List D} {t : HT} {k : List Key} {R : DK} (h1 : d ≠ a) (h2 : l ≠ a) (h3 : l ≠ d) (hM : Made A a d l n ps B S0 ts acc S') (ht : ts[acc.length]? = some t) (hB : B + acc.length ≤ 900000)
    (hpk : partsD (tupK k) = true) (hkn : KnK A k) (hle : k.length ≤ 1000) (henc : ∀ qs, Pre ps qs → ∀ h, Has qs k h → Enc qs t h) (hR : ∀ y S', Made A a d l n ps B S0 ts (acc ++ [y]) S' → R y S') : F_Notary_seal A [.ref a, tupK k] S' R xF := by
  obtain ⟨qs, hs, S'', rfl, rfl, hp, hkq, hlq, he, hse⟩ := hM
  rw [w_seal A h1 h2 h3 (dat_mono (n := 1) (by decide) (dat_tupK (by omega))) hpk (by omega)]
  refine hR _ _ ⟨newPs qs k, hs ++ [sealOf (newPs qs k) k], S'', rfl, by simp, hp.trans Pre.new, hkq.new hkn hle, ?_, ?_, hse⟩
  · have := new_len qs k
    rw [List.length_append, List.length_singleton]
    omega
  · rw [List.length_append, List.length_singleton, List.take_succ, ht]
    exact Encs.snoc (henc _ (hp.trans Pre.new) _ (has_new qs k)) (he.mono Pre.new)
theorem w_history_of {row : List Int} {m : Nat} (h1 : d ≠ a) (h2 : l ≠ a) (h3 : l ≠ d) (hk : KnP A ps) (hm : m ≤ 10) (hlen : row.length = 2 ^ m) (hrow : okRow row) (hl : ps.length ≤ 500000)
    (q : ∀ qs t h S', Pre ps qs → KnP A qs → qs.length ≤ ps.length + 2 * row.length → t.row = row → t.lv m → Enc qs t h → Se S S' → Q (.int h) (ntS A.C_Notary a d l qs n S')) :
    F_history_of A [.ref a, iD row] (ntS A.C_Notary a d l ps n S) Q Ed := by
  have hN : row.length ≤ 1024 := by rw [hlen]; exact Nat.pow_le_pow_right (by decide) hm
  have hin : (decide ((1 : Int) = ((row.map D.int).length : Nat)) || (decide ((2 : Int) = ((row.map D.int).length : Nat)) || (decide ((4 : Int) = ((row.map D.int).length : Nat)) || (decide ((8 : Int) = ((row.map D.int).length : Nat)) || (decide ((16 : Int) = ((row.map D.int).length : Nat)) || (decide ((32 : Int) = ((row.map D.int).length : Nat)) || (decide ((64 : Int) = ((row.map D.int).length : Nat)) || (decide ((128 : Int) = ((row.map D.int).length : Nat)) || (decide ((256 : Int) = ((row.map D.int).length : Nat)) || (decide ((512 : Int) = ((row.map D.int).length : Nat)) || decide ((1024 : Int) = ((row.map D.int).length : Nat)))))))))))) = true := by
    rw [List.length_map, hlen]
    have : m = 0 ∨ m = 1 ∨ m = 2 ∨ m = 3 ∨ m = 4 ∨ m = 5 ∨ m = 6 ∨ m = 7 ∨ m = 8 ∨ m = 9 ∨ m = 10 := by omega
    rcases this with rfl | rfl | rfl | rfl | rfl | rfl | rfl | rfl | rfl | rfl | rfl <;> decide
  unfold F_history_of B_history_of
  unfold iD
  walk_at "dr"
  rw [hin]
  refine ⟨fun h => (by cases h), fun _ => ?_⟩
  refine allD_st trivial (p := sealB) (fun x hx R hR => ?_) ?_
  · obtain ⟨s, _, rfl⟩ := List.mem_map.mp hx
    walk_at "dr"
    rw [w_is_seal A dat_i]
    exact hR
  rw [all_seal hrow]
  refine ⟨fun h => (by cases h), fun _ => nx_go ?_⟩
  walk_at "dr"
  refine fun p2 hp2 => nx_go ?_
  obtain ⟨g2, g2a, g2d, g2l⟩ := nt_new hp2
  rw [nt_sup g2a g2d g2l]
  walk_at "dr"
  refine lcD_acc (J := Made A a d l n ps ps.length (sup S p2 (.lst (row.map D.int))) (row.map HT.st)) (fun acc x hx S1 hM => ⟨trivial, fun R hR => ?_⟩) (fun _ _ _ _ => trivial) (fun ys S1 hys hM p3 hp3 => ?_) (by rw [List.length_map]; omega) ⟨ps, [], _, rfl, rfl, .refl, hk, by simp, trivial, .refl⟩
  · obtain ⟨s, hs, rfl⟩ : ∃ s, row[acc.length]? = some s ∧ x = .int s := by
      rw [List.getElem?_map] at hx
      cases hr : row[acc.length]? with
      | none => rw [hr] at hx; cases hx
      | some s => rw [hr] at hx; cases hx; exact ⟨s, rfl, rfl⟩
    have hsm := hrow s (List.mem_of_getElem? hs)
    have hacc : acc.length < row.length := (List.getElem?_eq_some_iff.mp hs).1
    walk_at "dr"
    obtain ⟨qs, hs', S'', e, r⟩ := id hM
    rw [e, atO_eq nt_a]
    refine ⟨trivial, ?_⟩
    rw [← e]
    exact Made.add A h1 h2 h3 hM (t := .st s) (k := stK s) (by rw [List.getElem?_map, hs]; rfl) (by omega) (pa_st hsm) (kn_st A hsm) (by simp [stK]) (fun _ _ _ h => h) hR
  obtain ⟨qs, hs, S2, rfl, rfl, hp, hkq, hlq, he, hse⟩ := hM
  obtain ⟨g3, g3a, g3d, g3l⟩ := nt_new hp3
  rw [nt_sup g3a g3d g3l]
  have hys : hs.length = row.length := by simpa using hys
  have etake : (row.map HT.st).take (hs.map D.int).length = row.map HT.st := List.take_of_length_le (by simp [hys])
  rw [etake] at he
  have frow : ∀ l : List Int, (l.map HT.st).flatMap HT.row = l := by
    intro l
    induction l with
    | nil => rfl
    | cons x xs ih => rw [List.map_cons, List.flatMap_cons, ih]; rfl
  have hlast : row.map D.int = ((row.map HT.st).map HT.last).map D.int := by rw [List.map_map, List.map_map]; rfl
  have s2p2 : S2 p2 = some (.lst (((row.map HT.st).map HT.last).map D.int)) := by rw [← hlast]; exact hse _ _ sup_same
  have n23 : p2 ≠ p3 := sne s2p2 g3
  refine nx_go ?_
  clear hp2 hp3 hlast
  have hse0 : Se S S2 := (Se.one g2).trans hse
  walk_at "dr"
  generalize hu : sRet (eOp dIx (eVar 3) (eC (.int 0))) = u
  refine whN_by (fun δ S' => (∃ pl ph x4 x5 x6 x7, (δ = [some (D.ref a), some (.tup (row.map D.int)), some (.ref pl), some (.ref ph), x4, x5, x6, x7]) ∧ (pl ≠ a ∧ pl ≠ d ∧ pl ≠ l) ∧ (ph ≠ a ∧ ph ≠ d ∧ ph ≠ l) ∧
    ∃ k qs ts hs S'', S' = ntS A.C_Notary a d l qs n S'' ∧ S'' pl = some (.lst ((ts.map HT.last).map D.int)) ∧ S'' ph = some (.lst (hs.map D.int)) ∧ ts.length = 2 ^ k ∧ k ≤ m ∧ (∀ t ∈ ts, t.lv (m - k)) ∧ ts.flatMap HT.row = row ∧ Encs qs ts hs ∧ Pre ps qs ∧ KnP A qs ∧ qs.length + ts.length ≤ ps.length + 2 * row.length ∧ Se S S''))
    (lenAt 3) ?_
    ⟨p2, p3, none, none, none, none, rfl, ⟨g2a, g2d, g2l⟩, ⟨g3a, g3d, g3l⟩, m, qs, row.map HT.st, hs, _, rfl, by rw [sup_ne n23]; exact s2p2, sup_same, by simp [hlen], Nat.le_refl _, ?_, frow row, he, hp, hkq, ?_, hse0.new g3⟩
  rotate_left
  · intro t ht
    obtain ⟨s, _, rfl⟩ := List.mem_map.mp ht
    rw [Nat.sub_self]
    exact trivial
  · rw [List.length_map] at hlq ⊢
    omega
  clear hys etake frow s2p2 n23 he hp hkq hlq hse hse0 g3 g3a g3d g3l g2 g2a g2d g2l
  rintro Nx δ S' ⟨pl, ph, x4, x5, x6, x7, rfl, ⟨la, ld, ll⟩, ⟨ha, hd, hll⟩, k, qs, ts, hs, S'', rfl, epl, eph, hts, hkm, hlv, hrow2, he, hp, hkq, hlq, hse⟩ hN
  have hhs : hs.length = 2 ^ k := by rw [← he.len]; exact hts
  have eph' : ntS A.C_Notary a d l qs n S'' ph = some (.lst (hs.map D.int)) := by rw [nt_ne ha hd hll]; exact eph
  have epl' : ntS A.C_Notary a d l qs n S'' pl = some (.lst ((ts.map HT.last).map D.int)) := by rw [nt_ne la ld ll]; exact epl
  walk_at "dr"
  rw [atL_eq eph']
  rw [List.length_map]
  refine ⟨fun hgt => ?_, fun hgt => ?_⟩
  · have hgt : (1 : Int) < (hs.length : Nat) := of_decide_eq_true hgt
    obtain ⟨k, rfl⟩ : ∃ j, k = j + 1 := ⟨k - 1, by cases k with | zero => simp at hhs; omega | succ k => omega⟩
    have hts2 : ts.length = 2 * 2 ^ k := by rw [hts, Nat.pow_succ]; omega
    have hlast := pairUp_last hts2
    have hpl := pairUp_len hts2
    rw [atL_eq epl', List.map_drop.symm, Ow.evry_map, hlast]
    refine fun p4 hp4 => nx_go ?_
    obtain ⟨g4, g4a, g4d, g4l⟩ := nt_new hp4
    rw [nt_sup g4a g4d g4l]
    have n4 : ph ≠ p4 := sne eph g4
    have s4 : Se S (sup S'' p4 (.lst (((pairUp ts).map HT.last).map D.int))) := hse.new g4
    have e4 : sup S'' p4 (.lst (((pairUp ts).map HT.last).map D.int)) p4 = some (.lst (((pairUp ts).map HT.last).map D.int)) := sup_same
    have eph4 : sup S'' p4 (.lst (((pairUp ts).map HT.last).map D.int)) ph = some (.lst (hs.map D.int)) := by rw [sup_ne n4]; exact eph
    generalize sup S'' p4 _ = S4 at s4 e4 eph4 ⊢
    walk_at "dr"
    rw [atL_eq (by rw [nt_ne ha hd hll]; exact eph4), List.drop_zero]
    refine fun p5 hp5 => ?_
    obtain ⟨g5, g5a, g5d, g5l⟩ := nt_new hp5
    rw [nt_sup g5a g5d g5l]
    have s5 := s4.new (o := .lst (Ow.evry (hs.map D.int))) g5
    have e5 : sup S4 p5 (.lst (Ow.evry (hs.map D.int))) p5 = some (.lst (Ow.evry (hs.map D.int))) := sup_same
    have e4' : sup S4 p5 (.lst (Ow.evry (hs.map D.int))) p4 = some (.lst (((pairUp ts).map HT.last).map D.int)) := by rw [sup_ne (sne e4 g5)]; exact e4
    have eph5 : sup S4 p5 (.lst (Ow.evry (hs.map D.int))) ph = some (.lst (hs.map D.int)) := by rw [sup_ne (sne eph4 g5)]; exact eph4
    generalize sup S4 p5 _ = S5 at s5 e5 e4' eph5 ⊢
    rw [atL_eq (by rw [nt_ne ha hd hll]; exact eph5)]
    refine fun p6 hp6 => ?_
    obtain ⟨g6, g6a, g6d, g6l⟩ := nt_new hp6
    rw [nt_sup g6a g6d g6l]
    have s6 := s5.new (o := .lst (Ow.evry ((hs.map D.int).drop 1))) g6
    have e6 : sup S5 p6 (.lst (Ow.evry ((hs.map D.int).drop 1))) p6 = some (.lst (Ow.evry ((hs.map D.int).drop 1))) := sup_same
    have e5' : sup S5 p6 (.lst (Ow.evry ((hs.map D.int).drop 1))) p5 = some (.lst (Ow.evry (hs.map D.int))) := by rw [sup_ne (sne e5 g6)]; exact e5
    have e4'' : sup S5 p6 (.lst (Ow.evry ((hs.map D.int).drop 1))) p4 = some (.lst (((pairUp ts).map HT.last).map D.int)) := by rw [sup_ne (sne e4' g6)]; exact e4'
    generalize sup S5 p6 _ = S6 at s6 e6 e5' e4'' ⊢
    rw [atL_eq (by rw [nt_ne g5a g5d g5l]; exact e5'), atL_eq (by rw [nt_ne g6a g6d g6l]; exact e6), atL_eq (by rw [nt_ne g4a g4d g4l]; exact e4'')]
    have ez : zip3D (Ow.evry (hs.map D.int)) (Ow.evry ((hs.map D.int).drop 1)) (((pairUp ts).map HT.last).map D.int) = zItems hs ((pairUp ts).map HT.last) := by
      unfold zItems
      rw [Ow.evry_map, List.map_drop.symm, Ow.evry_map]
    rw [ez]
    obtain ⟨zl, zat⟩ := zItems_at hts2 he
    have okk : ∀ S1, (∃ qs S'', S1 = ntS A.C_Notary a d l qs n S'' ∧ Se S6 S'') → S1 p5 = some (.lst (Ow.evry (hs.map D.int))) ∧ S1 p6 = some (.lst (Ow.evry ((hs.map D.int).drop 1))) ∧ S1 p4 = some (.lst (((pairUp ts).map HT.last).map D.int)) := by
      rintro S1 ⟨q', S'', rfl, hh⟩
      rw [nt_ne g5a g5d g5l, nt_ne g6a g6d g6l, nt_ne g4a g4d g4l]
      exact ⟨hh _ _ e5', hh _ _ e6, hh _ _ e4''⟩
    have h2k : 2 ^ k ≤ row.length := by
      rw [hlen]
      exact Nat.pow_le_pow_right (by decide) (by omega)
    refine lcD_acc (J := Made A a d l n qs qs.length S6 (pairUp ts)) (fun acc x hx S1 hM => ⟨okk S1 ?_, fun R hR => ?_⟩) (fun acc S1 _ hM => okk S1 ?_) (fun ys S1 hys hM p7 hp7 => ?_) (by rw [zl]; omega) ⟨qs, [], _, rfl, rfl, .refl, hkq, by simp, trivial, .refl⟩
    · obtain ⟨q', hs', S'', e, _, _, _, _, _, r⟩ := hM
      exact ⟨q', S'', e, r⟩
    · obtain ⟨lt, rt, ha', hb', i1, i2, i3, rfl⟩ := zat _ _ hx
      have hacc : acc.length < 2 ^ k := by
        have := (List.getElem?_eq_some_iff.mp hx).1
        omega
      have rlast : okSeal rt.last := by
        have hm1 : HT.jo lt rt ∈ pairUp ts := List.mem_of_getElem? i1
        have : rt.last ∈ row := by
          rw [← hrow2, ← pairUp_row hts2]
          exact List.mem_flatMap.mpr ⟨_, hm1, List.mem_append_right _ rt.last_mem⟩
        exact hrow _ this
      have oka : okSeal ha' := ⟨i2.pos.1, by have := i2.pos.2; omega⟩
      have okb : okSeal hb' := ⟨i3.pos.1, by have := i3.pos.2; omega⟩
      walk_at "dr"
      obtain ⟨q', hs', S'', e, r⟩ := id hM
      rw [e, atO_eq nt_a]
      refine ⟨trivial, ?_⟩
      rw [← e]
      exact Made.add A h1 h2 h3 hM (t := .jo lt rt) (k := joK ha' hb' rt.last) i1 (by omega) (pa_jo oka okb rlast) (kn_jo A oka okb rlast) (by simp [joK]) (fun q2 pq h hh => ⟨ha', hb', i2.mono pq, i3.mono pq, hh⟩) hR
    · obtain ⟨q', hs', S'', e, _, _, _, _, _, r⟩ := hM
      exact ⟨q', S'', e, r⟩
    · obtain ⟨q2, hs2, S7, rfl, rfl, hp7', hk7, hl7, he7, hse7⟩ := hM
      obtain ⟨g7, g7a, g7d, g7l⟩ := nt_new hp7
      rw [nt_sup g7a g7d g7l]
      rw [zl] at hys
      have et : (pairUp ts).take (hs2.map D.int).length = pairUp ts := List.take_of_length_le (by omega)
      rw [et] at he7
      have e47 : S7 p4 = some (.lst (((pairUp ts).map HT.last).map D.int)) := hse7 _ _ e4''
      refine hN _ _ ⟨p4, p7, x4, x5, x6, x7, rfl, ⟨g4a, g4d, g4l⟩, ⟨g7a, g7d, g7l⟩, k, q2, pairUp ts, hs2, _, rfl, by rw [sup_ne (sne e47 g7)]; exact e47, sup_same, hpl, by omega, ?_, by rw [pairUp_row hts2]; exact hrow2, he7, hp.trans hp7', hk7, by omega, (s6.trans hse7).new g7⟩ ?_
      · have := pairUp_lv hlv
        rw [show m - k = m - (k + 1) + 1 by omega]
        exact this
      · rw [lenAt_eq (p := p7) (ds := hs2.map D.int) rfl (by rw [nt_ne g7a g7d g7l]; exact sup_same), lenAt_eq (p := ph) rfl eph', List.length_map, List.length_map]
        rw [List.length_map] at hys
        have : 0 < 2 ^ k := Nat.pos_of_ne_zero (by simp)
        rw [hys, hhs, Nat.pow_succ]
        omega
  · have hgt : ¬ (1 : Int) < (hs.length : Nat) := of_decide_eq_false hgt
    have k0 : k = 0 := by
      cases k with
      | zero => rfl
      | succ k =>
        have : 0 < 2 ^ k := Nat.pos_of_ne_zero (by simp)
        rw [Nat.pow_succ] at hhs
        omega
    subst k0
    subst hu
    obtain ⟨t, rfl⟩ := List.length_eq_one_iff.mp hts
    obtain ⟨h, rfl⟩ := List.length_eq_one_iff.mp hhs
    obtain ⟨e, _⟩ := he
    refine nx_go ?_
    walk_at "dr"
    rw [atL_eq eph']
    exact q qs t h S'' hp hkq (by rw [List.length_singleton] at hlq; omega) (by simpa using hrow2) (by simpa using hlv) e hse
end

end Sd

set_option Elab.async false
set_option linter.all false
set_option maxRecDepth 100000
set_option maxHeartbeats 400000
-- SUB tb__SIZES tb__SIZES
namespace Sd
open PySem PySem.Spec PyProof.Rows L2 GxR
local macro_rules | `(tactic| walk_at "dr") => `(tactic| try simp only [shut_eq, eVar, eC, eKIx, eKIn, eKGet2, eEvry, eTupG, iZip3D, dIsB, kLook_c, atI_c0, atI_c1, atI_c2, atI_c3, atI_c4, atI_c5, cut_t1, cut_t2, cut_t3, cut_t4, cut_t5, cut_d1, cut_d2, cut_d3, tk1, tk2, tk5, dp1, dp2,  eOp, eUn, asB, eAnd, eOr, eNot, eIf, eChain, tV, tAnd', tOr', tNot', aNil, aCons, eTup, eLst, eCB, eDK, eDT, dAdd, dI, dSub, dMod, dDiv, dXor, dShl, dShr, dMul, dCmp, dLe, dLt, dGe, dGt, dEq, dNe, dIn, dIsN, dIx_t, dIx_c, dIx_s, dIx_r, dIx_iD, dNeg, dLen_iD, dLen_s, dLen_t, dLen_c, dLen_r, dList, dTuple, dInt, dIsi, dAll, oNone, oSome, dSl, eSl,
  xName, xNil, xCons, xTup, xSub, sNext, sSeq, sBreak, sCont, sDrop, sRet, sRetN, sIf, sAsg, sAug, sFor, iL, iT, iS, iR1, iR2, iRev1, iRev2, tYes', eLc, eAll, dIAdd, dISub, eBM, eBM0, asRef, eDGet, eDGet1, eDGet2, eDIn, eDNotIn, sDPutD, sDDelD, eCa, eMe, eMa, eFld, sFldD, sFldAugD, setO, dAppend, dPopAt, isBl, isTr, List.length_set, List.lookup, Nat.reduceLT, Nat.reduceLeDiff, Nat.lt_irrefl, Nat.not_lt_zero, Nat.zero_le, Nat.le_refl, Nat.zero_lt_succ, Nat.lt_add_one, sRaise, eJoin, dJoin, F__law_draw, F__law_box, wDraw, wBox, br, Int.natCast_nonneg, Int.cast_ofNat_Int, Int.reduceEq, 
  dstart, List.map_cons, List.map_nil, List.length_cons, List.length_nil, List.replicate, List.cons_append, List.nil_append, List.append_nil, List.getElem?_cons_zero, List.getElem?_cons_succ, List.set_cons_zero, List.set_cons_succ, Nat.sub_self, Nat.reduceAdd, Nat.reduceSub, wipeD,
  dat_i, dat_s, dat_b, dat_n, dats_c, dats_e, eqD_ii, eqD_ss, eqD_bb, eqD_nn, eqD_is, eqD_si, isNon, unC_i, unC_s, unC_b, unC_n, unC_t, unC_c, flatD, List.all_cons, List.all_nil, List.any_cons, List.any_nil, decide_true, decide_false, List.mem_cons, tyD, isTy, tyKn, String.reduceBEq, Bool.or_true, Bool.true_or, Bool.or_false, Bool.false_or, Bool.and_true, Bool.true_and, Bool.and_false, Bool.false_and, Bool.or_self, Bool.and_self, true_and, and_true, true_implies, false_implies, forall_const, reduceCtorEq, Bool.true_eq_false, Bool.false_eq_true, if_true, if_false, ite_true, ite_false, Bool.not_true, Bool.not_false, implies_true, eq_self])
local macro_rules | `(tactic| walk_at "drn") => `(tactic| try simp only [shut_eq, eVar, eC, eKIx, eKIn, eKGet2, eEvry, eTupG, iZip3D, dIsB, kLook_c, atI_c0, atI_c1, atI_c2, atI_c3, atI_c4, atI_c5, cut_t1, cut_t2, cut_t3, cut_t4, cut_t5, cut_d1, cut_d2, cut_d3, tk1, tk2, tk5, dp1, dp2,  eOp, eUn, asB, eAnd, eOr, eNot, eIf, eChain, tV, tAnd', tOr', tNot', aNil, aCons, eTup, eLst, eCB, eDK, eDT, dAdd, dI, dSub, dMod, dDiv, dXor, dShl, dShr, dMul, dCmp, dLe, dLt, dGe, dGt, dEq, dNe, dIn, dIsN, dIx_t, dIx_c, dIx_s, dIx_r, dIx_iD, dNeg, dLen_iD, dLen_s, dLen_t, dLen_c, dLen_r, dList, dTuple, dInt, dIsi, dAll, oNone, oSome, dSl, eSl,
  xName, xNil, xCons, xTup, xSub, sNext, sSeq, NX_eq, sBreak, sCont, sDrop, sRet, sRetN, sIf, sAsg, sAug, sFor, iL, iT, iS, iR1, iR2, iRev1, iRev2, tYes', eLc, eAll, dIAdd, dISub, eBM, eBM0, asRef, eDGet, eDGet1, eDGet2, eDIn, eDNotIn, sDPutD, sDDelD, eCa, eMe, eMa, eFld, sFldD, sFldAugD, setO, dAppend, dPopAt, isBl, isTr, List.length_set, List.lookup, Nat.reduceLT, Nat.reduceLeDiff, Nat.lt_irrefl, Nat.not_lt_zero, Nat.zero_le, Nat.le_refl, Nat.zero_lt_succ, Nat.lt_add_one, sRaise, eJoin, dJoin, F__law_draw, F__law_box, wDraw, wBox, br, Int.natCast_nonneg, Int.cast_ofNat_Int, Int.reduceEq, 
  dstart, List.map_cons, List.map_nil, List.length_cons, List.length_nil, List.replicate, List.cons_append, List.nil_append, List.append_nil, List.getElem?_cons_zero, List.getElem?_cons_succ, List.set_cons_zero, List.set_cons_succ, Nat.sub_self, Nat.reduceAdd, Nat.reduceSub, wipeD,
  dat_i, dat_s, dat_b, dat_n, dats_c, dats_e, eqD_ii, eqD_ss, eqD_bb, eqD_nn, eqD_is, eqD_si, isNon, unC_i, unC_s, unC_b, unC_n, unC_t, unC_c, flatD, List.all_cons, List.all_nil, List.any_cons, List.any_nil, decide_true, decide_false, List.mem_cons, tyD, isTy, tyKn, String.reduceBEq, Bool.or_true, Bool.true_or, Bool.or_false, Bool.false_or, Bool.and_true, Bool.true_and, Bool.and_false, Bool.false_and, Bool.or_self, Bool.and_self, true_and, and_true, true_implies, false_implies, forall_const, reduceCtorEq, Bool.true_eq_false, Bool.false_eq_true, if_true, if_false, ite_true, ite_false, Bool.not_true, Bool.not_false, implies_true, eq_self])

/-! ### shapes -/
inductive Op where
  | no | st (s : Int) | jo (a b s : Int)
def sealI (i : Int) : Bool := decide (1 ≤ i) && decide (i ≤ 281474976710656)
def opC : List Key → Op
  | [.inr z, .inl s] => if z = "step" ∧ sealI s = true then .st s else .no
  | [.inr z, .inl a, .inl b, .inl s] => if z = "join" ∧ sealI a = true ∧ sealI b = true ∧ sealI s = true then .jo a b s else .no
  | _ => .no
def opD : Op → D
  | .no => .non
  | .st s => .tup [.str "step", .int s]
  | .jo a b s => .tup [.str "join", .int a, .int b, .int s]
theorem sizeZ_step : sizeZ "step" = 2 := rfl
theorem sizeZ_join : sizeZ "join" = 4 := by unfold sizeZ; rw [if_neg (fun e => step_ne_join e.symm), if_pos rfl]
theorem sealB_i {i : Int} : sealB (kD (.inl i)) = sealI i := rfl
theorem sealB_s {x : Str} : sealB (kD (.inr x)) = false := rfl
theorem opC_eq (k : List Key) : (if opnB k then tupK k else .non) = opD (opC k) := by
  have neg : ∀ z : Str, z ≠ "step" → z ≠ "join" → sizeZ z = 0 := fun z h1 h2 => by unfold sizeZ; rw [if_neg h1, if_neg h2]
  match k with
  | [] => rfl
  | .inl i :: r => cases r with
    | nil => rfl
    | cons x r => cases r with
      | nil => rfl
      | cons y r => cases r with
        | nil => rfl
        | cons u r => cases r <;> rfl
  | .inr z :: r =>
    have e : opnB (.inr z :: r) = (decide (sizeZ z = (r.length : Int) + 1) && (r.map kD).all sealB) := rfl
    rw [e]
    by_cases hz : z = "step"
    · subst hz
      rw [sizeZ_step]
      match r with
      | [] => rfl
      | [.inr x] => simp [opC, opD, sealB_s]
      | [.inl s] =>
        simp only [List.map_cons, List.map_nil, List.all_cons, List.all_nil, sealB_i, List.length_singleton, Bool.and_true]
        rw [show decide ((2 : Int) = ((1 : Nat) : Int) + 1) = true by decide, Bool.true_and]
        cases hs : sealI s <;> simp [opC, opD, hs, tupK, kD]
      | x :: y :: r =>
        rw [decide_eq_false (by simp only [List.length_cons]; omega), Bool.false_and]
        have : opC (.inr "step" :: x :: y :: r) = .no := by
          cases x <;> cases y <;> first | rfl | skip
          cases r with
          | nil => rfl
          | cons u r => cases r with
            | nil => cases u with
              | inr _ => rfl
              | inl _ => simp [opC, step_ne_join]
            | cons _ _ => cases u <;> rfl
        rw [this]
        rfl
    · by_cases hj : z = "join"
      · subst hj
        rw [sizeZ_join]
        match r with
        | [] => rfl
        | [x] =>
          have : opC [.inr "join", x] = .no := by
            cases x with
            | inr _ => rfl
            | inl _ => simp [opC, hz]
          rw [this]
          rfl
        | [x, y] => cases x <;> cases y <;> rfl
        | [.inl a, .inl b, .inl s] =>
          simp only [List.map_cons, List.map_nil, List.all_cons, List.all_nil, sealB_i, List.length_cons, List.length_nil, Bool.and_true]
          rw [show decide ((4 : Int) = ((0 + 1 + 1 + 1 : Nat) : Int) + 1) = true by decide, Bool.true_and]
          cases ha : sealI a <;> cases hb : sealI b <;> cases hs : sealI s <;> simp [opC, opD, ha, hb, hs, tupK, kD]
        | [.inr x, y, u] => cases y <;> cases u <;> simp [opC, opD, sealB_s]
        | [.inl x, .inr y, u] => cases u <;> simp [opC, opD, sealB_s]
        | [.inl x, .inl y, .inr u] => simp [opC, opD, sealB_s]
        | x :: y :: u :: v :: r =>
          rw [decide_eq_false (by simp only [List.length_cons]; omega), Bool.false_and]
          cases x <;> cases y <;> cases u <;> rfl
      · rw [neg z hz hj, decide_eq_false (by omega), Bool.false_and]
        have : opC (.inr z :: r) = .no := by
          match r with
          | [] => rfl
          | [.inr x] => rfl
          | [.inl s] => simp [opC, hz]
          | [x, y] => cases x <;> cases y <;> rfl
          | [.inl a, .inl b, .inl s] => simp [opC, hj]
          | [.inr x, y, u] => cases y <;> cases u <;> rfl
          | [.inl x, .inr y, u] => cases u <;> rfl
          | [.inl x, .inl y, .inr u] => rfl
          | x :: y :: u :: v :: r => cases x <;> cases y <;> cases u <;> rfl
        rw [this]
        rfl
def opnC (ps : List (List Key)) (h : Int) : Op := match getK ps h with | some k => opC k | none => .no
theorem opnD_C (ps : List (List Key)) (h : Int) : opnD ps h = opD (opnC ps h) := by
  unfold opnD opnC
  cases getK ps h with
  | none => rfl
  | some k => exact opC_eq k
def opL : Op → Int
  | .no => 0
  | .st s => s
  | .jo _ _ s => s
theorem opnB_C {k : List Key} : opnB k = (match opC k with | .no => false | _ => true) := by
  have e := opC_eq k
  cases hb : opnB k <;> cases hc : opC k <;> rw [hb, hc] at e <;> first | rfl | (simp [opD, tupK] at e)
theorem lastI_C (ps : List (List Key)) (h : Int) : lastI ps h = opL (opnC ps h) := by
  unfold lastI opnC
  cases getK ps h with
  | none => rfl
  | some k =>
    dsimp only
    have e := opC_eq k
    cases hb : opnB k with
    | false =>
      rw [hb] at e
      cases hc : opC k <;> rw [hc] at e <;> first | rfl | (simp [opD] at e)
    | true =>
      rw [hb] at e
      rw [if_pos rfl] at e ⊢
      cases hc : opC k with
      | no => rw [hc] at e; simp [opD, tupK] at e
      | st s =>
        rw [hc] at e
        have : k = stK s := by
          have e2 : k.map kD = (stK s).map kD := by simpa [opD, tupK, stK, kD] using e
          exact (List.map_inj_right (fun x y h => by cases x <;> cases y <;> simp_all [kD])).mp e2
        subst this
        rfl
      | jo a b s =>
        rw [hc] at e
        have : k = joK a b s := by
          have e2 : k.map kD = (joK a b s).map kD := by simpa [opD, tupK, joK, kD] using e
          exact (List.map_inj_right (fun x y h => by cases x <;> cases y <;> simp_all [kD])).mp e2
        subst this
        rfl
def isJo (ps : List (List Key)) (h : Int) : Bool := match opnC ps h with | .jo _ b s => decide (s = lastI ps b) | _ => false
def isSt (ps : List (List Key)) (h : Int) : Bool := match opnC ps h with | .st _ => true | _ => false
def lft (ps : List (List Key)) (h : Int) : Int := match opnC ps h with | .jo a _ _ => a | _ => 0
def rgt (ps : List (List Key)) (h : Int) : Int := match opnC ps h with | .jo _ b _ => b | _ => 0
def hlv (ps : List (List Key)) (hs : List Int) : List Int := hs.flatMap fun h => [lft ps h, rgt ps h]
def shp (ps : List (List Key)) : Nat → List Int → Bool
  | 0, hs => hs.all (isSt ps)
  | n + 1, hs => hs.all (isJo ps) && shp ps n (hlv ps hs)
section
variable (A : Ad) {a d l : Addr} {ps : List (List Key)} {n : Int} {h : Int} {S : Sto} {Q : DK} {Ed : XD}
theorem w_is_join (a : Ad) {o : Op} : F_is_join a [opD o] S Q Ed = Q (.bl (match o with | .jo _ _ _ => true | _ => false)) S := by
  unfold F_is_join B_is_join
  cases o with
  | no =>
    unfold opD
    walk_at "dr"
  | st s =>
    unfold opD
    walk_at "dr"
    rw [decide_eq_false step_ne_join]
  | jo a b s =>
    unfold opD
    walk_at "dr"
theorem jo_of {ps : List (List Key)} {h : Int} (hj : isJo ps h = true) : ∃ x y s, opnC ps h = .jo x y s ∧ lft ps h = x ∧ rgt ps h = y ∧ s = lastI ps y := by
  unfold isJo at hj
  cases ho : opnC ps h with
  | no => rw [ho] at hj; cases hj
  | st s => rw [ho] at hj; cases hj
  | jo x y s =>
    rw [ho] at hj
    exact ⟨x, y, s, rfl, by unfold lft; rw [ho], by unfold rgt; rw [ho], of_decide_eq_true hj⟩
theorem hlv_len {ps : List (List Key)} : ∀ {hs : List Int}, (hlv ps hs).length = 2 * hs.length
  | [] => rfl
  | x :: xs => by
    show (lft ps x :: rgt ps x :: hlv ps xs).length = _
    simp only [List.length_cons, hlv_len (hs := xs)]
    omega
theorem hlv_snoc {ps : List (List Key)} {hs : List Int} {x : Int} : hlv ps (hs ++ [x]) = hlv ps hs ++ [lft ps x] ++ [rgt ps x] := by
  unfold hlv
  rw [List.flatMap_append]
  simp
end

end Sd

set_option Elab.async false
set_option linter.all false
set_option maxRecDepth 100000
set_option maxHeartbeats 400000
-- SUB tb__SIZES tb__SIZES
namespace Sd
open PySem PySem.Spec PyProof.Rows L2 GxR
local macro_rules | `(tactic| walk_at "dr") => `(tactic| try simp only [shut_eq, eVar, eC, eKIx, eKIn, eKGet2, eEvry, eTupG, iZip3D, dIsB, kLook_c, atI_c0, atI_c1, atI_c2, atI_c3, atI_c4, atI_c5, cut_t1, cut_t2, cut_t3, cut_t4, cut_t5, cut_d1, cut_d2, cut_d3, tk1, tk2, tk5, dp1, dp2,  eOp, eUn, asB, eAnd, eOr, eNot, eIf, eChain, tV, tAnd', tOr', tNot', aNil, aCons, eTup, eLst, eCB, eDK, eDT, dAdd, dI, dSub, dMod, dDiv, dXor, dShl, dShr, dMul, dCmp, dLe, dLt, dGe, dGt, dEq, dNe, dIn, dIsN, dIx_t, dIx_c, dIx_s, dIx_r, dIx_iD, dNeg, dLen_iD, dLen_s, dLen_t, dLen_c, dLen_r, dList, dTuple, dInt, dIsi, dAll, oNone, oSome, dSl, eSl,
  xName, xNil, xCons, xTup, xSub, sNext, sSeq, sBreak, sCont, sDrop, sRet, sRetN, sIf, sAsg, sAug, sFor, iL, iT, iS, iR1, iR2, iRev1, iRev2, tYes', eLc, eAll, dIAdd, dISub, eBM, eBM0, asRef, eDGet, eDGet1, eDGet2, eDIn, eDNotIn, sDPutD, sDDelD, eCa, eMe, eMa, eFld, sFldD, sFldAugD, setO, dAppend, dPopAt, isBl, isTr, List.length_set, List.lookup, Nat.reduceLT, Nat.reduceLeDiff, Nat.lt_irrefl, Nat.not_lt_zero, Nat.zero_le, Nat.le_refl, Nat.zero_lt_succ, Nat.lt_add_one, sRaise, eJoin, dJoin, F__law_draw, F__law_box, wDraw, wBox, br, Int.natCast_nonneg, Int.cast_ofNat_Int, Int.reduceEq, 
  dstart, List.map_cons, List.map_nil, List.length_cons, List.length_nil, List.replicate, List.cons_append, List.nil_append, List.append_nil, List.getElem?_cons_zero, List.getElem?_cons_succ, List.set_cons_zero, List.set_cons_succ, Nat.sub_self, Nat.reduceAdd, Nat.reduceSub, wipeD,
  dat_i, dat_s, dat_b, dat_n, dats_c, dats_e, eqD_ii, eqD_ss, eqD_bb, eqD_nn, eqD_is, eqD_si, isNon, unC_i, unC_s, unC_b, unC_n, unC_t, unC_c, flatD, List.all_cons, List.all_nil, List.any_cons, List.any_nil, decide_true, decide_false, List.mem_cons, tyD, isTy, tyKn, String.reduceBEq, Bool.or_true, Bool.true_or, Bool.or_false, Bool.false_or, Bool.and_true, Bool.true_and, Bool.and_false, Bool.false_and, Bool.or_self, Bool.and_self, true_and, and_true, true_implies, false_implies, forall_const, reduceCtorEq, Bool.true_eq_false, Bool.false_eq_true, if_true, if_false, ite_true, ite_false, Bool.not_true, Bool.not_false, implies_true, eq_self])
local macro_rules | `(tactic| walk_at "drn") => `(tactic| try simp only [shut_eq, eVar, eC, eKIx, eKIn, eKGet2, eEvry, eTupG, iZip3D, dIsB, kLook_c, atI_c0, atI_c1, atI_c2, atI_c3, atI_c4, atI_c5, cut_t1, cut_t2, cut_t3, cut_t4, cut_t5, cut_d1, cut_d2, cut_d3, tk1, tk2, tk5, dp1, dp2,  eOp, eUn, asB, eAnd, eOr, eNot, eIf, eChain, tV, tAnd', tOr', tNot', aNil, aCons, eTup, eLst, eCB, eDK, eDT, dAdd, dI, dSub, dMod, dDiv, dXor, dShl, dShr, dMul, dCmp, dLe, dLt, dGe, dGt, dEq, dNe, dIn, dIsN, dIx_t, dIx_c, dIx_s, dIx_r, dIx_iD, dNeg, dLen_iD, dLen_s, dLen_t, dLen_c, dLen_r, dList, dTuple, dInt, dIsi, dAll, oNone, oSome, dSl, eSl,
  xName, xNil, xCons, xTup, xSub, sNext, sSeq, NX_eq, sBreak, sCont, sDrop, sRet, sRetN, sIf, sAsg, sAug, sFor, iL, iT, iS, iR1, iR2, iRev1, iRev2, tYes', eLc, eAll, dIAdd, dISub, eBM, eBM0, asRef, eDGet, eDGet1, eDGet2, eDIn, eDNotIn, sDPutD, sDDelD, eCa, eMe, eMa, eFld, sFldD, sFldAugD, setO, dAppend, dPopAt, isBl, isTr, List.length_set, List.lookup, Nat.reduceLT, Nat.reduceLeDiff, Nat.lt_irrefl, Nat.not_lt_zero, Nat.zero_le, Nat.le_refl, Nat.zero_lt_succ, Nat.lt_add_one, sRaise, eJoin, dJoin, F__law_draw, F__law_box, wDraw, wBox, br, Int.natCast_nonneg, Int.cast_ofNat_Int, Int.reduceEq, 
  dstart, List.map_cons, List.map_nil, List.length_cons, List.length_nil, List.replicate, List.cons_append, List.nil_append, List.append_nil, List.getElem?_cons_zero, List.getElem?_cons_succ, List.set_cons_zero, List.set_cons_succ, Nat.sub_self, Nat.reduceAdd, Nat.reduceSub, wipeD,
  dat_i, dat_s, dat_b, dat_n, dats_c, dats_e, eqD_ii, eqD_ss, eqD_bb, eqD_nn, eqD_is, eqD_si, isNon, unC_i, unC_s, unC_b, unC_n, unC_t, unC_c, flatD, List.all_cons, List.all_nil, List.any_cons, List.any_nil, decide_true, decide_false, List.mem_cons, tyD, isTy, tyKn, String.reduceBEq, Bool.or_true, Bool.true_or, Bool.or_false, Bool.false_or, Bool.and_true, Bool.true_and, Bool.and_false, Bool.false_and, Bool.or_self, Bool.and_self, true_and, and_true, true_implies, false_implies, forall_const, reduceCtorEq, Bool.true_eq_false, Bool.false_eq_true, if_true, if_false, ite_true, ite_false, Bool.not_true, Bool.not_false, implies_true, eq_self])

/-! ### what a tree's history shows -/
theorem sealI_ok {i : Int} (h : okSeal i) : sealI i = true := by
  unfold sealI
  rw [decide_eq_true h.1, decide_eq_true h.2]; rfl
def big (ps : List (List Key)) : Prop := (ps.length : Int) ≤ 281474976710656
theorem Enc.ok {ps : List (List Key)} {t : HT} {h : Int} (e : Enc ps t h) (hb : big ps) : okSeal h := ⟨e.pos.1, Int.le_trans e.pos.2 hb⟩
theorem open_st {ps : List (List Key)} {s h : Int} (e : Enc ps (.st s) h) (ho : okSeal s) : opnC ps h = .st s := by
  unfold opnC
  rw [has_get e]
  show (if ("step" : Str) = "step" ∧ sealI s = true then Op.st s else .no) = _
  rw [if_pos ⟨rfl, sealI_ok ho⟩]
theorem open_jo {ps : List (List Key)} {lt rt : HT} {h : Int} (e : Enc ps (.jo lt rt) h) (hb : big ps) (ho : okRow (HT.jo lt rt).row) : ∃ x y, Enc ps lt x ∧ Enc ps rt y ∧ opnC ps h = .jo x y rt.last := by
  obtain ⟨x, y, h1, h2, h3⟩ := e
  refine ⟨x, y, h1, h2, ?_⟩
  have hl : okSeal rt.last := ho _ (List.mem_append_right _ rt.last_mem)
  unfold opnC
  rw [has_get h3]
  show (if ("join" : Str) = "join" ∧ sealI x = true ∧ sealI y = true ∧ sealI rt.last = true then Op.jo x y rt.last else .no) = _
  rw [if_pos ⟨rfl, sealI_ok (h1.ok hb), sealI_ok (h2.ok hb), sealI_ok hl⟩]
theorem last_enc {ps : List (List Key)} {t : HT} {h : Int} (e : Enc ps t h) (hb : big ps) (ho : okRow t.row) : lastI ps h = t.last := by
  rw [lastI_C]
  cases t with
  | st s => rw [open_st e (ho s List.mem_cons_self)]; rfl
  | jo lt rt =>
    obtain ⟨x, y, _, _, e2⟩ := open_jo e hb ho
    rw [e2]; rfl
theorem okRow_l {lt rt : HT} (h : okRow (HT.jo lt rt).row) : okRow lt.row := fun s hs => h s (List.mem_append_left _ hs)
theorem okRow_r {lt rt : HT} (h : okRow (HT.jo lt rt).row) : okRow rt.row := fun s hs => h s (List.mem_append_right _ hs)
def halvesT : List HT → List HT
  | [] => []
  | .jo a b :: r => a :: b :: halvesT r
  | .st _ :: r => halvesT r
theorem enc_halves {ps : List (List Key)} (hb : big ps) {m : Nat} : ∀ {ts : List HT} {hs : List Int}, Encs ps ts hs → (∀ t ∈ ts, t.lv (m + 1) ∧ okRow t.row) → hs.all (isJo ps) = true ∧ Encs ps (halvesT ts) (hlv ps hs) ∧ ∀ t ∈ halvesT ts, t.lv m ∧ okRow t.row
  | [], [], _, _ => ⟨rfl, trivial, fun _ h => by cases h⟩
  | .st _ :: _, _ :: _, _, h => (h _ List.mem_cons_self).1.elim
  | .jo lt rt :: ts, x :: hs, ⟨e1, e2⟩, h => by
    obtain ⟨⟨v1, v2⟩, ho⟩ := h _ List.mem_cons_self
    obtain ⟨a, b, ea, eb, eo⟩ := open_jo e1 hb ho
    obtain ⟨i1, i2, i3⟩ := enc_halves hb e2 fun t ht => h t (List.mem_cons_of_mem _ ht)
    have j1 : isJo ps x = true := by
      unfold isJo
      rw [eo]
      show decide (rt.last = lastI ps b) = true
      rw [last_enc eb hb (okRow_r ho)]
      simp
    have l1 : lft ps x = a := by unfold lft; rw [eo]
    have r1 : rgt ps x = b := by unfold rgt; rw [eo]
    refine ⟨by rw [List.all_cons, j1, i1]; rfl, ?_, fun t ht => ?_⟩
    · show Encs ps (lt :: rt :: halvesT ts) (lft ps x :: rgt ps x :: hlv ps hs)
      rw [l1, r1]
      exact ⟨ea, eb, i2⟩
    · rcases List.mem_cons.mp ht with rfl | ht
      · exact ⟨v1, okRow_l ho⟩
      · rcases List.mem_cons.mp ht with rfl | ht
        · exact ⟨v2, okRow_r ho⟩
        · exact i3 t ht
  | [], _ :: _, h, _ => h.elim
  | _ :: _, [], h, _ => h.elim
theorem all_st {ps : List (List Key)} : ∀ {ts : List HT} {hs : List Int}, Encs ps ts hs → (∀ t ∈ ts, t.lv 0 ∧ okRow t.row) → hs.all (isSt ps) = true ∧ (hs ≠ [] → hs.all (isJo ps) = false)
  | [], [], _, _ => ⟨rfl, fun h => absurd rfl h⟩
  | .jo _ _ :: _, _ :: _, _, h => (h _ List.mem_cons_self).1.elim
  | .st s :: ts, x :: hs, ⟨e1, e2⟩, h => by
    have eo := open_st e1 ((h _ List.mem_cons_self).2 s List.mem_cons_self)
    have i1 := (all_st e2 fun t ht => h t (List.mem_cons_of_mem _ ht)).1
    refine ⟨?_, fun _ => ?_⟩
    · rw [List.all_cons, i1]
      unfold isSt
      rw [eo]; rfl
    · rw [List.all_cons]
      unfold isJo
      rw [eo]; rfl
  | [], _ :: _, h, _ => h.elim
  | _ :: _, [], h, _ => h.elim
theorem shp_true {ps : List (List Key)} (hb : big ps) : ∀ {m : Nat} {ts : List HT} {hs : List Int}, Encs ps ts hs → (∀ t ∈ ts, t.lv m ∧ okRow t.row) → shp ps m hs = true
  | 0, _, _, e, h => (all_st e h).1
  | m + 1, ts, hs, e, h => by
    obtain ⟨h1, h2, h3⟩ := enc_halves hb e h
    show (hs.all (isJo ps) && shp ps m (hlv ps hs)) = true
    rw [h1, shp_true hb h2 h3]; rfl
theorem shp_deep {ps : List (List Key)} (hb : big ps) : ∀ {m : Nat} {ts : List HT} {hs : List Int}, Encs ps ts hs → hs ≠ [] → (∀ t ∈ ts, t.lv m ∧ okRow t.row) → shp ps (m + 1) hs = false
  | 0, _, hs, e, hn, h => by
    show (hs.all (isJo ps) && _) = false
    rw [(all_st e h).2 hn]; rfl
  | m + 1, ts, hs, e, hn, h => by
    obtain ⟨h1, h2, h3⟩ := enc_halves hb e h
    show (hs.all (isJo ps) && shp ps (m + 1) (hlv ps hs)) = false
    rw [h1, shp_deep hb h2 (fun z => hn (List.eq_nil_of_length_eq_zero (by have := hlv_len (ps := ps) (hs := hs); rw [z] at this; simp at this; omega))) h3]; rfl
/-- the part of a tree: from level L down to level low -/
def subT (low : Nat) : Nat → HT → Nat → HT
  | 0, t, _ => t
  | L + 1, t, p => if L + 1 = low then t else match t with
    | .jo a b => if p / 2 ^ L % 2 = 0 then subT low L a p else subT low L b p
    | t => t
theorem subT_self {L : Nat} {t : HT} {p : Nat} : subT L L t p = t := by
  cases L with
  | zero => rfl
  | succ L => show (if L + 1 = L + 1 then t else _) = t; rw [if_pos rfl]
theorem subT_lv {low : Nat} : ∀ {L : Nat} {t : HT} {p : Nat}, low ≤ L → t.lv L → (subT low L t p).lv low
  | 0, t, p, h, ht => by have : low = 0 := by omega
                         subst this; exact ht
  | L + 1, .st _, p, h, ht => ht.elim
  | L + 1, .jo a b, p, h, ⟨h1, h2⟩ => by
    unfold subT
    split
    · rename_i e; rw [← e]; exact ⟨h1, h2⟩
    · dsimp only
      split
      · exact subT_lv (by omega) h1
      · exact subT_lv (by omega) h2
theorem subT_down {j : Nat} : ∀ {L : Nat} {t : HT} {p : Nat} {x y : HT}, j + 1 ≤ L → t.lv L → subT (j + 1) L t p = .jo x y → subT j L t p = if p / 2 ^ j % 2 = 0 then x else y
  | 0, t, p, x, y, h, _, _ => by omega
  | L + 1, .st _, p, x, y, h, ht, _ => ht.elim
  | L + 1, .jo a b, p, x, y, h, ⟨h1, h2⟩, e => by
    by_cases c : L = j
    · subst c
      rw [subT_self] at e
      cases e
      show (if L + 1 = L then _ else _) = _
      rw [if_neg (by omega)]
      dsimp only
      rw [subT_self, subT_self]
    · have e' : (if p / 2 ^ L % 2 = 0 then subT (j + 1) L a p else subT (j + 1) L b p) = .jo x y := by
        have : subT (j + 1) (L + 1) (.jo a b) p = if p / 2 ^ L % 2 = 0 then subT (j + 1) L a p else subT (j + 1) L b p := by
          show (if L + 1 = j + 1 then _ else _) = _
          rw [if_neg (by omega)]
        rw [← this]; exact e
      have : subT j (L + 1) (.jo a b) p = if p / 2 ^ L % 2 = 0 then subT j L a p else subT j L b p := by
        show (if L + 1 = j then _ else _) = _
        rw [if_neg (by omega)]
      rw [this]
      split
      · rename_i c2
        rw [if_pos c2] at e'
        exact subT_down (by omega) h1 e'
      · rename_i c2
        rw [if_neg c2] at e'
        exact subT_down (by omega) h2 e'
theorem subT_okRow {low : Nat} : ∀ {L : Nat} {t : HT} {p : Nat}, okRow t.row → okRow (subT low L t p).row
  | 0, t, p, h => h
  | L + 1, .st _, p, h => by unfold subT; split <;> exact h
  | L + 1, .jo a b, p, h => by
    unfold subT
    split
    · exact h
    · dsimp only
      split
      · exact subT_okRow (okRow_l h)
      · exact subT_okRow (okRow_r h)
theorem subT_row {low : Nat} : ∀ {L : Nat} {t : HT} {p : Nat}, low ≤ L → t.lv L → p % 2 ^ low = 0 → (subT low L t p).row = (t.row.drop (p % 2 ^ L)).take (2 ^ low)
  | 0, t, p, h, ht, hp => by
    have : low = 0 := by omega
    subst this
    have hl := HT.row_len ht
    show t.row = _
    rw [show p % 2 ^ 0 = 0 by omega, List.drop_zero, List.take_of_length_le (by omega)]
  | L + 1, .st _, p, h, ht, hp => ht.elim
  | L + 1, .jo a b, p, h, ⟨h1, h2⟩, hp => by
    have la := HT.row_len h1
    have lb := HT.row_len h2
    by_cases c : L + 1 = low
    · subst c
      rw [subT_self, hp, List.drop_zero, List.take_of_length_le]
      show (a.row ++ b.row).length ≤ _
      rw [List.length_append, la, lb, Nat.pow_succ]
      omega
    · have e : subT low (L + 1) (.jo a b) p = if p / 2 ^ L % 2 = 0 then subT low L a p else subT low L b p := by
        show (if L + 1 = low then _ else _) = _
        rw [if_neg c]
      have hpow : 2 ^ low ≤ 2 ^ L := Nat.pow_le_pow_right (by decide) (by omega)
      have hpos : 0 < 2 ^ L := Nat.pos_of_ne_zero (by simp)
      have em : p % 2 ^ (L + 1) = p % 2 ^ L + 2 ^ L * (p / 2 ^ L % 2) := by
        rw [Nat.pow_succ, Nat.mod_mul]
      rw [e, em]
      show _ = ((a.row ++ b.row).drop _).take _
      have hlt : p % 2 ^ L < 2 ^ L := Nat.mod_lt _ hpos
      have hdv : 2 ^ low ∣ 2 ^ L := Nat.pow_dvd_pow 2 (by omega)
      have hin : p % 2 ^ L + 2 ^ low ≤ 2 ^ L := by
        have h1 : 2 ^ low ∣ p % 2 ^ L := by
          refine (Nat.dvd_mod_iff hdv).mpr (Nat.dvd_of_mod_eq_zero hp)
        obtain ⟨u, hu⟩ := h1
        obtain ⟨v, hv⟩ := hdv
        rw [hu, hv] at hlt ⊢
        have : u < v := Nat.lt_of_mul_lt_mul_left hlt
        calc 2 ^ low * u + 2 ^ low = 2 ^ low * (u + 1) := by rw [Nat.mul_succ]
          _ ≤ 2 ^ low * v := Nat.mul_le_mul_left _ this
      by_cases c2 : p / 2 ^ L % 2 = 0
      · rw [if_pos c2, c2, Nat.mul_zero, Nat.add_zero, subT_row (by omega) h1 hp, List.drop_append_of_le_length (by omega), List.take_append_of_le_length (by rw [List.length_drop]; omega)]
      · rw [if_neg c2, show p / 2 ^ L % 2 = 1 by omega, Nat.mul_one, subT_row (by omega) h2 hp]
        have hn : a.row.drop (p % 2 ^ L + 2 ^ L) = [] := List.drop_eq_nil_of_le (by omega)
        rw [List.drop_append, hn, List.nil_append, la, show p % 2 ^ L + 2 ^ L - 2 ^ L = p % 2 ^ L by omega]

end Sd

set_option Elab.async false
set_option linter.all false
set_option maxRecDepth 100000
set_option maxHeartbeats 400000
-- SUB tb__SIZES tb__SIZES
namespace Sd
open PySem PySem.Spec PyProof.Rows L2 GxR
local macro_rules | `(tactic| walk_at "dr") => `(tactic| try simp only [shut_eq, eVar, eC, eKIx, eKIn, eKGet2, eEvry, eTupG, iZip3D, dIsB, kLook_c, atI_c0, atI_c1, atI_c2, atI_c3, atI_c4, atI_c5, cut_t1, cut_t2, cut_t3, cut_t4, cut_t5, cut_d1, cut_d2, cut_d3, tk1, tk2, tk5, dp1, dp2,  eOp, eUn, asB, eAnd, eOr, eNot, eIf, eChain, tV, tAnd', tOr', tNot', aNil, aCons, eTup, eLst, eCB, eDK, eDT, dAdd, dI, dSub, dMod, dDiv, dXor, dShl, dShr, dMul, dCmp, dLe, dLt, dGe, dGt, dEq, dNe, dIn, dIsN, dIx_t, dIx_c, dIx_s, dIx_r, dIx_iD, dNeg, dLen_iD, dLen_s, dLen_t, dLen_c, dLen_r, dList, dTuple, dInt, dIsi, dAll, oNone, oSome, dSl, eSl,
  xName, xNil, xCons, xTup, xSub, sNext, sSeq, sBreak, sCont, sDrop, sRet, sRetN, sIf, sAsg, sAug, sFor, iL, iT, iS, iR1, iR2, iRev1, iRev2, tYes', eLc, eAll, dIAdd, dISub, eBM, eBM0, asRef, eDGet, eDGet1, eDGet2, eDIn, eDNotIn, sDPutD, sDDelD, eCa, eMe, eMa, eFld, sFldD, sFldAugD, setO, dAppend, dPopAt, isBl, isTr, List.length_set, List.lookup, Nat.reduceLT, Nat.reduceLeDiff, Nat.lt_irrefl, Nat.not_lt_zero, Nat.zero_le, Nat.le_refl, Nat.zero_lt_succ, Nat.lt_add_one, sRaise, eJoin, dJoin, F__law_draw, F__law_box, wDraw, wBox, br, Int.natCast_nonneg, Int.cast_ofNat_Int, Int.reduceEq, 
  dstart, List.map_cons, List.map_nil, List.length_cons, List.length_nil, List.replicate, List.cons_append, List.nil_append, List.append_nil, List.getElem?_cons_zero, List.getElem?_cons_succ, List.set_cons_zero, List.set_cons_succ, Nat.sub_self, Nat.reduceAdd, Nat.reduceSub, wipeD,
  dat_i, dat_s, dat_b, dat_n, dats_c, dats_e, eqD_ii, eqD_ss, eqD_bb, eqD_nn, eqD_is, eqD_si, isNon, unC_i, unC_s, unC_b, unC_n, unC_t, unC_c, flatD, List.all_cons, List.all_nil, List.any_cons, List.any_nil, decide_true, decide_false, List.mem_cons, tyD, isTy, tyKn, String.reduceBEq, Bool.or_true, Bool.true_or, Bool.or_false, Bool.false_or, Bool.and_true, Bool.true_and, Bool.and_false, Bool.false_and, Bool.or_self, Bool.and_self, true_and, and_true, true_implies, false_implies, forall_const, reduceCtorEq, Bool.true_eq_false, Bool.false_eq_true, if_true, if_false, ite_true, ite_false, Bool.not_true, Bool.not_false, implies_true, eq_self])
local macro_rules | `(tactic| walk_at "drn") => `(tactic| try simp only [shut_eq, eVar, eC, eKIx, eKIn, eKGet2, eEvry, eTupG, iZip3D, dIsB, kLook_c, atI_c0, atI_c1, atI_c2, atI_c3, atI_c4, atI_c5, cut_t1, cut_t2, cut_t3, cut_t4, cut_t5, cut_d1, cut_d2, cut_d3, tk1, tk2, tk5, dp1, dp2,  eOp, eUn, asB, eAnd, eOr, eNot, eIf, eChain, tV, tAnd', tOr', tNot', aNil, aCons, eTup, eLst, eCB, eDK, eDT, dAdd, dI, dSub, dMod, dDiv, dXor, dShl, dShr, dMul, dCmp, dLe, dLt, dGe, dGt, dEq, dNe, dIn, dIsN, dIx_t, dIx_c, dIx_s, dIx_r, dIx_iD, dNeg, dLen_iD, dLen_s, dLen_t, dLen_c, dLen_r, dList, dTuple, dInt, dIsi, dAll, oNone, oSome, dSl, eSl,
  xName, xNil, xCons, xTup, xSub, sNext, sSeq, NX_eq, sBreak, sCont, sDrop, sRet, sRetN, sIf, sAsg, sAug, sFor, iL, iT, iS, iR1, iR2, iRev1, iRev2, tYes', eLc, eAll, dIAdd, dISub, eBM, eBM0, asRef, eDGet, eDGet1, eDGet2, eDIn, eDNotIn, sDPutD, sDDelD, eCa, eMe, eMa, eFld, sFldD, sFldAugD, setO, dAppend, dPopAt, isBl, isTr, List.length_set, List.lookup, Nat.reduceLT, Nat.reduceLeDiff, Nat.lt_irrefl, Nat.not_lt_zero, Nat.zero_le, Nat.le_refl, Nat.zero_lt_succ, Nat.lt_add_one, sRaise, eJoin, dJoin, F__law_draw, F__law_box, wDraw, wBox, br, Int.natCast_nonneg, Int.cast_ofNat_Int, Int.reduceEq, 
  dstart, List.map_cons, List.map_nil, List.length_cons, List.length_nil, List.replicate, List.cons_append, List.nil_append, List.append_nil, List.getElem?_cons_zero, List.getElem?_cons_succ, List.set_cons_zero, List.set_cons_succ, Nat.sub_self, Nat.reduceAdd, Nat.reduceSub, wipeD,
  dat_i, dat_s, dat_b, dat_n, dats_c, dats_e, eqD_ii, eqD_ss, eqD_bb, eqD_nn, eqD_is, eqD_si, isNon, unC_i, unC_s, unC_b, unC_n, unC_t, unC_c, flatD, List.all_cons, List.all_nil, List.any_cons, List.any_nil, decide_true, decide_false, List.mem_cons, tyD, isTy, tyKn, String.reduceBEq, Bool.or_true, Bool.true_or, Bool.or_false, Bool.false_or, Bool.and_true, Bool.true_and, Bool.and_false, Bool.false_and, Bool.or_self, Bool.and_self, true_and, and_true, true_implies, false_implies, forall_const, reduceCtorEq, Bool.true_eq_false, Bool.false_eq_true, if_true, if_false, ite_true, ite_false, Bool.not_true, Bool.not_false, implies_true, eq_self])

/-! ### spans -/
def spanB : D → Bool
  | .tup [a, b, c, d, e] => numD 10 a && numD 1023 b && (numD 281474976710656 c && (sealB d && sealB e))
  | _ => false
def spnD (lev first before start hist : Int) : D := .tup [.int lev, .int first, .int before, .int start, .int hist]
section
variable (A : Ad) {a d l : Addr} {ps : List (List Key)} {n : Int} {S : Sto} {Q : DK} {Ed : XD}
theorem dat_iD' {l : List Int} (h : l.length ≤ 1000000 := by simp) : dat 60 (iD l) = true := dat_mono (n := 1) (by decide) (dat_tup' (by rw [List.length_map]; exact h) fun d hd => by
  obtain ⟨i, _, rfl⟩ := List.mem_map.mp hd
  exact dat_i)
theorem w_is_span {v : D} (hv : dat 50 v = true) (q : Q (.bl (spanB v)) S) : F_is_span A [v] S Q Ed := by
  unfold F_is_span B_is_span
  cases v with
  | tup ds =>
    have hd := (dat_tup (n := 49) hv).2
    walk_at "dr"
    refine ⟨fun z => ?_, fun z => nx_go ?_⟩
    · have : spanB (.tup ds) = false := by
        unfold spanB
        split
        · rename_i h; cases h; simp at z
        · rfl
      rw [this] at q
      exact q
    · have z : ds.length = 5 := by simp at z; omega
      match ds, z with
      | [a, b, c, d, e], _ =>
      have h60 : ∀ x ∈ [a, b, c, d, e], dat 60 x = true := fun x hx => dat_mono (n := 49) (by decide) (hd x hx)
      walk_at "dr"
      have q : Q (.bl (numD 10 a && numD 1023 b && (numD 281474976710656 c && (sealB d && sealB e)))) S := q
      refine nx_go ?_
      walk_at "dr"
      rw [w_is_number A (h60 a (by simp))]
      cases h1 : numD 10 a
      · rw [h1, Bool.false_and, Bool.false_and] at q
        walk_at "dr"
        exact q
      rw [h1, Bool.true_and] at q
      walk_at "dr"
      rw [w_is_number A (h60 b (by simp))]
      cases h2 : numD 1023 b
      · rw [h2, Bool.false_and] at q
        walk_at "dr"
        exact q
      rw [h2, Bool.true_and] at q
      walk_at "dr"
      refine nx_go ?_
      walk_at "dr"
      rw [w_is_number A (h60 c (by simp))]
      cases h3 : numD 281474976710656 c
      · rw [h3, Bool.false_and] at q
        walk_at "dr"
        exact q
      rw [h3, Bool.true_and] at q
      walk_at "dr"
      rw [w_is_seal A (h60 d (by simp))]
      cases h4 : sealB d
      · rw [h4, Bool.false_and] at q
        walk_at "dr"
        exact q
      rw [h4, Bool.true_and] at q
      walk_at "dr"
      rw [w_is_seal A (h60 e (by simp))]
      exact q
  | _ =>
    first
    | (walk_at "dr"; exact q)
    | (simp [dat] at hv; done)
theorem w_root_span {x1 x2 x3 x4 : D} {start level h : Int} (q : Q (spnD level 0 0 start h) S) : F_root_span A [.tup [x1, x2, x3, x4, .int start, .int level], .int h] S Q Ed := by
  unfold F_root_span B_root_span
  walk_at "dr"
  refine nx_go ?_
  walk_at "dr"
  exact q
theorem w_split_span {lev first before start hist x y s behind middle : Int} {z : D} (h0 : 1 ≤ lev) (h1 : lev ≤ 10) (q : Q (.tup [spnD (lev - 1) first before start x, spnD (lev - 1) (first + 2 ^ (lev - 1).toNat) behind middle y]) S) : F_split_span A [spnD lev first before start hist, .tup [z, .int x, .int y, .int s], .int behind, .int middle] S Q Ed := by
  unfold F_split_span B_split_span spnD
  walk_at "dr"
  refine nx_go ?_
  walk_at "dr"
  refine nx_go ?_
  walk_at "dr"
  refine ⟨⟨by omega, by omega, by decide⟩, ?_⟩
  rw [Int.one_mul]
  refine nx_go ?_
  walk_at "dr"
  exact q
theorem w_are_rivals {x1 x2 x3 x4 y1 y2 y3 y4 h g : Int} (q : Q (.bl (decide ([x1, x2, x3, x4] = [y1, y2, y3, y4]) && !decide (h = g))) S) : F_are_rivals A [spnD x1 x2 x3 x4 h, spnD y1 y2 y3 y4 g] S Q Ed := by
  unfold F_are_rivals B_are_rivals spnD
  walk_at "dr"
  have e : eqD (D.tup (List.take 4 [D.int x1, D.int x2, D.int x3, D.int x4, D.int h])) (D.tup (List.take 4 [D.int y1, D.int y2, D.int y3, D.int y4, D.int g])) = decide ([x1, x2, x3, x4] = [y1, y2, y3, y4]) := pys_ints (xs := [x1, x2, x3, x4]) (ys := [y1, y2, y3, y4])
  rw [e]
  refine ⟨dat_iD' (l := [x1, x2, x3, x4]), dat_iD' (l := [y1, y2, y3, y4]), ?_⟩
  cases hc : decide ([x1, x2, x3, x4] = [y1, y2, y3, y4])
  · rw [hc, Bool.false_and] at q
    exact ⟨fun z => (by cases z), fun _ => q⟩
  · rw [hc, Bool.true_and] at q
    exact ⟨fun _ => q, fun z => (by cases z)⟩
theorem w_halves_of {lev first before start hist : Int} {n : Int} (h1 : d ≠ a) (h2 : l ≠ a) (h3 : l ≠ d) (hk : KnP A ps) (hl0 : 0 ≤ lev) (hl : lev ≤ 10)
    (q : ∀ n', Q (if lev = 0 then .non else match opnC ps hist with | .jo x y _ => (if lastI ps x = 0 ∨ dueD ps (.tup [.str "behind", .int before, .int x]) = 0 then .non else .tup [spnD (lev - 1) first before start x, spnD (lev - 1) (first + 2 ^ (lev - 1).toNat) (dueD ps (.tup [.str "behind", .int before, .int x])) (lastI ps x) y]) | _ => .non) (ntS A.C_Notary a d l ps n' S)) : F_halves_of A [.ref a, spnD lev first before start hist] (ntS A.C_Notary a d l ps n S) Q Ed := by
  unfold F_halves_of B_halves_of spnD
  walk_at "dr"
  refine nx_go ?_
  walk_at "dr"
  refine w_opening A h2 h3 hk (nx_go ?_)
  rw [opnD_C]
  walk_at "dr"
  refine ⟨fun z => ?_, fun z => ?_⟩
  · have q := q n
    rw [if_pos (of_decide_eq_true z)] at q
    exact q
  have z := of_decide_eq_false z
  rw [w_is_join]
  cases ho : opnC ps hist with
  | no =>
    have q := q n
    rw [if_neg z, ho] at q
    walk_at "dr"
    exact q
  | st s =>
    have q := q n
    rw [if_neg z, ho] at q
    walk_at "dr"
    exact q
  | jo x y s =>
    have q := q (n + 1)
    rw [if_neg z, ho] at q
    dsimp only at q
    unfold opD
    walk_at "dr"
    refine nx_go ?_
    walk_at "dr"
    refine w_last_of A h2 h3 hk (nx_go ?_)
    walk_at "dr"
    refine ⟨by rw [atO_eq nt_a]; trivial, ?_⟩
    have hdt : dat 60 (D.tup [.str "behind", .int before, .int x]) = true := dat_mono (n := 1) (by decide) (dat_tupK (k := [.inr "behind", .inl before, .inl x]) (by simp))
    rw [w_find A h1 hdt]
    refine nx_go ?_
    walk_at "dr"
    by_cases c1 : lastI ps x = 0
    · rw [if_pos (.inl c1)] at q
      exact ⟨fun _ => q, fun w => absurd c1 (of_decide_eq_false w)⟩
    · refine ⟨fun w => absurd (of_decide_eq_true w) c1, fun _ => ?_⟩
      by_cases c2 : dueD ps (.tup [.str "behind", .int before, .int x]) = 0
      · rw [if_pos (.inr c2)] at q
        exact ⟨fun _ => q, fun w => absurd c2 (of_decide_eq_false w)⟩
      · rw [if_neg (fun w => w.elim c1 c2)] at q
        refine ⟨fun w => absurd (of_decide_eq_true w) c2, fun _ => nx_go ?_⟩
        walk_at "dr"
        exact w_split_span A (by omega) hl q
end

end Sd

set_option Elab.async false
set_option linter.all false
set_option maxRecDepth 100000
set_option maxHeartbeats 400000
-- SUB tb__SIZES tb__SIZES
namespace Sd
open PySem PySem.Spec PyProof.Rows L2 GxR
local macro_rules | `(tactic| walk_at "dr") => `(tactic| try simp only [shut_eq, eVar, eC, eKIx, eKIn, eKGet2, eEvry, eTupG, iZip3D, dIsB, kLook_c, atI_c0, atI_c1, atI_c2, atI_c3, atI_c4, atI_c5, cut_t1, cut_t2, cut_t3, cut_t4, cut_t5, cut_d1, cut_d2, cut_d3, tk1, tk2, tk5, dp1, dp2,  eOp, eUn, asB, eAnd, eOr, eNot, eIf, eChain, tV, tAnd', tOr', tNot', aNil, aCons, eTup, eLst, eCB, eDK, eDT, dAdd, dI, dSub, dMod, dDiv, dXor, dShl, dShr, dMul, dCmp, dLe, dLt, dGe, dGt, dEq, dNe, dIn, dIsN, dIx_t, dIx_c, dIx_s, dIx_r, dIx_iD, dNeg, dLen_iD, dLen_s, dLen_t, dLen_c, dLen_r, dList, dTuple, dInt, dIsi, dAll, oNone, oSome, dSl, eSl,
  xName, xNil, xCons, xTup, xSub, sNext, sSeq, sBreak, sCont, sDrop, sRet, sRetN, sIf, sAsg, sAug, sFor, iL, iT, iS, iR1, iR2, iRev1, iRev2, tYes', eLc, eAll, dIAdd, dISub, eBM, eBM0, asRef, eDGet, eDGet1, eDGet2, eDIn, eDNotIn, sDPutD, sDDelD, eCa, eMe, eMa, eFld, sFldD, sFldAugD, setO, dAppend, dPopAt, isBl, isTr, List.length_set, List.lookup, Nat.reduceLT, Nat.reduceLeDiff, Nat.lt_irrefl, Nat.not_lt_zero, Nat.zero_le, Nat.le_refl, Nat.zero_lt_succ, Nat.lt_add_one, sRaise, eJoin, dJoin, F__law_draw, F__law_box, wDraw, wBox, br, Int.natCast_nonneg, Int.cast_ofNat_Int, Int.reduceEq, 
  dstart, List.map_cons, List.map_nil, List.length_cons, List.length_nil, List.replicate, List.cons_append, List.nil_append, List.append_nil, List.getElem?_cons_zero, List.getElem?_cons_succ, List.set_cons_zero, List.set_cons_succ, Nat.sub_self, Nat.reduceAdd, Nat.reduceSub, wipeD,
  dat_i, dat_s, dat_b, dat_n, dats_c, dats_e, eqD_ii, eqD_ss, eqD_bb, eqD_nn, eqD_is, eqD_si, isNon, unC_i, unC_s, unC_b, unC_n, unC_t, unC_c, flatD, List.all_cons, List.all_nil, List.any_cons, List.any_nil, decide_true, decide_false, List.mem_cons, tyD, isTy, tyKn, String.reduceBEq, Bool.or_true, Bool.true_or, Bool.or_false, Bool.false_or, Bool.and_true, Bool.true_and, Bool.and_false, Bool.false_and, Bool.or_self, Bool.and_self, true_and, and_true, true_implies, false_implies, forall_const, reduceCtorEq, Bool.true_eq_false, Bool.false_eq_true, if_true, if_false, ite_true, ite_false, Bool.not_true, Bool.not_false, implies_true, eq_self])
local macro_rules | `(tactic| walk_at "drn") => `(tactic| try simp only [shut_eq, eVar, eC, eKIx, eKIn, eKGet2, eEvry, eTupG, iZip3D, dIsB, kLook_c, atI_c0, atI_c1, atI_c2, atI_c3, atI_c4, atI_c5, cut_t1, cut_t2, cut_t3, cut_t4, cut_t5, cut_d1, cut_d2, cut_d3, tk1, tk2, tk5, dp1, dp2,  eOp, eUn, asB, eAnd, eOr, eNot, eIf, eChain, tV, tAnd', tOr', tNot', aNil, aCons, eTup, eLst, eCB, eDK, eDT, dAdd, dI, dSub, dMod, dDiv, dXor, dShl, dShr, dMul, dCmp, dLe, dLt, dGe, dGt, dEq, dNe, dIn, dIsN, dIx_t, dIx_c, dIx_s, dIx_r, dIx_iD, dNeg, dLen_iD, dLen_s, dLen_t, dLen_c, dLen_r, dList, dTuple, dInt, dIsi, dAll, oNone, oSome, dSl, eSl,
  xName, xNil, xCons, xTup, xSub, sNext, sSeq, NX_eq, sBreak, sCont, sDrop, sRet, sRetN, sIf, sAsg, sAug, sFor, iL, iT, iS, iR1, iR2, iRev1, iRev2, tYes', eLc, eAll, dIAdd, dISub, eBM, eBM0, asRef, eDGet, eDGet1, eDGet2, eDIn, eDNotIn, sDPutD, sDDelD, eCa, eMe, eMa, eFld, sFldD, sFldAugD, setO, dAppend, dPopAt, isBl, isTr, List.length_set, List.lookup, Nat.reduceLT, Nat.reduceLeDiff, Nat.lt_irrefl, Nat.not_lt_zero, Nat.zero_le, Nat.le_refl, Nat.zero_lt_succ, Nat.lt_add_one, sRaise, eJoin, dJoin, F__law_draw, F__law_box, wDraw, wBox, br, Int.natCast_nonneg, Int.cast_ofNat_Int, Int.reduceEq, 
  dstart, List.map_cons, List.map_nil, List.length_cons, List.length_nil, List.replicate, List.cons_append, List.nil_append, List.append_nil, List.getElem?_cons_zero, List.getElem?_cons_succ, List.set_cons_zero, List.set_cons_succ, Nat.sub_self, Nat.reduceAdd, Nat.reduceSub, wipeD,
  dat_i, dat_s, dat_b, dat_n, dats_c, dats_e, eqD_ii, eqD_ss, eqD_bb, eqD_nn, eqD_is, eqD_si, isNon, unC_i, unC_s, unC_b, unC_n, unC_t, unC_c, flatD, List.all_cons, List.all_nil, List.any_cons, List.any_nil, decide_true, decide_false, List.mem_cons, tyD, isTy, tyKn, String.reduceBEq, Bool.or_true, Bool.true_or, Bool.or_false, Bool.false_or, Bool.and_true, Bool.true_and, Bool.and_false, Bool.false_and, Bool.or_self, Bool.and_self, true_and, and_true, true_implies, false_implies, forall_const, reduceCtorEq, Bool.true_eq_false, Bool.false_eq_true, if_true, if_false, ite_true, ite_false, Bool.not_true, Bool.not_false, implies_true, eq_self])

section
variable (A : Ad) {b c : Addr} {S : Sto} {Q : DK} {Ed : XD}
theorem w_wrong_span {lev first before start hist : Int} (hb : S b = some (.box c)) (q : ∀ v S', Se S S' → spanB v = false → dat 50 v = true → Q v S') : F__law_wrong_span A [.ref b, spnD lev first before start hist] S Q Ed := by
  unfold F__law_wrong_span B__law_wrong_span spnD
  walk_at "dr"
  refine ⟨⟨c, hb⟩, by decide, by decide, fun i i0 i1 => nx_go ?_⟩
  walk_at "dr"
  intro p1 hp1 p2 hp2 p3 hp3 p4 hp4
  refine nx_go ?_
  walk_at "dr"
  intro p5 hp5 p6 hp6 p7 hp7
  have c1 := ((((((Se.one (o := .lst [.int 1024, .int (-1), .str "0", .bl false]) hp2).new (o := .lst [.int (-1), .int 281474976710657, .bl true, .non]) hp3).new (o := .lst [.ref p1, .ref p2, .ref p3]) hp4).new (o := .lst [.int 0, .int (-1), .int 281474976710657, .bl true]) hp5).new (o := .lst [.int 0, .int (-1), .int 281474976710657, .non]) hp6).new (o := .lst [.ref p5, .ref p6]) hp7) p1 _ sup_same
  have c2 := (((((Se.one (o := .lst [.int (-1), .int 281474976710657, .bl true, .non]) hp3).new (o := .lst [.ref p1, .ref p2, .ref p3]) hp4).new (o := .lst [.int 0, .int (-1), .int 281474976710657, .bl true]) hp5).new (o := .lst [.int 0, .int (-1), .int 281474976710657, .non]) hp6).new (o := .lst [.ref p5, .ref p6]) hp7) p2 _ sup_same
  have c3 := ((((Se.one (o := .lst [.ref p1, .ref p2, .ref p3]) hp4).new (o := .lst [.int 0, .int (-1), .int 281474976710657, .bl true]) hp5).new (o := .lst [.int 0, .int (-1), .int 281474976710657, .non]) hp6).new (o := .lst [.ref p5, .ref p6]) hp7) p3 _ sup_same
  have c4 := (((Se.one (o := .lst [.int 0, .int (-1), .int 281474976710657, .bl true]) hp5).new (o := .lst [.int 0, .int (-1), .int 281474976710657, .non]) hp6).new (o := .lst [.ref p5, .ref p6]) hp7) p4 _ sup_same
  have c5 := ((Se.one (o := .lst [.int 0, .int (-1), .int 281474976710657, .non]) hp6).new (o := .lst [.ref p5, .ref p6]) hp7) p5 _ sup_same
  have c6 := (Se.one (o := .lst [.ref p5, .ref p6]) hp7) p6 _ sup_same
  have hs := ((((((Se.one (o := .lst [.int 11, .int (-1), .bl true, .non]) hp1).new (o := .lst [.int 1024, .int (-1), .str "0", .bl false]) hp2).new (o := .lst [.int (-1), .int 281474976710657, .bl true, .non]) hp3).new (o := .lst [.ref p1, .ref p2, .ref p3]) hp4).new (o := .lst [.int 0, .int (-1), .int 281474976710657, .bl true]) hp5).new (o := .lst [.int 0, .int (-1), .int 281474976710657, .non]) hp6).new (o := .lst [.ref p5, .ref p6]) hp7
  rw [atL_eq c4, atL_eq sup_same]
  refine ⟨by simp, ?_⟩
  generalize sup (sup _ p6 _) p7 _ = S7 at c1 c2 c3 c4 c5 c6 hs ⊢
  clear hp1 hp2 hp3 hp4 hp5 hp6 hp7
  intro p8 hp8
  have t8 := Se.one (o := .lst ([.ref p1, .ref p2, .ref p3] ++ [.ref p5, .ref p6])) hp8
  have c1 := t8 _ _ c1
  have c2 := t8 _ _ c2
  have c3 := t8 _ _ c3
  have c5 := t8 _ _ c5
  have c6 := t8 _ _ c6
  have hs := hs.trans t8
  have c8 : sup S7 p8 (.lst ([.ref p1, .ref p2, .ref p3] ++ [.ref p5, .ref p6])) p8 = some (.lst [.ref p1, .ref p2, .ref p3, .ref p5, .ref p6]) := sup_same
  generalize sup S7 p8 _ = S8 at c1 c2 c3 c5 c6 c8 hs ⊢
  refine nx_go ?_
  walk_at "dr"
  rw [atL_eq c8]
  have hb8 := hs _ _ hb
  generalize hu : sRet _ = u
  have fin : ∀ (i : Nat) y, i ≤ 4 → dat 40 y = true → spanB (.tup ([D.int lev, D.int first, D.int before, D.int start, D.int hist].take i ++ [y] ++ [D.int lev, D.int first, D.int before, D.int start, D.int hist].drop (i + 1))) = false → NX u { nx := fun _ S' => Q .non S', rt := Q } [some (D.ref b), some (.tup [D.int lev, D.int first, D.int before, D.int start, D.int hist]), some (.int (i : Nat)), some (.ref p8), some y] S8 := by
    intro i y hi hy hsp
    subst hu
    refine nx_go ?_
    walk_at "dr"
    have hd5 : dat 49 (.tup [D.int lev, D.int first, D.int before, D.int start, D.int hist]) = true := dat_mono (n := 1) (by decide) (dat_tup' (by simp) fun d hd => by
      simp only [List.mem_cons, List.not_mem_nil, or_false] at hd
      rcases hd with rfl | rfl | rfl | rfl | rfl <;> exact dat_i)
    have hmem := (dat_tup (n := 48) hd5).2
    have hsp1 : ([D.int lev, D.int first, D.int before, D.int start, D.int hist].take i).length ≤ 5 := by rw [List.length_take]; exact Nat.min_le_right ..
    have hsp2 : ([D.int lev, D.int first, D.int before, D.int start, D.int hist].drop (i + 1)).length ≤ 5 := by rw [List.length_drop]; exact Nat.sub_le ..
    have hd1 : dat 50 (.tup ([D.int lev, D.int first, D.int before, D.int start, D.int hist].take i ++ [y] ++ [D.int lev, D.int first, D.int before, D.int start, D.int hist].drop (i + 1))) = true := dat_tup' (n := 49) (by rw [List.length_append, List.length_append]; simp only [List.length_singleton]; omega) fun d hd => by
      rcases List.mem_append.mp hd with hd | hd
      · rcases List.mem_append.mp hd with hd | hd
        · exact dat_mono (n := 48) (by decide) (hmem d (List.mem_of_mem_take hd))
        · rw [List.mem_singleton.mp hd]; exact dat_mono (n := 40) (by decide) hy
      · exact dat_mono (n := 48) (by decide) (hmem d (List.mem_of_mem_drop hd))
    rw [show ((i : Nat) : Int) + 1 = ((i + 1 : Nat) : Int) by omega, cut_take, cut_drop]
    refine ⟨by omega, by rw [List.length_append]; simp only [List.length_singleton]; omega, fun p hp => ?_⟩
    refine ⟨⟨c, (Se.one hp).box hb8⟩, by decide, by decide, fun j j0 j1 => ?_⟩
    unfold dMin
    dsimp only
    have hv : 0 ≤ (if j < 5 then j else (5 : Int)) ∧ (if j < 5 then j else (5 : Int)) < 6 := by split <;> omega
    generalize (if j < 5 then j else (5 : Int)) = v at hv ⊢
    rw [dIx_r]
    refine pickL hv.1 (by simpa using hv.2) fun z hz => q z _ (hs.trans (Se.one hp)) ?_ ?_
    · simp only [List.mem_cons, List.not_mem_nil, or_false] at hz
      rcases hz with rfl | rfl | rfl | rfl | rfl | rfl
      · exact hsp
      · rfl
      · rfl
      · rfl
      · rfl
      · rfl
    · simp only [List.mem_cons, List.not_mem_nil, or_false] at hz
      rcases hz with rfl | rfl | rfl | rfl | rfl | rfl
      · exact hd1
      · exact dat_mono (n := 1) (by decide) (dat_tup' (by simp) fun d hd => by
          simp only [List.take_succ_cons, List.take_zero, List.mem_cons, List.not_mem_nil, or_false] at hd
          rcases hd with rfl | rfl | rfl | rfl <;> exact dat_i)
      · exact dat_mono (n := 1) (by decide) (dat_tup' (by simp) fun d hd => by
          simp only [List.mem_cons, List.not_mem_nil, or_false] at hd
          rcases hd with rfl | rfl | rfl | rfl | rfl | rfl <;> exact dat_i)
      · exact dat_n
      · exact dat_mono (n := 1) (by decide) (dat_tup' (by simp) fun d hd => by cases hd)
      · exact dat_i
  have go : ∀ (i : Nat) (pk : Addr) (L : List D), i ≤ 4 → S8 pk = some (.lst L) → L.length = 4 → (∀ y ∈ L, dat 40 y = true ∧ spanB (.tup ([D.int lev, D.int first, D.int before, D.int start, D.int hist].take i ++ [y] ++ [D.int lev, D.int first, D.int before, D.int start, D.int hist].drop (i + 1))) = false) → ∀ f : Int, 0 ≤ f → f < 4 → dIx (.ref pk) (.int f) S8 fun x S1 => NX u { nx := fun _ S' => Q .non S', rt := Q } [some (D.ref b), some (.tup [D.int lev, D.int first, D.int before, D.int start, D.int hist]), some (.int (i : Nat)), some (.ref p8), some x] S1 := by
    intro i pk L hi hpk hL hy f f0 f1
    rw [dIx_r, atL_eq hpk]
    exact pickI f0 (by omega) fun y hm => fin i y hi (hy y hm).1 (hy y hm).2
  have hi : i = 0 ∨ i = 1 ∨ i = 2 ∨ i = 3 ∨ i = 4 := by omega
  rcases hi with rfl | rfl | rfl | rfl | rfl
  · rw [atI_c0]
    exact ⟨⟨c, hb8⟩, by decide, by decide, go 0 p1 _ (by decide) c1 rfl (by simp [spanB, numD, sealB, dat_i, dat_b, dat_n, dat_s])⟩
  · rw [atI_c1]
    exact ⟨⟨c, hb8⟩, by decide, by decide, go 1 p2 _ (by decide) c2 rfl (by simp [spanB, numD, sealB, dat_i, dat_b, dat_n, dat_s])⟩
  · rw [atI_c2]
    exact ⟨⟨c, hb8⟩, by decide, by decide, go 2 p3 _ (by decide) c3 rfl (by simp [spanB, numD, sealB, dat_i, dat_b, dat_n, dat_s])⟩
  · rw [atI_c3]
    exact ⟨⟨c, hb8⟩, by decide, by decide, go 3 p5 _ (by decide) c5 rfl (by simp [spanB, numD, sealB, dat_i, dat_b, dat_n, dat_s])⟩
  · rw [atI_c4]
    exact ⟨⟨c, hb8⟩, by decide, by decide, go 4 p6 _ (by decide) c6 rfl (by simp [spanB, numD, sealB, dat_i, dat_b, dat_n, dat_s])⟩
end

end Sd

set_option Elab.async false
set_option linter.all false
set_option maxRecDepth 100000
set_option maxHeartbeats 400000
-- SUB tb__SIZES tb__SIZES
namespace Sd
open PySem PySem.Spec PyProof.Rows L2 GxR
local macro_rules | `(tactic| walk_at "dr") => `(tactic| try simp only [shut_eq, eVar, eC, eKIx, eKIn, eKGet2, eEvry, eTupG, iZip3D, dIsB, kLook_c, atI_c0, atI_c1, atI_c2, atI_c3, atI_c4, atI_c5, cut_t1, cut_t2, cut_t3, cut_t4, cut_t5, cut_d1, cut_d2, cut_d3, tk1, tk2, tk5, dp1, dp2,  eOp, eUn, asB, eAnd, eOr, eNot, eIf, eChain, tV, tAnd', tOr', tNot', aNil, aCons, eTup, eLst, eCB, eDK, eDT, dAdd, dI, dSub, dMod, dDiv, dXor, dShl, dShr, dMul, dCmp, dLe, dLt, dGe, dGt, dEq, dNe, dIn, dIsN, dIx_t, dIx_c, dIx_s, dIx_r, dIx_iD, dNeg, dLen_iD, dLen_s, dLen_t, dLen_c, dLen_r, dList, dTuple, dInt, dIsi, dAll, oNone, oSome, dSl, eSl,
  xName, xNil, xCons, xTup, xSub, sNext, sSeq, sBreak, sCont, sDrop, sRet, sRetN, sIf, sAsg, sAug, sFor, iL, iT, iS, iR1, iR2, iRev1, iRev2, tYes', eLc, eAll, dIAdd, dISub, eBM, eBM0, asRef, eDGet, eDGet1, eDGet2, eDIn, eDNotIn, sDPutD, sDDelD, eCa, eMe, eMa, eFld, sFldD, sFldAugD, setO, dAppend, dPopAt, isBl, isTr, List.length_set, List.lookup, Nat.reduceLT, Nat.reduceLeDiff, Nat.lt_irrefl, Nat.not_lt_zero, Nat.zero_le, Nat.le_refl, Nat.zero_lt_succ, Nat.lt_add_one, sRaise, eJoin, dJoin, F__law_draw, F__law_box, wDraw, wBox, br, Int.natCast_nonneg, Int.cast_ofNat_Int, Int.reduceEq, 
  dstart, List.map_cons, List.map_nil, List.length_cons, List.length_nil, List.replicate, List.cons_append, List.nil_append, List.append_nil, List.getElem?_cons_zero, List.getElem?_cons_succ, List.set_cons_zero, List.set_cons_succ, Nat.sub_self, Nat.reduceAdd, Nat.reduceSub, wipeD,
  dat_i, dat_s, dat_b, dat_n, dats_c, dats_e, eqD_ii, eqD_ss, eqD_bb, eqD_nn, eqD_is, eqD_si, isNon, unC_i, unC_s, unC_b, unC_n, unC_t, unC_c, flatD, List.all_cons, List.all_nil, List.any_cons, List.any_nil, decide_true, decide_false, List.mem_cons, tyD, isTy, tyKn, String.reduceBEq, Bool.or_true, Bool.true_or, Bool.or_false, Bool.false_or, Bool.and_true, Bool.true_and, Bool.and_false, Bool.false_and, Bool.or_self, Bool.and_self, true_and, and_true, true_implies, false_implies, forall_const, reduceCtorEq, Bool.true_eq_false, Bool.false_eq_true, if_true, if_false, ite_true, ite_false, Bool.not_true, Bool.not_false, implies_true, eq_self])
local macro_rules | `(tactic| walk_at "drn") => `(tactic| try simp only [shut_eq, eVar, eC, eKIx, eKIn, eKGet2, eEvry, eTupG, iZip3D, dIsB, kLook_c, atI_c0, atI_c1, atI_c2, atI_c3, atI_c4, atI_c5, cut_t1, cut_t2, cut_t3, cut_t4, cut_t5, cut_d1, cut_d2, cut_d3, tk1, tk2, tk5, dp1, dp2,  eOp, eUn, asB, eAnd, eOr, eNot, eIf, eChain, tV, tAnd', tOr', tNot', aNil, aCons, eTup, eLst, eCB, eDK, eDT, dAdd, dI, dSub, dMod, dDiv, dXor, dShl, dShr, dMul, dCmp, dLe, dLt, dGe, dGt, dEq, dNe, dIn, dIsN, dIx_t, dIx_c, dIx_s, dIx_r, dIx_iD, dNeg, dLen_iD, dLen_s, dLen_t, dLen_c, dLen_r, dList, dTuple, dInt, dIsi, dAll, oNone, oSome, dSl, eSl,
  xName, xNil, xCons, xTup, xSub, sNext, sSeq, NX_eq, sBreak, sCont, sDrop, sRet, sRetN, sIf, sAsg, sAug, sFor, iL, iT, iS, iR1, iR2, iRev1, iRev2, tYes', eLc, eAll, dIAdd, dISub, eBM, eBM0, asRef, eDGet, eDGet1, eDGet2, eDIn, eDNotIn, sDPutD, sDDelD, eCa, eMe, eMa, eFld, sFldD, sFldAugD, setO, dAppend, dPopAt, isBl, isTr, List.length_set, List.lookup, Nat.reduceLT, Nat.reduceLeDiff, Nat.lt_irrefl, Nat.not_lt_zero, Nat.zero_le, Nat.le_refl, Nat.zero_lt_succ, Nat.lt_add_one, sRaise, eJoin, dJoin, F__law_draw, F__law_box, wDraw, wBox, br, Int.natCast_nonneg, Int.cast_ofNat_Int, Int.reduceEq, 
  dstart, List.map_cons, List.map_nil, List.length_cons, List.length_nil, List.replicate, List.cons_append, List.nil_append, List.append_nil, List.getElem?_cons_zero, List.getElem?_cons_succ, List.set_cons_zero, List.set_cons_succ, Nat.sub_self, Nat.reduceAdd, Nat.reduceSub, wipeD,
  dat_i, dat_s, dat_b, dat_n, dats_c, dats_e, eqD_ii, eqD_ss, eqD_bb, eqD_nn, eqD_is, eqD_si, isNon, unC_i, unC_s, unC_b, unC_n, unC_t, unC_c, flatD, List.all_cons, List.all_nil, List.any_cons, List.any_nil, decide_true, decide_false, List.mem_cons, tyD, isTy, tyKn, String.reduceBEq, Bool.or_true, Bool.true_or, Bool.or_false, Bool.false_or, Bool.and_true, Bool.true_and, Bool.and_false, Bool.false_and, Bool.or_self, Bool.and_self, true_and, and_true, true_implies, false_implies, forall_const, reduceCtorEq, Bool.true_eq_false, Bool.false_eq_true, if_true, if_false, ite_true, ite_false, Bool.not_true, Bool.not_false, implies_true, eq_self])

/-! ### what halves are due -/
def halD (ps : List (List Key)) (lev first before start hist : Int) : D := if lev = 0 then .non else match opnC ps hist with | .jo x y _ => (if lastI ps x = 0 ∨ dueD ps (.tup [.str "behind", .int before, .int x]) = 0 then .non else .tup [spnD (lev - 1) first before start x, spnD (lev - 1) (first + 2 ^ (lev - 1).toNat) (dueD ps (.tup [.str "behind", .int before, .int x])) (lastI ps x) y]) | _ => .non
theorem sealI_of {s : Int} (h : okSeal s) : sealI s = true := by
  unfold sealI
  rw [decide_eq_true h.1, decide_eq_true h.2]
  rfl
theorem sealI_ok' {s : Int} (h : sealI s = true) : okSeal s := by
  unfold sealI at h
  rw [Bool.and_eq_true] at h
  exact ⟨of_decide_eq_true h.1, of_decide_eq_true h.2⟩
theorem behind_ne1 : ("behind" : Str) ≠ "join" := by decide +kernel
theorem behind_ne2 : ("behind" : Str) ≠ "step" := by decide +kernel
theorem opC_st {s : Int} (h : okSeal s) : opC [.inr "step", .inl s] = .st s := by
  simp [opC, sealI_of h]
theorem opC_jo {a b s : Int} (h1 : okSeal a) (h2 : okSeal b) (h3 : okSeal s) : opC [.inr "join", .inl a, .inl b, .inl s] = .jo a b s := by
  simp [opC, sealI_of h1, sealI_of h2, sealI_of h3]
theorem opC_be {x y : Int} : opC (beK x y) = .no := rfl
theorem opC_seals {k : List Key} {a b s : Int} (h : opC k = .jo a b s) : okSeal a ∧ okSeal b ∧ okSeal s := by
  unfold opC at h
  split at h
  · split at h <;> cases h
  · split at h
    · rename_i c
      cases h
      exact ⟨sealI_ok' c.2.1, sealI_ok' c.2.2.1, sealI_ok' c.2.2.2⟩
    · cases h
  · cases h
theorem opnC_seals {ps : List (List Key)} {h a b s : Int} (e : opnC ps h = .jo a b s) : okSeal a ∧ okSeal b ∧ okSeal s := by
  unfold opnC at e
  split at e
  · exact opC_seals e
  · cases e
theorem lastI_ok {ps : List (List Key)} {h : Int} (e : lastI ps h ≠ 0) : okSeal (lastI ps h) := by
  rw [lastI_C] at e ⊢
  unfold opnC at e ⊢
  cases hg : getK ps h with
  | none => rw [hg] at e; exact absurd rfl e
  | some k =>
    rw [hg] at e
    dsimp only at e ⊢
    unfold opC at e ⊢
    split
    · split
      · rename_i c; exact sealI_ok' c.2
      · rename_i x y z hc; simp [hc, opL] at e
    · split
      · rename_i c; exact sealI_ok' c.2.2.2
      · rename_i x y z u hc; simp [hc, opL] at e
    · exfalso
      rename_i h1 h2
      split at e
      · exact h1 _ _ rfl
      · exact h2 _ _ _ _ rfl
      · exact e rfl
theorem kn_get {A : Ad} {ps : List (List Key)} {h : Int} {k : List Key} (hk : KnP A ps) (e : getK ps h = some k) : GK k := by
  unfold getK at e
  split at e
  · exact (hk.kn k (List.mem_of_getElem? e)).2
  · cases e
theorem pow_pick {lev : Int} (h0 : 1 ≤ lev) (h1 : lev ≤ 4) : atI [D.int 1, D.int 2, D.int 4, D.int 8] (lev - 1) = some (.int (2 ^ (lev - 1).toNat)) := by
  have : lev = 1 ∨ lev = 2 ∨ lev = 3 ∨ lev = 4 := by omega
  rcases this with rfl | rfl | rfl | rfl <;> rfl
def prtD (ps : List (List Key)) (h : Int) : D := match getK ps h with | some k => tupK k | none => .non
theorem prt_none {ps : List (List Key)} {h : Int} (e : getK ps h = none) : prtD ps h = .non := by unfold prtD; rw [e]
theorem prt_st {ps : List (List Key)} {h s : Int} (e : getK ps h = some [.inr "step", .inl s]) : prtD ps h = .tup [.str "step", .int s] := by unfold prtD; rw [e]; rfl
theorem prt_jo {ps : List (List Key)} {h x y s : Int} (e : getK ps h = some [.inr "join", .inl x, .inl y, .inl s]) : prtD ps h = .tup [.str "join", .int x, .int y, .int s] := by unfold prtD; rw [e]; rfl
theorem prt_be {ps : List (List Key)} {h x y : Int} (e : getK ps h = some [.inr "behind", .inl x, .inl y]) : prtD ps h = .tup [.str "behind", .int x, .int y] := by unfold prtD; rw [e]; rfl
section
variable (A : Ad) {a d l : Addr} {ps : List (List Key)} {n : Int} {S : Sto} {Q : DK} {Ed : XD}
theorem w_prt {h : Int} (h2 : l ≠ a) (h3 : l ≠ d) (hq : Q (prtD ps h) (ntS A.C_Notary a d l ps n S)) : F_Notary_parts_of A [.ref a, .int h] (ntS A.C_Notary a d l ps n S) Q Ed := w_parts_of A h2 h3 hq
theorem w_law_due {lev first before start hist : Int} (h1 : d ≠ a) (h2 : l ≠ a) (h3 : l ≠ d) (hk : KnP A ps) (hl0 : 0 ≤ lev) (hl : lev ≤ 4)
    (q : ∀ n' S', Se S S' → Q (halD ps lev first before start hist) (ntS A.C_Notary a d l ps n' S')) : F__law_due A [.ref a, spnD lev first before start hist] (ntS A.C_Notary a d l ps n S) Q Ed := by
  unfold F__law_due B__law_due spnD
  walk_at "dr"
  rw [atO_eq nt_a]
  refine ⟨trivial, ?_⟩
  refine w_prt A h2 h3 (nx_go ?_)
  walk_at "dr"
  refine ⟨fun z => ?_, fun z => ?_⟩
  · have q := q n S .refl
    unfold halD at q
    rw [if_pos (of_decide_eq_true z)] at q
    exact q
  have z := of_decide_eq_false z
  have hD : ∀ r, halD ps lev first before start hist = r → ∀ n' S', Se S S' → Q r (ntS A.C_Notary a d l ps n' S') := fun r e => by rw [← e]; exact q
  unfold halD at hD
  rw [if_neg z] at hD
  cases hg : getK ps hist with
  | none =>
    have := hD .non (by unfold opnC; rw [hg])
    rw [prt_none hg]
    walk_at "dr"
    exact this n S .refl
  | some k =>
    have hop : opnC ps hist = opC k := by unfold opnC; rw [hg]
    rcases kn_get hk hg with ⟨s, rfl, os⟩ | ⟨x, y, s, rfl, o1, o2, o3⟩ | ⟨x, y, rfl⟩
    · have := hD .non (by rw [hop, opC_st os])
      rw [prt_st hg]
      walk_at "dr"
      rw [decide_eq_false step_ne_join]
      exact ⟨fun _ => this n S .refl, fun z => (by cases z)⟩
    · rw [hop, opC_jo o1 o2 o3] at hD
      dsimp only at hD
      rw [prt_jo hg]
      walk_at "dr"
      refine nx_go ?_
      walk_at "dr"
      rw [atO_eq nt_a]
      refine ⟨trivial, ?_⟩
      refine w_prt A h2 h3 (nx_go ?_)
      generalize hu : sSeq (sAsg (eMe _ _ (F_Notary_find A) _ _ _) _) _ = u
      have tail : ∀ zs S', Se S S' → lastI ps x ≠ 0 → NX u { nx := fun _ S' => Q .non S', rt := Q } [some (D.ref a), some (D.tup [D.int lev, D.int first, D.int before, D.int start, D.int hist]), some (D.tup [D.str "join", D.int x, D.int y, D.int s]), some (D.tup (zs ++ [D.int (lastI ps x)])), none, none, none] (ntS A.C_Notary a d l ps n S') := by
        subst hu
        intro zs S' hs hne
        refine nx_go ?_
        walk_at "dr"
        rw [atO_eq nt_a]
        refine ⟨trivial, ?_⟩
        have hdt : dat 60 (D.tup [.str "behind", .int before, .int x]) = true := dat_mono (n := 1) (by decide) (dat_tupK (k := [.inr "behind", .inl before, .inl x]) (by simp))
        rw [w_find A h1 hdt]
        refine nx_go ?_
        walk_at "dr"
        by_cases c2 : dueD ps (.tup [.str "behind", .int before, .int x]) = 0
        · have := hD .non (by rw [if_pos (.inr c2)])
          exact ⟨fun _ => this _ S' hs, fun w => absurd c2 (of_decide_eq_false w)⟩
        · have := hD _ (by rw [if_neg (fun w => w.elim hne c2)])
          refine ⟨fun w => absurd (of_decide_eq_true w) c2, fun _ => nx_go ?_⟩
          walk_at "dr"
          refine fun p hp => ?_
          obtain ⟨g, ga, gd, gl⟩ := nt_new hp
          rw [atL_eq sup_same, pow_pick (by omega) (by omega), nt_sup ga gd gl]
          refine nx_go ?_
          walk_at "dr"
          refine nx_go ?_
          walk_at "dr"
          rw [atI_last]
          exact this _ _ (hs.new g)
      cases hgx : getK ps x with
      | none =>
        have := hD .non (by unfold lastI; rw [hgx]; rfl)
        rw [prt_none hgx]
        walk_at "dr"
        exact this n S .refl
      | some kx =>
        rcases kn_get hk hgx with ⟨s', rfl, os'⟩ | ⟨x', y', s', rfl, o1', o2', o3'⟩ | ⟨x', y', rfl⟩
        · rw [prt_st hgx]
          have hlast : lastI ps x = s' := by rw [lastI_C]; unfold opnC; rw [hgx]; dsimp only; rw [opC_st os']; rfl
          walk_at "dr"
          refine fun p hp => ?_
          obtain ⟨g, ga, gd, gl⟩ := nt_new hp
          rw [atL_eq sup_same, nt_sup ga gd gl]
          walk_at "dr"
          have := tail [.str "step"] _ (Se.one (o := .lst [D.str "step", D.str "join"]) g) (by rw [hlast]; have := os'.1; omega)
          rw [hlast] at this
          exact this
        · rw [prt_jo hgx]
          have hlast : lastI ps x = s' := by rw [lastI_C]; unfold opnC; rw [hgx]; dsimp only; rw [opC_jo o1' o2' o3']; rfl
          walk_at "dr"
          refine fun p hp => ?_
          obtain ⟨g, ga, gd, gl⟩ := nt_new hp
          rw [atL_eq sup_same, nt_sup ga gd gl]
          walk_at "dr"
          have := tail [.str "join", .int x', .int y'] _ (Se.one (o := .lst [D.str "step", D.str "join"]) g) (by rw [hlast]; have := o3'.1; omega)
          rw [hlast] at this
          exact this
        · have := hD .non (by rw [lastI_C]; unfold opnC; rw [hgx]; rfl)
          rw [prt_be hgx]
          walk_at "dr"
          refine fun p hp => ?_
          obtain ⟨g, ga, gd, gl⟩ := nt_new hp
          rw [atL_eq sup_same, nt_sup ga gd gl]
          walk_at "dr"
          rw [decide_eq_false (Ne.symm behind_ne2), decide_eq_false (Ne.symm behind_ne1)]
          exact ⟨fun _ => this _ _ (Se.one g), fun z => (by cases z)⟩
    · have := hD .non (by rw [hop]; rfl)
      rw [prt_be hg]
      walk_at "dr"
      rw [decide_eq_false behind_ne1]
      exact ⟨fun _ => this n S .refl, fun z => (by cases z)⟩
end

end Sd

set_option Elab.async false
set_option linter.all false
set_option maxRecDepth 100000
set_option maxHeartbeats 400000
-- SUB tb__SIZES tb__SIZES
namespace Sd
open PySem PySem.Spec PyProof.Rows L2 GxR
local macro_rules | `(tactic| walk_at "dr") => `(tactic| try simp only [shut_eq, eVar, eC, eKIx, eKIn, eKGet2, eEvry, eTupG, iZip3D, dIsB, kLook_c, atI_c0, atI_c1, atI_c2, atI_c3, atI_c4, atI_c5, cut_t1, cut_t2, cut_t3, cut_t4, cut_t5, cut_d1, cut_d2, cut_d3, tk1, tk2, tk5, dp1, dp2,  eOp, eUn, asB, eAnd, eOr, eNot, eIf, eChain, tV, tAnd', tOr', tNot', aNil, aCons, eTup, eLst, eCB, eDK, eDT, dAdd, dI, dSub, dMod, dDiv, dXor, dShl, dShr, dMul, dCmp, dLe, dLt, dGe, dGt, dEq, dNe, dIn, dIsN, dIx_t, dIx_c, dIx_s, dIx_r, dIx_iD, dNeg, dLen_iD, dLen_s, dLen_t, dLen_c, dLen_r, dList, dTuple, dInt, dIsi, dAll, oNone, oSome, dSl, eSl,
  xName, xNil, xCons, xTup, xSub, sNext, sSeq, sBreak, sCont, sDrop, sRet, sRetN, sIf, sAsg, sAug, sFor, iL, iT, iS, iR1, iR2, iRev1, iRev2, tYes', eLc, eAll, dIAdd, dISub, eBM, eBM0, asRef, eDGet, eDGet1, eDGet2, eDIn, eDNotIn, sDPutD, sDDelD, eCa, eMe, eMa, eFld, sFldD, sFldAugD, setO, dAppend, dPopAt, isBl, isTr, List.length_set, List.lookup, Nat.reduceLT, Nat.reduceLeDiff, Nat.lt_irrefl, Nat.not_lt_zero, Nat.zero_le, Nat.le_refl, Nat.zero_lt_succ, Nat.lt_add_one, sRaise, eJoin, dJoin, F__law_draw, F__law_box, wDraw, wBox, br, Int.natCast_nonneg, Int.cast_ofNat_Int, Int.reduceEq, 
  dstart, List.map_cons, List.map_nil, List.length_cons, List.length_nil, List.replicate, List.cons_append, List.nil_append, List.append_nil, List.getElem?_cons_zero, List.getElem?_cons_succ, List.set_cons_zero, List.set_cons_succ, Nat.sub_self, Nat.reduceAdd, Nat.reduceSub, wipeD,
  dat_i, dat_s, dat_b, dat_n, dats_c, dats_e, eqD_ii, eqD_ss, eqD_bb, eqD_nn, eqD_is, eqD_si, isNon, unC_i, unC_s, unC_b, unC_n, unC_t, unC_c, flatD, List.all_cons, List.all_nil, List.any_cons, List.any_nil, decide_true, decide_false, List.mem_cons, tyD, isTy, tyKn, String.reduceBEq, Bool.or_true, Bool.true_or, Bool.or_false, Bool.false_or, Bool.and_true, Bool.true_and, Bool.and_false, Bool.false_and, Bool.or_self, Bool.and_self, true_and, and_true, true_implies, false_implies, forall_const, reduceCtorEq, Bool.true_eq_false, Bool.false_eq_true, if_true, if_false, ite_true, ite_false, Bool.not_true, Bool.not_false, implies_true, eq_self])
local macro_rules | `(tactic| walk_at "drn") => `(tactic| try simp only [shut_eq, eVar, eC, eKIx, eKIn, eKGet2, eEvry, eTupG, iZip3D, dIsB, kLook_c, atI_c0, atI_c1, atI_c2, atI_c3, atI_c4, atI_c5, cut_t1, cut_t2, cut_t3, cut_t4, cut_t5, cut_d1, cut_d2, cut_d3, tk1, tk2, tk5, dp1, dp2,  eOp, eUn, asB, eAnd, eOr, eNot, eIf, eChain, tV, tAnd', tOr', tNot', aNil, aCons, eTup, eLst, eCB, eDK, eDT, dAdd, dI, dSub, dMod, dDiv, dXor, dShl, dShr, dMul, dCmp, dLe, dLt, dGe, dGt, dEq, dNe, dIn, dIsN, dIx_t, dIx_c, dIx_s, dIx_r, dIx_iD, dNeg, dLen_iD, dLen_s, dLen_t, dLen_c, dLen_r, dList, dTuple, dInt, dIsi, dAll, oNone, oSome, dSl, eSl,
  xName, xNil, xCons, xTup, xSub, sNext, sSeq, NX_eq, sBreak, sCont, sDrop, sRet, sRetN, sIf, sAsg, sAug, sFor, iL, iT, iS, iR1, iR2, iRev1, iRev2, tYes', eLc, eAll, dIAdd, dISub, eBM, eBM0, asRef, eDGet, eDGet1, eDGet2, eDIn, eDNotIn, sDPutD, sDDelD, eCa, eMe, eMa, eFld, sFldD, sFldAugD, setO, dAppend, dPopAt, isBl, isTr, List.length_set, List.lookup, Nat.reduceLT, Nat.reduceLeDiff, Nat.lt_irrefl, Nat.not_lt_zero, Nat.zero_le, Nat.le_refl, Nat.zero_lt_succ, Nat.lt_add_one, sRaise, eJoin, dJoin, F__law_draw, F__law_box, wDraw, wBox, br, Int.natCast_nonneg, Int.cast_ofNat_Int, Int.reduceEq, 
  dstart, List.map_cons, List.map_nil, List.length_cons, List.length_nil, List.replicate, List.cons_append, List.nil_append, List.append_nil, List.getElem?_cons_zero, List.getElem?_cons_succ, List.set_cons_zero, List.set_cons_succ, Nat.sub_self, Nat.reduceAdd, Nat.reduceSub, wipeD,
  dat_i, dat_s, dat_b, dat_n, dats_c, dats_e, eqD_ii, eqD_ss, eqD_bb, eqD_nn, eqD_is, eqD_si, isNon, unC_i, unC_s, unC_b, unC_n, unC_t, unC_c, flatD, List.all_cons, List.all_nil, List.any_cons, List.any_nil, decide_true, decide_false, List.mem_cons, tyD, isTy, tyKn, String.reduceBEq, Bool.or_true, Bool.true_or, Bool.or_false, Bool.false_or, Bool.and_true, Bool.true_and, Bool.and_false, Bool.false_and, Bool.or_self, Bool.and_self, true_and, and_true, true_implies, false_implies, forall_const, reduceCtorEq, Bool.true_eq_false, Bool.false_eq_true, if_true, if_false, ite_true, ite_false, Bool.not_true, Bool.not_false, implies_true, eq_self])

/-- _law_same of a thing and itself -/
theorem w_same (a : Ad) : ∀ (n : Nat) {x : D} {S : Sto} {Q : DK} {Ed : XD}, dat n x = true → n ≤ 50 → Q (.bl true) S → F__law_same a (n + 1) [x, x] S Q Ed := by
  intro n
  induction n with
  | zero =>
    intro x S Q Ed hx _ q
    unfold F__law_same B__law_same
    cases x <;> first | (simp [dat] at hx; done) | skip
    all_goals walk_at "drn"
    all_goals first | exact q | (simpa using q)
  | succ n ih =>
    intro x S Q Ed hx hn q
    unfold F__law_same B__law_same
    cases x <;> first | (simp [dat] at hx; done) | skip
    all_goals walk_at "drn"
    all_goals first | exact q | (simpa using q; done) | skip
    rename_i ds
    obtain ⟨hl, hd⟩ := dat_tup hx
    refine ⟨by omega, by omega, ?_⟩
    refine forD_ix (fun k δ S' => (∃ x, δ = [some (.tup ds), some (.tup ds), x]) ∧ S' = S) ?_ ?_ ⟨⟨_, rfl⟩, rfl⟩
    · rintro k x hk Nx δ S' ⟨⟨y, rfl⟩, rfl⟩ hN
      obtain ⟨hk, rfl⟩ := upto_get hk
      have hk' : k < ds.length := by omega
      refine ⟨trivial, ?_⟩
      walk_at "drn"
      rw [atI_getElem hk']
      walk_at "drn"
      refine ih (hd _ (List.getElem_mem _)) (by omega) ?_
      walk_at "drn"
      exact hN _ _ ⟨⟨_, rfl⟩, rfl⟩
    · rintro δ S' ⟨⟨y, rfl⟩, rfl⟩
      refine ⟨trivial, ?_⟩
      walk_at "drn"
      exact q

/-! ### the law of spans -/
theorem KnP.nil {A : Ad} : KnP A [] := ⟨fun k hk => (by cases hk), fun k hk => (by cases hk)⟩
structure Wb (b c na d l : Addr) (S : Sto) : Prop where
  sb : S b = some (.box c)
  nb : b ≠ na ∧ b ≠ d ∧ b ≠ l
section
variable {b c na d l : Addr} {S : Sto} {A : Ad} {ps : List (List Key)} {n : Int}
theorem Wb.B (h : Wb b c na d l S) : ntS A.C_Notary na d l ps n S b = some (.box c) := by
  rw [nt_ne h.nb.1 h.nb.2.1 h.nb.2.2]; exact h.sb
theorem Wb.se {S' : Sto} (h : Wb b c na d l S) (hs : Se S S') : Wb b c na d l S' := ⟨hs _ _ h.sb, h.nb⟩
end
theorem pw_at {m : Nat} (h : m ≤ 4) : atI [D.int 1, D.int 2, D.int 4, D.int 8, D.int 16] ((m : Nat) : Int) = some (.int ((2 ^ m : Nat) : Int)) := by
  match m, h with
  | 0, _ => rfl
  | 1, _ => rfl
  | 2, _ => rfl
  | 3, _ => rfl
  | 4, _ => rfl
/-- a good span -/
structure GS (ps : List (List Key)) (lev first before start hist : Int) : Prop where
  l0 : 0 ≤ lev
  l1 : lev ≤ 4
  f0 : 0 ≤ first
  f1 : first + 2 ^ lev.toNat ≤ 16
  b0 : 0 ≤ before
  b1 : before ≤ 1000000
  st : okSeal start
  hi : okSeal hist
theorem GS.span {ps : List (List Key)} {lev first before start hist : Int} (g : GS ps lev first before start hist) : spanB (spnD lev first before start hist) = true := by
  have p : (0 : Int) < 2 ^ lev.toNat := by exact Int.pow_pos (by decide)
  have := g.f1
  show (numD 10 (.int lev) && numD 1023 (.int first) && (numD 281474976710656 (.int before) && (sealB (.int start) && sealB (.int hist)))) = true
  simp only [numD, sealB]
  rw [decide_eq_true g.l0, decide_eq_true (by have := g.l1; omega : lev ≤ 10), decide_eq_true g.f0, decide_eq_true (by omega : first ≤ 1023), decide_eq_true g.b0, decide_eq_true (by have := g.b1; omega : before ≤ 281474976710656), decide_eq_true g.st.1, decide_eq_true g.st.2, decide_eq_true g.hi.1, decide_eq_true g.hi.2]
  rfl
noncomputable def restD (a : Ad) (Ed : XD) : DS :=
  (sSeq (sIf (tV (eOp (dIsB true) (eCa (F_are_rivals a) Ed (aCons (eVar 8) (aCons (eVar 8) aNil))) (eC (.bl false))))
  (sRet (eC (.bl false)))
  sNext)
  (sSeq (sAsg (eMe a.C_Notary nm_Notary (F_Notary_parts_of a) Ed (eVar 2) (aCons (eOp dIx (eVar 8) (eC (.int 4))) aNil)) (xName 12))
  (sSeq (sIf (tAnd' (tV (eOp (dIsN true) (eVar 12) (eC .non))) (tAnd' (tV (eOp dEq (eOp dIx (eVar 12) (eC (.int 0))) (eC (.str "join")))) (tV (eOp dGt (eCa (F__law_draw a) Ed (aCons (eVar 1) (aCons (eC (.int 4)) aNil))) (eC (.int 0))))))
  (sDrop (eMe a.C_Notary nm_Notary (F_Notary_seal a) Ed (eVar 2) (aCons (eTup (aCons (eC (.str "behind")) (aCons (eOp dIx (eVar 8) (eC (.int 2))) (aCons (eOp dIx (eVar 12) (eC (.int 1))) aNil)))) aNil)))
  sNext)
  (sSeq (sAsg (eMe a.C_Notary nm_Notary (F_Notary_size a) xF (eVar 2) aNil) (xName 13))
  (sSeq (sAsg (eCa (F_halves_of a) Ed (aCons (eVar 2) (aCons (eVar 8) aNil))) (xName 14))
  (sSeq (sIf (tOr' (tNot' (tV (eCa (F__law_same a 8) Ed (aCons (eVar 14) (aCons (eCa (F__law_due a) Ed (aCons (eVar 2) (aCons (eVar 8) aNil))) aNil))))) (tV (eOp dNe (eMe a.C_Notary nm_Notary (F_Notary_size a) xF (eVar 2) aNil) (eVar 13))))
  (sRet (eC (.bl false)))
  sNext)
  (sSeq (sIf (tV (eOp (dIsN false) (eVar 14) (eC .non)))
  (sSeq (sAsg (eOp dAdd (eSl (eVar 8) oNone (oSome (eC (.int 4)))) (eTup (aCons (eOp dAdd (eMe a.C_Notary nm_Notary (F_Notary_size a) xF (eVar 2) aNil) (eC (.int 3))) aNil))) (xName 15))
  (sRet (eOp (dIsN false) (eCa (F_halves_of a) Ed (aCons (eVar 2) (aCons (eVar 15) aNil))) (eC .non))))
  sNext)
  (sAsg (eOp dIx (eVar 14) (eCa (F__law_draw a) Ed (aCons (eVar 1) (aCons (eC (.int 2)) aNil)))) (xName 8)))))))))
theorem el_behind : elD (.str "behind") = true := by decide +kernel
theorem pa_be {x y : Int} (h1 : 0 ≤ x ∧ x ≤ 281474976710656) (h2 : 0 ≤ y ∧ y ≤ 281474976710656) : partsD (tupK (beK x y)) = true := by
  show (decide (1 ≤ 3) && decide (3 ≤ 16) && (elD (.str "behind") && (elD (.int x) && (elD (.int y) && true)))) = true
  rw [el_behind, el_int h1, el_int h2]
  rfl
theorem sealOf_le {ps : List (List Key)} {k : List Key} : 0 ≤ sealOf ps k ∧ sealOf ps k ≤ ps.length := by
  by_cases h : sealOf ps k = 0
  · rw [h]; exact ⟨Int.le_refl _, by omega⟩
  · have := (has_of h).pos
    exact ⟨by omega, this.2⟩
theorem dueD_le {ps : List (List Key)} {v : D} : 0 ≤ dueD ps v ∧ dueD ps v ≤ ps.length := by
  unfold dueD
  split
  · exact sealOf_le
  · exact ⟨Int.le_refl _, by omega⟩
theorem hal_cases {ps : List (List Key)} {lev first before start hist : Int} (g : GS ps lev first before start hist) (hl : ps.length ≤ 900000) : halD ps lev first before start hist = .non ∨ ∃ l1 f1 b1 s1 h1 l2 f2 b2 s2 h2, halD ps lev first before start hist = .tup [spnD l1 f1 b1 s1 h1, spnD l2 f2 b2 s2 h2] ∧ GS ps l1 f1 b1 s1 h1 ∧ GS ps l2 f2 b2 s2 h2 := by
  unfold halD
  split
  · exact .inl rfl
  rename_i hz
  split
  · rename_i x y z ho
    split
    · exact .inl rfl
    · rename_i hc
      obtain ⟨o1, o2, o3⟩ := opnC_seals ho
      have hla : okSeal (lastI ps x) := lastI_ok fun e => hc (.inl e)
      have l0 := g.l0
      have l1 := g.l1
      have f0 := g.f0
      have f1 := g.f1
      have hp : (2 : Int) ^ lev.toNat = 2 ^ (lev - 1).toNat + 2 ^ (lev - 1).toNat := by
        rw [show lev.toNat = (lev - 1).toNat + 1 by omega, Int.pow_succ]; omega
      have hq : (0 : Int) < 2 ^ (lev - 1).toNat := Int.pow_pos (by decide)
      have hd := dueD_le (ps := ps) (v := .tup [.str "behind", .int before, .int x])
      exact .inr ⟨_, _, _, _, _, _, _, _, _, _, rfl, ⟨by omega, by omega, f0, by omega, g.b0, g.b1, g.st, o1⟩, ⟨by omega, by omega, by omega, by omega, hd.1, by omega, hla, o2⟩⟩
  · exact .inl rfl
theorem nt_se {A : Ad} {b c na d l : Addr} {ps : List (List Key)} {n : Int} {S S' : Sto} (la : l ≠ na) (ld : l ≠ d) (da : d ≠ na) (W : Wb b c na d l S) (h : Se (ntS A.C_Notary na d l ps n S) S') : S' = ntS A.C_Notary na d l ps n S' ∧ Wb b c na d l S' := by
  refine ⟨?_, h _ _ W.B, W.nb⟩
  unfold ntS
  rw [sup_id (h _ _ (nt_l la ld)), sup_id (h _ _ (nt_d da)), sup_id (h _ _ nt_a)]
section
variable (A : Ad) {b c na d l : Addr} {S : Sto} {Q : DK} {Ed : XD} {ps : List (List Key)} {n lev first before start hist : Int}
def dl (b na : Addr) (x3 x4 x5 x6 x7 : Option D) (sp : D) (x9 x10 x11 x12 x13 x14 x15 x16 : Option D) : DV := [some D.scr, some (.ref b), some (.ref na), x3, x4, x5, x6, x7, some sp, x9, x10, x11, x12, x13, x14, x15, x16]
theorem dat_spn : dat 6 (spnD lev first before start hist) = true := by
  unfold spnD
  refine dat_tup' (by simp) fun d hd => ?_
  simp only [List.mem_cons, List.not_mem_nil, or_false] at hd
  rcases hd with rfl | rfl | rfl | rfl | rfl <;> exact dat_i
theorem dat_hal : dat 7 (halD ps lev first before start hist) = true := by
  unfold halD
  split
  · rfl
  split
  · split
    · rfl
    · refine dat_mono (n := 2) (by decide) (dat_tup' (by simp) fun d hd => ?_)
      simp only [List.mem_cons, List.not_mem_nil, or_false] at hd
      rcases hd with rfl | rfl
      · unfold spnD
        refine dat_tup' (by simp) fun d hd => ?_
        simp only [List.mem_cons, List.not_mem_nil, or_false] at hd
        rcases hd with rfl | rfl | rfl | rfl | rfl <;> exact dat_i
      · unfold spnD
        refine dat_tup' (by simp) fun d hd => ?_
        simp only [List.mem_cons, List.not_mem_nil, or_false] at hd
        rcases hd with rfl | rfl | rfl | rfl | rfl <;> exact dat_i
  · rfl
theorem w_hal (h1 : d ≠ na) (h2 : l ≠ na) (h3 : l ≠ d) (hk : KnP A ps) (hl0 : 0 ≤ lev) (hl : lev ≤ 10) (q : ∀ n', Q (halD ps lev first before start hist) (ntS A.C_Notary na d l ps n' S)) : F_halves_of A [.ref na, spnD lev first before start hist] (ntS A.C_Notary na d l ps n S) Q Ed := w_halves_of A h1 h2 h3 hk hl0 hl q
theorem w_rest {x3 x4 x5 x6 x7 x9 x10 x11 x12 x13 x14 x15 x16 : Option D} {Nx bk : DV → Sto → Prop} (la : l ≠ na) (ld : l ≠ d) (da : d ≠ na) (kn : KnP A ps) (gs : GS ps lev first before start hist) (ln : ps.length ≤ 5000) (W : Wb b c na d l S) (q : ∀ S', Q (.bl true) S')
    (hN : ∀ qs S' n' lev first before start hist y12 y13 y14 y15, KnP A qs → GS qs lev first before start hist → qs.length ≤ ps.length + 1 → Wb b c na d l S' → Nx (dl b na x3 x4 x5 x6 x7 (spnD lev first before start hist) x9 x10 x11 y12 y13 y14 y15 x16) (ntS A.C_Notary na d l qs n' S')) :
    restD A Ed { nx := Nx, rt := Q, bk := bk, ct := Nx } (dl b na x3 x4 x5 x6 x7 (spnD lev first before start hist) x9 x10 x11 x12 x13 x14 x15 x16) (ntS A.C_Notary na d l ps n S) := by
  unfold restD dl
  walk_at "dr"
  refine w_are_rivals A ?_
  rw [decide_eq_true (rfl : hist = hist)]
  walk_at "dr"
  refine nx_go ?_
  unfold spnD
  walk_at "dr"
  rw [atO_eq nt_a]
  refine ⟨trivial, ?_⟩
  refine w_prt A la ld (nx_go ?_)
  generalize hu : sSeq (sAsg (eMe _ _ (F_Notary_size A) _ _ _) _) _ = u
  have tail : ∀ qs y12, KnP A qs → qs.length ≤ ps.length + 1 → NX u { nx := Nx, rt := Q, bk := bk, ct := Nx } [some D.scr, some (D.ref b), some (D.ref na), x3, x4, x5, x6, x7, some (spnD lev first before start hist), x9, x10, x11, y12, x13, x14, x15, x16] (ntS A.C_Notary na d l qs n S) := by
    subst hu
    intro qs y12 hkq hlq
    refine nx_go ?_
    walk_at "dr"
    rw [atO_eq nt_a]
    refine ⟨trivial, ?_⟩
    rw [w_size A la ld]
    refine nx_go ?_
    walk_at "dr"
    refine w_hal A da la ld hkq gs.l0 (by have := gs.l1; omega) fun n' => nx_go ?_
    walk_at "dr"
    refine w_law_due A da la ld hkq gs.l0 gs.l1 fun n2 S2 s2 => ?_
    refine w_same A 7 dat_hal (by decide) ?_
    have W2 := W.se s2
    walk_at "dr"
    rw [atO_eq nt_a]
    refine ⟨trivial, ?_⟩
    rw [w_size A la ld]
    walk_at "dr"
    refine nx_go ?_
    rcases hal_cases (ps := qs) ⟨gs.l0, gs.l1, gs.f0, gs.f1, gs.b0, gs.b1, gs.st, gs.hi⟩ (by omega) with e | ⟨l1, f1, b1, s1, h1, l2, f2, b2, s2', h2, e, g1, g2⟩
    · rw [e]
      unfold spnD
      walk_at "dr"
      rw [atO_eq nt_a]
      refine ⟨trivial, ?_⟩
      rw [w_size A la ld]
      walk_at "dr"
      refine ⟨by simp, nx_go ?_⟩
      walk_at "dr"
      rw [show D.tup (List.take 4 [D.int lev, D.int first, D.int before, D.int start, D.int hist] ++ [D.int ((qs.length : Nat) + 3)]) = spnD lev first before start ((qs.length : Nat) + 3) from rfl]
      refine w_hal A da la ld hkq gs.l0 (by have := gs.l1; omega) fun n' => ?_
      have e2 : halD qs lev first before start ((qs.length : Nat) + 3) = .non := by
        unfold halD
        split
        · rfl
        · have : opnC qs ((qs.length : Nat) + 3) = .no := by
            unfold opnC getK
            rw [if_pos (by omega), List.getElem?_eq_none (by omega)]
          rw [this]
      rw [e2]
      walk_at "dr"
      exact q _
    · rw [e]
      walk_at "dr"
      refine nx_go ?_
      walk_at "dr"
      refine ⟨⟨c, W2.B⟩, by decide, by decide, fun i i0 i1 => ?_⟩
      refine pickI i0 (by simpa using i1) fun y hy => ?_
      simp only [List.mem_cons, List.not_mem_nil, or_false] at hy
      rcases hy with rfl | rfl
      · exact hN qs S2 _ _ _ _ _ _ _ _ _ _ hkq g1 hlq W2
      · exact hN qs S2 _ _ _ _ _ _ _ _ _ _ hkq g2 hlq W2
  have stay := tail ps (some (prtD ps hist)) kn (by omega)
  unfold spnD at stay
  walk_at "dr"
  cases hg : getK ps hist with
  | none =>
    rw [prt_none hg] at stay ⊢
    walk_at "dr"
    exact stay
  | some k =>
    rcases kn_get kn hg with ⟨s, rfl, os⟩ | ⟨x, y, s, rfl, o1, o2, o3⟩ | ⟨x, y, rfl⟩
    · rw [prt_st hg] at stay ⊢
      walk_at "dr"
      rw [decide_eq_false step_ne_join]
      exact ⟨fun z => (by cases z), fun _ => stay⟩
    · rw [prt_jo hg] at stay ⊢
      walk_at "dr"
      refine ⟨⟨c, W.B⟩, by decide, by decide, fun i i0 i1 => ⟨fun _ => ?_, fun _ => stay⟩⟩
      rw [atO_eq nt_a]
      refine ⟨trivial, ?_⟩
      have hb0 := gs.b0
      have hb1 := gs.b1
      have ho := o1.1
      have hpa := pa_be (x := before) (y := x) ⟨hb0, by omega⟩ ⟨by omega, o1.2⟩
      show F_Notary_seal A [D.ref na, tupK (beK before x)] _ _ _
      rw [w_seal A da la ld (dat_mono (n := 1) (by decide) (dat_tupK (by simp [beK]))) hpa (by omega)]
      exact tail _ _ (kn.new (kn_be A) (by simp [beK])) (new_len ..)
    · rw [prt_be hg] at stay ⊢
      walk_at "dr"
      rw [decide_eq_false behind_ne1]
      exact ⟨fun z => (by cases z), fun _ => stay⟩
end
theorem w_law (A : Ad) {S : Sto} {Q : DK} {Ed : XD} (q : ∀ S', Q (.bl true) S') : F_law A [.scr] S Q Ed := by
  unfold F_law B_law
  walk_at "dr"
  refine fun b c hb hc hne => nx_go ?_
  have hB : sup (sup S c .cells) b (.box c) b = some (.box c) := sup_same
  generalize sup (sup S c .cells) b (.box c) = S1 at hB ⊢
  walk_at "dr"
  refine fun na hna => ?_
  refine w_make A hna fun d l hd hl da la ld => ⟨rfl, nx_go ?_⟩
  have W : Wb b c na d l S1 := ⟨hB, sne hB hna, sne hB hd, sne hB hl⟩
  clear hb hc hB hna hd hl
  walk_at "dr"
  refine ⟨⟨c, W.B⟩, by decide, by decide, fun lev l0 l1 => nx_go ?_⟩
  obtain ⟨m, rfl⟩ : ∃ m : Nat, lev = (m : Nat) := ⟨lev.toNat, by omega⟩
  have hm : m ≤ 4 := by omega
  walk_at "dr"
  refine fun p hp => ?_
  rw [atL_eq sup_same, pw_at hm]
  obtain ⟨g, ga, gd, gl⟩ := nt_new hp
  rw [nt_sup ga gd gl]
  have W := W.se (Se.one (o := .lst [D.int 1, D.int 2, D.int 4, D.int 8, D.int 16]) g)
  generalize sup S1 p _ = S2 at W ⊢
  have hpow : (2 : Nat) ^ m ≤ 2 ^ 4 := Nat.pow_le_pow_right (by decide) hm
  have hpos : 0 < 2 ^ m := Nat.pos_of_ne_zero (by simp)
  refine nx_go ?_
  walk_at "dr"
  refine ⟨⟨c, W.B⟩, by decide, by decide, fun st st0 st1 => nx_go ?_⟩
  walk_at "dr"
  refine nx_go ?_
  generalize hu : sSeq (sAsg (eCa (F_root_span A) _ _) _) _ = u
  walk_at "dr"
  generalize hM : 2 ^ m = M at *
  refine ⟨by omega, by omega, ?_⟩
  rw [Int.toNat_natCast]
  refine lcD_acc (J := fun acc S' => ∃ S'' rs, S' = ntS A.C_Notary na d l [] 0 S'' ∧ Wb b c na d l S'' ∧ acc = (rs : List Int).map D.int ∧ okRow rs) ?_ (fun _ _ _ _ => trivial) ?_ (by rw [upto_len]; omega) ⟨S2, [], rfl, W, rfl, fun s hs => by cases hs⟩
  · rintro acc x hx S' ⟨S'', rs, rfl, W, rfl, hrs⟩
    refine ⟨trivial, fun R hR => ?_⟩
    walk_at "dr"
    refine ⟨⟨c, W.B⟩, by decide, by decide, fun i i0 i1 => ?_⟩
    refine hR _ _ ⟨_, rs ++ [1 + i], rfl, W, by simp, fun r hr => ?_⟩
    rcases List.mem_append.mp hr with hr | hr
    · exact hrs r hr
    · rw [List.mem_singleton.mp hr]; exact ⟨by omega, by omega⟩
  clear W
  rintro ys S' hl' ⟨S3, rs, rfl, W, rfl, hrs⟩
  rw [upto_len, List.length_map] at hl'
  intro pr hpr
  rw [atL_eq sup_same]
  obtain ⟨g, ga, gd, gl⟩ := nt_new hpr
  rw [nt_sup ga gd gl]
  have W := W.se (Se.one (o := .lst (rs.map D.int)) g)
  generalize sup S3 pr _ = S4 at W ⊢
  subst hu
  refine w_history_of A da la ld KnP.nil (by omega : m ≤ 10) (by rw [hM]; exact hl') hrs (by simp) fun ps t h S5 _ kn ln tr tl en se => nx_go ?_
  have W := W.se se
  have ln : ps.length ≤ 128 := by simp only [List.length_nil] at ln; omega
  walk_at "dr"
  refine w_root_span A (nx_go ?_)
  generalize hu : sSeq (sFor (iR1 (aCons (eC (D.int 6)) aNil)) (xName 9) _) _ = u
  unfold spnD
  walk_at "dr"
  refine w_same A 7 (x := spnD (m : Nat) 0 0 (1 + st) h) (dat_mono (n := 6) (by decide) dat_spn) (by decide) ?_
  walk_at "dr"
  subst hu
  have hh : okSeal h := ⟨en.pos.1, by have := en.pos.2; omega⟩
  have gs0 : GS ps (m : Nat) 0 0 (1 + st) h := by
    refine ⟨by omega, by omega, by omega, ?_, by omega, by omega, ⟨by omega, by omega⟩, hh⟩
    rw [Int.toNat_natCast]
    have : ((2 ^ m : Nat) : Int) ≤ 16 := by omega
    rw [Int.natCast_pow] at this
    rw [Int.zero_add]
    exact this
  refine nx_go ?_
  walk_at "dr"
  refine ⟨by decide, by decide, ?_⟩
  refine forD_ix (fun k δ S' => ∃ x9 x10 x11 x12 x13 x14 x15 x16 ps S'' n lev first before start hist, δ = dl b na (some (.int (m : Nat))) (some (.int (M : Nat))) (some (.int (1 + st))) (some (.tup [.int 3, .int 5, .int 4, .int 0, .int (1 + st), .int (m : Nat)])) (some (.int h)) (spnD lev first before start hist) x9 x10 x11 x12 x13 x14 x15 x16 ∧ S' = ntS A.C_Notary na d l ps n S'' ∧ KnP A ps ∧ GS ps lev first before start hist ∧ ps.length ≤ 128 + k ∧ Wb b c na d l S'') ?_ ?_ ⟨_, _, _, _, _, _, _, _, ps, S5, 0, _, _, _, _, _, rfl, rfl, kn, gs0, by omega, W⟩
  · clear gs0 hh W en tl tr se kn ln
    rintro k x hx Nx δ S' ⟨x9, x10, x11, x12, x13, x14, x15, x16, ps, S, n, lev, first, before, start, hist, rfl, rfl, kn, gs, ln, W⟩ hN
    refine ⟨trivial, ?_⟩
    have hk6 : k < 6 := by have := (List.getElem?_eq_some_iff.mp hx).1; simpa [upto] using this
    have hN2 : ∀ qs S' n' lev first before start hist y9 y10 y11 y12 y13 y14 y15, KnP A qs → GS qs lev first before start hist → qs.length ≤ ps.length + 1 → Wb b c na d l S' → Nx (dl b na (some (.int (m : Nat))) (some (.int (M : Nat))) (some (.int (1 + st))) (some (.tup [.int 3, .int 5, .int 4, .int 0, .int (1 + st), .int (m : Nat)])) (some (.int h)) (spnD lev first before start hist) y9 y10 y11 y12 y13 y14 y15 x16) (ntS A.C_Notary na d l qs n' S') := fun qs S' n' lev first before start hist y9 y10 y11 y12 y13 y14 y15 h1 h2 h3 h4 => hN _ _ ⟨_, _, _, _, _, _, _, _, qs, S', n', _, _, _, _, _, rfl, rfl, h1, h2, by omega, h4⟩
    unfold dl
    generalize hu : sSeq (sIf (tV (eOp (dIsB true) (eCa (F_are_rivals A) _ (aCons (eVar 8) (aCons (eVar 8) aNil))) _)) _ _) _ = u
    have tail : ∀ bk S' y9 y10 y11, Wb b c na d l S' → NX u { nx := Nx, rt := Q, bk := bk, ct := Nx } (dl b na (some (.int (m : Nat))) (some (.int (M : Nat))) (some (.int (1 + st))) (some (.tup [.int 3, .int 5, .int 4, .int 0, .int (1 + st), .int (m : Nat)])) (some (.int h)) (spnD lev first before start hist) y9 y10 y11 x12 x13 x14 x15 x16) (ntS A.C_Notary na d l ps n S') := by
      subst hu
      intro bk S' y9 y10 y11 W'
      refine nx_go ?_
      exact w_rest A la ld da kn gs (by omega) W' q fun qs S' n' lev first before start hist y12 y13 y14 y15 h1 h2 h3 h4 => hN2 qs S' n' _ _ _ _ _ _ _ _ _ _ _ _ h1 h2 h3 h4
    generalize hu2 : sSeq (sIf (tOr' (tNot' (tV (eCa (F__law_same A 8) _ (aCons (eCa (F_are_rivals A) _ (aCons (eVar 8) (aCons (eVar 11) aNil))) _)))) _) _ _) u = u2
    have fin : ∀ (bk : DV → Sto → Prop) S' (y9 : Option D) (i y1 y2 y3 y4 y5 : Int), Wb b c na d l S' → ((decide ([lev, first, before, start] = [y1, y2, y3, y4])) && !decide (hist = y5)) = decide (i = 4) → ((decide ([y1, y2, y3, y4] = [lev, first, before, start])) && !decide (y5 = hist)) = decide (i = 4) → NX u2 { nx := Nx, rt := Q, bk := bk, ct := Nx } (dl b na (some (.int (m : Nat))) (some (.int (M : Nat))) (some (.int (1 + st))) (some (.tup [.int 3, .int 5, .int 4, .int 0, .int (1 + st), .int (m : Nat)])) (some (.int h)) (spnD lev first before start hist) y9 (some (.int i)) (some (spnD y1 y2 y3 y4 y5)) x12 x13 x14 x15 x16) (ntS A.C_Notary na d l ps n S') := by
      subst hu2
      intro bk S' y9 i y1 y2 y3 y4 y5 W' e1 e2
      refine nx_go ?_
      unfold dl
      walk_at "dr"
      refine w_are_rivals A ?_
      rw [e1]
      refine w_same A 7 dat_b (by decide) ?_
      walk_at "dr"
      refine w_are_rivals A ?_
      rw [e2]
      refine w_same A 7 dat_b (by decide) ?_
      walk_at "dr"
      exact tail _ _ _ _ _ W'
    walk_at "dr"
    refine w_is_span A (dat_mono (n := 6) (by decide) dat_spn) ?_
    rw [gs.span]
    walk_at "dr"
    refine w_wrong_span A W.B fun v S2 s2 hv dv => ?_
    refine w_is_span A dv ?_
    rw [hv]
    obtain ⟨e2, W2⟩ := nt_se la ld da W s2
    rw [e2]
    walk_at "dr"
    refine nx_go ?_
    walk_at "dr"
    refine ⟨⟨c, W2.B⟩, by decide, by decide, fun i i0 i1 => nx_go ?_⟩
    obtain ⟨j, rfl⟩ : ∃ j : Nat, i = (j : Nat) := ⟨i.toNat, by omega⟩
    unfold spnD
    walk_at "dr"
    have p1 : ∀ x : Int, x ≠ x + 1 := fun x e => by omega
    have p2 : ∀ x : Int, x + 1 ≠ x := fun x e => by omega
    have hj : j = 0 ∨ j = 1 ∨ j = 2 ∨ j = 3 ∨ j = 4 := by omega
    rcases hj with rfl | rfl | rfl | rfl | rfl
    · rw [show atI [D.int lev, D.int first, D.int before, D.int start, D.int hist] ((0 : Nat) : Int) = some (D.int lev) from rfl]
      dsimp only
      rw [show ((0 : Nat) : Int) + 1 = ((1 : Nat) : Int) from rfl, cut_take, cut_drop]
      refine ⟨by simp, by simp, ?_⟩
      refine fin _ _ _ _ (lev + 1) first before start hist W2 ?_ ?_
      · simp [p1, p2]
      · simp [p1, p2]
    · rw [show atI [D.int lev, D.int first, D.int before, D.int start, D.int hist] ((1 : Nat) : Int) = some (D.int first) from rfl]
      dsimp only
      rw [show ((1 : Nat) : Int) + 1 = ((2 : Nat) : Int) from rfl, cut_take, cut_drop]
      refine ⟨by simp, by simp, ?_⟩
      refine fin _ _ _ _ lev (first + 1) before start hist W2 ?_ ?_
      · simp [p1, p2]
      · simp [p1, p2]
    · rw [show atI [D.int lev, D.int first, D.int before, D.int start, D.int hist] ((2 : Nat) : Int) = some (D.int before) from rfl]
      dsimp only
      rw [show ((2 : Nat) : Int) + 1 = ((3 : Nat) : Int) from rfl, cut_take, cut_drop]
      refine ⟨by simp, by simp, ?_⟩
      refine fin _ _ _ _ lev first (before + 1) start hist W2 ?_ ?_
      · simp [p1, p2]
      · simp [p1, p2]
    · rw [show atI [D.int lev, D.int first, D.int before, D.int start, D.int hist] ((3 : Nat) : Int) = some (D.int start) from rfl]
      dsimp only
      rw [show ((3 : Nat) : Int) + 1 = ((4 : Nat) : Int) from rfl, cut_take, cut_drop]
      refine ⟨by simp, by simp, ?_⟩
      refine fin _ _ _ _ lev first before (start + 1) hist W2 ?_ ?_
      · simp [p1, p2]
      · simp [p1, p2]
    · rw [show atI [D.int lev, D.int first, D.int before, D.int start, D.int hist] ((4 : Nat) : Int) = some (D.int hist) from rfl]
      dsimp only
      rw [show ((4 : Nat) : Int) + 1 = ((5 : Nat) : Int) from rfl, cut_take, cut_drop]
      refine ⟨by simp, by simp, ?_⟩
      refine fin _ _ _ _ lev first before start (hist + 1) W2 ?_ ?_
      · simp [p1, p2]
      · simp [p1, p2]
  · rintro δ S' ⟨x9, x10, x11, x12, x13, x14, x15, x16, ps, S, n, lev, first, before, start, hist, rfl, rfl, kn, gs, ln, W⟩
    refine ⟨trivial, nx_go ?_⟩
    unfold dl
    walk_at "dr"
    exact q _

end Sd

set_option Elab.async false
set_option linter.all false
set_option maxRecDepth 100000
set_option maxHeartbeats 8000000
namespace Sd
open PySem PySem.Spec PyProof.Rows L2 GxR
/-! ### the end -/
def Tabs (q : Program) (mg : Str → Option Value) (h : Heap) : Prop := ∀ d ∈ recsOf q, ∃ (a : Addr) (o : Obj) (fd : FuncData) (c P : Addr), mg d.name = some (.ref a) ∧ h.get? a = some o ∧ o.data = .func fd ∧ fd.code = .ref c ∧ h.IsCode c P #[] ∧ h.TableAt c P #[]
theorem Tabs.at {q : Program} {mg : Str → Option Value} {h : Heap} {K : PySem.W.Frag} {x : Str} {f c P : Addr} {o : Obj} {fd : FuncData} {e : Value} {dd : Option Addr} {vs : Array Value} {sl : Array (Option Value)} (T : Tabs q mg h) (hrec : ((recsOf q).any fun e => e.name == x) = true) (KX : K.In h) (hx : mg x = some (.ref f))
    (k1 : K.lookup f = some o) (k2 : o.data = .func fd) (k3 : fd.code = .ref c) (k4 : K.lookup c = some ⟨e, dd, .fields vs, sl⟩) (k5 : vs[11]? = some (.ref P)) : h.get? P = some { cls := .none, data := .fields #[] } ∧ PySem.W.CodeHd h c P := by
  obtain ⟨dL, hm, hn1⟩ := List.any_eq_true.mp hrec
  have hn2 : dL.name = x := beq_iff_eq.mp hn1
  obtain ⟨a', o', fd', c', P', h1, h2, h3, h4, h5, h6⟩ := T dL hm
  rw [hn2, hx] at h1
  cases h1
  have g1 := KX _ _ k1
  rw [g1] at h2
  cases h2
  rw [k2] at h3
  cases h3
  rw [k3] at h4
  cases h4
  have hc := PySem.W.CodeHd.of h5 h6
  obtain ⟨⟨oc, vc, e1, _, e3, e4⟩, hP⟩ := h6
  have g2 := KX _ _ k4
  rw [g2] at e1
  cases e1
  cases e3
  rw [k5] at e4
  cases e4
  exact ⟨hP, hc⟩
theorem tab0 {H : Hp} {P : Addr} (h : H P = some (.tbl #[])) : TabG H P := ⟨#[], h, by first | exact True.intro | exact fun _ z => absurd z (by simp) | simp [TriplesOk]⟩
theorem tabB {base : Heap} {mg : Str → Option Value} {c P : Addr} (t : LamX.TabB base mg c P) : TabB base mg c P := ⟨t.code, t.bm, t.gP⟩
theorem walk_ofG {l : PySem.W.OpenLaw} {n k : Nat} {q : Program} {loose : List Str} {XP : (Str → Option Value) → Heap → Prop} {YP : World → Heap → Prop} {d : DefRec} {K : Params → PySem.W.Frag} {CX : World → CXT} {x : Str}
    (hn : l.most = some n) (hn2 : n ≤ sizeLine) (hdf : d.params.defaults = []) (hr : Room k callerA) (hY : ∀ (w : World) (h : Heap), YP w h → (K w.params).In h)
    (F : ∀ (w : World) (mg : Str → Option Value) (fa : Addr) (h : Heap), YP w h → (K w.params).In h → h.Ns mainGlobals mg → mg d.name = some (.ref fa) → Tabs q mg h → LamX.LawAtS l w (K w.params) (CX w) k n x mg fa h)
    (hCX : ∀ (w : World) (H : Hp) (s : Shared) (e : Value) (s' : Shared), CX w [] H s (fun _ _ _ => False) e s' → False) :
    PySem.W.WalkO q loose XP YP l.row.toRowW d [] (fun f vs => PySem.call f vs) := by
  refine Att.attach_callB hn hdf fun w s₀ s₁ mg mb fa o pm cd doc a vs ns G Y ho hd hcd hmg hobj hints hlen hbits hg => ?_
  have KX := hY w _ Y
  obtain ⟨fd, cs, sp, hT, nT, C, hb, hsp, hF⟩ := F w mg fa _ Y KX G.T.g hmg G.T.tab
  exact LamX.law_callTs KX G.T.g G.T.b G.T.builtins G.T.nolimit hg hT nT C G.T.bmain hobj hints (Nat.le_trans hlen hn2) hr hF hb (fun H hH hS => hsp H a ns hlen hbits hH hS) fun H e s' => hCX w H s₁ e s'

theorem all_mk {l : PySem.W.OpenLaw} {w : World} {q : Program} {K : PySem.W.Frag} {h : Heap} {mg : Str → Option Value} {fa C_Notary f_is_number f__is_text c__is_text P__is_text f_is_parts c_is_parts P_is_parts f_Notary___init__ f_Notary_seal f_Notary_find f_Notary_parts_of f_Notary_size f_is_seal f_is_opening c_is_opening P_is_opening f_is_join f_history_of c_history_of P_history_of f_opening f_last_of f_is_span f_root_span f_split_span f_halves_of f_are_rivals f__law_same f__law_box f__law_load f__law_draw f__law_wrong_span f__law_due f_law X_BadParts X_BadRow c__LENGTHS c__SIZES : Addr} (X : K.In h) (G : h.Ns mainGlobals mg) (hfa : mg "law" = some (.ref fa)) (hT : Tabs q mg h)
    (q__is_text : ((recsOf q).any fun e => e.name == ("_is_text" : Str)) = true)
    (q_is_parts : ((recsOf q).any fun e => e.name == ("is_parts" : Str)) = true)
    (q_is_opening : ((recsOf q).any fun e => e.name == ("is_opening" : Str)) = true)
    (q_history_of : ((recsOf q).any fun e => e.name == ("history_of" : Str)) = true)
    {od_is_number an_is_number od__is_text an__is_text dd__is_text od_is_parts an_is_parts dd_is_parts od_Notary___init__ an_Notary___init__ od_Notary_seal an_Notary_seal od_Notary_find an_Notary_find od_Notary_parts_of an_Notary_parts_of od_Notary_size an_Notary_size od_is_seal an_is_seal od_is_opening an_is_opening dd_is_opening od_is_join an_is_join od_history_of an_history_of dd_history_of od_opening an_opening od_last_of an_last_of od_is_span an_is_span od_root_span an_root_span od_split_span an_split_span od_halves_of an_halves_of od_are_rivals an_are_rivals od__law_same an__law_same od__law_box an__law_box od__law_load an__law_load od__law_draw an__law_draw od__law_wrong_span an__law_wrong_span od__law_due an__law_due od_law an_law : Option Addr} {sl_is_number sl__is_text sc__is_text sl_is_parts sc_is_parts sl_Notary___init__ sl_Notary_seal sl_Notary_find sl_Notary_parts_of sl_Notary_size sl_is_seal sl_is_opening sc_is_opening sl_is_join sl_history_of sc_history_of sl_opening sl_last_of sl_is_span sl_root_span sl_split_span sl_halves_of sl_are_rivals sl__law_same sl__law_box sl__law_load sl__law_draw sl__law_wrong_span sl__law_due sl_law sl__LENGTHS : Array (Option Value)} {oc_is_number kV_is_number dc_is_number pm_is_number ct_is_number cd_is_number oc__is_text kV__is_text dc__is_text pm__is_text ct__is_text e__is_text oc_is_parts kV_is_parts dc_is_parts pm_is_parts ct_is_parts e_is_parts oc_Notary___init__ kV_Notary___init__ dc_Notary___init__ pm_Notary___init__ ct_Notary___init__ cd_Notary___init__ oc_Notary_seal kV_Notary_seal dc_Notary_seal pm_Notary_seal ct_Notary_seal cd_Notary_seal oc_Notary_find kV_Notary_find dc_Notary_find pm_Notary_find ct_Notary_find cd_Notary_find oc_Notary_parts_of kV_Notary_parts_of dc_Notary_parts_of pm_Notary_parts_of ct_Notary_parts_of cd_Notary_parts_of oc_Notary_size kV_Notary_size dc_Notary_size pm_Notary_size ct_Notary_size cd_Notary_size oc_is_seal kV_is_seal dc_is_seal pm_is_seal ct_is_seal cd_is_seal oc_is_opening kV_is_opening dc_is_opening pm_is_opening ct_is_opening e_is_opening oc_is_join kV_is_join dc_is_join pm_is_join ct_is_join cd_is_join oc_history_of kV_history_of dc_history_of pm_history_of ct_history_of e_history_of oc_opening kV_opening dc_opening pm_opening ct_opening cd_opening oc_last_of kV_last_of dc_last_of pm_last_of ct_last_of cd_last_of oc_is_span kV_is_span dc_is_span pm_is_span ct_is_span cd_is_span oc_root_span kV_root_span dc_root_span pm_root_span ct_root_span cd_root_span oc_split_span kV_split_span dc_split_span pm_split_span ct_split_span cd_split_span oc_halves_of kV_halves_of dc_halves_of pm_halves_of ct_halves_of cd_halves_of oc_are_rivals kV_are_rivals dc_are_rivals pm_are_rivals ct_are_rivals cd_are_rivals oc__law_same kV__law_same dc__law_same pm__law_same ct__law_same cd__law_same oc__law_box kV__law_box dc__law_box pm__law_box ct__law_box cd__law_box oc__law_load kV__law_load dc__law_load pm__law_load ct__law_load cd__law_load oc__law_draw kV__law_draw dc__law_draw pm__law_draw ct__law_draw cd__law_draw oc__law_wrong_span kV__law_wrong_span dc__law_wrong_span pm__law_wrong_span ct__law_wrong_span cd__law_wrong_span oc__law_due kV__law_due dc__law_due pm__law_due ct__law_due cd__law_due oc_law kV_law dc_law pm_law ct_law cd_law : Value} {vs__is_text vs_is_parts vs_is_opening vs_history_of vs__LENGTHS : Array Value} {es__SIZES : Array DictEntry} {t_MAX_PART t__MAX_ELEMENTS t__MAX_TEXT t_MAX_LEVEL tk__SIZES_0 tk__SIZES_1 t__PARTS t__MAX_FIRST : Tok} {n__LENGTHS n__SIZES : Nat}
    (aC_Notary : PySem.W.nsIn K mainGlobals "Notary" = some (some (.ref C_Notary)))
    (pgC_Notary : PySem.W.plainGet K C_Notary Str.empty = true)
    (hdC_Notary : PySem.W.hasDictIn K C_Notary = true)
    (poC_Notary : PySem.W.plainOver K C_Notary = true)
    (saC_Notary : PySem.W.findIn K (.ref C_Notary) "__setattr__" = some (some (.builtin "object.__setattr__")))
    (mkC_Notary : PySem.W.makesIn K C_Notary = true)
    (kcC_Notary : PySem.W.keepIn K (.ref C_Notary) = true)
    (a_is_number : PySem.W.nsIn K mainGlobals "is_number" = some (some (.ref f_is_number)))
    (l_is_number : K.lookup f_is_number = some ⟨oc_is_number, od_is_number, .func (PySem.W.fnOf "is_number" "is_number" (defArgs s_is_number) (defBody s_is_number) (defScope s_is_number) .none kV_is_number dc_is_number pm_is_number an_is_number cd_is_number ct_is_number), sl_is_number⟩)
    (cc_is_number : PySem.W.codeIn K cd_is_number "is_number" = true)
    (k_is_number : PySem.W.keepIn K (.ref f_is_number) = true)
    (a__is_text : PySem.W.nsIn K mainGlobals "_is_text" = some (some (.ref f__is_text)))
    (l__is_text : K.lookup f__is_text = some ⟨oc__is_text, od__is_text, .func (PySem.W.fnOf "_is_text" "_is_text" (defArgs s__is_text) (defBody s__is_text) (defScope s__is_text) .none kV__is_text dc__is_text pm__is_text an__is_text (.ref c__is_text) ct__is_text), sl__is_text⟩)
    (cc__is_text : PySem.W.codeIn K (.ref c__is_text) "_is_text" = true)
    (k__is_text : PySem.W.keepIn K (.ref f__is_text) = true)
    (v__is_text : K.lookup c__is_text = some ⟨e__is_text, dd__is_text, .fields vs__is_text, sc__is_text⟩)
    (w__is_text : vs__is_text[11]? = some (.ref P__is_text))
    (n__is_text : K.lookup P__is_text = none)
    (a_is_parts : PySem.W.nsIn K mainGlobals "is_parts" = some (some (.ref f_is_parts)))
    (l_is_parts : K.lookup f_is_parts = some ⟨oc_is_parts, od_is_parts, .func (PySem.W.fnOf "is_parts" "is_parts" (defArgs s_is_parts) (defBody s_is_parts) (defScope s_is_parts) .none kV_is_parts dc_is_parts pm_is_parts an_is_parts (.ref c_is_parts) ct_is_parts), sl_is_parts⟩)
    (cc_is_parts : PySem.W.codeIn K (.ref c_is_parts) "is_parts" = true)
    (k_is_parts : PySem.W.keepIn K (.ref f_is_parts) = true)
    (v_is_parts : K.lookup c_is_parts = some ⟨e_is_parts, dd_is_parts, .fields vs_is_parts, sc_is_parts⟩)
    (w_is_parts : vs_is_parts[11]? = some (.ref P_is_parts))
    (n_is_parts : K.lookup P_is_parts = none)
    (a_Notary___init__ : PySem.W.findIn K (.ref C_Notary) "__init__" = some (some (.ref f_Notary___init__)))
    (i_Notary___init__ : PySem.W.isFn K (.ref f_Notary___init__) = true)
    (l_Notary___init__ : K.lookup f_Notary___init__ = some ⟨oc_Notary___init__, od_Notary___init__, .func (PySem.W.fnOf "__init__" "Notary.__init__" (defArgs s_Notary___init__) (defBody s_Notary___init__) (defScope s_Notary___init__) .none kV_Notary___init__ dc_Notary___init__ pm_Notary___init__ an_Notary___init__ cd_Notary___init__ ct_Notary___init__), sl_Notary___init__⟩)
    (cc_Notary___init__ : PySem.W.codeIn K cd_Notary___init__ "Notary.__init__" = true)
    (k_Notary___init__ : PySem.W.keepIn K (.ref f_Notary___init__) = true)
    (a_Notary_seal : PySem.W.findIn K (.ref C_Notary) "seal" = some (some (.ref f_Notary_seal)))
    (i_Notary_seal : PySem.W.isFn K (.ref f_Notary_seal) = true)
    (l_Notary_seal : K.lookup f_Notary_seal = some ⟨oc_Notary_seal, od_Notary_seal, .func (PySem.W.fnOf "seal" "Notary.seal" (defArgs s_Notary_seal) (defBody s_Notary_seal) (defScope s_Notary_seal) .none kV_Notary_seal dc_Notary_seal pm_Notary_seal an_Notary_seal cd_Notary_seal ct_Notary_seal), sl_Notary_seal⟩)
    (cc_Notary_seal : PySem.W.codeIn K cd_Notary_seal "Notary.seal" = true)
    (k_Notary_seal : PySem.W.keepIn K (.ref f_Notary_seal) = true)
    (a_Notary_find : PySem.W.findIn K (.ref C_Notary) "find" = some (some (.ref f_Notary_find)))
    (i_Notary_find : PySem.W.isFn K (.ref f_Notary_find) = true)
    (l_Notary_find : K.lookup f_Notary_find = some ⟨oc_Notary_find, od_Notary_find, .func (PySem.W.fnOf "find" "Notary.find" (defArgs s_Notary_find) (defBody s_Notary_find) (defScope s_Notary_find) .none kV_Notary_find dc_Notary_find pm_Notary_find an_Notary_find cd_Notary_find ct_Notary_find), sl_Notary_find⟩)
    (cc_Notary_find : PySem.W.codeIn K cd_Notary_find "Notary.find" = true)
    (k_Notary_find : PySem.W.keepIn K (.ref f_Notary_find) = true)
    (a_Notary_parts_of : PySem.W.findIn K (.ref C_Notary) "parts_of" = some (some (.ref f_Notary_parts_of)))
    (i_Notary_parts_of : PySem.W.isFn K (.ref f_Notary_parts_of) = true)
    (l_Notary_parts_of : K.lookup f_Notary_parts_of = some ⟨oc_Notary_parts_of, od_Notary_parts_of, .func (PySem.W.fnOf "parts_of" "Notary.parts_of" (defArgs s_Notary_parts_of) (defBody s_Notary_parts_of) (defScope s_Notary_parts_of) .none kV_Notary_parts_of dc_Notary_parts_of pm_Notary_parts_of an_Notary_parts_of cd_Notary_parts_of ct_Notary_parts_of), sl_Notary_parts_of⟩)
    (cc_Notary_parts_of : PySem.W.codeIn K cd_Notary_parts_of "Notary.parts_of" = true)
    (k_Notary_parts_of : PySem.W.keepIn K (.ref f_Notary_parts_of) = true)
    (a_Notary_size : PySem.W.findIn K (.ref C_Notary) "size" = some (some (.ref f_Notary_size)))
    (i_Notary_size : PySem.W.isFn K (.ref f_Notary_size) = true)
    (l_Notary_size : K.lookup f_Notary_size = some ⟨oc_Notary_size, od_Notary_size, .func (PySem.W.fnOf "size" "Notary.size" (defArgs s_Notary_size) (defBody s_Notary_size) (defScope s_Notary_size) .none kV_Notary_size dc_Notary_size pm_Notary_size an_Notary_size cd_Notary_size ct_Notary_size), sl_Notary_size⟩)
    (cc_Notary_size : PySem.W.codeIn K cd_Notary_size "Notary.size" = true)
    (k_Notary_size : PySem.W.keepIn K (.ref f_Notary_size) = true)
    (a_is_seal : PySem.W.nsIn K mainGlobals "is_seal" = some (some (.ref f_is_seal)))
    (l_is_seal : K.lookup f_is_seal = some ⟨oc_is_seal, od_is_seal, .func (PySem.W.fnOf "is_seal" "is_seal" (defArgs s_is_seal) (defBody s_is_seal) (defScope s_is_seal) .none kV_is_seal dc_is_seal pm_is_seal an_is_seal cd_is_seal ct_is_seal), sl_is_seal⟩)
    (cc_is_seal : PySem.W.codeIn K cd_is_seal "is_seal" = true)
    (k_is_seal : PySem.W.keepIn K (.ref f_is_seal) = true)
    (a_is_opening : PySem.W.nsIn K mainGlobals "is_opening" = some (some (.ref f_is_opening)))
    (l_is_opening : K.lookup f_is_opening = some ⟨oc_is_opening, od_is_opening, .func (PySem.W.fnOf "is_opening" "is_opening" (defArgs s_is_opening) (defBody s_is_opening) (defScope s_is_opening) .none kV_is_opening dc_is_opening pm_is_opening an_is_opening (.ref c_is_opening) ct_is_opening), sl_is_opening⟩)
    (cc_is_opening : PySem.W.codeIn K (.ref c_is_opening) "is_opening" = true)
    (k_is_opening : PySem.W.keepIn K (.ref f_is_opening) = true)
    (v_is_opening : K.lookup c_is_opening = some ⟨e_is_opening, dd_is_opening, .fields vs_is_opening, sc_is_opening⟩)
    (w_is_opening : vs_is_opening[11]? = some (.ref P_is_opening))
    (n_is_opening : K.lookup P_is_opening = none)
    (a_is_join : PySem.W.nsIn K mainGlobals "is_join" = some (some (.ref f_is_join)))
    (l_is_join : K.lookup f_is_join = some ⟨oc_is_join, od_is_join, .func (PySem.W.fnOf "is_join" "is_join" (defArgs s_is_join) (defBody s_is_join) (defScope s_is_join) .none kV_is_join dc_is_join pm_is_join an_is_join cd_is_join ct_is_join), sl_is_join⟩)
    (cc_is_join : PySem.W.codeIn K cd_is_join "is_join" = true)
    (k_is_join : PySem.W.keepIn K (.ref f_is_join) = true)
    (a_history_of : PySem.W.nsIn K mainGlobals "history_of" = some (some (.ref f_history_of)))
    (l_history_of : K.lookup f_history_of = some ⟨oc_history_of, od_history_of, .func (PySem.W.fnOf "history_of" "history_of" (defArgs s_history_of) (defBody s_history_of) (defScope s_history_of) .none kV_history_of dc_history_of pm_history_of an_history_of (.ref c_history_of) ct_history_of), sl_history_of⟩)
    (cc_history_of : PySem.W.codeIn K (.ref c_history_of) "history_of" = true)
    (k_history_of : PySem.W.keepIn K (.ref f_history_of) = true)
    (v_history_of : K.lookup c_history_of = some ⟨e_history_of, dd_history_of, .fields vs_history_of, sc_history_of⟩)
    (w_history_of : vs_history_of[11]? = some (.ref P_history_of))
    (n_history_of : K.lookup P_history_of = none)
    (a_opening : PySem.W.nsIn K mainGlobals "opening" = some (some (.ref f_opening)))
    (l_opening : K.lookup f_opening = some ⟨oc_opening, od_opening, .func (PySem.W.fnOf "opening" "opening" (defArgs s_opening) (defBody s_opening) (defScope s_opening) .none kV_opening dc_opening pm_opening an_opening cd_opening ct_opening), sl_opening⟩)
    (cc_opening : PySem.W.codeIn K cd_opening "opening" = true)
    (k_opening : PySem.W.keepIn K (.ref f_opening) = true)
    (a_last_of : PySem.W.nsIn K mainGlobals "last_of" = some (some (.ref f_last_of)))
    (l_last_of : K.lookup f_last_of = some ⟨oc_last_of, od_last_of, .func (PySem.W.fnOf "last_of" "last_of" (defArgs s_last_of) (defBody s_last_of) (defScope s_last_of) .none kV_last_of dc_last_of pm_last_of an_last_of cd_last_of ct_last_of), sl_last_of⟩)
    (cc_last_of : PySem.W.codeIn K cd_last_of "last_of" = true)
    (k_last_of : PySem.W.keepIn K (.ref f_last_of) = true)
    (a_is_span : PySem.W.nsIn K mainGlobals "is_span" = some (some (.ref f_is_span)))
    (l_is_span : K.lookup f_is_span = some ⟨oc_is_span, od_is_span, .func (PySem.W.fnOf "is_span" "is_span" (defArgs s_is_span) (defBody s_is_span) (defScope s_is_span) .none kV_is_span dc_is_span pm_is_span an_is_span cd_is_span ct_is_span), sl_is_span⟩)
    (cc_is_span : PySem.W.codeIn K cd_is_span "is_span" = true)
    (k_is_span : PySem.W.keepIn K (.ref f_is_span) = true)
    (a_root_span : PySem.W.nsIn K mainGlobals "root_span" = some (some (.ref f_root_span)))
    (l_root_span : K.lookup f_root_span = some ⟨oc_root_span, od_root_span, .func (PySem.W.fnOf "root_span" "root_span" (defArgs s_root_span) (defBody s_root_span) (defScope s_root_span) .none kV_root_span dc_root_span pm_root_span an_root_span cd_root_span ct_root_span), sl_root_span⟩)
    (cc_root_span : PySem.W.codeIn K cd_root_span "root_span" = true)
    (k_root_span : PySem.W.keepIn K (.ref f_root_span) = true)
    (a_split_span : PySem.W.nsIn K mainGlobals "split_span" = some (some (.ref f_split_span)))
    (l_split_span : K.lookup f_split_span = some ⟨oc_split_span, od_split_span, .func (PySem.W.fnOf "split_span" "split_span" (defArgs s_split_span) (defBody s_split_span) (defScope s_split_span) .none kV_split_span dc_split_span pm_split_span an_split_span cd_split_span ct_split_span), sl_split_span⟩)
    (cc_split_span : PySem.W.codeIn K cd_split_span "split_span" = true)
    (k_split_span : PySem.W.keepIn K (.ref f_split_span) = true)
    (a_halves_of : PySem.W.nsIn K mainGlobals "halves_of" = some (some (.ref f_halves_of)))
    (l_halves_of : K.lookup f_halves_of = some ⟨oc_halves_of, od_halves_of, .func (PySem.W.fnOf "halves_of" "halves_of" (defArgs s_halves_of) (defBody s_halves_of) (defScope s_halves_of) .none kV_halves_of dc_halves_of pm_halves_of an_halves_of cd_halves_of ct_halves_of), sl_halves_of⟩)
    (cc_halves_of : PySem.W.codeIn K cd_halves_of "halves_of" = true)
    (k_halves_of : PySem.W.keepIn K (.ref f_halves_of) = true)
    (a_are_rivals : PySem.W.nsIn K mainGlobals "are_rivals" = some (some (.ref f_are_rivals)))
    (l_are_rivals : K.lookup f_are_rivals = some ⟨oc_are_rivals, od_are_rivals, .func (PySem.W.fnOf "are_rivals" "are_rivals" (defArgs s_are_rivals) (defBody s_are_rivals) (defScope s_are_rivals) .none kV_are_rivals dc_are_rivals pm_are_rivals an_are_rivals cd_are_rivals ct_are_rivals), sl_are_rivals⟩)
    (cc_are_rivals : PySem.W.codeIn K cd_are_rivals "are_rivals" = true)
    (k_are_rivals : PySem.W.keepIn K (.ref f_are_rivals) = true)
    (a__law_same : PySem.W.nsIn K mainGlobals "_law_same" = some (some (.ref f__law_same)))
    (l__law_same : K.lookup f__law_same = some ⟨oc__law_same, od__law_same, .func (PySem.W.fnOf "_law_same" "_law_same" (defArgs s__law_same) (defBody s__law_same) (defScope s__law_same) .none kV__law_same dc__law_same pm__law_same an__law_same cd__law_same ct__law_same), sl__law_same⟩)
    (cc__law_same : PySem.W.codeIn K cd__law_same "_law_same" = true)
    (k__law_same : PySem.W.keepIn K (.ref f__law_same) = true)
    (a__law_box : PySem.W.nsIn K mainGlobals "_law_box" = some (some (.ref f__law_box)))
    (l__law_box : K.lookup f__law_box = some ⟨oc__law_box, od__law_box, .func (PySem.W.fnOf "_law_box" "_law_box" (defArgs s__law_box) (defBody s__law_box) (defScope s__law_box) .none kV__law_box dc__law_box pm__law_box an__law_box cd__law_box ct__law_box), sl__law_box⟩)
    (cc__law_box : PySem.W.codeIn K cd__law_box "_law_box" = true)
    (k__law_box : PySem.W.keepIn K (.ref f__law_box) = true)
    (a__law_load : PySem.W.nsIn K mainGlobals "_law_load" = some (some (.ref f__law_load)))
    (l__law_load : K.lookup f__law_load = some ⟨oc__law_load, od__law_load, .func (PySem.W.fnOf "_law_load" "_law_load" (defArgs s__law_load) (defBody s__law_load) (defScope s__law_load) .none kV__law_load dc__law_load pm__law_load an__law_load cd__law_load ct__law_load), sl__law_load⟩)
    (cc__law_load : PySem.W.codeIn K cd__law_load "_law_load" = true)
    (k__law_load : PySem.W.keepIn K (.ref f__law_load) = true)
    (a__law_draw : PySem.W.nsIn K mainGlobals "_law_draw" = some (some (.ref f__law_draw)))
    (l__law_draw : K.lookup f__law_draw = some ⟨oc__law_draw, od__law_draw, .func (PySem.W.fnOf "_law_draw" "_law_draw" (defArgs s__law_draw) (defBody s__law_draw) (defScope s__law_draw) .none kV__law_draw dc__law_draw pm__law_draw an__law_draw cd__law_draw ct__law_draw), sl__law_draw⟩)
    (cc__law_draw : PySem.W.codeIn K cd__law_draw "_law_draw" = true)
    (k__law_draw : PySem.W.keepIn K (.ref f__law_draw) = true)
    (a__law_wrong_span : PySem.W.nsIn K mainGlobals "_law_wrong_span" = some (some (.ref f__law_wrong_span)))
    (l__law_wrong_span : K.lookup f__law_wrong_span = some ⟨oc__law_wrong_span, od__law_wrong_span, .func (PySem.W.fnOf "_law_wrong_span" "_law_wrong_span" (defArgs s__law_wrong_span) (defBody s__law_wrong_span) (defScope s__law_wrong_span) .none kV__law_wrong_span dc__law_wrong_span pm__law_wrong_span an__law_wrong_span cd__law_wrong_span ct__law_wrong_span), sl__law_wrong_span⟩)
    (cc__law_wrong_span : PySem.W.codeIn K cd__law_wrong_span "_law_wrong_span" = true)
    (k__law_wrong_span : PySem.W.keepIn K (.ref f__law_wrong_span) = true)
    (a__law_due : PySem.W.nsIn K mainGlobals "_law_due" = some (some (.ref f__law_due)))
    (l__law_due : K.lookup f__law_due = some ⟨oc__law_due, od__law_due, .func (PySem.W.fnOf "_law_due" "_law_due" (defArgs s__law_due) (defBody s__law_due) (defScope s__law_due) .none kV__law_due dc__law_due pm__law_due an__law_due cd__law_due ct__law_due), sl__law_due⟩)
    (cc__law_due : PySem.W.codeIn K cd__law_due "_law_due" = true)
    (k__law_due : PySem.W.keepIn K (.ref f__law_due) = true)
    (a_law : PySem.W.nsIn K mainGlobals "law" = some (some (.ref f_law)))
    (l_law : K.lookup f_law = some ⟨oc_law, od_law, .func (PySem.W.fnOf "law" "law" (defArgs s_law) (defBody s_law) (defScope s_law) .none kV_law dc_law pm_law an_law cd_law ct_law), sl_law⟩)
    (cc_law : PySem.W.codeIn K cd_law "law" = true)
    (k_law : PySem.W.keepIn K (.ref f_law) = true)
    (nNotary__finds : PySem.W.findIn K (.ref C_Notary) "_finds" = some none)
    (nNotary__parts : PySem.W.findIn K (.ref C_Notary) "_parts" = some none)
    (nNotary__seals : PySem.W.findIn K (.ref C_Notary) "_seals" = some none)
    (aX_BadParts : PySem.W.nsIn K mainGlobals "BadParts" = some (some (.ref X_BadParts)))
    (xX_BadParts : PySem.W.excIn K X_BadParts [.type "ValueError", .type "Exception", .type "BaseException", .type "object"] "ValueError.__new__" = true)
    (kX_BadParts : PySem.W.keepIn K (.ref X_BadParts) = true)
    (bX_BadParts : PySem.W.subIn K (.ref X_BadParts) (.type "BaseException") = some true)
    (tX_BadParts : PySem.W.typeIn K (.ref X_BadParts) = some (.type "type"))
    (aX_BadRow : PySem.W.nsIn K mainGlobals "BadRow" = some (some (.ref X_BadRow)))
    (xX_BadRow : PySem.W.excIn K X_BadRow [.type "ValueError", .type "Exception", .type "BaseException", .type "object"] "ValueError.__new__" = true)
    (kX_BadRow : PySem.W.keepIn K (.ref X_BadRow) = true)
    (bX_BadRow : PySem.W.subIn K (.ref X_BadRow) (.type "BaseException") = some true)
    (tX_BadRow : PySem.W.typeIn K (.ref X_BadRow) = some (.type "type"))
    (z_all : PySem.W.nsIn K mainGlobals "all" = some none)
    (z_bool : PySem.W.nsIn K mainGlobals "bool" = some none)
    (z_int : PySem.W.nsIn K mainGlobals "int" = some none)
    (z_isinstance : PySem.W.nsIn K mainGlobals "isinstance" = some none)
    (z_len : PySem.W.nsIn K mainGlobals "len" = some none)
    (z_list : PySem.W.nsIn K mainGlobals "list" = some none)
    (z_min : PySem.W.nsIn K mainGlobals "min" = some none)
    (z_range : PySem.W.nsIn K mainGlobals "range" = some none)
    (z_str : PySem.W.nsIn K mainGlobals "str" = some none)
    (z_tuple : PySem.W.nsIn K mainGlobals "tuple" = some none)
    (z_zip : PySem.W.nsIn K mainGlobals "zip" = some none)
    (g_MAX_PART : PySem.W.nsIn K mainGlobals "MAX_PART" = some (some (.int 281474976710656 t_MAX_PART)))
    (g__MAX_ELEMENTS : PySem.W.nsIn K mainGlobals "_MAX_ELEMENTS" = some (some (.int 16 t__MAX_ELEMENTS)))
    (g__MAX_TEXT : PySem.W.nsIn K mainGlobals "_MAX_TEXT" = some (some (.int 24 t__MAX_TEXT)))
    (g_MAX_LEVEL : PySem.W.nsIn K mainGlobals "MAX_LEVEL" = some (some (.int 10 t_MAX_LEVEL)))
    (g__LENGTHS : PySem.W.nsIn K mainGlobals "_LENGTHS" = some (some (.ref c__LENGTHS)))
    (l__LENGTHS : K.lookup c__LENGTHS = some ⟨.type "tuple", none, .seq vs__LENGTHS n__LENGTHS, sl__LENGTHS⟩)
    (r__LENGTHS : Vals (([.int 1, .int 2, .int 4, .int 8, .int 16, .int 32, .int 64, .int 128, .int 256, .int 512, .int 1024] : List D).map dV) vs__LENGTHS.toList ∧ vs__LENGTHS.size ≤ sizeLine)
    (g__SIZES : PySem.W.nsIn K mainGlobals "_SIZES" = some (some (.ref c__SIZES)))
    (l__SIZES : K.lookup c__SIZES = some { cls := .type "dict", data := .dict es__SIZES n__SIZES })
    (lit__SIZES : PySem.W.KeysLit w.params es__SIZES.toList)
    (low__SIZES : (c__SIZES == sysModules) = false)
    (r__SIZES_0 : PySem.W.nsIn K c__SIZES "step" = some (some (.int 2 tk__SIZES_0)))
    (r__SIZES_1 : PySem.W.nsIn K c__SIZES "join" = some (some (.int 4 tk__SIZES_1)))
    (r__SIZES_2 : PySem.W.nsIn K c__SIZES "behind" = some none)
    (g__PARTS : PySem.W.nsIn K mainGlobals "_PARTS" = some (some (.int 5 t__PARTS)))
    (g__MAX_FIRST : PySem.W.nsIn K mainGlobals "_MAX_FIRST" = some (some (.int 1023 t__MAX_FIRST)))
    : LamX.LawAtS l w K (L2.CX l.prog w) 10 63 "script" mg fa h := by
  have e := hfa.symm.trans (PySem.W.mg_of X G a_law)
  cases e
  obtain ⟨y__is_text, d__is_text⟩ := hT.at q__is_text X (PySem.W.mg_of X G a__is_text) l__is_text rfl rfl v__is_text w__is_text
  obtain ⟨y_is_parts, d_is_parts⟩ := hT.at q_is_parts X (PySem.W.mg_of X G a_is_parts) l_is_parts rfl rfl v_is_parts w_is_parts
  obtain ⟨y_is_opening, d_is_opening⟩ := hT.at q_is_opening X (PySem.W.mg_of X G a_is_opening) l_is_opening rfl rfl v_is_opening w_is_opening
  obtain ⟨y_history_of, d_history_of⟩ := hT.at q_history_of X (PySem.W.mg_of X G a_history_of) l_history_of rfl rfl v_history_of w_history_of
  have Fm_is_number := fun_mk (st := s_is_number) l_is_number cc_is_number k_is_number
  have b_is_number := Fm_is_number.binds (ps := ["value", "most"]) fun _ _ _ _ _ _ us hl => match us, hl with | [_, _], _ => rfl
  have Fm__is_text := fun_mk (st := s__is_text) l__is_text cc__is_text k__is_text
  have b__is_text := Fm__is_text.binds (ps := ["value"]) fun _ _ _ _ _ _ us hl => match us, hl with | [_], _ => rfl
  have Fm_is_parts := fun_mk (st := s_is_parts) l_is_parts cc_is_parts k_is_parts
  have b_is_parts := Fm_is_parts.binds (ps := ["value"]) fun _ _ _ _ _ _ us hl => match us, hl with | [_], _ => rfl
  have Fm_Notary___init__ := fun_mk (st := s_Notary___init__) l_Notary___init__ cc_Notary___init__ k_Notary___init__
  have b_Notary___init__ := Fm_Notary___init__.binds (ps := ["self"]) fun _ _ _ _ _ _ us hl => match us, hl with | [_], _ => rfl
  have Fm_Notary_seal := fun_mk (st := s_Notary_seal) l_Notary_seal cc_Notary_seal k_Notary_seal
  have b_Notary_seal := Fm_Notary_seal.binds (ps := ["self", "parts"]) fun _ _ _ _ _ _ us hl => match us, hl with | [_, _], _ => rfl
  have Fm_Notary_find := fun_mk (st := s_Notary_find) l_Notary_find cc_Notary_find k_Notary_find
  have b_Notary_find := Fm_Notary_find.binds (ps := ["self", "parts"]) fun _ _ _ _ _ _ us hl => match us, hl with | [_, _], _ => rfl
  have Fm_Notary_parts_of := fun_mk (st := s_Notary_parts_of) l_Notary_parts_of cc_Notary_parts_of k_Notary_parts_of
  have b_Notary_parts_of := Fm_Notary_parts_of.binds (ps := ["self", "seal"]) fun _ _ _ _ _ _ us hl => match us, hl with | [_, _], _ => rfl
  have Fm_Notary_size := fun_mk (st := s_Notary_size) l_Notary_size cc_Notary_size k_Notary_size
  have b_Notary_size := Fm_Notary_size.binds (ps := ["self"]) fun _ _ _ _ _ _ us hl => match us, hl with | [_], _ => rfl
  have Fm_is_seal := fun_mk (st := s_is_seal) l_is_seal cc_is_seal k_is_seal
  have b_is_seal := Fm_is_seal.binds (ps := ["value"]) fun _ _ _ _ _ _ us hl => match us, hl with | [_], _ => rfl
  have Fm_is_opening := fun_mk (st := s_is_opening) l_is_opening cc_is_opening k_is_opening
  have b_is_opening := Fm_is_opening.binds (ps := ["value"]) fun _ _ _ _ _ _ us hl => match us, hl with | [_], _ => rfl
  have Fm_is_join := fun_mk (st := s_is_join) l_is_join cc_is_join k_is_join
  have b_is_join := Fm_is_join.binds (ps := ["parts"]) fun _ _ _ _ _ _ us hl => match us, hl with | [_], _ => rfl
  have Fm_history_of := fun_mk (st := s_history_of) l_history_of cc_history_of k_history_of
  have b_history_of := Fm_history_of.binds (ps := ["notary", "row"]) fun _ _ _ _ _ _ us hl => match us, hl with | [_, _], _ => rfl
  have Fm_opening := fun_mk (st := s_opening) l_opening cc_opening k_opening
  have b_opening := Fm_opening.binds (ps := ["notary", "history"]) fun _ _ _ _ _ _ us hl => match us, hl with | [_, _], _ => rfl
  have Fm_last_of := fun_mk (st := s_last_of) l_last_of cc_last_of k_last_of
  have b_last_of := Fm_last_of.binds (ps := ["notary", "history"]) fun _ _ _ _ _ _ us hl => match us, hl with | [_, _], _ => rfl
  have Fm_is_span := fun_mk (st := s_is_span) l_is_span cc_is_span k_is_span
  have b_is_span := Fm_is_span.binds (ps := ["value"]) fun _ _ _ _ _ _ us hl => match us, hl with | [_], _ => rfl
  have Fm_root_span := fun_mk (st := s_root_span) l_root_span cc_root_span k_root_span
  have b_root_span := Fm_root_span.binds (ps := ["question", "history"]) fun _ _ _ _ _ _ us hl => match us, hl with | [_, _], _ => rfl
  have Fm_split_span := fun_mk (st := s_split_span) l_split_span cc_split_span k_split_span
  have b_split_span := Fm_split_span.binds (ps := ["span", "join", "behind", "middle"]) fun _ _ _ _ _ _ us hl => match us, hl with | [_, _, _, _], _ => rfl
  have Fm_halves_of := fun_mk (st := s_halves_of) l_halves_of cc_halves_of k_halves_of
  have b_halves_of := Fm_halves_of.binds (ps := ["notary", "span"]) fun _ _ _ _ _ _ us hl => match us, hl with | [_, _], _ => rfl
  have Fm_are_rivals := fun_mk (st := s_are_rivals) l_are_rivals cc_are_rivals k_are_rivals
  have b_are_rivals := Fm_are_rivals.binds (ps := ["one", "other"]) fun _ _ _ _ _ _ us hl => match us, hl with | [_, _], _ => rfl
  have Fm__law_same := fun_mk (st := s__law_same) l__law_same cc__law_same k__law_same
  have b__law_same := Fm__law_same.binds (ps := ["a", "b"]) fun _ _ _ _ _ _ us hl => match us, hl with | [_, _], _ => rfl
  have Fm__law_box := fun_mk (st := s__law_box) l__law_box cc__law_box k__law_box
  have b__law_box := Fm__law_box.binds (ps := ["script", "nodes"]) fun _ _ _ _ _ _ us hl => match us, hl with | [_, _], _ => rfl
  have Fm__law_load := fun_mk (st := s__law_load) l__law_load cc__law_load k__law_load
  have b__law_load := Fm__law_load.binds (ps := ["box"]) fun _ _ _ _ _ _ us hl => match us, hl with | [_], _ => rfl
  have Fm__law_draw := fun_mk (st := s__law_draw) l__law_draw cc__law_draw k__law_draw
  have b__law_draw := Fm__law_draw.binds (ps := ["box", "many"]) fun _ _ _ _ _ _ us hl => match us, hl with | [_, _], _ => rfl
  have Fm__law_wrong_span := fun_mk (st := s__law_wrong_span) l__law_wrong_span cc__law_wrong_span k__law_wrong_span
  have b__law_wrong_span := Fm__law_wrong_span.binds (ps := ["box", "span"]) fun _ _ _ _ _ _ us hl => match us, hl with | [_, _], _ => rfl
  have Fm__law_due := fun_mk (st := s__law_due) l__law_due cc__law_due k__law_due
  have b__law_due := Fm__law_due.binds (ps := ["notary", "span"]) fun _ _ _ _ _ _ us hl => match us, hl with | [_, _], _ => rfl
  have Fm_law := fun_mk (st := s_law) l_law cc_law k_law
  have b_law := Fm_law.binds (ps := ["script"]) fun _ _ _ _ _ _ us hl => match us, hl with | [_], _ => rfl
  have cl_Notary : Cls K C_Notary := ⟨pgC_Notary, hdC_Notary, poC_Notary, saC_Notary⟩
  let A : Ad := { C_Notary := C_Notary, X_BadParts := X_BadParts, X_BadRow := X_BadRow, P__is_text := P__is_text, P_is_parts := P_is_parts, P_is_opening := P_is_opening, P_history_of := P_history_of, c__LENGTHS := c__LENGTHS, c__SIZES := c__SIZES }
  have kd__SIZES : KdOk K w c__SIZES (tb__SIZES A) := by
    refine ⟨⟨es__SIZES, n__SIZES, l__SIZES, lit__SIZES, low__SIZES⟩, fun p hp => ?_⟩
    simp only [tb__SIZES, List.mem_cons, List.not_mem_nil, or_false] at hp
    rcases hp with rfl | rfl | rfl
    · exact ⟨_, r__SIZES_0, .inr ⟨_, _, rfl, rfl, by decide +kernel, ⟨_, rfl⟩⟩⟩
    · exact ⟨_, r__SIZES_1, .inr ⟨_, _, rfl, rfl, by decide +kernel, ⟨_, rfl⟩⟩⟩
    · exact ⟨_, r__SIZES_2, .inl ⟨rfl, rfl⟩⟩
  have T : TX K mg w A := { b_triv := trivial, b_all := PySem.W.mg_none_of X G z_all, b_bool := PySem.W.mg_none_of X G z_bool, b_int := PySem.W.mg_none_of X G z_int, b_isinstance := PySem.W.mg_none_of X G z_isinstance, b_len := PySem.W.mg_none_of X G z_len, b_list := PySem.W.mg_none_of X G z_list, b_min := PySem.W.mg_none_of X G z_min, b_range := PySem.W.mg_none_of X G z_range, b_str := PySem.W.mg_none_of X G z_str, b_tuple := PySem.W.mg_none_of X G z_tuple, b_zip := PySem.W.mg_none_of X G z_zip, g_MAX_PART := ⟨_, PySem.W.mg_of X G g_MAX_PART, ⟨_, rfl⟩⟩, g__MAX_ELEMENTS := ⟨_, PySem.W.mg_of X G g__MAX_ELEMENTS, ⟨_, rfl⟩⟩, g__MAX_TEXT := ⟨_, PySem.W.mg_of X G g__MAX_TEXT, ⟨_, rfl⟩⟩, g_MAX_LEVEL := ⟨_, PySem.W.mg_of X G g_MAX_LEVEL, ⟨_, rfl⟩⟩, g__LENGTHS := ⟨_, PySem.W.mg_of X G g__LENGTHS, rfl⟩, k__LENGTHS := ⟨⟨_, vs__LENGTHS, n__LENGTHS, l__LENGTHS, rfl, rfl, rfl, r__LENGTHS.2, r__LENGTHS.1⟩, by decide +kernel⟩, g__SIZES := ⟨_, PySem.W.mg_of X G g__SIZES, rfl⟩, kd__SIZES := kd__SIZES, g__PARTS := ⟨_, PySem.W.mg_of X G g__PARTS, ⟨_, rfl⟩⟩, g__MAX_FIRST := ⟨_, PySem.W.mg_of X G g__MAX_FIRST, ⟨_, rfl⟩⟩, cls_Notary := cl_Notary, n_Notary__finds := nNotary__finds, n_Notary__parts := nNotary__parts, n_Notary__seals := nNotary__seals, x_BadParts := xX_BadParts, m_BadParts := PySem.W.mg_of X G aX_BadParts, k_BadParts := kX_BadParts, bx_BadParts := bX_BadParts, tx_BadParts := tX_BadParts, x_BadRow := xX_BadRow, m_BadRow := PySem.W.mg_of X G aX_BadRow, k_BadRow := kX_BadRow, bx_BadRow := bX_BadRow, tx_BadRow := tX_BadRow }
  have TL : Ow.TxtL K mg := ⟨PySem.W.mg_none_of X G z_isinstance, PySem.W.mg_none_of X G z_int, PySem.W.mg_none_of X G z_bool, PySem.W.mg_none_of X G z_str, PySem.W.mg_none_of X G z_tuple, PySem.W.mg_none_of X G z_list, PySem.W.mg_none_of X G z_len, PySem.W.mg_none_of X G z_range⟩
  refine ⟨PySem.W.fnOf "law" "law" (defArgs s_law) (defBody s_law) (defScope s_law) .none kV_law dc_law pm_law an_law cd_law ct_law, [(c__is_text, P__is_text), (c_is_parts, P_is_parts), (c_is_opening, P_is_opening), (c_history_of, P_history_of)], spD K (tabs A) (F_law A), fun p hp => ?_, fun p hp => ?_, fun p hp => ?_, fun s u => .of_eq rfl, fun H a ns _ _ hH hS => ?_, fun base _ _ hB => ?_⟩
  · simp only [List.mem_cons, List.not_mem_nil, or_false] at hp
    rcases hp with z | z | z | z
    · rw [z]; exact y__is_text
    · rw [z]; exact y_is_parts
    · rw [z]; exact y_is_opening
    · rw [z]; exact y_history_of
  · simp only [List.mem_cons, List.not_mem_nil, or_false] at hp
    rcases hp with z | z | z | z
    · rw [z]; exact n__is_text
    · rw [z]; exact n_is_parts
    · rw [z]; exact n_is_opening
    · rw [z]; exact n_history_of
  · simp only [List.mem_cons, List.not_mem_nil, or_false] at hp
    rcases hp with z | z | z | z
    · rw [z]; exact d__is_text
    · rw [z]; exact d_is_parts
    · rw [z]; exact d_is_opening
    · rw [z]; exact d_history_of
  · exact ⟨a, ns, [.scr], fun _ => none, fun d _ => d = .bl true, xF, .cons .scr .nil, ⟨fun _ _ z => (by cases z), (fun P hP => by
      simp only [tabs, List.mem_cons, List.not_mem_nil, or_false] at hP
      rcases hP with z | z | z | z
      · rw [z]; exact tab0 (hH (c__is_text, P__is_text) (by simp))
      · rw [z]; exact tab0 (hH (c_is_parts, P_is_parts) (by simp))
      · rw [z]; exact tab0 (hH (c_is_opening, P_is_opening) (by simp))
      · rw [z]; exact tab0 (hH (c_history_of, P_history_of) (by simp))), hS.elim (fun h => .inl ⟨rfl, h⟩) fun h => .inr fun _ => .inr h⟩, w_law A fun _ => rfl, fun v d H' S' i _ _ e => (by subst e; exact im_bl i), xok_F⟩
  · have t__is_text := tabB (hB (c__is_text, P__is_text) (by simp))
    have FT__is_text : FunT K base mg "_is_text" "_is_text" s__is_text f__is_text _ P__is_text := ⟨⟨_, _, _, _, _, _, c__is_text, _, _, rfl, l__is_text, cc__is_text, t__is_text⟩, k__is_text⟩
    have t_is_parts := tabB (hB (c_is_parts, P_is_parts) (by simp))
    have FT_is_parts : FunT K base mg "is_parts" "is_parts" s_is_parts f_is_parts _ P_is_parts := ⟨⟨_, _, _, _, _, _, c_is_parts, _, _, rfl, l_is_parts, cc_is_parts, t_is_parts⟩, k_is_parts⟩
    have t_is_opening := tabB (hB (c_is_opening, P_is_opening) (by simp))
    have FT_is_opening : FunT K base mg "is_opening" "is_opening" s_is_opening f_is_opening _ P_is_opening := ⟨⟨_, _, _, _, _, _, c_is_opening, _, _, rfl, l_is_opening, cc_is_opening, t_is_opening⟩, k_is_opening⟩
    have t_history_of := tabB (hB (c_history_of, P_history_of) (by simp))
    have FT_history_of : FunT K base mg "history_of" "history_of" s_history_of f_history_of _ P_history_of := ⟨⟨_, _, _, _, _, _, c_history_of, _, _, rfl, l_history_of, cc_history_of, t_history_of⟩, k_history_of⟩
    have G_is_number : Ow.Ca l.prog w K mg base 1 "is_number" (spD K (tabs A) (F_is_number A)) := ⟨f_is_number, _, _, ok_is_number Fm_is_number T , PySem.W.mg_of X G a_is_number, k_is_number, b_is_number⟩
    have G__is_text : Ow.Ca l.prog w K mg base 2 "_is_text" (spD K (tabs A) (F__is_text A)) := ⟨f__is_text, _, _, ok__is_text FT__is_text T , PySem.W.mg_of X G a__is_text, k__is_text, b__is_text⟩
    have G_is_parts : Ow.Ca l.prog w K mg base 4 "is_parts" (spD K (tabs A) (F_is_parts A)) := ⟨f_is_parts, _, _, ok_is_parts FT_is_parts T G__is_text G_is_number, PySem.W.mg_of X G a_is_parts, k_is_parts, b_is_parts⟩
    have G_Notary___init__ : Ow.Ma l.prog w K mg base 1 "Notary" C_Notary (spD K (tabs A) (F_Notary___init__ A)) := ⟨f_Notary___init__, _, _, ⟨mkC_Notary, a_Notary___init__, i_Notary___init__, kcC_Notary⟩, ok_Notary___init__ Fm_Notary___init__ T , PySem.W.mg_of X G aC_Notary, b_Notary___init__⟩
    have G_Notary_seal : Ow.Me l.prog w K mg base 5 C_Notary "seal" (spD K (tabs A) (F_Notary_seal A)) := ⟨f_Notary_seal, _, _, cl_Notary, ⟨a_Notary_seal, i_Notary_seal, k_Notary_seal⟩, ok_Notary_seal Fm_Notary_seal T G_is_parts, b_Notary_seal⟩
    have G_Notary_find : Ow.Me l.prog w K mg base 5 C_Notary "find" (spD K (tabs A) (F_Notary_find A)) := ⟨f_Notary_find, _, _, cl_Notary, ⟨a_Notary_find, i_Notary_find, k_Notary_find⟩, ok_Notary_find Fm_Notary_find T G_is_parts, b_Notary_find⟩
    have G_Notary_parts_of : Ow.Me l.prog w K mg base 1 C_Notary "parts_of" (spD K (tabs A) (F_Notary_parts_of A)) := ⟨f_Notary_parts_of, _, _, cl_Notary, ⟨a_Notary_parts_of, i_Notary_parts_of, k_Notary_parts_of⟩, ok_Notary_parts_of Fm_Notary_parts_of T , b_Notary_parts_of⟩
    have G_Notary_size : Ow.Me l.prog w K mg base 1 C_Notary "size" (spD K (tabs A) (F_Notary_size A)) := ⟨f_Notary_size, _, _, cl_Notary, ⟨a_Notary_size, i_Notary_size, k_Notary_size⟩, ok_Notary_size Fm_Notary_size T , b_Notary_size⟩
    have G_is_seal : Ow.Ca l.prog w K mg base 2 "is_seal" (spD K (tabs A) (F_is_seal A)) := ⟨f_is_seal, _, _, ok_is_seal Fm_is_seal T G_is_number, PySem.W.mg_of X G a_is_seal, k_is_seal, b_is_seal⟩
    have G_is_opening : Ow.Ca l.prog w K mg base 4 "is_opening" (spD K (tabs A) (F_is_opening A)) := ⟨f_is_opening, _, _, ok_is_opening FT_is_opening T G_is_seal, PySem.W.mg_of X G a_is_opening, k_is_opening, b_is_opening⟩
    have G_is_join : Ow.Ca l.prog w K mg base 1 "is_join" (spD K (tabs A) (F_is_join A)) := ⟨f_is_join, _, _, ok_is_join Fm_is_join T , PySem.W.mg_of X G a_is_join, k_is_join, b_is_join⟩
    have G_history_of : Ow.Ca l.prog w K mg base 7 "history_of" (spD K (tabs A) (F_history_of A)) := ⟨f_history_of, _, _, ok_history_of FT_history_of T G_is_seal G_Notary_seal, PySem.W.mg_of X G a_history_of, k_history_of, b_history_of⟩
    have G_opening : Ow.Ca l.prog w K mg base 5 "opening" (spD K (tabs A) (F_opening A)) := ⟨f_opening, _, _, ok_opening Fm_opening T G_Notary_parts_of G_is_opening, PySem.W.mg_of X G a_opening, k_opening, b_opening⟩
    have G_last_of : Ow.Ca l.prog w K mg base 6 "last_of" (spD K (tabs A) (F_last_of A)) := ⟨f_last_of, _, _, ok_last_of Fm_last_of T G_opening, PySem.W.mg_of X G a_last_of, k_last_of, b_last_of⟩
    have G_is_span : Ow.Ca l.prog w K mg base 3 "is_span" (spD K (tabs A) (F_is_span A)) := ⟨f_is_span, _, _, ok_is_span Fm_is_span T G_is_number G_is_seal, PySem.W.mg_of X G a_is_span, k_is_span, b_is_span⟩
    have G_root_span : Ow.Ca l.prog w K mg base 1 "root_span" (spD K (tabs A) (F_root_span A)) := ⟨f_root_span, _, _, ok_root_span Fm_root_span T , PySem.W.mg_of X G a_root_span, k_root_span, b_root_span⟩
    have G_split_span : Ow.Ca l.prog w K mg base 1 "split_span" (spD K (tabs A) (F_split_span A)) := ⟨f_split_span, _, _, ok_split_span Fm_split_span T , PySem.W.mg_of X G a_split_span, k_split_span, b_split_span⟩
    have G_halves_of : Ow.Ca l.prog w K mg base 7 "halves_of" (spD K (tabs A) (F_halves_of A)) := ⟨f_halves_of, _, _, ok_halves_of Fm_halves_of T G_opening G_is_join G_last_of G_Notary_find G_split_span, PySem.W.mg_of X G a_halves_of, k_halves_of, b_halves_of⟩
    have G_are_rivals : Ow.Ca l.prog w K mg base 1 "are_rivals" (spD K (tabs A) (F_are_rivals A)) := ⟨f_are_rivals, _, _, ok_are_rivals Fm_are_rivals T , PySem.W.mg_of X G a_are_rivals, k_are_rivals, b_are_rivals⟩
    have G__law_same : Ow.Ca l.prog w K mg base 9 "_law_same" (spD K (tabs A) (F__law_same A 8)) := ⟨f__law_same, _, _, ok__law_same Fm__law_same T (PySem.W.mg_of X G a__law_same) k__law_same b__law_same  8, PySem.W.mg_of X G a__law_same, k__law_same, b__law_same⟩
    have G__law_box : Ow.Ca l.prog w K mg base 1 "_law_box" (spD K (tabs A) (F__law_box A)) := ⟨f__law_box, _, _, ok__law_box Fm__law_box T, PySem.W.mg_of X G a__law_box, k__law_box, b__law_box⟩
    have G__law_load : Ow.Ca l.prog w K mg base 1 "_law_load" Ow.spLoad := ⟨f__law_load, _, _, Ow.ok_load Fm__law_load TL, PySem.W.mg_of X G a__law_load, k__law_load, b__law_load⟩
    have G__law_draw : Ow.Ca l.prog w K mg base 2 "_law_draw" (spD K (tabs A) (F__law_draw A)) := ⟨f__law_draw, _, _, ok__law_draw Fm__law_draw T G__law_load, PySem.W.mg_of X G a__law_draw, k__law_draw, b__law_draw⟩
    have G__law_wrong_span : Ow.Ca l.prog w K mg base 3 "_law_wrong_span" (spD K (tabs A) (F__law_wrong_span A)) := ⟨f__law_wrong_span, _, _, ok__law_wrong_span Fm__law_wrong_span T G__law_draw, PySem.W.mg_of X G a__law_wrong_span, k__law_wrong_span, b__law_wrong_span⟩
    have G__law_due : Ow.Ca l.prog w K mg base 6 "_law_due" (spD K (tabs A) (F__law_due A)) := ⟨f__law_due, _, _, ok__law_due Fm__law_due T G_Notary_parts_of G_Notary_find, PySem.W.mg_of X G a__law_due, k__law_due, b__law_due⟩
    exact ok_law Fm_law T G__law_box G_Notary___init__ G__law_draw G_history_of G_root_span G__law_same G_is_span G__law_wrong_span G_are_rivals G_Notary_parts_of G_Notary_seal G_Notary_size G_halves_of G__law_due
end Sd

set_option Elab.async false
open PySem PySem.W PyProof.Rows in
set_option maxRecDepth 100000 in
set_option maxHeartbeats 0 in
theorem PySem.Challenge.cw_onewatcher_k50_spans_holds : PySem.Challenge.rw_onewatcher_k50_spans.Holds := by
  w_on; o_law; k_head; (case hw => w_witness2)
  k_fill
  refine Sd.walk_ofG (l := PySem.Challenge.rw_onewatcher_k50_spans) (n := 63) (k := 10) (x := "script") (CX := fun w => L2.CX (PySem.Challenge.rw_onewatcher_k50_spans).prog w) rfl (by decide) rfl ⟨rfl, by decide, by decide⟩ (fun w h Y => PySem.W.kIn_of Y) ?F (fun w H s e s' z => by obtain ⟨_, _, _, _, _, _, _, _, _, _, _, _, z⟩ := z; exact z)
  case F =>
    intro w mg fa h Y KX G hmg hT
    refine' Sd.all_mk KX G hmg hT (by decide +kernel) (by decide +kernel) (by decide +kernel) (by decide +kernel) ?aC_Notary ?pgC_Notary ?hdC_Notary ?poC_Notary ?saC_Notary ?mkC_Notary ?kcC_Notary ?a_is_number ?l_is_number ?cc_is_number ?k_is_number ?a__is_text ?l__is_text ?cc__is_text ?k__is_text ?v__is_text ?w__is_text ?n__is_text ?a_is_parts ?l_is_parts ?cc_is_parts ?k_is_parts ?v_is_parts ?w_is_parts ?n_is_parts ?a_Notary___init__ ?i_Notary___init__ ?l_Notary___init__ ?cc_Notary___init__ ?k_Notary___init__ ?a_Notary_seal ?i_Notary_seal ?l_Notary_seal ?cc_Notary_seal ?k_Notary_seal ?a_Notary_find ?i_Notary_find ?l_Notary_find ?cc_Notary_find ?k_Notary_find ?a_Notary_parts_of ?i_Notary_parts_of ?l_Notary_parts_of ?cc_Notary_parts_of ?k_Notary_parts_of ?a_Notary_size ?i_Notary_size ?l_Notary_size ?cc_Notary_size ?k_Notary_size ?a_is_seal ?l_is_seal ?cc_is_seal ?k_is_seal ?a_is_opening ?l_is_opening ?cc_is_opening ?k_is_opening ?v_is_opening ?w_is_opening ?n_is_opening ?a_is_join ?l_is_join ?cc_is_join ?k_is_join ?a_history_of ?l_history_of ?cc_history_of ?k_history_of ?v_history_of ?w_history_of ?n_history_of ?a_opening ?l_opening ?cc_opening ?k_opening ?a_last_of ?l_last_of ?cc_last_of ?k_last_of ?a_is_span ?l_is_span ?cc_is_span ?k_is_span ?a_root_span ?l_root_span ?cc_root_span ?k_root_span ?a_split_span ?l_split_span ?cc_split_span ?k_split_span ?a_halves_of ?l_halves_of ?cc_halves_of ?k_halves_of ?a_are_rivals ?l_are_rivals ?cc_are_rivals ?k_are_rivals ?a__law_same ?l__law_same ?cc__law_same ?k__law_same ?a__law_box ?l__law_box ?cc__law_box ?k__law_box ?a__law_load ?l__law_load ?cc__law_load ?k__law_load ?a__law_draw ?l__law_draw ?cc__law_draw ?k__law_draw ?a__law_wrong_span ?l__law_wrong_span ?cc__law_wrong_span ?k__law_wrong_span ?a__law_due ?l__law_due ?cc__law_due ?k__law_due ?a_law ?l_law ?cc_law ?k_law ?nNotary__finds ?nNotary__parts ?nNotary__seals ?aX_BadParts ?xX_BadParts ?kX_BadParts ?bX_BadParts ?tX_BadParts ?aX_BadRow ?xX_BadRow ?kX_BadRow ?bX_BadRow ?tX_BadRow ?z_all ?z_bool ?z_int ?z_isinstance ?z_len ?z_list ?z_min ?z_range ?z_str ?z_tuple ?z_zip ?g_MAX_PART ?g__MAX_ELEMENTS ?g__MAX_TEXT ?g_MAX_LEVEL ?g__LENGTHS ?l__LENGTHS ?r__LENGTHS ?g__SIZES ?l__SIZES ?lit__SIZES ?low__SIZES ?r__SIZES_0 ?r__SIZES_1 ?r__SIZES_2 ?g__PARTS ?g__MAX_FIRST
    (case aC_Notary => k_is)
    (case pgC_Notary => k_is)
    (case hdC_Notary => k_is)
    (case poC_Notary => k_is)
    (case saC_Notary => k_is)
    (case mkC_Notary => k_is)
    (case kcC_Notary => k_is)
    (case a_is_number => k_is)
    (case l_is_number => k_is)
    (case cc_is_number => k_is)
    (case k_is_number => k_is)
    (case a__is_text => k_is)
    (case l__is_text => k_is)
    (case cc__is_text => k_is)
    (case k__is_text => k_is)
    (case v__is_text => k_is)
    (case w__is_text => first | rfl | k_is)
    (case n__is_text => exact rfl)
    (case a_is_parts => k_is)
    (case l_is_parts => k_is)
    (case cc_is_parts => k_is)
    (case k_is_parts => k_is)
    (case v_is_parts => k_is)
    (case w_is_parts => first | rfl | k_is)
    (case n_is_parts => exact rfl)
    (case a_Notary___init__ => k_is)
    (case i_Notary___init__ => k_is)
    (case l_Notary___init__ => k_is)
    (case cc_Notary___init__ => k_is)
    (case k_Notary___init__ => k_is)
    (case a_Notary_seal => k_is)
    (case i_Notary_seal => k_is)
    (case l_Notary_seal => k_is)
    (case cc_Notary_seal => k_is)
    (case k_Notary_seal => k_is)
    (case a_Notary_find => k_is)
    (case i_Notary_find => k_is)
    (case l_Notary_find => k_is)
    (case cc_Notary_find => k_is)
    (case k_Notary_find => k_is)
    (case a_Notary_parts_of => k_is)
    (case i_Notary_parts_of => k_is)
    (case l_Notary_parts_of => k_is)
    (case cc_Notary_parts_of => k_is)
    (case k_Notary_parts_of => k_is)
    (case a_Notary_size => k_is)
    (case i_Notary_size => k_is)
    (case l_Notary_size => k_is)
    (case cc_Notary_size => k_is)
    (case k_Notary_size => k_is)
    (case a_is_seal => k_is)
    (case l_is_seal => k_is)
    (case cc_is_seal => k_is)
    (case k_is_seal => k_is)
    (case a_is_opening => k_is)
    (case l_is_opening => k_is)
    (case cc_is_opening => k_is)
    (case k_is_opening => k_is)
    (case v_is_opening => k_is)
    (case w_is_opening => first | rfl | k_is)
    (case n_is_opening => exact rfl)
    (case a_is_join => k_is)
    (case l_is_join => k_is)
    (case cc_is_join => k_is)
    (case k_is_join => k_is)
    (case a_history_of => k_is)
    (case l_history_of => k_is)
    (case cc_history_of => k_is)
    (case k_history_of => k_is)
    (case v_history_of => k_is)
    (case w_history_of => first | rfl | k_is)
    (case n_history_of => exact rfl)
    (case a_opening => k_is)
    (case l_opening => k_is)
    (case cc_opening => k_is)
    (case k_opening => k_is)
    (case a_last_of => k_is)
    (case l_last_of => k_is)
    (case cc_last_of => k_is)
    (case k_last_of => k_is)
    (case a_is_span => k_is)
    (case l_is_span => k_is)
    (case cc_is_span => k_is)
    (case k_is_span => k_is)
    (case a_root_span => k_is)
    (case l_root_span => k_is)
    (case cc_root_span => k_is)
    (case k_root_span => k_is)
    (case a_split_span => k_is)
    (case l_split_span => k_is)
    (case cc_split_span => k_is)
    (case k_split_span => k_is)
    (case a_halves_of => k_is)
    (case l_halves_of => k_is)
    (case cc_halves_of => k_is)
    (case k_halves_of => k_is)
    (case a_are_rivals => k_is)
    (case l_are_rivals => k_is)
    (case cc_are_rivals => k_is)
    (case k_are_rivals => k_is)
    (case a__law_same => k_is)
    (case l__law_same => k_is)
    (case cc__law_same => k_is)
    (case k__law_same => k_is)
    (case a__law_box => k_is)
    (case l__law_box => k_is)
    (case cc__law_box => k_is)
    (case k__law_box => k_is)
    (case a__law_load => k_is)
    (case l__law_load => k_is)
    (case cc__law_load => k_is)
    (case k__law_load => k_is)
    (case a__law_draw => k_is)
    (case l__law_draw => k_is)
    (case cc__law_draw => k_is)
    (case k__law_draw => k_is)
    (case a__law_wrong_span => k_is)
    (case l__law_wrong_span => k_is)
    (case cc__law_wrong_span => k_is)
    (case k__law_wrong_span => k_is)
    (case a__law_due => k_is)
    (case l__law_due => k_is)
    (case cc__law_due => k_is)
    (case k__law_due => k_is)
    (case a_law => k_is)
    (case l_law => k_is)
    (case cc_law => k_is)
    (case k_law => k_is)
    (case nNotary__finds => k_is)
    (case nNotary__parts => k_is)
    (case nNotary__seals => k_is)
    (case aX_BadParts => k_is)
    (case xX_BadParts => k_exc)
    (case kX_BadParts => k_is)
    (case bX_BadParts => k_is)
    (case tX_BadParts => k_is)
    (case aX_BadRow => k_is)
    (case xX_BadRow => k_exc)
    (case kX_BadRow => k_is)
    (case bX_BadRow => k_is)
    (case tX_BadRow => k_is)
    (case z_all => k_is)
    (case z_bool => k_is)
    (case z_int => k_is)
    (case z_isinstance => k_is)
    (case z_len => k_is)
    (case z_list => k_is)
    (case z_min => k_is)
    (case z_range => k_is)
    (case z_str => k_is)
    (case z_tuple => k_is)
    (case z_zip => k_is)
    (case g_MAX_PART => k_is)
    (case g__MAX_ELEMENTS => k_is)
    (case g__MAX_TEXT => k_is)
    (case g_MAX_LEVEL => k_is)
    (case g__LENGTHS => k_is)
    (case l__LENGTHS => k_is)
    (case r__LENGTHS => exact ⟨by repeat' (first | exact ⟨_, rfl⟩ | constructor), by decide⟩)
    (case g__SIZES => k_is)
    (case l__SIZES => k_is)
    (case lit__SIZES => simp only [List.toList_toArray, PySem.W.KeysLit]; repeat (first | exact trivial | refine ⟨⟨_, _, rfl, rfl⟩, ?_⟩))
    (case low__SIZES => first | rfl | decide | k_is)
    (case r__SIZES_0 => k_is)
    (case r__SIZES_1 => k_is)
    (case r__SIZES_2 => k_is)
    (case g__PARTS => k_is)
    (case g__MAX_FIRST => k_is)

