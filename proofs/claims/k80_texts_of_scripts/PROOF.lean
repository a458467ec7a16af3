import PyProof.Rows.All
import Wide.All
import OpenK.AllK
import Wide.FinOn
import HandS.ForMost
import HandS.Head0
import HandS.Head1
import HandS.Head2
import HandS.HeadHook1
import HandS.HeadHook2
import HandS.HeadHook3
import HandS.HeadHook4
import HandS.HeadWalk
import HandS.Exc
import PySem.Challenge.RW_onewatcher_k80_texts_of_scripts
import HandS.AnyAll
import HandS.GenCall
import PyProof.TupleOfGen
import PyProof.SumAny
import HandS.More
import HandS.Deep
import HandS.TupAny
import HandS.TupMul
import HandS.Wide
import HandS.IsInst
import HandS.WordsExc
import HandS.ExcIs
import HandS.EndTab
import HandS.Conv
import HandS.Style
import PyProof.StrOps2
import HandS.Text
import HandS.Codes
import HandS.RevRange
import HandS.TupLe
import HandS.TryOnly
import KE.GoesNew
import HandS.Zip
import KE.GoesEnum
import PyProof.Rows.IntBool
import HandS.Dict
import HandS.Rev
import HandS.Strs
import HandS.SortInts
import KE.GoesEnumKw
import HandS.Iter
import HandS.Star
import HandS.RaiseMore
import PyProof.Rows.CallKwBuiltin
import HandS.StrMore
import PyProof.JoinWalk
import KE.KDictWalk
import HandS.Replace
set_option Elab.async false
set_option linter.all false
set_option maxRecDepth 100000
set_option maxHeartbeats 4000000
namespace Sd
open PySem PySem.Spec PyProof.Rows L2
/-! ### what the run of the top asks: it stands ahead of all else, so that its memory is spent early -/
inductive D where
  | non | bl (b : Bool) | int (i : Int) | str (x : Str) | tup (ds : List D) | ctup (ds : List D) | ref (a : Addr) | scr | ty (n : String)
  deriving Inhabited
def dV : D → V
  | .int i => .int i
  | .str x => .str x
  | .bl b => .bl b
  | _ => .non
def scD : D → Bool
  | .int _ => true | .bl _ => true | .non => true
  | .str x => decide (x.length ≤ 1000000) && PyData.strOk x
  | _ => false
def dV2 : D → V
  | .int i => .int i
  | .str x => .str x
  | .bl b => .bl b
  | .ref a => .ref a
  | _ => .non
def scR : D → Bool
  | .ref _ => true
  | d => scD d
abbrev KTb := List (Str × Option D)
section
open He
def descA : Nat → List Addr
  | 0 => []
  | n + 1 => n :: descA n
abbrev AlM : Type := (Bool × List FnV) × List (Option (List (Option (Str × Int))))
def obsK (fa : List Fa) (fn : List FnD) (ts : List Tab) (tf : List Defn) (ex : PySem.W.Frag → List Bool) (g : Addr → Option Obj) (K : PySem.W.Frag) : AlM :=
  (((fa.all fun f => f.ok K) && ((fn.all fun d => (Fa.code d.at_ d.qual).ok K) && ((ex K).all id && tabsB g tf K)), fn.map fun d => fnObs K d.at_), ts.map fun t => dicW K (t.1 K))
def obsM (N : Nat) (fa : List Fa) (fn : List FnD) (ts : List Tab) (tf : List Defn) (ex : PySem.W.Frag → List Bool) (g : Addr → Option Obj) : AlM := obsK fa fn ts tf ex g (frT g (descA N))
def valM (fn : List FnD) (ts : List Tab) (w : World) : AlM := ((true, fn.map FnD.val), ts.map fun t => some (keysIn w.params t.2))
structure SaysM (fa : List Fa) (fn : List FnD) (ts : List Tab) (tf : List Defn) (ex : PySem.W.Frag → List Bool) (w : World) (h : Heap) (K : PySem.W.Frag) : Prop where
  e : SaysE fa fn K
  t : (ts.map fun t => dicW K (t.1 K)) = ts.map fun t => some (keysIn w.params t.2)
  b : (ex K).all id = true
  hd : ∀ p ∈ tf, PySem.W.codeHdIn K (cT K p).1 (cT K p).2 = true
  out : ∀ p ∈ tf, K.lookup (cT K p).2 = none
  empty : ∀ p ∈ tf, h.get? (cT K p).2 = some { cls := .none, data := .fields #[] }
theorem saysM_of {N : Nat} {fa : List Fa} {fn : List FnD} {ts : List Tab} {tf : List Defn} {ex : PySem.W.Frag → List Bool} {w : World} {h : Heap} (e : obsM N fa fn ts tf ex h.get? = valM fn ts w) : SaysM fa fn ts tf ex w h (frT h.get? (descA N)) := by
  unfold obsM obsK valM at e
  generalize hK : frT h.get? (descA N) = K at e
  have e1 := congrArg (fun z : AlM => z.1.1) e
  have e2 := congrArg (fun z : AlM => z.1.2) e
  have e3 := congrArg (fun z : AlM => z.2) e
  obtain ⟨a1, a2⟩ := ba e1
  obtain ⟨a3, a4⟩ := ba a2
  obtain ⟨a5, a6⟩ := ba a4
  have key : ∀ p ∈ tf, PySem.W.codeHdIn K (cT K p).1 (cT K p).2 = true ∧ ∃ o, h.get? (cT K p).2 = some o ∧ emptyTab o = true := fun p hp => by
    obtain ⟨h3, h4⟩ := ba (List.all_eq_true.mp a6 p hp)
    refine ⟨h3, ?_⟩
    cases q : h.get? (cT K p).2 with
    | none =>
      rw [q] at h4
      cases h4
    | some o =>
      rw [q] at h4
      exact ⟨o, rfl, h4⟩
  refine ⟨?_, e3, a5, fun p hp => (key p hp).1, fun p hp => ?_, fun p hp => ?_⟩
  · show ((fa.all fun f => f.ok K) && fn.all fun d => (Fa.code d.at_ d.qual).ok K, fn.map fun d => fnObs K d.at_) = (true, fn.map FnD.val)
    have a1 : (fa.all fun f => f.ok K) = true := a1
    have a3 : (fn.all fun d => (Fa.code d.at_ d.qual).ok K) = true := a3
    have e2 : (fn.map fun d => fnObs K d.at_) = fn.map FnD.val := e2
    rw [a1, a3, e2]
    rfl
  · obtain ⟨_, o, q, z⟩ := key p hp
    rw [← hK] at q ⊢
    exact frT_none q z
  · obtain ⟨_, o, q, z⟩ := key p hp
    rw [q, emptyTab_eq z]
def hookM (N : Nat) (fa : List Fa) (fn : List FnD) (ts : List Tab) (tf : List Defn) (ex : PySem.W.Frag → List Bool) : PySem.W.Hook where
  α := AlM
  obs := fun s => obsM N fa fn ts tf ex s.heap.get?
  val := fun w => valM fn ts w
  says := fun w h => ∃ K : PySem.W.Frag, K.In h ∧ SaysM fa fn ts tf ex w h K
  of := fun _ _ e => ⟨_, frT_in, saysM_of e⟩
  keeps := fun _ _ _ ⟨K, hK, c⟩ k => ⟨K, PySem.W.Frag.In.keeps hK k, ⟨c.e, c.t, c.b, c.hd, c.out, fun p hp => k _ _ (c.empty p hp)⟩⟩
theorem obsM_eq {N : Nat} {fa : List Fa} {fn : List FnD} {ts : List Tab} {tf : List Defn} {ex : PySem.W.Frag → List Bool} {g : Addr → Option Obj} {s : Shared} (h : ∀ a, g a = s.heap.get? a) : obsM N fa fn ts tf ex g = (hookM N fa fn ts tf ex).obs s := by
  have e : g = s.heap.get? := funext h
  rw [e] <;> rfl
def fnDs (at_ : Str × Option Str) (name qual : Str) (st : Stmt) : FnD := ⟨at_, name, qual, defArgs st, defBody st, defScope st⟩
def ctB (K : PySem.W.Frag) (a : Addr) (ds : List D) : Bool := (match K.lookup a with
  | some ⟨.type c, none, .seq its _, _⟩ => decide (c = "tuple") && (Nat.ble its.size 100 && relAll (ds.map dV) its.toList)
  | _ => false) && ds.all scD
def kdB (K : PySem.W.Frag) (a : Addr) (tb : KTb) : Bool := tb.all fun p => match PySem.W.nsIn K a p.1 with
  | some none => p.2.isNone
  | some (some u) => (match p.2 with | some v => scR v && relB (dV2 v) u | none => false)
  | none => false
def kdTB (K : PySem.W.Frag) (a : Addr) (tb : KTb) : Bool := tb.all fun p => match PySem.W.nsIn K a p.1 with
  | some none => p.2.isNone
  | some (some (.ref c)) => (match p.2 with | some (.ctup ds) => ctB K c ds | _ => false)
  | _ => false
end
end Sd

set_option Elab.async false
set_option linter.all false
set_option maxRecDepth 100000
set_option maxHeartbeats 4000000
namespace Ow
open PySem PySem.W PySem.Calls PyProof.Rows PySem.HandSPX
/-- a look at the class's own object -/
def erShape (K : Frag) (C : Addr) : Bool := match K.lookup C with
  | some ⟨.type "type", _, .cls cd, sl⟩ => (match cd.mro, sl.toList with
    | .ref C' :: bm, [_, _, _, _, some (.builtin n), _] => C' == C && n == "ValueError.__new__" && !cd.hasDel && cd.hasDict && refsVE bm
    | _, _ => false)
  | _ => false
theorem erShape_ok {K : Frag} {C : Addr} (q : erShape K C = true) : ∃ nm q N bs bm sn sub ab col dd k0 k1 k2 k3 k5, K.lookup C = some (excClassObj nm q C N bs bm true sn sub ab col dd k0 k1 k2 k3 k5 "ValueError.__new__") ∧ refsVE bm = true := by
  unfold erShape at q
  split at q
  case h_2 => cases q
  rename_i dd cd sl ho
  split at q
  case h_2 => cases q
  rename_i C' bm k0 k1 k2 k3 n k5 hm hs
  simp only [Bool.and_eq_true, beq_iff_eq, Bool.not_eq_true'] at q
  obtain ⟨⟨⟨⟨rfl, rfl⟩, hdel⟩, hdct⟩, ht⟩ := q
  obtain ⟨nm, bs, mro, N, qn, hd, sn, sub, ab, col, del⟩ := cd
  dsimp only at hm hdel hdct
  subst hm hdel hdct
  obtain ⟨l⟩ := sl
  dsimp only at hs
  subst hs
  exact ⟨nm, qn, N, bs, bm, sn, sub, ab, col, dd, k0, k1, k2, k3, k5, ho, ht⟩
end Ow

set_option Elab.async false
set_option linter.all false
set_option maxRecDepth 100000
set_option maxHeartbeats 4000000
namespace Sd
open PySem PySem.Spec PyProof.Rows L2
def top (i : Nat) : Stmt := PySem.Challenge.pw_onewatcher_k80_texts_of_scripts.main.body.getD i (.Pass ⟨0, 0, 0, 0⟩)
abbrev s__is_letter : Stmt := (top 6)
abbrev s__is_digit : Stmt := (top 7)
abbrev s_is_name : Stmt := (top 8)
abbrev s_number_in : Stmt := (top 9)
abbrev s__act_of_player : Stmt := (top 14)
abbrev s__read_line : Stmt := (top 15)
abbrev s_read_script : Stmt := (top 16)
abbrev s__words_of_act : Stmt := (top 17)
abbrev s_print_script : Stmt := (top 18)
abbrev s__law_mix : Stmt := (top 20)
abbrev s__law_numbers : Stmt := (top 21)
abbrev s__law_draws : Stmt := (top 22)
abbrev s__law_take : Stmt := (top 23)
abbrev s__law_name : Stmt := (top 24)
abbrev s__law_number : Stmt := (top 25)
abbrev s__law_act : Stmt := (top 26)
abbrev s__law_wrong : Stmt := (top 27)
abbrev s_law : Stmt := (top 28)
abbrev s_BadText___init__ : Stmt := (inClass (top 2) 0)
end Sd

set_option Elab.async false
set_option linter.all false
set_option maxRecDepth 100000
set_option maxHeartbeats 0
namespace Sd
open PySem PySem.Spec PyProof.Rows L2
abbrev HR : PySem.W.OpenRow := PySem.W.OpenLaw.row PySem.Challenge.rw_onewatcher_k80_texts_of_scripts
def hFa : List He.Fa := [.int "MAX_PART" 281474976710656, .int "MAX_NAME" 12]
def hFn : List He.FnD := [fnDs ("_is_letter", none) "_is_letter" "_is_letter" s__is_letter,
  fnDs ("_is_digit", none) "_is_digit" "_is_digit" s__is_digit,
  fnDs ("is_name", none) "is_name" "is_name" s_is_name,
  fnDs ("number_in", none) "number_in" "number_in" s_number_in,
  fnDs ("_act_of_player", none) "_act_of_player" "_act_of_player" s__act_of_player,
  fnDs ("_read_line", none) "_read_line" "_read_line" s__read_line,
  fnDs ("read_script", none) "read_script" "read_script" s_read_script,
  fnDs ("_words_of_act", none) "_words_of_act" "_words_of_act" s__words_of_act,
  fnDs ("print_script", none) "print_script" "print_script" s_print_script,
  fnDs ("_law_mix", none) "_law_mix" "_law_mix" s__law_mix,
  fnDs ("_law_numbers", none) "_law_numbers" "_law_numbers" s__law_numbers,
  fnDs ("_law_draws", none) "_law_draws" "_law_draws" s__law_draws,
  fnDs ("_law_take", none) "_law_take" "_law_take" s__law_take,
  fnDs ("_law_name", none) "_law_name" "_law_name" s__law_name,
  fnDs ("_law_number", none) "_law_number" "_law_number" s__law_number,
  fnDs ("_law_act", none) "_law_act" "_law_act" s__law_act,
  fnDs ("_law_wrong", none) "_law_wrong" "_law_wrong" s__law_wrong,
  fnDs ("law", none) "law" "law" s_law,
  fnDs ("BadText", some "__init__") "__init__" "BadText.__init__" s_BadText___init__]
def hTs : List He.Tab := [(fun K => He.ga K "_COUNTS", ["puts", "asks", "lies", "forges", "cuts", "papers", "gathers"]),
  (fun K => He.ga K "_SENT", ["puts", "asks"]),
  (fun K => He.ga K "_DONE", ["lies", "forges", "cuts", "papers", "gathers"])]
def hTf : List He.Defn := [("is_name", none), ("number_in", none)]
def hEx (K : PySem.W.Frag) : List Bool := [He.eqO (PySem.W.nsIn K mainGlobals "_is_letter") (some (some (.ref (He.ga K "_is_letter")))),
  PySem.W.keepIn K (.ref (He.ga K "_is_letter")),
  He.eqO (PySem.W.nsIn K mainGlobals "_is_digit") (some (some (.ref (He.ga K "_is_digit")))),
  PySem.W.keepIn K (.ref (He.ga K "_is_digit")),
  He.eqO (PySem.W.nsIn K mainGlobals "is_name") (some (some (.ref (He.ga K "is_name")))),
  PySem.W.keepIn K (.ref (He.ga K "is_name")),
  He.eqO (PySem.W.nsIn K mainGlobals "number_in") (some (some (.ref (He.ga K "number_in")))),
  PySem.W.keepIn K (.ref (He.ga K "number_in")),
  He.eqO (PySem.W.nsIn K mainGlobals "_act_of_player") (some (some (.ref (He.ga K "_act_of_player")))),
  PySem.W.keepIn K (.ref (He.ga K "_act_of_player")),
  He.eqO (PySem.W.nsIn K mainGlobals "_read_line") (some (some (.ref (He.ga K "_read_line")))),
  PySem.W.keepIn K (.ref (He.ga K "_read_line")),
  He.eqO (PySem.W.nsIn K mainGlobals "read_script") (some (some (.ref (He.ga K "read_script")))),
  PySem.W.keepIn K (.ref (He.ga K "read_script")),
  He.eqO (PySem.W.nsIn K mainGlobals "_words_of_act") (some (some (.ref (He.ga K "_words_of_act")))),
  PySem.W.keepIn K (.ref (He.ga K "_words_of_act")),
  He.eqO (PySem.W.nsIn K mainGlobals "print_script") (some (some (.ref (He.ga K "print_script")))),
  PySem.W.keepIn K (.ref (He.ga K "print_script")),
  He.eqO (PySem.W.nsIn K mainGlobals "_law_mix") (some (some (.ref (He.ga K "_law_mix")))),
  PySem.W.keepIn K (.ref (He.ga K "_law_mix")),
  He.eqO (PySem.W.nsIn K mainGlobals "_law_numbers") (some (some (.ref (He.ga K "_law_numbers")))),
  PySem.W.keepIn K (.ref (He.ga K "_law_numbers")),
  He.eqO (PySem.W.nsIn K mainGlobals "_law_draws") (some (some (.ref (He.ga K "_law_draws")))),
  PySem.W.keepIn K (.ref (He.ga K "_law_draws")),
  He.eqO (PySem.W.nsIn K mainGlobals "_law_take") (some (some (.ref (He.ga K "_law_take")))),
  PySem.W.keepIn K (.ref (He.ga K "_law_take")),
  He.eqO (PySem.W.nsIn K mainGlobals "_law_name") (some (some (.ref (He.ga K "_law_name")))),
  PySem.W.keepIn K (.ref (He.ga K "_law_name")),
  He.eqO (PySem.W.nsIn K mainGlobals "_law_number") (some (some (.ref (He.ga K "_law_number")))),
  PySem.W.keepIn K (.ref (He.ga K "_law_number")),
  He.eqO (PySem.W.nsIn K mainGlobals "_law_act") (some (some (.ref (He.ga K "_law_act")))),
  PySem.W.keepIn K (.ref (He.ga K "_law_act")),
  He.eqO (PySem.W.nsIn K mainGlobals "_law_wrong") (some (some (.ref (He.ga K "_law_wrong")))),
  PySem.W.keepIn K (.ref (He.ga K "_law_wrong")),
  He.eqO (PySem.W.nsIn K mainGlobals "law") (some (some (.ref (He.ga K "law")))),
  PySem.W.keepIn K (.ref (He.ga K "law")),
  He.eqO (PySem.W.nsIn K mainGlobals "BadText") (some (some (.ref (He.ga K "BadText")))),
  Ow.erShape K (He.ga K "BadText"),
  He.eqO (PySem.W.findIn K (.ref (He.ga K "BadText")) "__setattr__") (some (some (.builtin "object.__setattr__"))),
  He.eqO (PySem.W.findIn K (.ref (He.ga K "BadText")) "line") (some none),
  He.eqO (PySem.W.findIn K (.ref (He.ga K "BadText")) "__init__") (some (some (.ref (He.ma K (He.ga K "BadText") "__init__")))),
  decide (PySem.W.typeIn K (.ref (He.ma K (He.ga K "BadText") "__init__")) = some (.type "function")),
  PySem.W.keepIn K (.ref (He.ma K (He.ga K "BadText") "__init__")),
  PySem.W.keepIn K (.ref (He.ga K "BadText")),
  decide (PySem.W.subIn K (.ref (He.ga K "BadText")) (.type "BaseException") = some true),
  decide (PySem.W.typeIn K (.ref (He.ga K "BadText")) = some (.type "type")),
  decide (PySem.W.subIn K (.ref (He.ga K "BadText")) (.ref (He.ga K "BadText")) = some true),
  PySem.W.hasDictIn K (He.ga K "BadText"),
  He.eqO (PySem.W.findIn K (.ref (He.ga K "BadText")) "__getattribute__") (some (some (.builtin "BaseException.__getattribute__"))),
  He.eqO (PySem.W.findIn K (.ref (He.ga K "BadText")) "__getattr__") (some none),
  He.eqO (PySem.W.findIn K (.ref (He.ga K "BadText")) "__class__") (some (some (.builtin "object.__class__"))),
  He.eqO (PySem.W.specialIn K (.builtin "object.__class__") "__get__") (some (some (.builtin "getset_descriptor.__get__"))),
  decide (PySem.W.takesIn K (.builtin "object.__class__") = some true),
  decide (PySem.W.mroIn K (He.ga K "BadText") (.type "object") = some true),
  He.eqO (PySem.W.nsIn K mainGlobals "WatchError") (some (some (.ref (He.ga K "WatchError")))),
  decide (PySem.W.kitOne K (.ref (He.ga K "BadText")) (.ref (He.ga K "WatchError")) = some true),
  He.eqO (PySem.W.nsIn K mainGlobals "abs") (some none),
  He.eqO (PySem.W.nsIn K mainGlobals "all") (some none),
  He.eqO (PySem.W.nsIn K mainGlobals "bool") (some none),
  He.eqO (PySem.W.nsIn K mainGlobals "enumerate") (some none),
  He.eqO (PySem.W.nsIn K mainGlobals "int") (some none),
  He.eqO (PySem.W.nsIn K mainGlobals "isinstance") (some none),
  He.eqO (PySem.W.nsIn K mainGlobals "len") (some none),
  He.eqO (PySem.W.nsIn K mainGlobals "list") (some none),
  He.eqO (PySem.W.nsIn K mainGlobals "range") (some none),
  He.eqO (PySem.W.nsIn K mainGlobals "str") (some none),
  He.eqO (PySem.W.nsIn K mainGlobals "tuple") (some none),
  He.eqO (PySem.W.nsIn K mainGlobals "_COUNTS") (some (some (.ref (He.ga K "_COUNTS")))),
  kdB K (He.ga K "_COUNTS") (("puts", some (.int 2)) :: ("asks", some (.int 0)) :: ("lies", some (.int 3)) :: ("forges", some (.int 2)) :: ("cuts", some (.int 0)) :: ("papers", some (.int 0)) :: ("gathers", some (.int 0)) :: []),
  He.eqO (PySem.W.nsIn K mainGlobals "_SENT") (some (some (.ref (He.ga K "_SENT")))),
  kdB K (He.ga K "_SENT") (("puts", some (.str "put")) :: ("asks", some (.str "ask")) :: []),
  He.eqO (PySem.W.nsIn K mainGlobals "_DONE") (some (some (.ref (He.ga K "_DONE")))),
  kdB K (He.ga K "_DONE") (("lies", some (.str "lie")) :: ("forges", some (.str "forge")) :: ("cuts", some (.str "cut")) :: ("papers", some (.str "paper")) :: ("gathers", some (.str "gather")) :: [])]
def hNames : List PySem.Str := (["WatchError", "BadText", "MAX_PART", "MAX_NAME", "_is_letter", "_is_digit", "is_name", "number_in", "_COUNTS", "_SENT", "_DONE", "_act_of_player", "_read_line", "read_script", "_words_of_act", "print_script", "_law_mix", "_law_numbers", "_law_draws", "_law_take"] : List PySem.Str) ++ (["_law_name", "_law_number", "_law_act", "_law_wrong"] : List PySem.Str)
abbrev hHk : PySem.W.Hook := hookM 1300 hFa hFn hTs hTf hEx
def hOb (s : PySem.W.SharedT) : AlM := obsM 1300 hFa hFn hTs hTf hEx (HandSHeadRun.getT s)
theorem hOb_eq (s : PySem.W.SharedT) : hOb s = hHk.obs s.abs := obsM_eq (HandSHeadRun.getT_eq s)
open HandSHeadRun PySem.W PySem.Calls
abbrev qV : Program := PySem.W.view HR.prog [28]
noncomputable def endW (w : World) (os : OsState) : Option SharedT := endF (stepQ (denQ tabQ) HR.prog w) 20000 HR.prog w os
def kOf (s : SharedT) : PySem.W.Frag := He.frT (getT s) (descA 1300)
def HP1 (w : World) : Prop := ∀ os, (endW w os).map (fun s => (looksF HR.prog (boot_heap w.params) s.abs, seenQ qV hNames (importedModules HR.prog.main.body) (fun s => xlAt qV [] s && recOk HR.toRowW.records s) s.abs)) = some (true, openGood qV hNames)
def HP2 (w : World) : Prop := ∀ os, (endW w os).map (fun s => (((hEx (kOf s)).all id && He.tabsB (getT s) hTf (kOf s)), hTs.map fun t => He.dicW (kOf s) (t.1 (kOf s)))) = some (true, hTs.map fun t => some (He.keysIn w.params t.2))
def HP3 (w : World) : Prop := ∀ os, (endW w os).map (fun s => ((hFa.all fun f => f.ok (kOf s)), (hFn.all fun d => (He.Fa.code d.at_ d.qual).ok (kOf s)))) = some (true, true)
def HP4 (w : World) : Prop := ∀ os, (endW w os).map (fun s => hFn.map fun d => He.fnObs (kOf s) d.at_) = some (hFn.map He.FnD.val)
theorem hRun10 (w : World) : HP1 (w.withFollow "special-get-raises" false) := by
  intro os
  kernel_rfl
theorem hRun11 (w : World) : HP1 (w.withFollow "special-get-raises" true) := by
  intro os
  kernel_rfl
theorem hRunP1 (w : World) : HP1 w := PySem.W.byRow2 "special-get-raises" (P := HP1) hRun10 hRun11 w
theorem hRun20 (w : World) : HP2 (w.withFollow "special-get-raises" false) := by
  intro os
  kernel_rfl
theorem hRun21 (w : World) : HP2 (w.withFollow "special-get-raises" true) := by
  intro os
  kernel_rfl
theorem hRunP2 (w : World) : HP2 w := PySem.W.byRow2 "special-get-raises" (P := HP2) hRun20 hRun21 w
theorem hRun30 (w : World) : HP3 (w.withFollow "special-get-raises" false) := by
  intro os
  kernel_rfl
theorem hRun31 (w : World) : HP3 (w.withFollow "special-get-raises" true) := by
  intro os
  kernel_rfl
theorem hRunP3 (w : World) : HP3 w := PySem.W.byRow2 "special-get-raises" (P := HP3) hRun30 hRun31 w
theorem hRun40 (w : World) : HP4 (w.withFollow "special-get-raises" false) := by
  intro os
  kernel_rfl
theorem hRun41 (w : World) : HP4 (w.withFollow "special-get-raises" true) := by
  intro os
  kernel_rfl
theorem hRunP4 (w : World) : HP4 w := PySem.W.byRow2 "special-get-raises" (P := HP4) hRun40 hRun41 w
theorem glue4 {β γ δ : Type} {o : Option SharedT} {L x t fa fn : SharedT → Bool} {N : SharedT → β} {b : β} {V : SharedT → γ} {v : γ} {T : SharedT → δ} {tv : δ} (h1 : o.map (fun s => (L s, N s)) = some (true, b)) (h2 : o.map (fun s => ((x s && t s), T s)) = some (true, tv)) (h3 : o.map (fun s => (fa s, fn s)) = some (true, true)) (h4 : o.map V = some v) :
    o.map (fun s => (L s, N s, (((fa s && (fn s && (x s && t s))), V s), T s))) = some (true, b, ((true, v), tv)) := by
  cases o with
  | none => cases h1
  | some s =>
    have e1 := Option.some.inj h1
    have e2 := Option.some.inj h2
    have e3 := Option.some.inj h3
    have e4 := Option.some.inj h4
    have a1 : L s = true := congrArg Prod.fst e1
    have a2 : N s = b := congrArg Prod.snd e1
    have a3 : (x s && t s) = true := congrArg Prod.fst e2
    have a4 : T s = tv := congrArg Prod.snd e2
    have a5 : fa s = true := congrArg Prod.fst e3
    have a6 : fn s = true := congrArg Prod.snd e3
    show some (L s, N s, (((fa s && (fn s && (x s && t s))), V s), T s)) = _
    rw [a1, a2, a3, a4, a5, a6, e4]
    rfl
theorem hRun (w : World) : HandSHeadRun.RunEq HR (PySem.W.view HR.prog [28]) hHk hOb 20000 hNames w := by
  intro os
  have h := glue4 (hRunP1 w os) (hRunP2 w os) (hRunP3 w os) (hRunP4 w os)
  show (endW w os).map _ = _
  exact h
end Sd

set_option Elab.async false
set_option linter.all false
set_option maxRecDepth 100000
set_option maxHeartbeats 0
namespace Sd
open PySem PySem.W PySem.Calls PyProof.Rows
theorem zpre (F : ∀ {w : World} {h : Heap} {K : PySem.W.Frag} {mg : PySem.Str → Option Value} {fa : Addr}, K.In h → h.Ns mainGlobals mg → mg "law" = some (.ref fa) → SaysM hFa hFn hTs hTf hEx w h K → LamX.LawAtS PySem.Challenge.rw_onewatcher_k80_texts_of_scripts w K (L2.CX (PySem.Challenge.rw_onewatcher_k80_texts_of_scripts).prog w) 7 63 "script" mg fa h) : PySem.Challenge.rw_onewatcher_k80_texts_of_scripts.Holds := by
  w_on; o_law
  refine HandSHeadRun.head_any (r := Sd.HR) (q := view Sd.HR.prog [28]) (H := Sd.hHk) (ob := Sd.hOb) (M := 20000) (loose := Sd.hNames) (d := HandSHeadRun.topDef Sd.HR.prog 28) (kwd := []) Sd.hOb_eq (by kernel_rfl) (fun s => by kernel_rfl) Sd.hRun (by kernel_rfl) (by kernel_rfl) (by kernel_rfl) (by rfl) (by first | assumption | decide +kernel) (by decide +kernel) ⟨rfl, rfl, rfl, rfl, rfl, by decide +kernel⟩ ?hw ?hc
  case hw => w_witness2
  case hc =>
    refine LamX.walk_ofTsE (l := PySem.Challenge.rw_onewatcher_k80_texts_of_scripts) (n := 63) (k := 7) (x := "script") (CX := fun w => L2.CX (PySem.Challenge.rw_onewatcher_k80_texts_of_scripts).prog w) rfl (by decide) (by kernel_rfl) ⟨rfl, by decide, by decide⟩ ?F (fun w H s e s' z => by obtain ⟨_, _, _, _, _, _, _, _, _, _, _, _, z⟩ := z; exact z)
    intro w mg fa h Y G hmg0
    obtain ⟨K, KX, c⟩ := Y
    have hmg : mg ("law" : PySem.Str) = some (.ref fa) := by
      have e : (HandSHeadRun.topDef Sd.HR.prog 28).name = ("law" : PySem.Str) := by kernel_rfl
      rw [← e]
      exact hmg0
    exact ⟨K, KX, F KX G hmg c⟩
end Sd

set_option Elab.async false
set_option linter.all false
set_option maxRecDepth 100000
set_option maxHeartbeats 4000000
namespace Ow
open PySem PySem.Spec PyProof.Rows L2 GxR

/-- the context of a generator expression's code -/
abbrev gxCx (X : Cx) (s : Shared) (H : Hp) (scope : Scope) (cenv : Env) (A' : Around) (fp : List Addr) (pn : List (Addr × Obj)) : Cx :=
  { X with A := A', s_0 := s, H_0 := H, env := cenv, outer := X.stack, stack := cenv :: X.stack, ex := fp, fn := fun _ => false, calm := true, pn := pn, xe := fun _ _ => False }

section
variable {X : Cx} {pins : List (Addr × Obj)} {σ : L2.St} {H : Hp} {s : Shared}

theorem gx_start {scope : Scope} {own : List (Str × Nat)} {fp : List Addr} {A' : Around} {code : Value} {C : Addr} {h' : Heap} {g' : Array GenState} {t' : Nat} {mC : Str → Option Value} {pn : List (Addr × Obj)}
    (I : Inv X pins σ H s) (ok : BlkOk X.N X.env.scope scope own) (hcell : ∀ y ∈ scope.names, y.2 ≠ .cell) (hN : X.N.Nodup) (hfp : ∀ b ∈ fp, FpOk X pins H b ∧ b < s.heap.objs.size)
    (hC : s.heap.objs.size ≤ C) (hns : h'.Ns C mC) (kp : ∀ b o, s.heap.get? b = some o → h'.get? b = some o) (hg : AllBare g')
    (hA : A'.handled = none) (hfr : A'.frames = some (genEnv scope (cloFrom X.env.cells scope.names []) C code builtinsNs X.env :: X.stack))
    (hpn : ∀ p ∈ pn, h'.get? p.1 = some p.2 ∧ s.heap.objs.size ≤ p.1 ∧ p.1 ≠ C ∧ ∀ v, p.2.data ≠ .cell v) :
    Inv (gxCx X s H scope (genEnv scope (cloFrom X.env.cells scope.names []) C code builtinsNs X.env) A' fp pn) [] (wipe σ (own.map (·.2))) H { s with heap := h', gens := g', toks := t' } := by
  have hfree : ∀ y ∈ scope.names, y.2 = .free → ∃ c, X.env.cells.lookup y.1 = some c := fun y hy e => by
    rcases ok.free y hy e with k | k
    · exact I.ok.has _ (.inl k)
    · exact I.ok.has _ (.inr k)
  have cm : ∀ {y c}, (y, c) ∈ cloFrom X.env.cells scope.names [] → X.env.cells.lookup y = some c ∧ c < s.heap.objs.size := fun {y c} hm => by
    rcases cloFrom_mem hm with hm | ⟨h1, rfl⟩
    · cases hm
    · obtain ⟨c, hc⟩ := hfree _ h1 rfl
      rw [hc]
      obtain ⟨w, z⟩ := I.cell _ _ hc
      exact ⟨rfl, z.lt⟩
  have cml : ∀ {y c}, (cloFrom X.env.cells scope.names []).lookup y = some c → X.env.cells.lookup y = some c ∧ c < s.heap.objs.size := fun {y c} e => cm (PySem.mem_of_lookup e)
  have okB : (gxCx X s H scope (genEnv scope (cloFrom X.env.cells scope.names []) C code builtinsNs X.env) A' fp pn).Ok := by
    refine ⟨I.ok.mod, ok.kind, I.ok.glob, rfl, hC, fun y z c e1 e2 => ?_, fun y hy => ?_, fun y c z e => ?_, fun _ => hA, hfr, .inr ⟨rfl, rfl⟩, fun b hb => ⟨?_, fun y c e z => ?_⟩, I.bs, Nat.le_trans I.ok.bsz I.sz, fun b o e hb => ?_, fun b hb z => ?_, I.stack, I.stkFree⟩
    · exact I.ok.inj y z c (cml e1).1 (cml e2).1
    · rcases hy with hy | hy
      · have : scope.names.lookup y = some .cell := hy
        exact absurd rfl (hcell _ (PySem.mem_of_lookup this))
      · have hy' : scope.names.lookup y = some .free := hy
        obtain ⟨c', e'⟩ := mem_lookup (cloFrom_has (cells := X.env.cells) (acc := []) (PySem.mem_of_lookup hy'))
        exact ⟨c', e'⟩
    · cases z
    · show b ≠ C
      exact Nat.ne_of_lt (Nat.lt_of_lt_of_le (hfp b hb).2 hC)
    · have e : (cloFrom X.env.cells scope.names []).lookup y = some c := e
      exact (hfp b hb).1.2.2.2.2.1 y c (cml e).1 z
    · rcases (hfp b hb).1.2.2.2.1 with z | z
      · exact I.ok.noex b o e z
      · exact absurd (Nat.lt_of_lt_of_le (Heap.lt_size e) (Nat.le_trans I.ok.bsz z)) (Nat.lt_irrefl _)
    · rcases List.mem_cons.mp (I.stkSub b z) with z | z
      · exact (hfp b hb).1.2.1 z
      · exact (hfp b hb).1.2.2.1 z
  refine ⟨okB, rfl, hg, Un.kept kp, ⟨mC, hns, fun i y av e1 e2 e3 => ?_⟩, fun y c e => ?_, ?_, fun y c e => ?_, fun p hp => ?_, I.hok.kept kp, by rw [wipe_length]; exact I.len⟩
  · obtain ⟨e2, hne⟩ := wipe_some e2
    have e3 : Vis scope y := e3
    have no : ∀ k, scope.names.lookup y = some k → ¬ (k = .local ∨ k = .cell) := fun k e hh => by
      rcases ok.own _ (PySem.mem_of_lookup e) hh with e' | e'
      · obtain ⟨p, hp, hpy⟩ := List.mem_map.mp e'
        have e3 := ok.ix p hp
        have : p.1 = y := hpy
        rw [this] at e3
        exact hne (List.mem_map.mpr ⟨p, hp, nodup_ix hN e3 e1⟩)
      · exact e' (List.mem_of_getElem? e1)
    have hfr : scope.names.lookup y = some .free := by
      rcases e3 with e3 | e3 | e3
      · exact absurd (.inl rfl) (no _ e3)
      · exact absurd (.inr rfl) (no _ e3)
      · exact e3
    obtain ⟨m, hn, hl⟩ := I.loc
    have hvis : Vis X.env.scope y := (ok.free _ (PySem.mem_of_lookup hfr) rfl).elim (fun k => .inr (.inl k)) (fun k => .inr (.inr k))
    obtain ⟨w, r, q⟩ := hl i y av e1 e2 hvis
    refine ⟨w, r, .inr ⟨.inr hfr, ?_⟩⟩
    obtain ⟨c', e'⟩ := mem_lookup (cloFrom_has (cells := X.env.cells) (acc := []) (PySem.mem_of_lookup hfr))
    rcases q with ⟨k, _⟩ | ⟨_, c, e, z⟩
    · have k : X.env.scope.names.lookup y = some .local := k
      rcases ok.free _ (PySem.mem_of_lookup hfr) rfl with k' | k' <;> rw [show X.env.scope.names.lookup y = _ from k'] at k <;> cases k
    · have h1 := (cml e').1
      rw [h1] at e; cases e
      exact ⟨c', e', z.keeps kp⟩
  · have e : (cloFrom X.env.cells scope.names []).lookup y = some c := e
    obtain ⟨w, z⟩ := I.cell y c (cml e).1
    exact ⟨w, z.keeps kp⟩
  · show H C = none
    exact I.hok.fresh hC
  · have e : (cloFrom X.env.cells scope.names []).lookup y = some c := e
    exact I.freeC y c (cml e).1
  · have hp : p ∈ pn := by simpa using hp
    obtain ⟨h1, h2, h3, h4⟩ := hpn p hp
    exact ⟨h1, I.hok.fresh h2, h3, fun z => by
      rcases List.mem_cons.mp (I.stkSub p.1 z) with z | z
      · exact absurd (z ▸ I.lt) (Nat.not_lt_of_le h2)
      · exact I.nofs h2 z, h4⟩
end

/-- nothing but the table of generators has changed -/
structure Woke (s s' : Shared) : Prop where
  heap : s'.heap = s.heap
  os : s'.os = s.os
  bare : AllBare s'.gens
theorem inv_woke {X : Cx} {pins : List (Addr × Obj)} {σ : L2.St} {H : Hp} {s s' : Shared} (I : Inv X pins σ H s) (z : Woke s s') : Inv X pins σ H s' := by
  refine I.call' (ch := []) z.os (Un.kept fun b u e => by rw [z.heap]; exact e) (by rw [z.heap]; exact I.hok) z.bare fun b hb => absurd hb (by simp)

def gxEnd (X' : Cx) (σ0 : L2.St) (Qt : Hp → Prop) : GenEnd := fun n s₀ r s₁ => r = .ok .next ∧ ∃ H', Inv X' [] σ0 H' s₁ ∧ Qt H'
def gxOut (X' : Cx) (σ0 : L2.St) (Qf : Hp → Prop) : Protocol := fun n s₀ v s kap => ∃ (b : Bool) (H' : Hp), v = .bool b ∧ Inv X' [] σ0 H' s ∧ (b = false → Qf H') ∧ (b = true → ∀ s', Woke s s' → kap (.send .none) s')

/-- the turns of a generator expression of truth values: W by the turn and a measure -/
def gxTurns (J : It) (g : TG) (te : TE) (σ0 : L2.St) (vs : List Nat) (Qt Qf : Hp → Prop) (W : Nat → Nat → Hp → Prop) : Prop := ∀ i m H, W i m H →
  (J.stop i H ∧ Qt H) ∨ (J.go i H ∧ ∃ Nx : Hp → Prop, (∀ H', Nx H' → ∃ m', m' < m ∧ W (i + 1) m' H') ∧ ∀ x H', J.yld i H x H' → g x σ0 H' fun σ2 H2 => wipe σ2 vs = σ0 ∧ te σ2 H2 fun y H3 => ∃ b, y = .bl b ∧ (b = true → Nx H3) ∧ (b = false → Qf H3))

section
variable {X' : Cx} {A : Around} {elt tg iter : Expr} {scope : Scope} {pos : Pos} {it : Addr} {J : It} {fp : List Addr} {tn : Nat → Heap → Prop} {σ0 : L2.St} {vs : List Nat} {g : TG} {te : TE} {Qt Qf : Hp → Prop} {W : Nat → Nat → Hp → Prop}

theorem seg_gx (hA : X'.A = A.over (.compLoop (.GeneratorExp elt [⟨tg, iter, [], 0⟩] scope pos) 0 (.ref it) .none X'.env) []) (hc : X'.calm = true) (hco : X'.env.scope.isCoroutine = false) (hxe : X'.xe = fun _ _ => False) (hex : X'.ex = fp)
    (T : Turn X'.prog X'.w X'.K tg J fp it tn) (hg : PG X' tg g) (he : PE X' elt te) (hpn : ∀ b ∈ fp, ∀ p ∈ X'.pn, p.1 ≠ b) (hw : ∀ σ2 : L2.St, wipe σ2 vs = σ0 → ∀ (j : Nat) v, σ0[j]? = some (some v) → σ2[j]? = some (some v))
    (turn : gxTurns J g te σ0 vs Qt Qf W) :
    ∀ (m n i : Nat) (s₀ s : Shared) (H : Hp), m < n → Inv X' [] σ0 H s → tn i s.heap → (∀ b ∈ fp, H b = none) → W i m H →
      Seg (model X'.prog X'.w) A (gxEnd X' σ0 Qt) (gxOut X' σ0 Qf) n s₀ (.compLoop (.GeneratorExp elt [⟨tg, iter, [], 0⟩] scope pos) 0 (.ref it) .none X'.env)
        ((model X'.prog X'.w).den (.compLoop (.GeneratorExp elt [⟨tg, iter, [], 0⟩] scope pos) 0 (.ref it) .none X'.env)) [] s := by
  have stat : ∀ {σ' : L2.St} {H' : Hp} {s' : Shared}, Inv X' [] σ' H' s' → (∀ b ∈ fp, H' b = none) → ∀ b ∈ fp, FpOk X' [] H' b := fun {σ' H' s'} I' hn b hb =>
    ⟨hn b hb, (I'.ok.exf b (by rw [hex]; exact hb)).1, I'.ok.exfs b (by rw [hex]; exact hb), .inl (by rw [hex]; exact hb), fun x c e => (I'.ok.exf b (by rw [hex]; exact hb)).2 x c e, fun p hp => hpn b hb p (by simpa using hp)⟩
  intro m
  induction m using Nat.strongRecOn with
  | ind m ih =>
    intro n i s₀ s H hmn I st nf w
    show Seg _ A _ _ _ s₀ _ ((compTurn (.GeneratorExp elt [⟨tg, iter, [], 0⟩] scope pos) 0 (.ref it) .none X'.env).onRaise (leaving X'.env)) [] s
    rw [compTurn_gen, Sem.onRaise_eq_wrap]
    refine seg_bind_wrap (wpAny_standAt ?_)
    rcases turn i m H w with ⟨stop, qt⟩ | ⟨go, Nx, hNx, step⟩
    · refine seg_bind_wrap ?_
      rw [← hA]
      refine thnF (T.done X' rfl rfl rfl hc i [] s _ H (fun _ _ => False) I (stat I nf) st stop) fun r s1 ⟨hr, I1⟩ => ?_
      subst hr
      exact seg_end (.ok .next) ⟨rfl, H, I1, qt⟩
    · refine seg_bind_wrap ?_
      rw [← hA]
      refine thnF (T.item X' rfl rfl rfl hc i [] s _ H (fun _ _ => False) I (stat I nf) st go) fun r s1 ⟨u, hr, h1⟩ => ?_
      subst hr
      refine seg_bind_wrap ?_
      rw [← hA]
      refine thnF h1 fun _ s2 ⟨x, H2, I2, r2, y2, st2, nf2⟩ => ?_
      have I2' := I2.pinned (stat I2 nf2) (T.obj _ _ st2)
      refine seg_bind_wrap ?_
      rw [← hA]
      have pgr := hg.run _ s2 _ H2 x u _ I2' r2 (step x H2 y2)
      rw [hxe] at pgr
      refine thnF pgr fun _ s3 ⟨σ3, H3, I3, hw3, q3⟩ => ?_
      simp only [List.forIn_nil]
      refine seg_bind_wrap (wpAny_pure ?_)
      simp only [if_true]
      have hy : ∀ v, yieldOut X'.env v = yieldValue v := fun v => by simp only [yieldOut, hco, Bool.false_eq_true, if_false]
      simp only [hy]
      rw [Sem.bind_eq_wrap', Sem.bind_eq_wrap', Sem.wrap_wrap, Sem.wrap_wrap]
      refine seg_wrap ?_
      rw [← hA]
      have per := he.run _ s3 σ3 H3 _ I3 q3
      rw [hxe] at per
      refine thnF per fun v s4 ⟨y, H4, I4, r4, b, hb, hT, hF⟩ => ?_
      subst hb
      have hv : v = .bool b := r4
      subst hv
      have pin4 : ∀ c ∈ fp, ∀ o, s2.heap.get? c = some o → s4.heap.get? c = some o ∧ H4 c = none := fun c hb o e =>
        let z := I4.pin (c, o) (List.mem_append_right _ (List.mem_append_right _ (mem_pinsAt hb e)))
        ⟨z.1, z.2.1⟩
      have hl : σ0.length = σ3.length := by rw [← hw3, wipe_length]
      have I5 : Inv X' [] σ0 H4 s4 := (I4.unpinned (pins := [])).weak hl (hw σ3 hw3)
      have st5 : tn (i + 1) s4.heap := T.keep _ _ _ st2 fun c hb o e => (pin4 c hb o e).1
      have nf5 : ∀ c ∈ fp, H4 c = none := fun c hb => by
        obtain ⟨o, e, _⟩ := T.obj _ _ st2 c hb
        exact (pin4 c hb o e).2
      have hn : ∃ n', n = n' + 1 := ⟨n - 1, by omega⟩
      obtain ⟨n', rfl⟩ := hn
      refine seg_at (seg_yield rfl rfl rfl ⟨b, H4, rfl, I5, hF, fun hb s' z => ?_⟩)
      obtain ⟨m', hm', w'⟩ := hNx H4 (hT hb)
      refine seg_again rfl (ih m' hm' n' (i + 1) s' s' H4 (by omega) (inv_woke I5 z) ?_ nf5 w')
      rw [z.heap]; exact st5

theorem seg_gxStart (hA : X'.A = A.over (.compLoop (.GeneratorExp elt [⟨tg, iter, [], 0⟩] scope pos) 0 (.ref it) .none X'.env) []) (hc : X'.calm = true) (hco : X'.env.scope.isCoroutine = false) (hxe : X'.xe = fun _ _ => False) (hex : X'.ex = fp)
    (T : Turn X'.prog X'.w X'.K tg J fp it tn) (hg : PG X' tg g) (he : PE X' elt te) (hpn : ∀ b ∈ fp, ∀ p ∈ X'.pn, p.1 ≠ b) (hw : ∀ σ2 : L2.St, wipe σ2 vs = σ0 → ∀ (j : Nat) v, σ0[j]? = some (some v) → σ2[j]? = some (some v))
    (turn : gxTurns J g te σ0 vs Qt Qf W) (m n : Nat) (s₀ s : Shared) (H : Hp) (hmn : m < n) (I : Inv X' [] σ0 H s) (st : tn 0 s.heap) (nf : ∀ b ∈ fp, H b = none) (w : W 0 m H) :
    Seg (model X'.prog X'.w) A (gxEnd X' σ0 Qt) (gxOut X' σ0 Qf) n s₀ (.compStart (.GeneratorExp elt [⟨tg, iter, [], 0⟩] scope pos) 0 (.ref it) .none X'.env)
        ((model X'.prog X'.w).den (.compStart (.GeneratorExp elt [⟨tg, iter, [], 0⟩] scope pos) 0 (.ref it) .none X'.env)) [] s := by
  have loop := seg_gx (A := A) (iter := iter) (scope := scope) (pos := pos) hA hc hco hxe hex T hg he hpn hw turn m n 0 s₀ s H hmn I st nf w
  show Seg _ A _ _ _ s₀ _ ((compStart (.GeneratorExp elt [⟨tg, iter, [], 0⟩] scope pos) 0 (.ref it) .none X'.env).onRaise (leaving X'.env)) [] s
  unfold compStart
  rw [Sem.onRaise_eq_wrap]
  show Seg _ A _ _ _ s₀ _ ((ask >>= _).wrap _ _ _ _) [] s
  refine seg_bind_wrap (wpAny_askSetting ?_)
  split
  · exact seg_again rfl loop
  · first
      | exact seg_bind_wrap (wpAny_rule (seg_bind_wrap (wpAny_standAt (seg_bind_wrap (T.self _ 0 s _ _ st (seg_again rfl loop))))))
      | (refine seg_bind_wrap (wpAny_rule ?_); show Seg _ A _ _ _ s₀ _ ((standAt iter.pos >>= _).wrap _ _ _ _) [] s; exact seg_bind_wrap (wpAny_standAt (seg_bind_wrap (T.self _ 0 s _ _ st (seg_again rfl loop)))))
end

/-- a generator that waits: it goes on from here, n turns at most -/
def GxAt (P : Program) (w : World) (A : Around) (R : GenEnd) (Y : Protocol) (a : Addr) (g n : Nat) (s : Shared) : Prop :=
  s.heap.IsGen a g ∧ s.heap.NoLimit ∧ ∃ gs, s.gens[g]? = some gs ∧ gs.Goes (model P w) A R Y n (.send .none) (s.setGen g .running)

theorem bare_set {s : Shared} {g : Nat} {gs : GenState} (h : AllBare s.gens) (hb : gs.bare = true) : AllBare (s.setGen g gs).gens := by
  intro x hx
  have hx : x ∈ s.gens.setIfInBounds g gs := hx
  rcases Array.mem_or_eq_of_mem_setIfInBounds hx with h1 | h1
  · exact h x h1
  · rw [h1]; exact hb

theorem setGen_at {s : Shared} {g : Nat} {gs : GenState} (h : g < s.gens.size) : (s.setGen g gs).gens[g]? = some gs := by
  show (s.gens.setIfInBounds g gs)[g]? = some gs
  rw [Array.getElem?_setIfInBounds]
  simp [h]

theorem codeAny_all_gx {X' : Cx} {A : Around} {σ0 : L2.St} {Qt Qf : Hp → Prop} {a : Addr} {g : Nat} {Rz : Result → Shared → Prop} (hh : A.handled = none) (hroom : A.depth < recursionLimit)
    (hgen : ∀ σ H s, Inv X' [] σ H s → s.heap.IsGen a g)
    (fin : ∀ b H s, Inv X' [] σ0 H s → (b = true → Qt H) → (b = false → Qf H) → Rz (.ok (.ret (.bool b))) s) :
    ∀ (n : Nat) (s : Shared), AllBare s.gens → GxAt X'.prog X'.w A.in1.in1 (gxEnd X' σ0 Qt) (gxOut X' σ0 Qf) a g n s → codeAny (model X'.prog X'.w) A (.builtin "all.loop" ⟨[.ref a], []⟩) Rz s := by
  intro n
  induction n with
  | zero =>
    intro s hb0 ⟨hg, hl, gs, hgs, hgo⟩
    have hsz : g + 1 ≤ s.gens.size := by
      obtain ⟨h1, _⟩ := Array.getElem?_eq_some_iff.mp hgs
      exact h1
    refine codeAny_builtin F.entry_all_loop ?_
    rw [Around.under_plainId F.plain_all_loop _]
    show wpAny _ A.in1 (pyNext (.ref a) >>= _) _ _ s
    refine wpAny_bind (GenW.wpAny_gsz hsz (wpAny_pyNext_genexpQ (A := A.in1) (P := fun n s₀ s₁ => ∃ H', Inv X' [] σ0 H' s₁ ∧ Qt H') hh hl hroom hg hgs hgo (fun v s₁ gs' hb hv => ?_) (fun s₁ hp h' hk => ?_)))
    · obtain ⟨b, H', rfl, I', hF, hT⟩ := hv
      intro hsz1
      refine wpAny_bind (wpAny_holding (wpAny_truthy_bool ?_))
      refine wpAny_bind (wpAny_letGo ?_)
      cases b with
      | true => exact (hT rfl s₁ ⟨rfl, rfl, I'.bare⟩).elim
      | false =>
        simp only [Bool.false_eq_true, if_false]
        refine wpAny_bind (wpAny_rule (wpAny_pure ?_))
        exact fin false H' _ (inv_woke I' ⟨rfl, rfl, bare_set I'.bare hb⟩) (fun h => by cases h) hF
    · obtain ⟨H', I', q⟩ := hp
      intro hsz1
      refine wpAny_bind (wpAny_rule (wpAny_pure ?_))
      exact fin true H' _ ((inv_woke (s' := s₁.setGen g .finished) I' ⟨rfl, rfl, bare_set I'.bare rfl⟩).kept (t' := s₁.toks) hk) (fun _ => q) (fun h => by cases h)
  | succ n ih =>
    intro s hb0 ⟨hg, hl, gs, hgs, hgo⟩
    have hsz : g + 1 ≤ s.gens.size := by
      obtain ⟨h1, _⟩ := Array.getElem?_eq_some_iff.mp hgs
      exact h1
    refine codeAny_builtin F.entry_all_loop ?_
    rw [Around.under_plainId F.plain_all_loop _]
    show wpAny _ A.in1 (pyNext (.ref a) >>= _) _ _ s
    refine wpAny_bind (GenW.wpAny_gsz hsz (wpAny_pyNext_genexpQ (A := A.in1) (P := fun n s₀ s₁ => ∃ H', Inv X' [] σ0 H' s₁ ∧ Qt H') hh hl hroom hg hgs hgo (fun v s₁ gs' hb hv => ?_) (fun s₁ hp h' hk => ?_)))
    · obtain ⟨b, H', rfl, I', hF, hT⟩ := hv
      intro hsz1
      have hsz2 : g < s₁.gens.size := by
        have : (s₁.setGen g gs').gens.size = s₁.gens.size := GenW.setGen_size _ _ _
        omega
      refine wpAny_bind (wpAny_holding (wpAny_truthy_bool ?_))
      refine wpAny_bind (wpAny_letGo ?_)
      have I2 := inv_woke (s' := s₁.setGen g gs') I' ⟨rfl, rfl, bare_set I'.bare hb⟩
      cases b with
      | true =>
        simp only [if_true]
        refine wpAny_pure ⟨plainId_quiet F.plain_all_loop _, ih _ I2.bare ⟨hgen _ _ _ I2, I2.nolimit, gs', setGen_at hsz2, hT rfl _ ⟨rfl, rfl, bare_set I2.bare rfl⟩⟩⟩
      | false =>
        simp only [Bool.false_eq_true, if_false]
        refine wpAny_bind (wpAny_rule (wpAny_pure ?_))
        exact fin false H' _ I2 (fun h => by cases h) hF
    · obtain ⟨H', I', q⟩ := hp
      intro hsz1
      refine wpAny_bind (wpAny_rule (wpAny_pure ?_))
      exact fin true H' _ ((inv_woke (s' := s₁.setGen g .finished) I' ⟨rfl, rfl, bare_set I'.bare rfl⟩).kept (t' := s₁.toks) hk) (fun _ => q) (fun h => by cases h)

/-- all(elt for tg in iter): behind the making the def's table may have grown; then the turns -/
def tAllG (P : Addr) (wi : TI) (g : TG) (te : TE) (vs : List Nat) : TE := fun σ H Q => wi σ H fun J H1 => TabG H1 P ∧ ∀ H2, Tabbed P H1 H2 → ∃ W : Nat → Nat → Hp → Prop, (∃ m, W 0 m H2) ∧ gxTurns J g te (wipe σ vs) vs (Q (.bl true)) (Q (.bl false)) W

/-- what the generator's code asks of its scope -/
structure GxOk (scope : Scope) : Prop where
  co : scope.isCoroutine = false
  cell : ∀ y ∈ scope.names, y.2 ≠ .cell
  dot : scope.names.lookup (".0" : Str) = some NameKind.local

section
variable {X : Cx} {pins : List (Addr × Obj)} {σ : L2.St} {H : Hp} {s : Shared}
theorem gx_gen {c P : Addr} {elt tg iter : Expr} {gpos : Pos} {scope : Scope} {own : List (Str × Nat)} {wi : TI} {g : TG} {te : TE} {k : Nat} {Q' : Value → Shared → Prop} {Q : VK}
    (hr : Room (k + 1) X.A) (TB : TabB X.base X.mg c P) (hcode : X.env.code = .ref c) (hN : X.N.Nodup) (ok : BlkOk X.N X.env.scope scope own) (gk : GxOk scope) (hi : PI X tg iter wi)
    (hgt : ∀ (s : Shared) (H : Hp) (cl : List (Str × Addr)) (C : Addr) (code : Value) (A' : Around) (fp : List Addr) (pn : List (Addr × Obj)), Room k A' → PG (gxCx X s H scope (genEnv scope cl C code builtinsNs X.env) A' fp pn) tg g)
    (he : ∀ (s : Shared) (H : Hp) (cl : List (Str × Addr)) (C : Addr) (code : Value) (A' : Around) (fp : List Addr) (pn : List (Addr × Obj)), Room k A' → PE (gxCx X s H scope (genEnv scope cl C code builtinsNs X.env) A' fp pn) elt te)
    (hs : ∀ v, genFold iter X.env v = pure v) (I : Inv X pins σ H s) (h : tAllG P wi g te (own.map (·.2)) σ H Q)
    (hQ : ∀ (X' : Cx) (a : Addr) (gi n : Nat) (s5 : Shared), X'.prog = X.prog → X'.w = X.w → AllBare s5.gens → s5.heap.IsGen a gi → (∀ σ H s, Inv X' [] σ H s → s.heap.IsGen a gi) →
      GxAt X'.prog X'.w X.A.in1.in1 (gxEnd X' (wipe σ (own.map (·.2))) (Q (.bl true))) (gxOut X' (wipe σ (own.map (·.2))) (Q (.bl false))) a gi n s5 →
      (∀ σ' H' s', Inv X' [] σ' H' s' → Inv X pins σ H' s') → Q' (.ref a) s5) :
    wpAny (model X.prog X.w) X.A (eval (.GeneratorExp elt [⟨tg, iter, [], 0⟩] scope gpos) X.env) Q' X.xe s := by
  have hfree : ∀ y ∈ scope.names, y.2 = .free → ∃ c, X.env.cells.lookup y.1 = some c := fun y hy e => by
    rcases ok.free y hy e with k | k
    · exact I.ok.has _ (.inl k)
    · exact I.ok.has _ (.inr k)
  refine wpAny_GeneratorExp_make gk.co (closure_ok hfree) gk.cell gk.dot ok.kind (by have := hr.dp; omega) ?_ hs
  refine thn (hi.run pins s σ H _ I h) fun xv s1 hx => thn hx fun itv s2 ⟨it, fp, tn, J, H2, e, I2, T, st2, f2, ⟨ps, hP, ht⟩, q⟩ => ?_
  subst e
  have hPs : s2.heap.get? P = some { cls := .none, data := .fields ps } := I2.hok P _ hP
  have cd : PySem.W.CodeHd s2.heap c P := TB.code.keeps fun b u e => I2.bk b u e
  have szf : ∀ b ∈ fp, b < s2.heap.objs.size := fun b hb => by
    obtain ⟨o, e, _⟩ := T.obj _ _ st2 b hb
    exact Heap.lt_size e
  have cont : ∀ (code : Value) (h3 : Heap) (tk : Nat) (ps' : Array Value), Heap.ExtBut P s2.heap h3 → s2.heap.objs.size ≤ h3.objs.size → h3.get? P = some { cls := .none, data := .fields ps' } → (∃ more, ps' = ps ++ more) → TriplesOk ps'.toList →
      wpAny (model X.prog X.w) X.A (builtinsFor X.env.globals X.env.builtins) (fun bi s₄ =>
        ∀ h', h'.Ns s₄.heap.objs.size (fun y => if y = ".0" then some (.ref it) else none) → Heap.SameBut s₄.heap.objs.size (s₄.heap.push { cls := .type "frame", data := .dict #[] }) h' →
          Q' (.ref h'.objs.size) { s₄ with
            gens := s₄.gens.push (.fresh (.compStart (.GeneratorExp elt [⟨tg, iter, [], 0⟩] scope gpos) 0 (.ref it) .none (genEnv scope (cloFrom X.env.cells scope.names []) s₄.heap.objs.size code bi X.env))),
            toks := s₄.toks + 1 + 1 + 1,
            heap := h'.push { cls := .type "generator", data := .fields #[.int s₄.gens.size 0, .str "<genexpr>" (s₄.toks + 1), .str (X.env.qual ++ "<genexpr>") (s₄.toks + 1 + 1)] } }) X.xe { s2 with heap := h3, toks := tk } := by
    intro code h3 tk ps' hx hsz hP3 hmore ht3
    obtain ⟨more, em⟩ := hmore
    obtain ⟨bm, ob, e1, e2, e3, e4, e5, e6, e7, e8⟩ := TB.bm
    have I3 : Inv X pins σ (upd H2 P (.tbl (ps ++ more))) { s2 with heap := h3, toks := tk } :=
      inv_tab (more := more) (h' := h3) (g' := s2.gens) (d' := s2.drawn) (t' := tk) I2 hP (fun b u hb e => hx b u hb e) (by rw [← em]; exact hP3) I2.bare
    have hT : Tabbed P H2 (upd H2 P (.tbl (ps ++ more))) := ⟨⟨ps ++ more, upd_same, by rw [← em]; exact ht3⟩, fun b hb => upd_ne hb⟩
    generalize hH3 : upd H2 P (.tbl (ps ++ more)) = H3 at I3 hT
    obtain ⟨W, ⟨m0, w0⟩, turn⟩ := q H3 hT
    have fP : ∀ b ∈ fp, b ≠ P := fun b hb z => by
      have := (f2 b hb).1
      rw [z, hP] at this
      cases this
    have f3 : ∀ b ∈ fp, FpOk X pins H3 b ∧ b < h3.objs.size := fun b hb => ⟨⟨by rw [hT.2 b (fP b hb)]; exact (f2 b hb).1, (f2 b hb).2⟩, Nat.lt_of_lt_of_le (szf b hb) hsz⟩
    have st3 : tn 0 h3 := T.keep _ _ _ st2 fun b hb o e => hx b o (fP b hb) e
    refine wpAny_builtinsFor (m := X.mg) (by rw [I3.ok.glob]; exact I3.mod.glob.keeps I3.bk) e1 e2 (I3.bk _ _ e5) e6 e7 e8 ?_
    intro h' hns hsb
    generalize hs3 : ({ s2 with heap := h3, toks := tk } : Shared) = s3 at I3 hns hsb ⊢
    have hh3 : s3.heap = h3 := by rw [← hs3]
    have hsz' : h'.objs.size = s3.heap.objs.size + 1 := by rw [hsb.1, Heap.size_push]
    have keep' : ∀ b o, s3.heap.get? b = some o → h'.get? b = some o := fun b o e => hsb.extBut b o (Nat.ne_of_lt (Heap.lt_size e)) (Heap.get?_push_of_some _ e)
    generalize hgo : ({ cls := .type "generator", data := .fields #[.int s3.gens.size 0, .str "<genexpr>" (s3.toks + 1), .str (X.env.qual ++ "<genexpr>") (s3.toks + 1 + 1)] } : Obj) = go
    have hpushed : (h'.push go).get? h'.objs.size = some go := by
      rw [← hgo]
      exact Heap.get?_push_size _ rfl
    have hgen : ∀ h : Heap, h.get? h'.objs.size = some go → h.IsGen h'.objs.size s3.gens.size := fun h e => ⟨go, _, _, e, by rw [← hgo], by rw [← hgo], by rw [← hgo]⟩
    have kp : ∀ b o, s3.heap.get? b = some o → (h'.push go).get? b = some o := fun b o e => Heap.get?_push_of_some _ (keep' b o e)
    generalize hce : genEnv scope (cloFrom X.env.cells scope.names []) s3.heap.objs.size code builtinsNs X.env = ce
    have room' : Room k (X.A.in1.in1.over (.compLoop (.GeneratorExp elt [⟨tg, iter, [], 0⟩] scope gpos) 0 (.ref it) .none ce) []) :=
      ⟨hr.hd, by have := hr.dp; show X.A.depth + 0 + 1 + 3 * k + 5 < _; omega, by have := hr.un; show X.A.units + 1 + 1 + 0 + 3 + 16 * k + 200 < _; omega⟩
    have hbare : AllBare (s3.gens.push (.fresh (.compStart (.GeneratorExp elt [⟨tg, iter, [], 0⟩] scope gpos) 0 (.ref it) .none ce))) := I3.bare.push rfl
    have I5 : Inv (gxCx X s3 H3 scope ce (X.A.in1.in1.over (.compLoop (.GeneratorExp elt [⟨tg, iter, [], 0⟩] scope gpos) 0 (.ref it) .none ce) []) fp [(h'.objs.size, go)]) [] (wipe σ (own.map (·.2))) H3
        { s3 with heap := h'.push go, gens := s3.gens.push (.fresh (.compStart (.GeneratorExp elt [⟨tg, iter, [], 0⟩] scope gpos) 0 (.ref it) .none ce)), toks := s3.toks + 1 + 1 + 1 } := by
      rw [← hce]
      refine gx_start I3 ok gk.cell hN (fun b hb => by rw [hh3]; exact f3 b hb) (Nat.le_refl _) (hns.push _) kp (by rw [hce]; exact hbare) hr.hd ?_ fun p hp => ?_
      · rw [hce]
        show pushEnvs [ce] (pushEnvs [] X.A.frames) = _
        rw [I3.ok.frames]
        rfl
      · rw [List.mem_singleton.mp hp]
        refine ⟨hpushed, by show _ ≤ h'.objs.size; omega, by show h'.objs.size ≠ _; omega, fun v => by rw [← hgo]; intro z; cases z⟩
    have hA5 : ∀ b ∈ fp, ∀ p ∈ [(h'.objs.size, go)], p.1 ≠ b := fun b hb p hp => by
      rw [List.mem_singleton.mp hp]
      have h1 := (f3 b hb).2
      have h2 : s3.heap.objs.size = h3.objs.size := by rw [hh3]
      have h4 : s3.heap.objs.size ≤ h'.objs.size := by omega
      exact Nat.ne_of_gt (Nat.lt_of_lt_of_le h1 (by rw [← h2]; exact h4))
    have back : ∀ σ' H' s', Inv (gxCx X s3 H3 scope ce (X.A.in1.in1.over (.compLoop (.GeneratorExp elt [⟨tg, iter, [], 0⟩] scope gpos) 0 (.ref it) .none ce) []) fp [(h'.objs.size, go)]) [] σ' H' s' → Inv X pins σ H' s' := fun σ' H' s' I6 =>
      I3.call' (ch := fp) I6.os I6.base I6.hok I6.bare fun b hb => ⟨(f3 b hb).1.2.2.2.1, (f3 b hb).1.2.1, (f3 b hb).1.2.2.2.2.1, (f3 b hb).1.2.2.2.2.2⟩
    have genAt : ∀ σ H s, Inv (gxCx X s3 H3 scope ce (X.A.in1.in1.over (.compLoop (.GeneratorExp elt [⟨tg, iter, [], 0⟩] scope gpos) 0 (.ref it) .none ce) []) fp [(h'.objs.size, go)]) [] σ H s → s.heap.IsGen h'.objs.size s3.gens.size := fun σ H s I6 =>
      hgen _ (I6.pin (h'.objs.size, go) (by simp)).1
    refine hQ (gxCx X s3 H3 scope ce (X.A.in1.in1.over (.compLoop (.GeneratorExp elt [⟨tg, iter, [], 0⟩] scope gpos) 0 (.ref it) .none ce) []) fp [(h'.objs.size, go)]) h'.objs.size s3.gens.size (m0 + 1) _ rfl rfl hbare (hgen _ hpushed) genAt ⟨hgen _ hpushed, I5.nolimit, _, Array.getElem?_push_size .., rfl, ?_⟩ back
    refine seg_gxStart (X' := gxCx X s3 H3 scope ce (X.A.in1.in1.over (.compLoop (.GeneratorExp elt [⟨tg, iter, [], 0⟩] scope gpos) 0 (.ref it) .none ce) []) fp [(h'.objs.size, go)]) (vs := own.map (·.2)) (g := g) (te := te) (W := W) rfl rfl (by rw [← hce]; exact gk.co) rfl rfl T ?_ ?_ hA5
      (fun σ2 e j v z => by rw [← e] at z; exact (wipe_some z).1) turn m0 (m0 + 1) _ _ H3 (Nat.lt_succ_self _) (inv_woke I5 ⟨rfl, rfl, bare_set hbare rfl⟩) ?_ (fun b hb => (f3 b hb).1.1) w0
    · rw [← hce]
      exact hgt _ _ _ _ _ _ _ _ (by rw [hce]; exact room')
    · rw [← hce]
      exact he _ _ _ _ _ _ _ _ (by rw [hce]; exact room')
    · exact T.keep _ _ _ st3 fun b _ o e => kp b o (by rw [hh3]; exact e)
  refine ⟨I2.nolimit, ?_⟩
  cases hf : codeAmong gpos ps.toList with
  | none =>
    refine wpAny_genexprCodeX hcode (cd.code hPs ht) (cd.tab hPs) hf fun c' h' tk hx hge hlt hco' _ htab' _ => ?_
    obtain ⟨o1, vs, f1, tf, fl, tg, inF, tx, tt, op, _, _, _, _, _, _, _, _, _, htr, _⟩ := hco'
    exact cont _ h' tk _ hx (Nat.le_trans hge (Nat.le_of_lt hlt)) htab'.2 ⟨_, rfl⟩ htr
  | some cv =>
    refine wpAny_genexprCode_hit hcode (cd.code hPs ht) hf ?_
    exact cont cv s2.heap s2.toks ps (Heap.ExtBut.refl _ _) (Nat.le_refl _) hPs ⟨#[], by simp⟩ ht

theorem pe_allG {c P : Addr} {elt tg iter : Expr} {p pos gpos : Pos} {scope : Scope} {own : List (Str × Nat)} {wi : TI} {g : TG} {te : TE} {k : Nat}
    (hr : Room (k + 1) X.A) (hg : Gl X "all") (hm : X.mg "all" = none) (hb : bootBuiltins "all" = some (.builtin "all")) (TB : TabB X.base X.mg c P) (hcode : X.env.code = .ref c) (hN : X.N.Nodup) (ok : BlkOk X.N X.env.scope scope own) (gk : GxOk scope) (hi : PI X tg iter wi)
    (hgt : ∀ (s : Shared) (H : Hp) (cl : List (Str × Addr)) (C : Addr) (code : Value) (A' : Around) (fp : List Addr) (pn : List (Addr × Obj)), Room k A' → PG (gxCx X s H scope (genEnv scope cl C code builtinsNs X.env) A' fp pn) tg g)
    (he : ∀ (s : Shared) (H : Hp) (cl : List (Str × Addr)) (C : Addr) (code : Value) (A' : Around) (fp : List Addr) (pn : List (Addr × Obj)), Room k A' → PE (gxCx X s H scope (genEnv scope cl C code builtinsNs X.env) A' fp pn) elt te)
    (hs : ∀ v, genFold iter X.env v = pure v)
    (hse : starEach [.GeneratorExp elt [⟨tg, iter, [], 0⟩] scope gpos] X.env = (false, eval (.GeneratorExp elt [⟨tg, iter, [], 0⟩] scope gpos) X.env) :: starEach [] X.env := by rfl) :
    PE X (.Call (.Name "all" p) [.GeneratorExp elt [⟨tg, iter, [], 0⟩] scope gpos] [] pos) (tAllG P wi g te (own.map (·.2))) := by
  refine ⟨fun pins s σ H Q I h => ?_⟩
  refine wpAny_Call_Name_kw (ld_blt I hg hm hb ?_)
  refine PyProof.Rows.callWith_builtin1 ?_ hse (by rfl)
  rw [hse]
  show wpAny _ _ (spliced ((false, eval (.GeneratorExp elt [⟨tg, iter, [], 0⟩] scope gpos) X.env) :: backTo pos (starEach [] X.env))) _ _ s
  refine Calls.spliced_cons (gx_gen (Q := Q) hr TB hcode hN ok gk hi hgt he hs I h fun X' a gi n s5 hp hw hb5 hgi hgen hat back => ?_)
  refine Calls.spliced_nil ?_
  refine call_function_tree F.kind_all F.plain_all F.entry_all (F.args_all1 _) ?_
  unfold Builtin.«all»
  refine wpAny_bind (m := oneArg "all" _) (wpAny_pure ?_)
  refine wpAny_bind (wpAny_pyIter_gen hgi ?_)
  rw [← hp, ← hw]
  exact wpAny_pure ⟨plainId_quiet F.plain_all_loop _, codeAny_all_gx hr.hd (by have := hr.dp; omega) hgen (fun b H' s' I' hT hF => ⟨.bl b, H', back _ _ _ I', rfl, by cases b; exact hF rfl; exact hT rfl⟩) n s5 hb5 hat⟩
end
end Ow

set_option Elab.async false
set_option linter.all false
set_option maxRecDepth 100000
set_option maxHeartbeats 4000000
namespace Ow
open PySem PySem.Spec PyProof.Rows L2 GxR

/-! ### a generator expression that fills a list: the list stands at S -/
def goL (X' : Cx) (σ0 : L2.St) (S : Addr) : Protocol := fun n s₀ v s kap => ∃ (y : V) (H' : Hp) (acc : List V), RelV y v ∧ Inv X' [] σ0 H' s ∧ H' S = some (.lst acc) ∧ acc.length < sizeLine ∧
  ∀ s', Inv X' [] σ0 (upd H' S (.lst (acc ++ [y]))) s' → (∀ b o, b ≠ S → s.heap.get? b = some o → s'.heap.get? b = some o) → kap (.send .none) s'
def glTurns (S : Addr) (J : It) (g : TG) (tt : TT) (te : TE) (σ0 : L2.St) (vs : List Nat) (Qt : Hp → Prop) (W : Nat → Nat → Hp → Prop) : Prop := ∀ i m H, W i m H →
  (J.stop i H ∧ Qt H) ∨ (J.go i H ∧ ∃ Nx : Hp → Prop, (∀ H', Nx H' → ∃ m', m' < m ∧ W (i + 1) m' H') ∧ ∀ x H', J.yld i H x H' → g x σ0 H' fun σ2 H2 => wipe σ2 vs = σ0 ∧
    tt σ2 H2 fun b H3 => if b = true then te σ2 H3 fun y H4 => ∃ acc, H4 S = some (.lst acc) ∧ acc.length < sizeLine ∧ Nx (upd H4 S (.lst (acc ++ [y]))) else Nx H3)

section
variable {X' : Cx} {A : Around} {elt tg iter : Expr} {ifs : List Expr} {scope : Scope} {pos : Pos} {it : Addr} {J : It} {fp : List Addr} {tn : Nat → Heap → Prop} {σ0 : L2.St} {vs : List Nat} {g : TG} {tt : TT} {te : TE} {Qt : Hp → Prop} {S : Addr} {W : Nat → Nat → Hp → Prop}
theorem seg_gl (hA : X'.A = A.over (.compLoop (.GeneratorExp elt [⟨tg, iter, ifs, 0⟩] scope pos) 0 (.ref it) .none X'.env) []) (hc : X'.calm = true) (hco : X'.env.scope.isCoroutine = false) (hxe : X'.xe = fun _ _ => False) (hex : X'.ex = fp)
    (T : Turn X'.prog X'.w X'.K tg J fp it tn) (hg : PG X' tg g) (he : PE X' elt te) (hpn : ∀ b ∈ fp, ∀ p ∈ X'.pn, p.1 ≠ b) (hw : ∀ σ2 : L2.St, wipe σ2 vs = σ0 → ∀ (j : Nat) v, σ0[j]? = some (some v) → σ2[j]? = some (some v))
    (hts : PTs X' ifs tt) (hSf : S ∉ fp) (turn : glTurns S J g tt te σ0 vs Qt W) :
    ∀ (m n i : Nat) (s₀ s : Shared) (H : Hp), m < n → Inv X' [] σ0 H s → tn i s.heap → (∀ b ∈ fp, H b = none) → W i m H →
      Seg (model X'.prog X'.w) A (gxEnd X' σ0 Qt) (goL X' σ0 S) n s₀ (.compLoop (.GeneratorExp elt [⟨tg, iter, ifs, 0⟩] scope pos) 0 (.ref it) .none X'.env)
        ((model X'.prog X'.w).den (.compLoop (.GeneratorExp elt [⟨tg, iter, ifs, 0⟩] scope pos) 0 (.ref it) .none X'.env)) [] s := by
  have stat : ∀ {σ' : L2.St} {H' : Hp} {s' : Shared}, Inv X' [] σ' H' s' → (∀ b ∈ fp, H' b = none) → ∀ b ∈ fp, FpOk X' [] H' b := fun {σ' H' s'} I' hn b hb =>
    ⟨hn b hb, (I'.ok.exf b (by rw [hex]; exact hb)).1, I'.ok.exfs b (by rw [hex]; exact hb), .inl (by rw [hex]; exact hb), fun x c e => (I'.ok.exf b (by rw [hex]; exact hb)).2 x c e, fun p hp => hpn b hb p (by simpa using hp)⟩
  intro m
  induction m using Nat.strongRecOn with
  | ind m ih =>
    intro n i s₀ s H hmn I st nf w
    show Seg _ A _ _ _ s₀ _ ((compTurn (.GeneratorExp elt [⟨tg, iter, ifs, 0⟩] scope pos) 0 (.ref it) .none X'.env).onRaise (leaving X'.env)) [] s
    rw [compTurn_gen, Sem.onRaise_eq_wrap]
    refine seg_bind_wrap (wpAny_standAt ?_)
    rcases turn i m H w with ⟨stop, qt⟩ | ⟨go, Nx, hNx, step⟩
    · refine seg_bind_wrap ?_
      rw [← hA]
      refine thnF (T.done X' rfl rfl rfl hc i [] s _ H (fun _ _ => False) I (stat I nf) st stop) fun r s1 ⟨hr, I1⟩ => ?_
      subst hr
      exact seg_end (.ok .next) ⟨rfl, H, I1, qt⟩
    · refine seg_bind_wrap ?_
      rw [← hA]
      refine thnF (T.item X' rfl rfl rfl hc i [] s _ H (fun _ _ => False) I (stat I nf) st go) fun r s1 ⟨u, hr, h1⟩ => ?_
      subst hr
      refine seg_bind_wrap ?_
      rw [← hA]
      refine thnF h1 fun _ s2 ⟨x, H2, I2, r2, y2, st2, nf2⟩ => ?_
      have I2' := I2.pinned (stat I2 nf2) (T.obj _ _ st2)
      refine seg_bind_wrap ?_
      rw [← hA]
      have pgr := hg.run _ s2 _ H2 x u _ I2' r2 (step x H2 y2)
      rw [hxe] at pgr
      refine thnF pgr fun _ s3 ⟨σ3, H3, I3, hw3, q3⟩ => ?_
      refine seg_bind_wrap ?_
      rw [← hA]
      have ptr := hts.run _ s3 σ3 H3 _ I3 q3
      rw [hxe] at ptr
      have hl : σ0.length = σ3.length := by rw [← hw3, wipe_length]
      have pin2 : ∀ {H4 : Hp} {s4 : Shared}, Inv X' ([] ++ pinsAt fp s2.heap) σ3 H4 s4 → ∀ c ∈ fp, ∀ o, s2.heap.get? c = some o → s4.heap.get? c = some o ∧ H4 c = none := fun I4 c hb o e =>
        let z := I4.pin (c, o) (List.mem_append_right _ (List.mem_append_right _ (mem_pinsAt hb e)))
        ⟨z.1, z.2.1⟩
      have goes : ∀ {H4 : Hp} {s4 : Shared}, Inv X' ([] ++ pinsAt fp s2.heap) σ3 H4 s4 → Inv X' [] σ0 H4 s4 ∧ tn (i + 1) s4.heap ∧ ∀ c ∈ fp, H4 c = none := fun I4 =>
        ⟨(I4.unpinned (pins := [])).weak hl (hw σ3 hw3), T.keep _ _ _ st2 fun c hb o e => (pin2 I4 c hb o e).1, fun c hb => by
          obtain ⟨o, e, _⟩ := T.obj _ _ st2 c hb
          exact (pin2 I4 c hb o e).2⟩
      refine thnF ptr fun ok s4 ⟨H4, I4, hk⟩ => ?_
      cases ok with
      | false =>
        rw [if_neg Bool.false_ne_true] at hk
        simp only [Bool.false_eq_true, if_false]
        obtain ⟨I5, st5, nf5⟩ := goes I4
        obtain ⟨m', hm', w'⟩ := hNx H4 hk
        first
          | exact seg_again rfl (ih m' hm' n (i + 1) s₀ s4 H4 (by omega) I5 st5 nf5 w')
          | exact seg_wrap (wpAny_pure (seg_again rfl (ih m' hm' n (i + 1) s₀ s4 H4 (by omega) I5 st5 nf5 w')))
          | (refine seg_bind_wrap (wpAny_pure ?_); exact seg_again rfl (ih m' hm' n (i + 1) s₀ s4 H4 (by omega) I5 st5 nf5 w'))
      | true =>
        rw [if_pos rfl] at hk
        simp only [if_true]
        have hy : ∀ v, yieldOut X'.env v = yieldValue v := fun v => by simp only [yieldOut, hco, Bool.false_eq_true, if_false]
        simp only [hy]
        rw [Sem.bind_eq_wrap', Sem.bind_eq_wrap', Sem.wrap_wrap, Sem.wrap_wrap]
        refine seg_wrap ?_
        rw [← hA]
        have per := he.run _ s4 σ3 H4 _ I4 hk
        rw [hxe] at per
        refine thnF per fun v s5 ⟨y, H5, I5, r5, acc, hacc, hz, hN⟩ => ?_
        obtain ⟨I6, st6, nf6⟩ := goes I5
        have hn : ∃ n', n = n' + 1 := ⟨n - 1, by omega⟩
        obtain ⟨n', rfl⟩ := hn
        refine seg_at (seg_yield rfl rfl rfl ⟨y, H5, acc, r5, I6, hacc, hz, fun s' I7 kp => ?_⟩)
        obtain ⟨m', hm', w'⟩ := hNx _ hN
        refine seg_again rfl (ih m' hm' n' (i + 1) s' s' _ (by omega) I7 (T.keep _ _ _ st6 fun c hb o e => kp c o (fun z => hSf (z ▸ hb)) e) (fun c hb => ?_) w')
        have ne : c ≠ S := fun z => hSf (by rw [← z]; exact hb)
        rw [upd_ne ne]
        exact nf6 c hb

theorem seg_glStart (hA : X'.A = A.over (.compLoop (.GeneratorExp elt [⟨tg, iter, ifs, 0⟩] scope pos) 0 (.ref it) .none X'.env) []) (hc : X'.calm = true) (hco : X'.env.scope.isCoroutine = false) (hxe : X'.xe = fun _ _ => False) (hex : X'.ex = fp)
    (T : Turn X'.prog X'.w X'.K tg J fp it tn) (hg : PG X' tg g) (he : PE X' elt te) (hpn : ∀ b ∈ fp, ∀ p ∈ X'.pn, p.1 ≠ b) (hw : ∀ σ2 : L2.St, wipe σ2 vs = σ0 → ∀ (j : Nat) v, σ0[j]? = some (some v) → σ2[j]? = some (some v))
    (hts : PTs X' ifs tt) (hSf : S ∉ fp) (turn : glTurns S J g tt te σ0 vs Qt W) (m n : Nat) (s₀ s : Shared) (H : Hp) (hmn : m < n) (I : Inv X' [] σ0 H s) (st : tn 0 s.heap) (nf : ∀ b ∈ fp, H b = none) (w : W 0 m H) :
    Seg (model X'.prog X'.w) A (gxEnd X' σ0 Qt) (goL X' σ0 S) n s₀ (.compStart (.GeneratorExp elt [⟨tg, iter, ifs, 0⟩] scope pos) 0 (.ref it) .none X'.env)
        ((model X'.prog X'.w).den (.compStart (.GeneratorExp elt [⟨tg, iter, ifs, 0⟩] scope pos) 0 (.ref it) .none X'.env)) [] s := by
  have loop := seg_gl (A := A) (iter := iter) (scope := scope) (pos := pos) hA hc hco hxe hex T hg he hpn hw hts hSf turn m n 0 s₀ s H hmn I st nf w
  show Seg _ A _ _ _ s₀ _ ((compStart (.GeneratorExp elt [⟨tg, iter, ifs, 0⟩] scope pos) 0 (.ref it) .none X'.env).onRaise (leaving X'.env)) [] s
  unfold compStart
  rw [Sem.onRaise_eq_wrap]
  show Seg _ A _ _ _ s₀ _ ((ask >>= _).wrap _ _ _ _) [] s
  refine seg_bind_wrap (wpAny_askSetting ?_)
  split
  · exact seg_again rfl loop
  · first
      | exact seg_bind_wrap (wpAny_rule (seg_bind_wrap (wpAny_standAt (seg_bind_wrap (T.self _ 0 s _ _ st (seg_again rfl loop))))))
      | (refine seg_bind_wrap (wpAny_rule ?_); show Seg _ A _ _ _ s₀ _ ((standAt iter.pos >>= _).wrap _ _ _ _) [] s; exact seg_bind_wrap (wpAny_standAt (seg_bind_wrap (T.self _ 0 s _ _ st (seg_again rfl loop)))))
end

/-- a generator expression's object has been made, nothing of it has run -/
structure GxMade (X : Cx) (B : Around) (pins : List (Addr × Obj)) (σ : L2.St) (elt tg iter : Expr) (ifs : List Expr) (scope : Scope) (pos : Pos) (own : List (Str × Nat)) (g : TG) (tt : TT) (te : TE) (J : It) (H3 : Hp) (s5 : Shared) (X' : Cx) (it : Addr) (fp : List Addr) (tn : Nat → Heap → Prop) (a : Addr) (gi : Nat) : Prop where
  prog : X'.prog = X.prog
  w : X'.w = X.w
  hA : X'.A = B.over (.compLoop (.GeneratorExp elt [⟨tg, iter, ifs, 0⟩] scope pos) 0 (.ref it) .none X'.env) []
  calm : X'.calm = true
  co : X'.env.scope.isCoroutine = false
  xe : X'.xe = fun _ _ => False
  ex : X'.ex = fp
  T : Turn X'.prog X'.w X'.K tg J fp it tn
  hg : PG X' tg g
  hts : PTs X' ifs tt
  he : PE X' elt te
  pn : ∀ b ∈ fp, ∀ p ∈ X'.pn, p.1 ≠ b
  bare : AllBare s5.gens
  gens : s5.gens[gi]? = some (.fresh (.compStart (.GeneratorExp elt [⟨tg, iter, ifs, 0⟩] scope pos) 0 (.ref it) .none X'.env))
  gen : ∀ σ H s, Inv X' [] σ H s → s.heap.IsGen a gi
  lt : a < s5.heap.objs.size
  inv : Inv X' [] (wipe σ (own.map (·.2))) H3 s5
  back : ∀ σ' H' s', Inv X' [] σ' H' s' → Inv X pins σ H' s'
  free : ∀ b ∈ fp, H3 b = none ∧ b < s5.heap.objs.size
  st : tn 0 s5.heap

section
variable {X : Cx} {pins : List (Addr × Obj)} {σ : L2.St} {H : Hp} {s : Shared}
theorem GxMade.at {B : Around} {elt tg iter : Expr} {ifs : List Expr} {scope : Scope} {pos : Pos} {own : List (Str × Nat)} {g : TG} {tt : TT} {te : TE} {J : It} {H3 H6 : Hp} {s5 s6 : Shared} {X' : Cx} {it : Addr} {fp : List Addr} {tn : Nat → Heap → Prop} {a : Addr} {gi : Nat} {S : Addr} {Qt : Hp → Prop} {W : Nat → Nat → Hp → Prop} {m : Nat}
    (M : GxMade X B pins σ elt tg iter ifs scope pos own g tt te J H3 s5 X' it fp tn a gi) (hS : S ∉ fp) (I6 : Inv X' [] (wipe σ (own.map (·.2))) H6 s6) (hg : s6.gens = s5.gens) (kp : ∀ b ∈ fp, ∀ o, s5.heap.get? b = some o → s6.heap.get? b = some o) (nf : ∀ b ∈ fp, H6 b = none)
    (turn : glTurns S J g tt te (wipe σ (own.map (·.2))) (own.map (·.2)) Qt W) (w : W 0 m H6) : GxAt X'.prog X'.w B (gxEnd X' (wipe σ (own.map (·.2))) Qt) (goL X' (wipe σ (own.map (·.2))) S) a gi (m + 1) s6 := by
  refine ⟨M.gen _ _ _ I6, I6.nolimit, .fresh _, by rw [hg]; exact M.gens, rfl, ?_⟩
  refine seg_glStart (W := W) M.hA M.calm M.co M.xe M.ex M.T M.hg M.he M.pn (fun σ2 e j v z => by rw [← e] at z; exact (wipe_some z).1) M.hts hS turn m (m + 1) _ _ H6 (Nat.lt_succ_self _) (inv_woke I6 ⟨rfl, rfl, bare_set I6.bare rfl⟩) ?_ nf w
  exact M.T.keep _ _ _ M.st fun b hb o e => kp b hb o e
theorem gx_makes {B : Around} {c P : Addr} {elt tg iter : Expr} {ifs : List Expr} {gpos : Pos} {scope : Scope} {own : List (Str × Nat)} {wi : TI} {g : TG} {tt : TT} {te : TE} {k : Nat} {Q' : Value → Shared → Prop} {KJ : It → Hp → Prop}
    (hr : Room (k + 1) X.A) (hB1 : B.handled = none) (hB2 : B.frames = X.A.frames) (hB3 : ∀ it ce, Room k (B.over (.compLoop (.GeneratorExp elt [⟨tg, iter, ifs, 0⟩] scope gpos) 0 (.ref it) .none ce) [])) (TB : TabB X.base X.mg c P) (hcode : X.env.code = .ref c) (hN : X.N.Nodup) (ok : BlkOk X.N X.env.scope scope own) (gk : GxOk scope) (hi : PI X tg iter wi)
    (hgt : ∀ (s : Shared) (H : Hp) (cl : List (Str × Addr)) (C : Addr) (code : Value) (A' : Around) (fp : List Addr) (pn : List (Addr × Obj)), Room k A' → PG (gxCx X s H scope (genEnv scope cl C code builtinsNs X.env) A' fp pn) tg g)
    (hts : ∀ (s : Shared) (H : Hp) (cl : List (Str × Addr)) (C : Addr) (code : Value) (A' : Around) (fp : List Addr) (pn : List (Addr × Obj)), Room k A' → PTs (gxCx X s H scope (genEnv scope cl C code builtinsNs X.env) A' fp pn) ifs tt)
    (he : ∀ (s : Shared) (H : Hp) (cl : List (Str × Addr)) (C : Addr) (code : Value) (A' : Around) (fp : List Addr) (pn : List (Addr × Obj)), Room k A' → PE (gxCx X s H scope (genEnv scope cl C code builtinsNs X.env) A' fp pn) elt te)
    (hs : ∀ v, genFold iter X.env v = pure v) (I : Inv X pins σ H s) (h : wi σ H fun J H1 => TabG H1 P ∧ ∀ H2, Tabbed P H1 H2 → KJ J H2)
    (hQ : ∀ (J : It) (H3 : Hp) (s5 : Shared) (X' : Cx) (it : Addr) (fp : List Addr) (tn : Nat → Heap → Prop) (a : Addr) (gi : Nat), KJ J H3 → GxMade X B pins σ elt tg iter ifs scope gpos own g tt te J H3 s5 X' it fp tn a gi → Q' (.ref a) s5) :
    wpAny (model X.prog X.w) X.A (eval (.GeneratorExp elt [⟨tg, iter, ifs, 0⟩] scope gpos) X.env) Q' X.xe s := by
  have hfree : ∀ y ∈ scope.names, y.2 = .free → ∃ c, X.env.cells.lookup y.1 = some c := fun y hy e => by
    rcases ok.free y hy e with k | k
    · exact I.ok.has _ (.inl k)
    · exact I.ok.has _ (.inr k)
  refine wpAny_GeneratorExp_make gk.co (closure_ok hfree) gk.cell gk.dot ok.kind (by have := hr.dp; omega) ?_ hs
  refine thn (hi.run pins s σ H _ I h) fun xv s1 hx => thn hx fun itv s2 ⟨it, fp, tn, J, H2, e, I2, T, st2, f2, ⟨ps, hP, ht⟩, q⟩ => ?_
  subst e
  have hPs : s2.heap.get? P = some { cls := .none, data := .fields ps } := I2.hok P _ hP
  have cd : PySem.W.CodeHd s2.heap c P := TB.code.keeps fun b u e => I2.bk b u e
  have szf : ∀ b ∈ fp, b < s2.heap.objs.size := fun b hb => by
    obtain ⟨o, e, _⟩ := T.obj _ _ st2 b hb
    exact Heap.lt_size e
  have cont : ∀ (code : Value) (h3 : Heap) (tk : Nat) (ps' : Array Value), Heap.ExtBut P s2.heap h3 → s2.heap.objs.size ≤ h3.objs.size → h3.get? P = some { cls := .none, data := .fields ps' } → (∃ more, ps' = ps ++ more) → TriplesOk ps'.toList →
      wpAny (model X.prog X.w) X.A (builtinsFor X.env.globals X.env.builtins) (fun bi s₄ =>
        ∀ h', h'.Ns s₄.heap.objs.size (fun y => if y = ".0" then some (.ref it) else none) → Heap.SameBut s₄.heap.objs.size (s₄.heap.push { cls := .type "frame", data := .dict #[] }) h' →
          Q' (.ref h'.objs.size) { s₄ with
            gens := s₄.gens.push (.fresh (.compStart (.GeneratorExp elt [⟨tg, iter, ifs, 0⟩] scope gpos) 0 (.ref it) .none (genEnv scope (cloFrom X.env.cells scope.names []) s₄.heap.objs.size code bi X.env))),
            toks := s₄.toks + 1 + 1 + 1,
            heap := h'.push { cls := .type "generator", data := .fields #[.int s₄.gens.size 0, .str "<genexpr>" (s₄.toks + 1), .str (X.env.qual ++ "<genexpr>") (s₄.toks + 1 + 1)] } }) X.xe { s2 with heap := h3, toks := tk } := by
    intro code h3 tk ps' hx hsz hP3 hmore ht3
    obtain ⟨more, em⟩ := hmore
    obtain ⟨bm, ob, e1, e2, e3, e4, e5, e6, e7, e8⟩ := TB.bm
    have I3 : Inv X pins σ (upd H2 P (.tbl (ps ++ more))) { s2 with heap := h3, toks := tk } :=
      inv_tab (more := more) (h' := h3) (g' := s2.gens) (d' := s2.drawn) (t' := tk) I2 hP (fun b u hb e => hx b u hb e) (by rw [← em]; exact hP3) I2.bare
    have hT : Tabbed P H2 (upd H2 P (.tbl (ps ++ more))) := ⟨⟨ps ++ more, upd_same, by rw [← em]; exact ht3⟩, fun b hb => upd_ne hb⟩
    generalize hH3 : upd H2 P (.tbl (ps ++ more)) = H3 at I3 hT
    have kj := q H3 hT
    have fP : ∀ b ∈ fp, b ≠ P := fun b hb z => by
      have := (f2 b hb).1
      rw [z, hP] at this
      cases this
    have f3 : ∀ b ∈ fp, FpOk X pins H3 b ∧ b < h3.objs.size := fun b hb => ⟨⟨by rw [hT.2 b (fP b hb)]; exact (f2 b hb).1, (f2 b hb).2⟩, Nat.lt_of_lt_of_le (szf b hb) hsz⟩
    have st3 : tn 0 h3 := T.keep _ _ _ st2 fun b hb o e => hx b o (fP b hb) e
    refine wpAny_builtinsFor (m := X.mg) (by rw [I3.ok.glob]; exact I3.mod.glob.keeps I3.bk) e1 e2 (I3.bk _ _ e5) e6 e7 e8 ?_
    intro h' hns hsb
    generalize hs3 : ({ s2 with heap := h3, toks := tk } : Shared) = s3 at I3 hns hsb ⊢
    have hh3 : s3.heap = h3 := by rw [← hs3]
    have hsz' : h'.objs.size = s3.heap.objs.size + 1 := by rw [hsb.1, Heap.size_push]
    have keep' : ∀ b o, s3.heap.get? b = some o → h'.get? b = some o := fun b o e => hsb.extBut b o (Nat.ne_of_lt (Heap.lt_size e)) (Heap.get?_push_of_some _ e)
    generalize hgo : ({ cls := .type "generator", data := .fields #[.int s3.gens.size 0, .str "<genexpr>" (s3.toks + 1), .str (X.env.qual ++ "<genexpr>") (s3.toks + 1 + 1)] } : Obj) = go
    have hpushed : (h'.push go).get? h'.objs.size = some go := by
      rw [← hgo]
      exact Heap.get?_push_size _ rfl
    have hgen : ∀ h : Heap, h.get? h'.objs.size = some go → h.IsGen h'.objs.size s3.gens.size := fun h e => ⟨go, _, _, e, by rw [← hgo], by rw [← hgo], by rw [← hgo]⟩
    have kp : ∀ b o, s3.heap.get? b = some o → (h'.push go).get? b = some o := fun b o e => Heap.get?_push_of_some _ (keep' b o e)
    generalize hce : genEnv scope (cloFrom X.env.cells scope.names []) s3.heap.objs.size code builtinsNs X.env = ce
    have room' : Room k (B.over (.compLoop (.GeneratorExp elt [⟨tg, iter, ifs, 0⟩] scope gpos) 0 (.ref it) .none ce) []) := hB3 _ _
    have hbare : AllBare (s3.gens.push (.fresh (.compStart (.GeneratorExp elt [⟨tg, iter, ifs, 0⟩] scope gpos) 0 (.ref it) .none ce))) := I3.bare.push rfl
    have I5 : Inv (gxCx X s3 H3 scope ce (B.over (.compLoop (.GeneratorExp elt [⟨tg, iter, ifs, 0⟩] scope gpos) 0 (.ref it) .none ce) []) fp [(h'.objs.size, go)]) [] (wipe σ (own.map (·.2))) H3
        { s3 with heap := h'.push go, gens := s3.gens.push (.fresh (.compStart (.GeneratorExp elt [⟨tg, iter, ifs, 0⟩] scope gpos) 0 (.ref it) .none ce)), toks := s3.toks + 1 + 1 + 1 } := by
      rw [← hce]
      refine gx_start I3 ok gk.cell hN (fun b hb => by rw [hh3]; exact f3 b hb) (Nat.le_refl _) (hns.push _) kp (by rw [hce]; exact hbare) hB1 ?_ fun p hp => ?_
      · rw [hce]
        show pushEnvs [ce] (pushEnvs [] B.frames) = _
        rw [hB2, I3.ok.frames]
        rfl
      · rw [List.mem_singleton.mp hp]
        refine ⟨hpushed, by show _ ≤ h'.objs.size; omega, by show h'.objs.size ≠ _; omega, fun v => by rw [← hgo]; intro z; cases z⟩
    have hA5 : ∀ b ∈ fp, ∀ p ∈ [(h'.objs.size, go)], p.1 ≠ b := fun b hb p hp => by
      rw [List.mem_singleton.mp hp]
      have h1 := (f3 b hb).2
      have h2 : s3.heap.objs.size = h3.objs.size := by rw [hh3]
      have h4 : s3.heap.objs.size ≤ h'.objs.size := by omega
      exact Nat.ne_of_gt (Nat.lt_of_lt_of_le h1 (by rw [← h2]; exact h4))
    have back : ∀ σ' H' s', Inv (gxCx X s3 H3 scope ce (B.over (.compLoop (.GeneratorExp elt [⟨tg, iter, ifs, 0⟩] scope gpos) 0 (.ref it) .none ce) []) fp [(h'.objs.size, go)]) [] σ' H' s' → Inv X pins σ H' s' := fun σ' H' s' I6 =>
      I3.call' (ch := fp) I6.os I6.base I6.hok I6.bare fun b hb => ⟨(f3 b hb).1.2.2.2.1, (f3 b hb).1.2.1, (f3 b hb).1.2.2.2.2.1, (f3 b hb).1.2.2.2.2.2⟩
    have genAt : ∀ σ H s, Inv (gxCx X s3 H3 scope ce (B.over (.compLoop (.GeneratorExp elt [⟨tg, iter, ifs, 0⟩] scope gpos) 0 (.ref it) .none ce) []) fp [(h'.objs.size, go)]) [] σ H s → s.heap.IsGen h'.objs.size s3.gens.size := fun σ H s I6 =>
      hgen _ (I6.pin (h'.objs.size, go) (by simp)).1
    refine hQ J H3 _ (gxCx X s3 H3 scope ce (B.over (.compLoop (.GeneratorExp elt [⟨tg, iter, ifs, 0⟩] scope gpos) 0 (.ref it) .none ce) []) fp [(h'.objs.size, go)]) it fp tn h'.objs.size s3.gens.size kj
      ⟨rfl, rfl, rfl, rfl, by rw [← hce]; exact gk.co, rfl, rfl, T, ?_, ?_, ?_, hA5, hbare, Array.getElem?_push_size .., genAt, ?_, I5, back, fun b hb => ⟨(f3 b hb).1.1, Nat.lt_of_lt_of_le (f3 b hb).2 ?_⟩, ?_⟩
    · rw [← hce]
      exact hgt _ _ _ _ _ _ _ _ (by rw [hce]; exact room')
    · rw [← hce]
      exact hts _ _ _ _ _ _ _ _ (by rw [hce]; exact room')
    · rw [← hce]
      exact he _ _ _ _ _ _ _ _ (by rw [hce]; exact room')
    · show h'.objs.size < (h'.push go).objs.size
      rw [Heap.size_push]
      exact Nat.lt_succ_self _
    · show h3.objs.size ≤ (h'.push go).objs.size
      rw [Heap.size_push, hsz', hh3]
      omega
    · exact T.keep _ _ _ st3 fun b _ o e => kp b o (by rw [hh3]; exact e)
  refine ⟨I2.nolimit, ?_⟩
  cases hf : codeAmong gpos ps.toList with
  | none =>
    refine wpAny_genexprCodeX hcode (cd.code hPs ht) (cd.tab hPs) hf fun c' h' tk hx hge hlt hco' _ htab' _ => ?_
    obtain ⟨o1, vs, f1, tf, fl, tg, inF, tx, tt, op, _, _, _, _, _, _, _, _, _, htr, _⟩ := hco'
    exact cont _ h' tk _ hx (Nat.le_trans hge (Nat.le_of_lt hlt)) htab'.2 ⟨_, rfl⟩ htr
  | some cv =>
    refine wpAny_genexprCode_hit hcode (cd.code hPs ht) hf ?_
    exact cont cv s2.heap s2.toks ps (Heap.ExtBut.refl _ _) (Nat.le_refl _) hPs ⟨#[], by simp⟩ ht
end

/-- the list takes what the generator gives, turn by turn -/
theorem ext_gx {X' : Cx} {A : Around} {σ0 : L2.St} {Qt : Hp → Prop} {a S : Addr} {g : Nat} {res : Value} {Rz : Result → Shared → Prop} (hh : A.handled = none) (hroom : A.depth < recursionLimit)
    (hgen : ∀ σ H s, Inv X' [] σ H s → s.heap.IsGen a g) (fin : ∀ H s, Inv X' [] σ0 H s → Qt H → Rz (.ok (.ret res)) s) :
    ∀ (n : Nat) (s : Shared), AllBare s.gens → GxAt X'.prog X'.w A.in1.in1 (gxEnd X' σ0 Qt) (goL X' σ0 S) a g n s → codeAny (model X'.prog X'.w) A (.builtin "list.extend.loop" ⟨[.ref S, .ref a, res], []⟩) Rz s := by
  intro n
  induction n with
  | zero =>
    intro s hb0 ⟨hg, hl, gs, hgs, hgo⟩
    have hsz : g + 1 ≤ s.gens.size := (Array.getElem?_eq_some_iff.mp hgs).1
    refine codeAny_builtin PySem.F.entry_extend_loop ?_
    rw [Around.under_plainId PySem.F.plain_extend_loop _]
    show wpAny _ A.in1 (pyNext (.ref a) >>= _) _ _ s
    refine wpAny_bind (GenW.wpAny_gsz hsz (wpAny_pyNext_genexpQ (A := A.in1) (P := fun n s₀ s₁ => ∃ H', Inv X' [] σ0 H' s₁ ∧ Qt H') hh hl hroom hg hgs hgo (fun v s₁ gs' hb hv => ?_) (fun s₁ hp h' hk => ?_)))
    · obtain ⟨y, H', acc, ry, I', hS, hz, hkap⟩ := hv
      obtain ⟨zz, its, nn, rr, hl2, e⟩ := I'.lstM hS
      intro _
      exact (hkap { s₁ with heap := s₁.heap.update S (Obj.mapSeq (·.push v)), toks := s₁.toks } (I'.lset (its' := its ++ [v]) hS e (by simp) (rr.append (.cons ry .nil)) (by rw [List.length_append, List.length_singleton]; omega)) fun b o hbS e2 => (Heap.get?_update_other _ _ (Ne.symm hbS)).trans e2).elim
    · obtain ⟨H', I', q⟩ := hp
      intro _
      exact wpAny_pure (fin H' _ ((inv_woke (s' := s₁.setGen g .finished) I' ⟨rfl, rfl, bare_set I'.bare rfl⟩).kept (t' := s₁.toks) hk) q)
  | succ n ih =>
    intro s hb0 ⟨hg, hl, gs, hgs, hgo⟩
    have hsz : g + 1 ≤ s.gens.size := (Array.getElem?_eq_some_iff.mp hgs).1
    refine codeAny_builtin PySem.F.entry_extend_loop ?_
    rw [Around.under_plainId PySem.F.plain_extend_loop _]
    show wpAny _ A.in1 (pyNext (.ref a) >>= _) _ _ s
    refine wpAny_bind (GenW.wpAny_gsz hsz (wpAny_pyNext_genexpQ (A := A.in1) (P := fun n s₀ s₁ => ∃ H', Inv X' [] σ0 H' s₁ ∧ Qt H') hh hl hroom hg hgs hgo (fun v s₁ gs' hb hv => ?_) (fun s₁ hp h' hk => ?_)))
    · obtain ⟨y, H', acc, ry, I', hS, hz, hkap⟩ := hv
      intro hsz1
      have hsz2 : g < s₁.gens.size := by
        have : (s₁.setGen g gs').gens.size = s₁.gens.size := GenW.setGen_size _ _ _
        omega
      have I2 := inv_woke (s' := s₁.setGen g gs') I' ⟨rfl, rfl, bare_set I'.bare hb⟩
      obtain ⟨zz, its, nn, rr, hl2, e⟩ := I2.lstM hS
      have hasz : its.toArray.size < sizeLine := by rw [List.size_toArray]; omega
      have I3 := I2.lset (t' := (s₁.setGen g gs').toks) (its' := its ++ [v]) (f := (·.push v)) hS e (by simp) (rr.append (.cons ry .nil)) (by rw [List.length_append, List.length_singleton]; omega)
      have keep3 : ∀ b o, b ≠ S → s₁.heap.get? b = some o → (s₁.heap.update S (Obj.mapSeq (·.push v))).get? b = some o := fun b o hbS e2 => (Heap.get?_update_other _ _ (Ne.symm hbS)).trans e2
      show wpAny _ A.in1 (updateSeq S (·.push v) >>= _) _ _ _
      refine wpAny_bind (wpAny_updateSeq e rfl (wpAny_pure ⟨plainId_quiet PySem.F.plain_extend_loop _, ?_⟩) (Nat.le_of_lt hasz) (by show (its.toArray.push v).size ≤ sizeLine + 1; rw [Array.size_push]; omega))
      refine ih _ I3.bare ⟨hgen _ _ _ I3, I3.nolimit, gs', setGen_at hsz2, ?_⟩
      exact hkap _ (inv_woke I3 ⟨rfl, rfl, bare_set I3.bare rfl⟩) keep3
    · obtain ⟨H', I', q⟩ := hp
      intro _
      exact wpAny_pure (fin H' _ ((inv_woke (s' := s₁.setGen g .finished) I' ⟨rfl, rfl, bare_set I'.bare rfl⟩).kept (t' := s₁.toks) hk) q)

section
variable {X : Cx} {pins : List (Addr × Obj)} {σ : L2.St} {elt tg iter : Expr} {ifs : List Expr} {scope : Scope} {pos : Pos} {own : List (Str × Nat)} {g : TG} {tt : TT} {te : TE} {J : It} {H3 : Hp} {s5 : Shared} {X' : Cx} {it : Addr} {fp : List Addr} {tn : Nat → Heap → Prop} {a : Addr} {gi : Nat} {A : Around} {E : Value → Shared → Prop}
/-- what the list's turns must show -/
def GlFill (X' : Cx) (σ0 : L2.St) (vs : List Nat) (J : It) (g : TG) (tt : TT) (te : TE) (H3 : Hp) (Q : List Value → Shared → Prop) : Prop :=
  ∀ S, H3 S = none → ∃ Qt W m, glTurns S J g tt te σ0 vs Qt W ∧ W 0 m (upd H3 S (.lst [])) ∧ ∀ H' s', Inv X' [] σ0 H' s' → Qt H' → ∃ ys, H' S = some (.lst ys) ∧ ∀ items, Vals ys items → Q items s'
theorem GlFill.mono {σ0 : L2.St} {vs : List Nat} {Q Q' : List Value → Shared → Prop} (h : GlFill X' σ0 vs J g tt te H3 Q) (k : ∀ items s, Q items s → Q' items s) : GlFill X' σ0 vs J g tt te H3 Q' := fun S hS => by
  obtain ⟨Qt, W, m, a1, a2, a3⟩ := h S hS
  exact ⟨Qt, W, m, a1, a2, fun H' s' I' q => by
    obtain ⟨ys, b1, b2⟩ := a3 H' s' I' q
    exact ⟨ys, b1, fun items v => k _ _ (b2 items v)⟩⟩
theorem collect_gx {Q : List Value → Shared → Prop} (M : GxMade X A.in1.in1 pins σ elt tg iter ifs scope pos own g tt te J H3 s5 X' it fp tn a gi) (hh : A.handled = none) (hroom : A.depth < recursionLimit)
    (hf : GlFill X' (wipe σ (own.map (·.2))) (own.map (·.2)) J g tt te H3 Q) : wpAny (model X'.prog X'.w) A (collect (.ref a)) Q E s5 := by
  have hSf : s5.heap.objs.size ∉ fp := fun hm => Nat.lt_irrefl _ (M.free _ hm).2
  have hSa : s5.heap.objs.size ≠ a := Nat.ne_of_gt M.lt
  have hSH : H3 s5.heap.objs.size = none := M.inv.fresh
  obtain ⟨Qt, W, m, turn, w0, fin⟩ := hf _ hSH
  have I1 := M.inv.lnew (t' := s5.toks) (ys := []) (its := []) .nil (Nat.zero_le _)
  have e1 : (s5.heap.push { cls := .type "list", data := .seq ([] : List Value).toArray }).get? s5.heap.objs.size = some { cls := .type "list", data := .seq ([] : List Value).toArray } := Heap.get?_push_size _ rfl
  have I2 := I1.lset (t' := s5.toks) (l := s5.heap.objs.size) (ys := [.non]) (its' := [Value.none]) (f := (·.push Value.none)) upd_same e1 rfl (.cons rfl .nil) (by decide)
  have e2 := Heap.get?_update_self (Obj.mapSeq (·.push Value.none)) e1 rfl
  have I3 := I2.lset (t' := s5.toks) (l := s5.heap.objs.size) (ys := []) (its := [Value.none]) (its' := []) (f := (·.pop)) upd_same e2 rfl .nil (Nat.zero_le _)
  rw [upd_upd, upd_upd] at I3
  have oth : ∀ b o, b ≠ s5.heap.objs.size → s5.heap.get? b = some o → (((s5.heap.push { cls := .type "list", data := .seq ([] : List Value).toArray }).update s5.heap.objs.size (Obj.mapSeq (·.push Value.none))).update s5.heap.objs.size (Obj.mapSeq (·.pop))).get? b = some o :=
    fun b o hb e => (Heap.get?_update_other _ _ (Ne.symm hb)).trans ((Heap.get?_update_other _ _ (Ne.symm hb)).trans (Heap.get?_push_of_some _ e))
  have hgt := fun H' s' (I' : Inv X' [] (wipe σ (own.map (·.2))) H' s') => Heap.IsGen.typeIs (M.gen _ _ _ I')
  unfold collect
  refine wpAny_bind (wpAny_runValue (codeAny_builtin PySem.F.entry_proto_collect ?_))
  rw [Around.under_plainId PySem.F.plain_proto_collect _]
  show wpAny _ A.in1 (newList [] >>= fun l => again (.builtin "list.__iadd__" ⟨[l, .ref a], []⟩)) _ _ s5
  refine wpAny_bind (wpAny_newObj_type ?_)
  refine wpAny_pure ⟨plainId_quiet PySem.F.plain_list_iadd _, codeAny_builtin PySem.F.entry_list_iadd ?_⟩
  rw [Around.under_plainId PySem.F.plain_list_iadd _]
  show wpAny _ A.in1 (Builtin.List.listExtendWith (.ref s5.heap.objs.size) (.ref a) (.ref s5.heap.objs.size)) _ _ _
  unfold Builtin.List.listExtendWith
  refine wpAny_bind (wpAny_typeOf (hgt _ _ I1) ?_)
  have n1 : Builtin.List.listSameRef (.ref s5.heap.objs.size) (.ref a) = false := by simp [Builtin.List.listSameRef, hSa]
  have n2 : (Value.type "generator" == Value.type "list") = false := by decide
  have n3 : (Value.type "generator" == Value.type "tuple") = false := by decide
  simp only [n1, n2, n3, Bool.or_false, Bool.false_eq_true, if_false]
  refine wpAny_bind (wpAny_pyIter_gen (M.gen _ _ _ I1) ?_)
  refine wpAny_bind (wpAny_holding ?_)
  unfold Builtin.List.listLengthHint
  refine wpAny_bind (wpAny_specialOf (hgt _ _ I1) PySem.F.gen_no_len ?_)
  show wpAny _ A.in1 (specialOf (Value.ref a) (Str.ofString "__length_hint__") >>= _) _ _ _
  refine wpAny_bind (wpAny_specialOf (hgt _ _ I1) PySem.F.gen_no_hint ?_)
  refine wpAny_pure ?_
  show wpAny _ A.in1 (rule "list.extend.makes-room" >>= fun _ => Builtin.List.listTouch (.ref s5.heap.objs.size) >>= fun _ => again (.builtin "list.extend.loop" ⟨[.ref s5.heap.objs.size, .ref a, .ref s5.heap.objs.size], []⟩)) _ _ _
  refine wpAny_bind (wpAny_rule (wpAny_bind ?_))
  show wpAny _ A.in1 (updateSeq s5.heap.objs.size (·.push .none) >>= fun _ => updateSeq s5.heap.objs.size (·.pop)) _ _ _
  refine wpAny_bind (wpAny_updateSeq e1 rfl ?_)
  refine wpAny_updateSeq e2 rfl ?_
  refine wpAny_pure ⟨plainId_quiet PySem.F.plain_extend_loop _, ?_⟩
  refine ext_gx hh hroom M.gen (fun H' s' I' qt => ?_) (m + 1) _ I3.bare (M.at hSf I3 rfl (fun b hb o e => oth b o (fun z => hSf (by rw [← z]; exact hb)) e) (fun b hb => ?_) turn w0)
  · obtain ⟨ys, hS, q⟩ := fin H' s' I' qt
    obtain ⟨zz, its, nn, rr, hl2, e⟩ := I'.lstM hS
    show wpAny _ A (load s5.heap.objs.size >>= _) _ _ s'
    refine wpAny_bind (wpAny_load e ?_)
    exact wpAny_pure (q its rr)
  · have ne : b ≠ s5.heap.objs.size := fun z => hSf (by rw [← z]; exact hb)
    rw [upd_ne ne]
    exact (M.free b hb).1
end

section
variable {X : Cx} {pins : List (Addr × Obj)} {σ : L2.St} {elt tg iter : Expr} {ifs : List Expr} {scope : Scope} {pos : Pos} {own : List (Str × Nat)} {g : TG} {tt : TT} {te : TE} {J : It} {H3 : Hp} {s5 : Shared} {X' : Cx} {it : Addr} {fp : List Addr} {tn : Nat → Heap → Prop} {a : Addr} {gi : Nat} {A : Around} {E : Value → Shared → Prop}
open AutoSeq1 (wpAny_loadPart') in
/-- tuple(generator) -/
theorem call_tuple_gx {Q : Value → Shared → Prop} (M : GxMade X A.in1.in1.in1.in1 pins σ elt tg iter ifs scope pos own g tt te J H3 s5 X' it fp tn a gi) (hh : A.handled = none) (hroom : A.depth < recursionLimit)
    (hf : GlFill X' (wipe σ (own.map (·.2))) (own.map (·.2)) J g tt te H3 fun items s' => items.length ≤ sizeLine ∧ Q (.ref s'.heap.objs.size) { s' with heap := s'.heap.push { cls := .type "tuple", data := .seq items.toArray } }) :
    wpAny (model X'.prog X'.w) A (call (.type "tuple") [.ref a]) Q E s5 := by
  have hTI := Heap.IsGen.typeIs (M.gen _ _ _ M.inv)
  refine callType_codes (Q₁ := fun obj s₁ => s₁.TypeIs obj "tuple" ∧ Q obj s₁) PySem.F.called_tuple (PySem.F.typeCall_tuple_1 _) PySem.F.entry_object_init ?_ fun obj s₁ h₁ =>
    ⟨h₁.1, PySem.F.args_object_init_2 obj _, object_init_meets PySem.F.called_tuple.init.lookup PySem.F.called_tuple.made (by decide) X'.prog X'.w A.in1 _ s₁ ⟨h₁.1, rfl, h₁.2⟩⟩
  refine codeAny_of_tree ?_
  show wpAny _ A.in1.in1 (do checkBuiltinCall "tuple.__new__" ⟨[.type "tuple", .ref a], []⟩; again (.builtin "tuple.__new__" ⟨[.type "tuple", .ref a], []⟩)) _ _ s5
  refine wpAny_bind (wpAny_of_eq (PySem.F.newCall_tuple_1 _) (wpAny_pure ⟨plainId_quiet PySem.F.plain_tuple_new _, codeAny_builtin PySem.F.entry_tuple_new ?_⟩))
  rw [Around.under_plainId PySem.F.plain_tuple_new _]
  have hsub := sub_tuple_self
  have hinit := init_tuple_lookup
  have hmh := madeHere_tuple
  wp_walk using wpAny_typeOf hTI, collect_gx (A := A.in1.in1) M hh hroom
  refine hf.mono fun items s' ⟨hz, hq⟩ => ?_
  show wpAny _ _ (Builtin.Tuple.tupleExact items.toArray >>= fun v => ret v) _ _ _
  unfold Builtin.Tuple.tupleExact
  refine wpAny_bind (wpAny_newObj_type ?_ (by show items.toArray.size ≤ sizeLine; rw [List.size_toArray]; exact hz))
  exact wpAny_pure ⟨⟨_, Heap.get?_push_size _ rfl, rfl⟩, hq⟩
end

/-- tuple(elt for tg in iter if ..) -/
def tTupG (P : Addr) (wi : TI) (g : TG) (tt : TT) (te : TE) (vs : List Nat) : TE := fun σ H Q => wi σ H fun J H1 => TabG H1 P ∧ ∀ H2, Tabbed P H1 H2 → ∀ S, H2 S = none → ∃ W : Nat → Nat → Hp → Prop, (∃ m, W 0 m (upd H2 S (.lst []))) ∧
  glTurns S J g tt te (wipe σ vs) vs (fun H' => ∃ ys, H' S = some (.lst ys) ∧ ys.length ≤ sizeLine ∧ ∀ T, H' T = none → Q (.ref T) (upd H' T (.tup ys))) W
section
variable {X : Cx}
theorem pe_tupG {c P : Addr} {elt tg iter : Expr} {ifs : List Expr} {p pos gpos : Pos} {scope : Scope} {own : List (Str × Nat)} {wi : TI} {g : TG} {tt : TT} {te : TE} {k : Nat}
    (hr : Room (k + 1) X.A) (hg : Gl X "tuple") (hm : X.mg "tuple" = none) (hb : bootBuiltins "tuple" = some (.type "tuple")) (TB : TabB X.base X.mg c P) (hcode : X.env.code = .ref c) (hN : X.N.Nodup) (ok : BlkOk X.N X.env.scope scope own) (gk : GxOk scope) (hi : PI X tg iter wi)
    (hgt : ∀ (s : Shared) (H : Hp) (cl : List (Str × Addr)) (C : Addr) (code : Value) (A' : Around) (fp : List Addr) (pn : List (Addr × Obj)), Room k A' → PG (gxCx X s H scope (genEnv scope cl C code builtinsNs X.env) A' fp pn) tg g)
    (hts : ∀ (s : Shared) (H : Hp) (cl : List (Str × Addr)) (C : Addr) (code : Value) (A' : Around) (fp : List Addr) (pn : List (Addr × Obj)), Room k A' → PTs (gxCx X s H scope (genEnv scope cl C code builtinsNs X.env) A' fp pn) ifs tt)
    (he : ∀ (s : Shared) (H : Hp) (cl : List (Str × Addr)) (C : Addr) (code : Value) (A' : Around) (fp : List Addr) (pn : List (Addr × Obj)), Room k A' → PE (gxCx X s H scope (genEnv scope cl C code builtinsNs X.env) A' fp pn) elt te)
    (hs : ∀ v, genFold iter X.env v = pure v)
    (hse : starEach [.GeneratorExp elt [⟨tg, iter, ifs, 0⟩] scope gpos] X.env = (false, eval (.GeneratorExp elt [⟨tg, iter, ifs, 0⟩] scope gpos) X.env) :: starEach [] X.env := by rfl) :
    PE X (.Call (.Name "tuple" p) [.GeneratorExp elt [⟨tg, iter, ifs, 0⟩] scope gpos] [] pos) (tTupG P wi g tt te (own.map (·.2))) := by
  refine ⟨fun pins s σ H Q I h => ?_⟩
  refine wpAny_Call_Name_kw (ld_blt I hg hm hb ?_)
  refine PyProof.Rows.callWith_type1 ?_ hse (by rfl)
  rw [hse]
  show wpAny _ _ (spliced ((false, eval (.GeneratorExp elt [⟨tg, iter, ifs, 0⟩] scope gpos) X.env) :: backTo pos (starEach [] X.env))) _ _ s
  refine Calls.spliced_cons (gx_makes (own := own) (B := X.A.in1.in1.in1.in1) (KJ := fun J H2 => ∀ S, H2 S = none → ∃ W : Nat → Nat → Hp → Prop, (∃ m, W 0 m (upd H2 S (.lst []))) ∧
    glTurns S J g tt te (wipe σ (own.map fun y : Str × Nat => y.2)) (own.map fun y : Str × Nat => y.2) (fun H' => ∃ ys, H' S = some (.lst ys) ∧ ys.length ≤ sizeLine ∧ ∀ T, H' T = none → Q (.ref T) (upd H' T (.tup ys))) W) hr hr.hd rfl (fun _ _ => ?_) TB hcode hN ok gk hi hgt hts he hs I h fun J H3 s5 X' it fp tn a gi kj M => ?_)
  · exact ⟨hr.hd, by have := hr.dp; show X.A.depth + 0 + 1 + 3 * k + 5 < _; omega, by have := hr.un; show X.A.units + 1 + 1 + 1 + 1 + 0 + 3 + 16 * k + 200 < _; omega⟩
  · refine Calls.spliced_nil ?_
    rw [← M.prog, ← M.w]
    refine call_tuple_gx M hr.hd (by have := hr.dp; omega) fun S hS => ?_
    obtain ⟨W, ⟨m, w0⟩, turn⟩ := kj S hS
    refine ⟨_, W, m, turn, w0, fun H' s' I' ⟨ys, hys, hz, q⟩ => ⟨ys, hys, fun items hv => ⟨by rw [← hv.length]; exact hz, ?_⟩⟩⟩
    have I5 := M.back _ _ _ I'
    exact ⟨.ref s'.heap.objs.size, _, I5.laid (t' := s'.toks) (o := .tup ys) (fun b ob z => Heap.get?_push_of_some _ z) (Nat.le_refl _) ⟨hz, _, hv, IsTup.new _ _⟩, rfl, q _ (I5.hok.fresh (Nat.le_refl _))⟩
end
end Ow

set_option Elab.async false
set_option linter.all false
set_option maxRecDepth 100000
set_option maxHeartbeats 4000000
namespace Ow
open PySem PySem.Spec PyProof.Rows L2 GxR

/-! ### a generator expression whose values are folded into a list at S: sum(..) -/
def Bf (S : Addr) (s : Shared) (acc : List V) : Prop := ∃ (its : List Value) (n : Nat), s.heap.get? S = some { cls := .type "list", data := .seq its.toArray n } ∧ Vals acc its
def goF (X' : Cx) (σ0 : L2.St) (S : Addr) (stp : List V → V → List V → Prop) : Protocol := fun n s₀ v s kap => ∃ (y : V) (H' : Hp) (acc acc' : List V), RelV y v ∧ Inv X' [] σ0 H' s ∧ H' S = some (.lst acc) ∧ Bf S s₀ acc ∧ stp acc y acc' ∧
  ∀ s', Inv X' [] σ0 (upd H' S (.lst acc')) s' → (∀ b o, b ≠ S → s.heap.get? b = some o → s'.heap.get? b = some o) → kap (.send .none) s'
def gfEnd (X' : Cx) (σ0 : L2.St) (S : Addr) (Qt : Hp → Prop) : GenEnd := fun n s₀ r s₁ => r = .ok .next ∧ ∃ H' acc, Inv X' [] σ0 H' s₁ ∧ Qt H' ∧ H' S = some (.lst acc) ∧ Bf S s₀ acc
def gfTurns (S : Addr) (stp : List V → V → List V → Prop) (J : It) (g : TG) (tt : TT) (te : TE) (σ0 : L2.St) (vs : List Nat) (Qt : Hp → Prop) (W : Nat → Nat → Hp → Prop) : Prop := ∀ i m H, W i m H → ∃ acc, H S = some (.lst acc) ∧
  ((J.stop i H ∧ Qt H) ∨ (J.go i H ∧ ∃ Nx : Hp → Prop, (∀ H', Nx H' → ∃ m', m' < m ∧ W (i + 1) m' H') ∧ ∀ x H', J.yld i H x H' → g x σ0 H' fun σ2 H2 => wipe σ2 vs = σ0 ∧
    tt σ2 H2 fun b H3 => if b = true then te σ2 H3 fun y H4 => ∃ acc', H4 S = some (.lst acc) ∧ stp acc y acc' ∧ Nx (upd H4 S (.lst acc')) else H3 S = some (.lst acc) ∧ Nx H3))

section
variable {X' : Cx} {A : Around} {elt tg iter : Expr} {ifs : List Expr} {scope : Scope} {pos : Pos} {it : Addr} {J : It} {fp : List Addr} {tn : Nat → Heap → Prop} {σ0 : L2.St} {vs : List Nat} {g : TG} {tt : TT} {te : TE} {Qt : Hp → Prop} {S : Addr} {stp : List V → V → List V → Prop} {W : Nat → Nat → Hp → Prop}
theorem bf_of {pins : List (Addr × Obj)} {σ : L2.St} {H : Hp} {s : Shared} {acc : List V} (I : Inv X' pins σ H s) (h : H S = some (.lst acc)) : Bf S s acc := by
  obtain ⟨_, its, n, r, _, e⟩ := I.lstM h
  exact ⟨its, n, e, r⟩
theorem seg_gf (hA : X'.A = A.over (.compLoop (.GeneratorExp elt [⟨tg, iter, ifs, 0⟩] scope pos) 0 (.ref it) .none X'.env) []) (hc : X'.calm = true) (hco : X'.env.scope.isCoroutine = false) (hxe : X'.xe = fun _ _ => False) (hex : X'.ex = fp)
    (T : Turn X'.prog X'.w X'.K tg J fp it tn) (hg : PG X' tg g) (he : PE X' elt te) (hpn : ∀ b ∈ fp, ∀ p ∈ X'.pn, p.1 ≠ b) (hw : ∀ σ2 : L2.St, wipe σ2 vs = σ0 → ∀ (j : Nat) v, σ0[j]? = some (some v) → σ2[j]? = some (some v))
    (hts : PTs X' ifs tt) (hSf : S ∉ fp) (turn : gfTurns S stp J g tt te σ0 vs Qt W) :
    ∀ (m n i : Nat) (s₀ s : Shared) (H : Hp), m < n → Inv X' [] σ0 H s → tn i s.heap → (∀ b ∈ fp, H b = none) → W i m H → (∀ acc, H S = some (.lst acc) → Bf S s₀ acc) →
      Seg (model X'.prog X'.w) A (gfEnd X' σ0 S Qt) (goF X' σ0 S stp) n s₀ (.compLoop (.GeneratorExp elt [⟨tg, iter, ifs, 0⟩] scope pos) 0 (.ref it) .none X'.env)
        ((model X'.prog X'.w).den (.compLoop (.GeneratorExp elt [⟨tg, iter, ifs, 0⟩] scope pos) 0 (.ref it) .none X'.env)) [] s := by
  have stat : ∀ {σ' : L2.St} {H' : Hp} {s' : Shared}, Inv X' [] σ' H' s' → (∀ b ∈ fp, H' b = none) → ∀ b ∈ fp, FpOk X' [] H' b := fun {σ' H' s'} I' hn b hb =>
    ⟨hn b hb, (I'.ok.exf b (by rw [hex]; exact hb)).1, I'.ok.exfs b (by rw [hex]; exact hb), .inl (by rw [hex]; exact hb), fun x c e => (I'.ok.exf b (by rw [hex]; exact hb)).2 x c e, fun p hp => hpn b hb p (by simpa using hp)⟩
  intro m
  induction m using Nat.strongRecOn with
  | ind m ih =>
    intro n i s₀ s H hmn I st nf w hbf
    show Seg _ A _ _ _ s₀ _ ((compTurn (.GeneratorExp elt [⟨tg, iter, ifs, 0⟩] scope pos) 0 (.ref it) .none X'.env).onRaise (leaving X'.env)) [] s
    rw [compTurn_gen, Sem.onRaise_eq_wrap]
    refine seg_bind_wrap (wpAny_standAt ?_)
    obtain ⟨acc, hacc0, hor⟩ := turn i m H w
    have hb0 := hbf acc hacc0
    rcases hor with ⟨stop, qt⟩ | ⟨go, Nx, hNx, step⟩
    · refine seg_bind_wrap ?_
      rw [← hA]
      refine thnF (T.done X' rfl rfl rfl hc i [] s _ H (fun _ _ => False) I (stat I nf) st stop) fun r s1 ⟨hr, I1⟩ => ?_
      subst hr
      exact seg_end (.ok .next) ⟨rfl, H, acc, I1, qt, hacc0, hb0⟩
    · refine seg_bind_wrap ?_
      rw [← hA]
      refine thnF (T.item X' rfl rfl rfl hc i [] s _ H (fun _ _ => False) I (stat I nf) st go) fun r s1 ⟨u, hr, h1⟩ => ?_
      subst hr
      refine seg_bind_wrap ?_
      rw [← hA]
      refine thnF h1 fun _ s2 ⟨x, H2, I2, r2, y2, st2, nf2⟩ => ?_
      have I2' := I2.pinned (stat I2 nf2) (T.obj _ _ st2)
      refine seg_bind_wrap ?_
      rw [← hA]
      have pgr := hg.run _ s2 _ H2 x u _ I2' r2 (step x H2 y2)
      rw [hxe] at pgr
      refine thnF pgr fun _ s3 ⟨σ3, H3, I3, hw3, q3⟩ => ?_
      refine seg_bind_wrap ?_
      rw [← hA]
      have ptr := hts.run _ s3 σ3 H3 _ I3 q3
      rw [hxe] at ptr
      have hl : σ0.length = σ3.length := by rw [← hw3, wipe_length]
      have pin2 : ∀ {H4 : Hp} {s4 : Shared}, Inv X' ([] ++ pinsAt fp s2.heap) σ3 H4 s4 → ∀ c ∈ fp, ∀ o, s2.heap.get? c = some o → s4.heap.get? c = some o ∧ H4 c = none := fun I4 c hb o e =>
        let z := I4.pin (c, o) (List.mem_append_right _ (List.mem_append_right _ (mem_pinsAt hb e)))
        ⟨z.1, z.2.1⟩
      have goes : ∀ {H4 : Hp} {s4 : Shared}, Inv X' ([] ++ pinsAt fp s2.heap) σ3 H4 s4 → Inv X' [] σ0 H4 s4 ∧ tn (i + 1) s4.heap ∧ ∀ c ∈ fp, H4 c = none := fun I4 =>
        ⟨(I4.unpinned (pins := [])).weak hl (hw σ3 hw3), T.keep _ _ _ st2 fun c hb o e => (pin2 I4 c hb o e).1, fun c hb => by
          obtain ⟨o, e, _⟩ := T.obj _ _ st2 c hb
          exact (pin2 I4 c hb o e).2⟩
      refine thnF ptr fun ok s4 ⟨H4, I4, hk⟩ => ?_
      cases ok with
      | false =>
        rw [if_neg Bool.false_ne_true] at hk
        simp only [Bool.false_eq_true, if_false]
        obtain ⟨I5, st5, nf5⟩ := goes I4
        obtain ⟨hk0, hk⟩ := hk
        obtain ⟨m', hm', w'⟩ := hNx H4 hk
        have hbf4 : ∀ acc2, H4 S = some (.lst acc2) → Bf S s₀ acc2 := fun acc2 z => by rw [hk0] at z; cases z; exact hb0
        first
          | exact seg_again rfl (ih m' hm' n (i + 1) s₀ s4 H4 (by omega) I5 st5 nf5 w' hbf4)
          | exact seg_wrap (wpAny_pure (seg_again rfl (ih m' hm' n (i + 1) s₀ s4 H4 (by omega) I5 st5 nf5 w' hbf4)))
          | (refine seg_bind_wrap (wpAny_pure ?_); exact seg_again rfl (ih m' hm' n (i + 1) s₀ s4 H4 (by omega) I5 st5 nf5 w' hbf4))
      | true =>
        rw [if_pos rfl] at hk
        simp only [if_true]
        have hy : ∀ v, yieldOut X'.env v = yieldValue v := fun v => by simp only [yieldOut, hco, Bool.false_eq_true, if_false]
        simp only [hy]
        rw [Sem.bind_eq_wrap', Sem.bind_eq_wrap', Sem.wrap_wrap, Sem.wrap_wrap]
        refine seg_wrap ?_
        rw [← hA]
        have per := he.run _ s4 σ3 H4 _ I4 hk
        rw [hxe] at per
        refine thnF per fun v s5 ⟨y, H5, I5, r5, acc', hacc, hz, hN⟩ => ?_
        obtain ⟨I6, st6, nf6⟩ := goes I5
        have hn : ∃ n', n = n' + 1 := ⟨n - 1, by omega⟩
        obtain ⟨n', rfl⟩ := hn
        refine seg_at (seg_yield rfl rfl rfl ⟨y, H5, acc, acc', r5, I6, hacc, hb0, hz, fun s' I7 kp => ?_⟩)
        obtain ⟨m', hm', w'⟩ := hNx _ hN
        refine seg_again rfl (ih m' hm' n' (i + 1) s' s' _ (by omega) I7 (T.keep _ _ _ st6 fun c hb o e => kp c o (fun z => hSf (z ▸ hb)) e) (fun c hb => ?_) w' fun acc2 z => bf_of I7 z)
        have ne : c ≠ S := fun z => hSf (by rw [← z]; exact hb)
        rw [upd_ne ne]
        exact nf6 c hb

theorem seg_gfStart (hA : X'.A = A.over (.compLoop (.GeneratorExp elt [⟨tg, iter, ifs, 0⟩] scope pos) 0 (.ref it) .none X'.env) []) (hc : X'.calm = true) (hco : X'.env.scope.isCoroutine = false) (hxe : X'.xe = fun _ _ => False) (hex : X'.ex = fp)
    (T : Turn X'.prog X'.w X'.K tg J fp it tn) (hg : PG X' tg g) (he : PE X' elt te) (hpn : ∀ b ∈ fp, ∀ p ∈ X'.pn, p.1 ≠ b) (hw : ∀ σ2 : L2.St, wipe σ2 vs = σ0 → ∀ (j : Nat) v, σ0[j]? = some (some v) → σ2[j]? = some (some v))
    (hts : PTs X' ifs tt) (hSf : S ∉ fp) (turn : gfTurns S stp J g tt te σ0 vs Qt W) (m n : Nat) (s₀ s : Shared) (H : Hp) (hmn : m < n) (I : Inv X' [] σ0 H s) (st : tn 0 s.heap) (nf : ∀ b ∈ fp, H b = none) (w : W 0 m H) (hbf : ∀ acc, H S = some (.lst acc) → Bf S s₀ acc) :
    Seg (model X'.prog X'.w) A (gfEnd X' σ0 S Qt) (goF X' σ0 S stp) n s₀ (.compStart (.GeneratorExp elt [⟨tg, iter, ifs, 0⟩] scope pos) 0 (.ref it) .none X'.env)
        ((model X'.prog X'.w).den (.compStart (.GeneratorExp elt [⟨tg, iter, ifs, 0⟩] scope pos) 0 (.ref it) .none X'.env)) [] s := by
  have loop := seg_gf (A := A) (iter := iter) (scope := scope) (pos := pos) hA hc hco hxe hex T hg he hpn hw hts hSf turn m n 0 s₀ s H hmn I st nf w hbf
  show Seg _ A _ _ _ s₀ _ ((compStart (.GeneratorExp elt [⟨tg, iter, ifs, 0⟩] scope pos) 0 (.ref it) .none X'.env).onRaise (leaving X'.env)) [] s
  unfold compStart
  rw [Sem.onRaise_eq_wrap]
  show Seg _ A _ _ _ s₀ _ ((ask >>= _).wrap _ _ _ _) [] s
  refine seg_bind_wrap (wpAny_askSetting ?_)
  split
  · exact seg_again rfl loop
  · first
      | exact seg_bind_wrap (wpAny_rule (seg_bind_wrap (wpAny_standAt (seg_bind_wrap (T.self _ 0 s _ _ st (seg_again rfl loop))))))
      | (refine seg_bind_wrap (wpAny_rule ?_); show Seg _ A _ _ _ s₀ _ ((standAt iter.pos >>= _).wrap _ _ _ _) [] s; exact seg_bind_wrap (wpAny_standAt (seg_bind_wrap (T.self _ 0 s _ _ st (seg_again rfl loop)))))
end

section
variable {X : Cx} {pins : List (Addr × Obj)} {σ : L2.St}
theorem GxMade.atF {B : Around} {elt tg iter : Expr} {ifs : List Expr} {scope : Scope} {pos : Pos} {own : List (Str × Nat)} {g : TG} {tt : TT} {te : TE} {J : It} {H3 H6 : Hp} {s5 s6 : Shared} {X' : Cx} {it : Addr} {fp : List Addr} {tn : Nat → Heap → Prop} {a : Addr} {gi : Nat} {S : Addr} {stp : List V → V → List V → Prop} {Qt : Hp → Prop} {W : Nat → Nat → Hp → Prop} {m : Nat}
    (M : GxMade X B pins σ elt tg iter ifs scope pos own g tt te J H3 s5 X' it fp tn a gi) (hS : S ∉ fp) (I6 : Inv X' [] (wipe σ (own.map (·.2))) H6 s6) (hg : s6.gens = s5.gens) (kp : ∀ b ∈ fp, ∀ o, s5.heap.get? b = some o → s6.heap.get? b = some o) (nf : ∀ b ∈ fp, H6 b = none)
    (turn : gfTurns S stp J g tt te (wipe σ (own.map (·.2))) (own.map (·.2)) Qt W) (w : W 0 m H6) : GxAt X'.prog X'.w B (gfEnd X' (wipe σ (own.map (·.2))) S Qt) (goF X' (wipe σ (own.map (·.2))) S stp) a gi (m + 1) s6 := by
  refine ⟨M.gen _ _ _ I6, I6.nolimit, .fresh _, by rw [hg]; exact M.gens, rfl, ?_⟩
  refine seg_gfStart (W := W) M.hA M.calm M.co M.xe M.ex M.T M.hg M.he M.pn (fun σ2 e j v z => by rw [← e] at z; exact (wipe_some z).1) M.hts hS turn m (m + 1) _ _ H6 (Nat.lt_succ_self _) (inv_woke I6 ⟨rfl, rfl, bare_set I6.bare rfl⟩) ?_ nf w fun acc z => bf_of (inv_woke (s' := s6.setGen gi .running) I6 ⟨rfl, rfl, bare_set I6.bare rfl⟩) z
  exact M.T.keep _ _ _ M.st fun b hb o e => kp b hb o e
end

/-- a sum's step -/
def sumStp : List V → V → List V → Prop := fun acc y acc' => ∃ t i : Int, acc = [.int t] ∧ y = .int i ∧ acc' = [.int (t + i)]
theorem bf_int {S : Addr} {s : Shared} {t : Int} (h : Bf S s [.int t]) : ∃ tk n, s.heap.get? S = some { cls := .type "list", data := .seq #[.int t tk] n } := by
  obtain ⟨its, n, e, r⟩ := h
  cases r with
  | cons h1 h2 =>
    cases h2
    obtain ⟨tk, rfl⟩ := h1
    exact ⟨tk, n, e⟩
theorem bf_is {S : Addr} {s : Shared} {acc : List V} {t : Int} {tA : Tok} {c : Nat} (h1 : s.heap.get? S = some { cls := .type "list", data := .seq #[.int t tA] c }) (h2 : Bf S s acc) : acc = [.int t] := by
  obtain ⟨its, n, e, r⟩ := h2
  rw [h1] at e
  have e' : #[Value.int t tA] = its.toArray := by simpa using congrArg (fun o => o.map fun x : Obj => x.data) e |> fun z => (by simpa using z : #[Value.int t tA] = its.toArray ∧ c = n).1
  have e2 : its = [Value.int t tA] := by simpa using (congrArg Array.toList e').symm
  subst e2
  cases r with
  | cons r1 r2 =>
    cases r2
    rename_i x
    cases x <;> first | (cases r1; done) | (obtain ⟨_, z⟩ := r1; cases z; done) | (obtain ⟨_, z⟩ := r1; cases z; rfl)
theorem sum_gx {X' : Cx} {A : Around} {σ0 : L2.St} {Qt : Hp → Prop} {a S : Addr} {g : Nat} {Rz : Result → Shared → Prop} (hh : A.handled = none) (hroom : A.depth < recursionLimit)
    (hgen : ∀ σ H s, Inv X' [] σ H s → s.heap.IsGen a g) (fin : ∀ (t : Int) tk H s, Inv X' [] σ0 H s → Qt H → H S = some (.lst [.int t]) → Rz (.ok (.ret (.int t tk))) s) :
    ∀ (n : Nat) (s : Shared) (t : Int) (tA : Tok) (c : Nat) (st : Int), (st = 0 ∨ st = 2) → AllBare s.gens → s.heap.get? S = some { cls := .type "list", data := .seq #[.int t tA] c } → GxAt X'.prog X'.w A.in1.in1 (gfEnd X' σ0 S Qt) (goF X' σ0 S sumStp) a g n s →
      codeAny (model X'.prog X'.w) A (.builtin "sum.loop" ⟨[.ref a, .ref S, rawInt st, rawInt 0], []⟩) Rz s := by
  intro n
  induction n with
  | zero =>
    intro s t tA c st hst hb0 hSo ⟨hg, hl, gs, hgs, hgo⟩
    have hsz : g + 1 ≤ s.gens.size := (Array.getElem?_eq_some_iff.mp hgs).1
    refine codeAny_builtin PySem.F.entry_sum_loop ?_
    rw [Around.under_plainId PySem.F.plain_sum_loop _]
    show wpAny _ A.in1 (seqItems? (.ref S) >>= _) _ _ s
    refine wpAny_bind (wpAny_seqItems hSo rfl ?_)
    show wpAny _ A.in1 (tryCatch (pyNext (.ref a)) _ >>= _) _ _ s
    refine wpAny_bind (wpAny_tryCatch (GenW.wpAny_gsz hsz (wpAny_pyNext_genexpQ (A := A.in1) (P := fun n s₀ s₁ => ∃ H' acc, Inv X' [] σ0 H' s₁ ∧ Qt H' ∧ H' S = some (.lst acc) ∧ Bf S s₀ acc) hh hl hroom hg hgs hgo (fun v s₁ gs' hb hv => ?_) (fun s₁ hp h' hk => ?_))))
    · obtain ⟨y, H', acc, acc', ry, I', hS, hB, hst2, hkap⟩ := hv
      obtain ⟨t', i, rfl, rfl, rfl⟩ := hst2
      obtain ⟨zz, its, nn, rr, hl2, e⟩ := I'.lstM hS
      intro _
      exact (hkap { s₁ with heap := s₁.heap.update S (Obj.mapSeq fun _ => #[.int (t' + i) 0]), toks := s₁.toks } (I'.lset (its' := [.int (t' + i) 0]) hS e rfl (.cons ⟨_, rfl⟩ .nil) (Nat.le_trans (by show 1 ≤ 2; decide) (by decide : 2 ≤ sizeLine))) fun b o hbS e2 => (Heap.get?_update_other _ _ (Ne.symm hbS)).trans e2).elim
    · obtain ⟨H', acc, I', q, hS, hB⟩ := hp
      intro _
      obtain rfl := bf_is (s := s.setGen g .running) hSo hB
      exact wpAny_pure (fin _ tA H' _ ((inv_woke (s' := s₁.setGen g .finished) I' ⟨rfl, rfl, bare_set I'.bare rfl⟩).kept (t' := s₁.toks) hk) q hS)
  | succ n ih =>
    intro s t tA c st hst hb0 hSo ⟨hg, hl, gs, hgs, hgo⟩
    have hsz : g + 1 ≤ s.gens.size := (Array.getElem?_eq_some_iff.mp hgs).1
    refine codeAny_builtin PySem.F.entry_sum_loop ?_
    rw [Around.under_plainId PySem.F.plain_sum_loop _]
    show wpAny _ A.in1 (seqItems? (.ref S) >>= _) _ _ s
    refine wpAny_bind (wpAny_seqItems hSo rfl ?_)
    show wpAny _ A.in1 (tryCatch (pyNext (.ref a)) _ >>= _) _ _ s
    refine wpAny_bind (wpAny_tryCatch (GenW.wpAny_gsz hsz (wpAny_pyNext_genexpQ (A := A.in1) (P := fun n s₀ s₁ => ∃ H' acc, Inv X' [] σ0 H' s₁ ∧ Qt H' ∧ H' S = some (.lst acc) ∧ Bf S s₀ acc) hh hl hroom hg hgs hgo (fun v s₁ gs' hb hv => ?_) (fun s₁ hp h' hk => ?_))))
    · obtain ⟨y, H', acc, acc', ry, I', hS, hB, hst2, hkap⟩ := hv
      intro hsz1
      obtain rfl := bf_is (s := s.setGen g .running) hSo hB
      obtain ⟨t', i, et, rfl, rfl⟩ := hst2
      obtain rfl : t = t' := by simpa using et
      obtain ⟨tv, rfl⟩ := ry
      have hsz2 : g < s₁.gens.size := by
        have : (s₁.setGen g gs').gens.size = s₁.gens.size := GenW.setGen_size _ _ _
        omega
      have I2 := inv_woke (s' := s₁.setGen g gs') I' ⟨rfl, rfl, bare_set I'.bare hb⟩
      obtain ⟨tk, nn, e⟩ := bf_int (bf_of I2 hS)
      have go : ∀ (toks : Nat) (s2 : Shared) (tt : Tok) (k2 : Nat) (I3 : Inv X' [] σ0 (upd H' S (.lst [.int (t + i)])) s2) (st' : Int) (hst' : st' = 0 ∨ st' = 2) (hg2 : s2.gens = (s₁.setGen g gs').gens) (e3 : s2.heap.get? S = some { cls := .type "list", data := .seq #[.int (t + i) tt] k2 })
          (kp : ∀ b o, b ≠ S → s₁.heap.get? b = some o → s2.heap.get? b = some o), codeAny (model X'.prog X'.w) A (.builtin "sum.loop" ⟨[.ref a, .ref S, rawInt st', rawInt 0], []⟩) Rz s2 := by
        intro toks s2 tt k2 I3 st' hst' hg2 e3 kp
        refine ih s2 (t + i) tt k2 st' hst' I3.bare e3 ⟨hgen _ _ _ I3, I3.nolimit, gs', by rw [hg2]; exact setGen_at hsz2, ?_⟩
        exact hkap _ (inv_woke I3 ⟨rfl, rfl, bare_set I3.bare rfl⟩) kp
      have up : ∀ (tt : Tok) (k : Nat), Inv X' [] σ0 (upd H' S (.lst [.int (t + i)])) { s₁.setGen g gs' with heap := (s₁.setGen g gs').heap.update S (Obj.mapSeq fun _ => #[Value.int (t + i) tt]), toks := k } := fun tt k =>
        I2.lset (its := [.int t tk]) (its' := [.int (t + i) tt]) hS e rfl (.cons ⟨_, rfl⟩ .nil) (Nat.le_trans (by show 1 ≤ 2; decide) (by decide : 2 ≤ sizeLine))
      have keep3 : ∀ (f : Array Value → Array Value) b o, b ≠ S → s₁.heap.get? b = some o → (s₁.heap.update S (Obj.mapSeq f)).get? b = some o := fun f b o hbS e2 => (Heap.get?_update_other _ _ (Ne.symm hbS)).trans e2
      have e2 := fun tt : Tok => Heap.get?_update_self (Obj.mapSeq fun _ => #[Value.int (t + i) tt]) e rfl
      have up2 : ∀ (tt : Tok) (k : Nat), Inv X' [] σ0 (upd H' S (.lst [.int (t + i)])) { s₁.setGen g gs' with heap := ((s₁.setGen g gs').heap.update S (Obj.mapSeq fun _ => #[Value.int (t + i) tt])).update S (Obj.mapSeq fun _ => #[Value.int (t + i) tt]), toks := k } := fun tt k => by
        have := (up tt k).lset (t' := k) (its := [.int (t + i) tt]) (its' := [.int (t + i) tt]) (ys := [.int (t + i)]) (f := fun _ => #[Value.int (t + i) tt]) upd_same (e2 tt) rfl (.cons ⟨tt, rfl⟩ .nil) (Nat.le_trans (by show 1 ≤ 2; decide) (by decide : 2 ≤ sizeLine))
        rw [upd_upd] at this
        exact this
      rcases hst with rfl | rfl
      · show wpAny _ A.in1 (if (_ : Bool) = true then (mkInt (t + i) >>= _) else _) _ _ _
        split
        · refine wpAny_bind (wpAny_mkInt ?_)
          show wpAny _ A.in1 (updateSeq S (fun _ => #[.int (t + i) _]) >>= _) _ _ _
          refine wpAny_bind (wpAny_updateSeq e rfl (wpAny_pure ⟨plainId_quiet PySem.F.plain_sum_loop _, ?_⟩))
          exact go 0 _ _ _ (up _ _) 0 (.inl rfl) rfl (e2 _) (keep3 _)
        · refine wpAny_bind (wpAny_rule ?_)
          refine wpAny_bind (wpAny_attempt (wpAny_holding (wpAny_add_int ?_)))
          show wpAny _ A.in1 (updateSeq S (fun _ => #[.int (t + i) _]) >>= _) _ _ _
          refine wpAny_bind (wpAny_updateSeq e rfl ?_)
          refine wpAny_bind (wpAny_letGo ?_)
          refine wpAny_bind (wpAny_updateSeq (e2 _) rfl (wpAny_pure ⟨plainId_quiet PySem.F.plain_sum_loop _, ?_⟩))
          exact go 0 _ _ _ (up2 _ _) 2 (.inr rfl) rfl (Heap.get?_update_self _ (e2 _) rfl) fun b o hbS h => (Heap.get?_update_other _ _ (Ne.symm hbS)).trans (keep3 _ b o hbS h)
      · show wpAny _ A.in1 ((holding [Value.int i tv] (binaryOp .Add (.int t tA) (.int i tv))).attempt >>= _) _ _ _
        refine wpAny_bind (wpAny_attempt (wpAny_holding (wpAny_add_int ?_)))
        show wpAny _ A.in1 (updateSeq S (fun _ => #[.int (t + i) _]) >>= _) _ _ _
        refine wpAny_bind (wpAny_updateSeq e rfl ?_)
        refine wpAny_bind (wpAny_letGo ?_)
        refine wpAny_bind (wpAny_updateSeq (e2 _) rfl (wpAny_pure ⟨plainId_quiet PySem.F.plain_sum_loop _, ?_⟩))
        exact go 0 _ _ _ (up2 _ _) 2 (.inr rfl) rfl (Heap.get?_update_self _ (e2 _) rfl) fun b o hbS h => (Heap.get?_update_other _ _ (Ne.symm hbS)).trans (keep3 _ b o hbS h)
    · obtain ⟨H', acc, I', q, hS, hB⟩ := hp
      intro _
      obtain rfl := bf_is (s := s.setGen g .running) hSo hB
      exact wpAny_pure (fin _ tA H' _ ((inv_woke (s' := s₁.setGen g .finished) I' ⟨rfl, rfl, bare_set I'.bare rfl⟩).kept (t' := s₁.toks) hk) q hS)

/-- sum(elt for tg in iter if ..) -/
def tSumG (P : Addr) (wi : TI) (g : TG) (tt : TT) (te : TE) (vs : List Nat) : TE := fun σ H Q => wi σ H fun J H1 => TabG H1 P ∧ ∀ H2, Tabbed P H1 H2 → ∀ S, H2 S = none → ∃ W : Nat → Nat → Hp → Prop, (∃ m, W 0 m (upd H2 S (.lst [.int 0]))) ∧
  gfTurns S sumStp J g tt te (wipe σ vs) vs (fun H' => ∀ t, H' S = some (.lst [.int t]) → Q (.int t) H') W
section
variable {X : Cx}
theorem pe_sumG {c P : Addr} {elt tg iter : Expr} {ifs : List Expr} {p pos gpos : Pos} {scope : Scope} {own : List (Str × Nat)} {wi : TI} {g : TG} {tt : TT} {te : TE} {k : Nat}
    (hr : Room (k + 1) X.A) (hg : Gl X "sum") (hm : X.mg "sum" = none) (hb : bootBuiltins "sum" = some (.builtin "sum")) (TB : TabB X.base X.mg c P) (hcode : X.env.code = .ref c) (hN : X.N.Nodup) (ok : BlkOk X.N X.env.scope scope own) (gk : GxOk scope) (hi : PI X tg iter wi)
    (hgt : ∀ (s : Shared) (H : Hp) (cl : List (Str × Addr)) (C : Addr) (code : Value) (A' : Around) (fp : List Addr) (pn : List (Addr × Obj)), Room k A' → PG (gxCx X s H scope (genEnv scope cl C code builtinsNs X.env) A' fp pn) tg g)
    (hts : ∀ (s : Shared) (H : Hp) (cl : List (Str × Addr)) (C : Addr) (code : Value) (A' : Around) (fp : List Addr) (pn : List (Addr × Obj)), Room k A' → PTs (gxCx X s H scope (genEnv scope cl C code builtinsNs X.env) A' fp pn) ifs tt)
    (he : ∀ (s : Shared) (H : Hp) (cl : List (Str × Addr)) (C : Addr) (code : Value) (A' : Around) (fp : List Addr) (pn : List (Addr × Obj)), Room k A' → PE (gxCx X s H scope (genEnv scope cl C code builtinsNs X.env) A' fp pn) elt te)
    (hs : ∀ v, genFold iter X.env v = pure v)
    (hse : starEach [.GeneratorExp elt [⟨tg, iter, ifs, 0⟩] scope gpos] X.env = (false, eval (.GeneratorExp elt [⟨tg, iter, ifs, 0⟩] scope gpos) X.env) :: starEach [] X.env := by rfl) :
    PE X (.Call (.Name "sum" p) [.GeneratorExp elt [⟨tg, iter, ifs, 0⟩] scope gpos] [] pos) (tSumG P wi g tt te (own.map (·.2))) := by
  refine ⟨fun pins s σ H Q I h => ?_⟩
  refine wpAny_Call_Name_kw (ld_blt I hg hm hb ?_)
  refine PyProof.Rows.callWith_builtin1 ?_ hse (by rfl)
  rw [hse]
  show wpAny _ _ (spliced ((false, eval (.GeneratorExp elt [⟨tg, iter, ifs, 0⟩] scope gpos) X.env) :: backTo pos (starEach [] X.env))) _ _ s
  refine Calls.spliced_cons (gx_makes (own := own) (B := X.A.in1.in1) (KJ := fun J H2 => ∀ S, H2 S = none → ∃ W : Nat → Nat → Hp → Prop, (∃ m, W 0 m (upd H2 S (.lst [.int 0]))) ∧
    gfTurns S sumStp J g tt te (wipe σ (own.map fun y : Str × Nat => y.2)) (own.map fun y : Str × Nat => y.2) (fun H' => ∀ t, H' S = some (.lst [.int t]) → Q (.int t) H') W) hr hr.hd rfl (fun _ _ => ?_) TB hcode hN ok gk hi hgt hts he hs I h fun J H3 s5 X' it fp tn a gi kj M => ?_)
  · exact ⟨hr.hd, by have := hr.dp; show X.A.depth + 0 + 1 + 3 * k + 5 < _; omega, by have := hr.un; show X.A.units + 1 + 1 + 0 + 3 + 16 * k + 200 < _; omega⟩
  · refine Calls.spliced_nil ?_
    rw [← M.prog, ← M.w]
    have hSf : s5.heap.objs.size ∉ fp := fun hm => Nat.lt_irrefl _ (M.free _ hm).2
    have hSH : H3 s5.heap.objs.size = none := M.inv.fresh
    obtain ⟨W, ⟨m, w0⟩, turn⟩ := kj _ hSH
    refine call_function_tree F.kind_sum F.plain_sum F.entry_sum (F.args_sum1 _) ?_
    unfold Builtin.«sum»
    simp only [List.length_cons, List.length_nil]
    rw [if_neg (by decide)]
    refine wpAny_bind (wpAny_of_eq (show Builtin.Builtins.bindParams "sum" ["start"] 0 { } = pure [none] from rfl) ?_)
    refine wpAny_bind (wpAny_pyIter_gen (M.gen _ _ _ M.inv) ?_)
    refine wpAny_bind (wpAny_mkInt ?_)
    refine wpAny_bind (wpAny_pure ?_)
    simp only [List.forIn_cons, List.forIn_nil]
    refine wpAny_bind (wpAny_bind (wpAny_bind (wpAny_isInstance (T := "int") (b := false) (typeIs_int _ _ _) PySem.sub_int_str ?_)))
    simp only [Bool.false_eq_true, if_false]
    refine wpAny_pure (wpAny_bind (wpAny_bind (wpAny_isInstance (T := "int") (b := false) (typeIs_int _ _ _) PySem.sub_int_bytes ?_)))
    simp only [Bool.false_eq_true, if_false]
    refine wpAny_pure (wpAny_bind (wpAny_bind (wpAny_isInstance (T := "int") (b := false) (typeIs_int _ _ _) PySem.sub_int_bytearray ?_)))
    simp only [Bool.false_eq_true, if_false]
    refine wpAny_pure (wpAny_pure ?_)
    refine wpAny_bind (wpAny_newObj_type ?_)
    have I1 := M.inv.lnew (t' := s5.toks + 1) (ys := [.int 0]) (its := [Value.int 0 s5.toks]) (.cons ⟨_, rfl⟩ .nil) (by decide)
    refine wpAny_pure ⟨plainId_quiet F.plain_sum_loop _, sum_gx (Qt := fun H' => ∀ t, H' s5.heap.objs.size = some (.lst [.int t]) → Q (.int t) H') hr.hd (by have := hr.dp; omega) M.gen (fun t tk H' s' I' q hS => ⟨V.int t, H', M.back _ _ _ I', ⟨_, rfl⟩, q t hS⟩) (m + 1) _ 0 s5.toks 0 0 (.inl rfl) I1.bare (Heap.get?_push_size _ rfl) (M.atF hSf I1 rfl (fun b hb o e => Heap.get?_push_of_some _ e) (fun b hb => ?_) turn w0)⟩
    have ne : b ≠ s5.heap.objs.size := fun z => hSf (by rw [← z]; exact hb)
    rw [upd_ne ne]
    exact (M.free b hb).1
end
end Ow

set_option Elab.async false
set_option linter.all false
set_option maxRecDepth 100000
set_option maxHeartbeats 4000000
namespace Ow
open PySem PySem.Spec PyProof.Rows L2 GxR
/-! ### sorted(.. for ..) of texts -/
def tSortG (P : Addr) (wi : TI) (g : TG) (tt : TT) (te : TE) (vs : List Nat) : TE := fun σ H Q => wi σ H fun J H1 => TabG H1 P ∧ ∀ H2, Tabbed P H1 H2 → ∀ S, H2 S = none → ∃ W : Nat → Nat → Hp → Prop, (∃ m, W 0 m (upd H2 S (.lst []))) ∧
  glTurns S J g tt te (wipe σ vs) vs (fun H' => ∃ xs : List Str, H' S = some (.lst (xs.map V.str)) ∧ xs.length < 64 ∧ ∀ (ys : List Str) (T : Addr), ys.Perm xs → sortedS ys = true → H' T = none → Q (.ref T) (upd H' T (.lst (ys.map V.str)))) W
section
variable {X : Cx}
theorem pe_sortG {c P : Addr} {elt tg iter : Expr} {ifs : List Expr} {p pos gpos : Pos} {scope : Scope} {own : List (Str × Nat)} {wi : TI} {g : TG} {tt : TT} {te : TE} {k : Nat}
    (hr : Room (k + 1) X.A) (hg : Gl X "sorted") (hm : X.mg "sorted" = none) (hb : bootBuiltins "sorted" = some (.builtin "sorted")) (TB : TabB X.base X.mg c P) (hcode : X.env.code = .ref c) (hN : X.N.Nodup) (ok : BlkOk X.N X.env.scope scope own) (gk : GxOk scope) (hi : PI X tg iter wi)
    (hgt : ∀ (s : Shared) (H : Hp) (cl : List (Str × Addr)) (C : Addr) (code : Value) (A' : Around) (fp : List Addr) (pn : List (Addr × Obj)), Room k A' → PG (gxCx X s H scope (genEnv scope cl C code builtinsNs X.env) A' fp pn) tg g)
    (hts : ∀ (s : Shared) (H : Hp) (cl : List (Str × Addr)) (C : Addr) (code : Value) (A' : Around) (fp : List Addr) (pn : List (Addr × Obj)), Room k A' → PTs (gxCx X s H scope (genEnv scope cl C code builtinsNs X.env) A' fp pn) ifs tt)
    (he : ∀ (s : Shared) (H : Hp) (cl : List (Str × Addr)) (C : Addr) (code : Value) (A' : Around) (fp : List Addr) (pn : List (Addr × Obj)), Room k A' → PE (gxCx X s H scope (genEnv scope cl C code builtinsNs X.env) A' fp pn) elt te)
    (hs : ∀ v, genFold iter X.env v = pure v)
    (hse : starEach [.GeneratorExp elt [⟨tg, iter, ifs, 0⟩] scope gpos] X.env = (false, eval (.GeneratorExp elt [⟨tg, iter, ifs, 0⟩] scope gpos) X.env) :: starEach [] X.env := by rfl) :
    PE X (.Call (.Name "sorted" p) [.GeneratorExp elt [⟨tg, iter, ifs, 0⟩] scope gpos] [] pos) (tSortG P wi g tt te (own.map (·.2))) := by
  refine ⟨fun pins s σ H Q I h => ?_⟩
  refine wpAny_Call_Name_kw (ld_blt I hg hm hb ?_)
  refine PyProof.Rows.callWith_builtin1 ?_ hse (by rfl)
  rw [hse]
  show wpAny _ _ (spliced ((false, eval (.GeneratorExp elt [⟨tg, iter, ifs, 0⟩] scope gpos) X.env) :: backTo pos (starEach [] X.env))) _ _ s
  refine Calls.spliced_cons (gx_makes (own := own) (B := X.A.in1.in1.in1) (KJ := fun J H2 => ∀ S, H2 S = none → ∃ W : Nat → Nat → Hp → Prop, (∃ m, W 0 m (upd H2 S (.lst []))) ∧
    glTurns S J g tt te (wipe σ (own.map fun y : Str × Nat => y.2)) (own.map fun y : Str × Nat => y.2) (fun H' => ∃ xs : List Str, H' S = some (.lst (xs.map V.str)) ∧ xs.length < 64 ∧ ∀ (ys : List Str) (T : Addr), ys.Perm xs → sortedS ys = true → H' T = none → Q (.ref T) (upd H' T (.lst (ys.map V.str)))) W) hr hr.hd rfl (fun _ _ => ?_) TB hcode hN ok gk hi hgt hts he hs I h fun J H3 s5 X' it fp tn a gi kj M => ?_)
  · exact ⟨hr.hd, by have := hr.dp; show X.A.depth + 0 + 1 + 3 * k + 5 < _; omega, by have := hr.un; show X.A.units + 1 + 1 + 1 + 0 + 3 + 16 * k + 200 < _; omega⟩
  · refine Calls.spliced_nil ?_
    rw [← M.prog, ← M.w]
    refine Calls.call_function_entry PyProof.Rows.kind_sorted PyProof.Rows.plain_sorted PyProof.Rows.entry_sorted (PyProof.Rows.args_sorted1 _) ?_
    unfold Builtin.«sorted»
    refine wpAny_bind (m := checkCount "sorted" 1 1 _) (wpAny_pure ?_)
    refine wpAny_bind (collect_gx (A := X.A.in1) M hr.hd (by have := hr.dp; show X.A.depth + 0 < _; omega) fun S hS => ?_)
    obtain ⟨W, ⟨m, w0⟩, turn⟩ := kj S hS
    refine ⟨_, W, m, turn, w0, fun H' s' I' ⟨xs, hxs, h64, q⟩ => ⟨xs.map V.str, hxs, fun items hv => ?_⟩⟩
    have hal : items.length = xs.length := by have := hv.length; rw [List.length_map] at this; exact this.symm
    have hS : StrsAre items xs := hv.strs
    have I1 := M.back _ _ _ I'
    refine wpAny_bind (wpAny_newList ?_ (by rw [hal, sizeLine_eq]; omega))
    have hoL : (s'.heap.push (seqObj "list" items.toArray 0)).get? s'.heap.objs.size = some (seqObj "list" items.toArray 0) := Heap.get?_push_size _ rfl
    show wpAny _ _ _ _ _ { s' with heap := s'.heap.push (seqObj "list" items.toArray 0) }
    refine wpAny_bind (wpAny_holding (wpAny_call_entry PyProof.Rows.slot_list_sort ⟨_, hoL, rfl⟩ PyProof.Rows.entry_list_sort
      (list_sort_treeK strKind_oneLt (s := { s' with heap := s'.heap.push (seqObj "list" items.toArray 0) }) hoL hS.keysOf (fun v₁ v₂ rest e => keyKind_strs (by rw [← e]; exact hS)) (by rw [hal]; exact h64) fun st' hp hs => ⟨_, rfl, ?_⟩)
      (PyProof.Rows.args_list_sort _)))
    obtain ⟨ys, g1, g2, g3⟩ := sorted_out_str hS hp hs
    obtain ⟨e', he'⟩ := PyProof.Rows.sortedHeap_at (vs := items) (out := (arrOf st').map (·.2)) hoL
    have hlen : (ys.map V.str).length ≤ sizeLine := by
      rw [List.length_map, g2.length_eq]
      exact Nat.le_trans (Nat.le_of_lt h64) (by decide)
    refine wpAny_pure ⟨_, rfl, V.ref s'.heap.objs.size, upd H' s'.heap.objs.size (.lst (ys.map V.str)), I1.laid (t' := s'.toks) (fun b u e => ?_) (Nat.le_refl _)
      (show ObjOk X.prog X.w _ _ _ (.lst (ys.map V.str)) from ⟨hlen, ((arrOf st').map (·.2)).toList, e', vals_of_strs g1, by rw [Array.toArray_toList]; exact he'⟩), rfl, q ys _ g2 g3 (I1.hok.fresh (Nat.le_refl _))⟩
    have hb : b < s'.heap.objs.size := Heap.lt_size e
    rw [PyProof.Rows.sortedHeap_old (Nat.ne_of_lt hb) (by rw [size_push']; exact Nat.lt_succ_of_lt hb)]
    exact Heap.get?_push_of_some _ e
/-! ### sum(d.values()) of whole numbers -/
theorem kvp_get {κ : Type} : ∀ {r : List (κ × V)} {s : List (κ × Value)}, KV r s → ∀ {i : Nat} {p : κ × V}, r[i]? = some p → ∃ q, s[i]? = some q ∧ p.1 = q.1 ∧ L2.RelV p.2 q.2
  | _, _, .nil, _, _, e => by simp at e
  | _, _, .cons h _, 0, _, e => by simp at e; subst e; exact ⟨_, rfl, h⟩
  | _, _, .cons _ t, i + 1, p, e => by
    obtain ⟨q, h1, h2⟩ := kvp_get (r := _) (s := _) t (i := i) (p := p) (by simpa using e)
    exact ⟨q, by simpa using h1, h2⟩
def tSumVals (td : TE) : TE := fun σ H Q => td σ H fun x H1 => ∃ d kvs, x = .ref d ∧ Rd H1 d (.dK kvs) ∧ ∃ ns : List Int, kvs.map (·.2) = ns.map V.int ∧ Q (.int ns.sum) H1
theorem pe_sumVals {e : Expr} {td : TE} {p pos apos cpos : Pos} (hc : X.calm = true) (hg : Gl X "sum") (hm : X.mg "sum" = none) (hb : bootBuiltins "sum" = some (.builtin "sum")) (he : PE X e td) (hbase : attributeBase e "values" X.env (eval e X.env) = eval e X.env := by rfl) (hline : (apos.endLine == cpos.line) = true := by rfl)
    (hse : starEach [.Call (.Attribute e "values" apos) [] [] cpos] X.env = (false, eval (.Call (.Attribute e "values" apos) [] [] cpos) X.env) :: starEach [] X.env := by rfl) :
    PE X (.Call (.Name "sum" p) [.Call (.Attribute e "values" apos) [] [] cpos] [] pos) (tSumVals td) := by
  refine ⟨fun pins s σ H Q I h => ?_⟩
  refine wpAny_Call_Name_kw (ld_blt I hg hm hb ?_)
  refine PyProof.Rows.callWith_builtin1 ?_ hse (by rfl)
  rw [hse]
  show wpAny _ _ (spliced ((false, eval (.Call (.Attribute e "values" apos) [] [] cpos) X.env) :: backTo pos (starEach [] X.env))) _ _ s
  refine Calls.spliced_cons ?_
  refine wpAny_Call_method (T := "dict") (id := "dict.values") hbase rfl hline F.plainAttrs_dict F.slot_dict_values F.type_dict_values (thn (he.run pins s σ H _ I h) fun u s1 ⟨x, H1, I1, rx, d, kvs, ex, hd, ns, hns, q⟩ => ?_)
  subst ex
  obtain rfl : u = Value.ref d := rx
  obtain ⟨z, lo, vs, rel, dd⟩ := dk_rd I1.hok hd
  obtain ⟨ep, hat⟩ := dd.dictAt
  refine ⟨dd.typeIs, dd.mapOf.noDict, ?_⟩
  have I2 : Inv X pins σ H1 { s1 with heap := s1.heap.push { cls := .type "dict_values", data := .fields #[.ref d] } } := I1.kept (t' := s1.toks) fun b ob q => Heap.get?_push_of_some _ q
  refine method_meetsIn F.slot_dict_values F.entry_dict_values rfl (PySem.evalArgs_none ⟨rfl, dd.typeIs, F.args_dict_values_1 _, _, meets_dict_values (mixKind X.prog X.w) d lo, ⟨vs, dd⟩, ?_⟩)
  refine Calls.spliced_nil ?_
  have hv : (s1.heap.push { cls := .type "dict_values", data := .fields #[.ref d] }).IsValuesView s1.heap.objs.size d := ⟨_, Heap.get?_push_size _ rfl, rfl, rfl⟩
  have K := PySem.W.kdl_values (prog := X.prog) (w := X.w) (r := s1.heap.objs.size) (d := d) (knd := mixKind X.prog X.w) (kvs := vs) (ep := ep)
  have hok : (s1.heap.push { cls := .type "dict_values", data := .fields #[.ref d] }).IsValuesView s1.heap.objs.size d ∧ (s1.heap.push { cls := .type "dict_values", data := .fields #[.ref d] }).DictAt (mixKind X.prog X.w) d vs ep := ⟨hv, hat.push _⟩
  refine call_sum_walkAnyS ?_
  obtain ⟨oI, St, hit, Wk, st⟩ := K.iter X.A.in1 { s1 with heap := s1.heap.push { cls := .type "dict_values", data := .fields #[.ref d] } } (I1.ok.hd hc) hok
  have hl : vs.length = ns.length := by
    have e1 := congrArg List.length hns
    rw [List.length_map, List.length_map] at e1
    rw [← e1]
    exact (Paired.length rel).symm
  refine hit _ _ ⟨_, _, _, _, vs.length, _, _, fun i => ns.getD i 0, rfl, Wk.toS, st, fun b hb => ?_, fun i v hP => ?_, fun s' t' hm => ?_⟩
  · show b < (Heap.push _ oI).objs.size
    rw [size_push']
    rcases List.mem_cons.mp hb with e | hb
    · rw [e]; exact Nat.lt_succ_self _
    · rw [List.mem_singleton.mp hb]; exact Nat.lt_succ_of_lt (K.there _ hok).2
  · obtain ⟨k, hk⟩ := hP
    have hi : i < kvs.length := by
      have := (List.getElem?_eq_some_iff.mp hk).1
      have h2 := Paired.length rel
      omega
    obtain ⟨q2, hq2, rq⟩ := kvp_get rel (List.getElem?_eq_getElem hi)
    rw [hk] at hq2
    cases hq2
    have e1 : (kvs.map (·.2))[i]? = some kvs[i].2 := by rw [List.getElem?_map, List.getElem?_eq_getElem hi]; rfl
    rw [hns, List.getElem?_map, List.getElem?_eq_getElem (by have := Paired.length rel; omega : i < ns.length)] at e1
    have e2 : kvs[i].2 = V.int (ns.getD i 0) := by
      rw [List.getD_eq_getElem?_getD, List.getElem?_eq_getElem (by have := Paired.length rel; omega : i < ns.length)]
      exact (Option.some.inj e1).symm
    have r2 := rq.2
    rw [e2] at r2
    exact r2
  · have hk : ∀ b o, (s1.heap.push { cls := .type "dict_values", data := .fields #[.ref d] }).get? b = some o → s'.heap.get? b = some o := fun b o e =>
      hm.heap b o (fun hI => absurd (Heap.lt_size e) (by rw [List.mem_singleton.mp hI]; exact Nat.lt_irrefl _)) (Heap.get?_push_of_some _ e)
    rw [Moved.eq_with hm]
    have es : preSum (fun i => ns.getD i 0) vs.length = ns.sum := by
      rw [hl, PyProof.Rows.preSum_getD, List.take_of_length_le (Nat.le_refl _)]
    rw [es]
    exact ⟨V.int ns.sum, H1, I2.kept (t' := s'.toks) hk, ⟨_, rfl⟩, q⟩
end
end Ow

set_option Elab.async false
set_option linter.all false
set_option maxRecDepth 100000
set_option maxHeartbeats 4000000
namespace Ow
open PySem PySem.Spec PyProof.Rows L2 GxR

/-! ### immutable data -/
inductive D where
  | non | bl (b : Bool) | int (i : Int) | str (x : Str) | tup (ds : List D)

mutual
inductive Im (H : Hp) : V → D → Prop
  | non : Im H .non .non
  | bl (b : Bool) : Im H (.bl b) (.bl b)
  | int (i : Int) : Im H (.int i) (.int i)
  | str (x : Str) (h : x.length ≤ 1000000) : Im H (.str x) (.str x)
  | tup {a : Addr} {xs : List V} {ds : List D} : H a = some (.tup xs) → ImAll H xs ds → Im H (.ref a) (.tup ds)
inductive ImAll (H : Hp) : List V → List D → Prop
  | nil : ImAll H [] []
  | cons {v : V} {vs : List V} {d : D} {ds : List D} : Im H v d → ImAll H vs ds → ImAll H (v :: vs) (d :: ds)
end

/-! ### how a heap goes on -/
def nt : HO → Bool
  | .tbl _ => false
  | _ => true
/-- all that was tracked stands but what ch names; the tables may have grown -/
structure Fr (ch : List Addr) (H H' : Hp) : Prop where
  keep : ∀ a o, H a = some o → nt o = true → a ∉ ch → H' a = some o
  tup : ∀ a xs, H a = some (.tup xs) → H' a = some (.tup xs)
  frz : ∀ a o u, H a = some (.frz o u) → H' a = some (.frz o u)
  tab : ∀ a, TabG H a → TabG H' a
  there : ∀ a o, H a = some o → ∃ o', H' a = some o'

theorem Fr.refl {ch : List Addr} {H : Hp} : Fr ch H H := ⟨fun _ _ h _ _ => h, fun _ _ h => h, fun _ _ _ h => h, fun _ h => h, fun _ o h => ⟨o, h⟩⟩
theorem Fr.free {ch : List Addr} {H H' : Hp} (f : Fr ch H H') {a : Addr} (h : H' a = none) : H a = none := by
  cases q : H a with
  | none => rfl
  | some o =>
    obtain ⟨o', e⟩ := f.there a o q
    rw [h] at e
    cases e
theorem Fr.snoc {ch c : List Addr} {H H1 H2 : Hp} (f : Fr ch H H1) (g : Fr c H1 H2) (hc : ∀ a ∈ c, a ∈ ch ∨ H a = none) : Fr ch H H2 :=
  ⟨fun a o h n hn => g.keep a o (f.keep a o h n hn) n fun hm => (hc a hm).elim hn fun z => (by rw [h] at z; cases z),
   fun a xs h => g.tup a xs (f.tup a xs h), fun a o u h => g.frz a o u (f.frz a o u h), fun a h => g.tab a (f.tab a h),
   fun a o h => by obtain ⟨o1, h1⟩ := f.there a o h; exact g.there a o1 h1⟩
theorem sub_nil {ch : List Addr} {H : Hp} : ∀ a ∈ ([] : List Addr), a ∈ ch ∨ H a = none := fun _ h => absurd h List.not_mem_nil
theorem sub_cons {ch c : List Addr} {H : Hp} {p : Addr} (h : p ∈ ch ∨ H p = none) (k : ∀ a ∈ c, a ∈ ch ∨ H a = none) : ∀ a ∈ p :: c, a ∈ ch ∨ H a = none := fun a ha => by
  rcases List.mem_cons.mp ha with e | e
  · rw [e]; exact h
  · exact k a e
theorem Fr.wide {ch ch' : List Addr} {H H' : Hp} (f : Fr ch H H') (h : ∀ a ∈ ch, a ∈ ch') : Fr ch' H H' :=
  ⟨fun a o e n hn => f.keep a o e n fun hm => hn (h a hm), f.tup, f.frz, f.tab, f.there⟩
theorem Fr.lay {ch : List Addr} {H : Hp} {p : Addr} {o : HO} (h : H p = none) : Fr ch H (upd H p o) :=
  ⟨fun a u e _ _ => by rw [upd_ne (ne_of_none e h)]; exact e, fun a xs e => by rw [upd_ne (ne_of_none e h)]; exact e, fun a o u e => by rw [upd_ne (ne_of_none e h)]; exact e,
   fun a ⟨ps, e, t⟩ => ⟨ps, by rw [upd_ne (ne_of_none e h)]; exact e, t⟩, fun a u e => ⟨u, by rw [upd_ne (ne_of_none e h)]; exact e⟩⟩
theorem Fr.put {ch : List Addr} {H : Hp} {p : Addr} {o o' : HO} (h : H p = some o) (m : Mut (some o)) (hp : p ∈ ch) : Fr ch H (upd H p o') :=
  ⟨fun a u e _ hn => by rw [upd_ne (show a ≠ p from fun z => hn (by rw [z]; exact hp))]; exact e,
   fun a xs e => by rw [upd_ne (show a ≠ p from fun z => by rw [z, h] at e; cases e; exact m)]; exact e,
   fun a o u e => by rw [upd_ne (show a ≠ p from fun z => by rw [z, h] at e; cases e; exact m)]; exact e,
   fun a ⟨ps, e, t⟩ => ⟨ps, by rw [upd_ne (show a ≠ p from fun z => by rw [z, h] at e; cases e; exact m)]; exact e, t⟩,
   fun a u e => by
    by_cases hb : a = p
    · exact ⟨o', by rw [hb]; exact upd_same⟩
    · exact ⟨u, by rw [upd_ne hb]; exact e⟩⟩
theorem Fr.tabbed {ch : List Addr} {H H' : Hp} {P : Addr} (h : TabG H P) (t : Tabbed P H H') : Fr ch H H' := by
  obtain ⟨ps, e, tr⟩ := h
  obtain ⟨⟨ps', e', tr'⟩, k⟩ := t
  have ne : ∀ a o, H a = some o → nt o = true → a ≠ P := fun a o h n z => by
    rw [z, e] at h
    cases h
    cases n
  refine ⟨fun a o h n _ => by rw [k a (ne a o h n)]; exact h, fun a xs h => by rw [k a (ne a _ h rfl)]; exact h, fun a o u h => by rw [k a (ne a _ h rfl)]; exact h, fun a ⟨qs, h, tq⟩ => ?_, fun a o h => ?_⟩
  · by_cases hb : a = P
    · subst hb
      exact ⟨ps', e', tr'⟩
    · exact ⟨qs, by rw [k a hb]; exact h, tq⟩
  · by_cases hb : a = P
    · subst hb
      exact ⟨_, e'⟩
    · exact ⟨o, by rw [k a hb]; exact h⟩
theorem Fr.lst {ch : List Addr} {H H' : Hp} (f : Fr ch H H') {a : Addr} {o : HO} (h : H a = some o) (n : nt o = true) (hc : a ∉ ch) : H' a = some o := f.keep a o h n hc
theorem Fr.seqT {ch : List Addr} {K : PySem.W.Frag} {H H' : Hp} (f : Fr ch H H') {a : Addr} {xs : List V} (h : SqT K H a xs) : SqT K H' a xs := by
  rcases h with (h | ⟨o, h⟩) | h
  · exact .inl (.inl (f.tup _ _ h))
  · exact .inl (.inr ⟨o, f.frz _ _ _ h⟩)
  · exact .inr h

mutual
theorem Im.fr {ch : List Addr} {H H' : Hp} (f : Fr ch H H') : ∀ (d : D) (v : V), Im H v d → Im H' v d
  | .non, _, h => by cases h; exact .non
  | .bl b, _, h => by cases h; exact .bl b
  | .int i, _, h => by cases h; exact .int i
  | .str x, _, h => by
    cases h with
    | str _ hl => exact .str x hl
  | .tup ds, _, h => by
    cases h with
    | tup e ha => exact .tup (f.tup _ _ e) (ImAll.fr f ds _ ha)
theorem ImAll.fr {ch : List Addr} {H H' : Hp} (f : Fr ch H H') : ∀ (ds : List D) (vs : List V), ImAll H vs ds → ImAll H' vs ds
  | [], _, h => by cases h; exact .nil
  | d :: ds, _, h => by
    cases h with
    | cons h1 h2 => exact .cons (Im.fr f d _ h1) (ImAll.fr f ds _ h2)
end
theorem Im.go {ch : List Addr} {H H' : Hp} {v : V} {d : D} (h : Im H v d) (f : Fr ch H H') : Im H' v d := Im.fr f d v h
theorem ImAll.go {ch : List Addr} {H H' : Hp} {vs : List V} {ds : List D} (h : ImAll H vs ds) (f : Fr ch H H') : ImAll H' vs ds := ImAll.fr f ds vs h
theorem ImAll.length {H : Hp} : ∀ {vs : List V} {ds : List D}, ImAll H vs ds → vs.length = ds.length
  | _, _, .nil => rfl
  | _, _, .cons _ h => by rw [List.length_cons, List.length_cons, ImAll.length h]
theorem ImAll.get {H : Hp} : ∀ {vs : List V} {ds : List D}, ImAll H vs ds → ∀ {i : Nat} {v : V}, vs[i]? = some v → ∃ d, ds[i]? = some d ∧ Im H v d
  | _, _, .nil, i, v, e => by simp at e
  | _, _, .cons h _, 0, v, e => by simp at e; subst e; exact ⟨_, rfl, h⟩
  | _, _, .cons _ h, i + 1, v, e => by
    obtain ⟨d, h1, h2⟩ := ImAll.get h (i := i) (v := v) (by simpa using e)
    exact ⟨d, by simpa using h1, h2⟩
theorem ImAll.getD {H : Hp} {vs : List V} {ds : List D} (h : ImAll H vs ds) {i : Nat} {d : D} (e : ds[i]? = some d) : ∃ v, vs[i]? = some v ∧ Im H v d := by
  have hl := h.length
  obtain ⟨hi, _⟩ := List.getElem?_eq_some_iff.mp e
  have hv : vs[i]? = some vs[i] := List.getElem?_eq_getElem (by omega)
  obtain ⟨d', h1, h2⟩ := h.get hv
  rw [e] at h1
  cases h1
  exact ⟨_, hv, h2⟩
theorem ImAll.append {H : Hp} : ∀ {vs ws : List V} {ds es : List D}, ImAll H vs ds → ImAll H ws es → ImAll H (vs ++ ws) (ds ++ es)
  | _, _, _, _, .nil, h => h
  | _, _, _, _, .cons h k, h2 => .cons h (ImAll.append k h2)
theorem ImAll.take {H : Hp} : ∀ {vs : List V} {ds : List D} (n : Nat), ImAll H vs ds → ImAll H (vs.take n) (ds.take n)
  | _, _, 0, _ => .nil
  | _, _, n + 1, .nil => .nil
  | _, _, n + 1, .cons h k => .cons h (ImAll.take n k)
theorem ImAll.drop {H : Hp} : ∀ {vs : List V} {ds : List D} (n : Nat), ImAll H vs ds → ImAll H (vs.drop n) (ds.drop n)
  | _, _, 0, h => h
  | _, _, n + 1, .nil => .nil
  | _, _, n + 1, .cons _ k => ImAll.drop n k
theorem ImAll.snoc {H : Hp} {vs : List V} {ds : List D} {v : V} {d : D} (h : ImAll H vs ds) (k : Im H v d) : ImAll H (vs ++ [v]) (ds ++ [d]) := h.append (.cons k .nil)
theorem ImAll.tyl {H : Hp} {vs : List V} {ns : List Int} (h : ImAll H vs (ns.map D.int)) : vs = ns.map V.int := by
  induction ns generalizing vs with
  | nil => cases h; rfl
  | cons n ns ih =>
    cases h with
    | cons h1 h2 =>
      cases h1
      rw [List.map_cons, ih h2]
theorem ImAll.ints {H : Hp} (ns : List Int) : ImAll H (ns.map V.int) (ns.map D.int) := by
  induction ns with
  | nil => exact .nil
  | cons n ns ih => exact .cons (.int n) ih

/-! ### the kind of a value -/
def tyD : D → String
  | .non => "NoneType"
  | .bl _ => "bool"
  | .int _ => "int"
  | .str _ => "str"
  | .tup _ => "tuple"
theorem Im.ty {K : PySem.W.Frag} {H : Hp} {v : V} {d : D} (h : Im H v d) : TyX K H v (.type (tyD d)) := by
  cases h with
  | non => exact .base .non
  | bl b => exact .base (.bl b)
  | int i => exact .base (.int i)
  | str x _ => exact .base (.str x)
  | tup e _ => exact .base (.tup e)
end Ow

set_option Elab.async false
set_option linter.all false
set_option maxRecDepth 100000
set_option maxHeartbeats 4000000
namespace Ow
open PySem PySem.Spec PyProof.Rows L2 GxR

/-! ### calls, with their callee's promise -/
structure Ca (P : Program) (w : World) (K : PySem.W.Frag) (mg : Str → Option Value) (base : Heap) (k : Nat) (x : Str) (sp : Sp) : Prop where
  ex : ∃ (f : Addr) (fd : FuncData) (ps : List Str), FnOk P w K mg base (L2.CX P w) k f fd ps sp ∧ mg x = some (.ref f) ∧ PySem.W.keepIn K (.ref f) = true ∧ Binds K fd ps []
structure Me (P : Program) (w : World) (K : PySem.W.Frag) (mg : Str → Option Value) (base : Heap) (k : Nat) (C : Addr) (m : Str) (sp : Sp) : Prop where
  ex : ∃ (f : Addr) (fd : FuncData) (ps : List Str), Cls K C ∧ Meth K C m f ∧ FnOk P w K mg base (L2.CX P w) k f fd ps sp ∧ Binds K fd ps []
structure Ma (P : Program) (w : World) (K : PySem.W.Frag) (mg : Str → Option Value) (base : Heap) (k : Nat) (x : Str) (C : Addr) (sp : Sp) : Prop where
  ex : ∃ (f : Addr) (fd : FuncData) (ps : List Str), Mk K C f ∧ FnOk P w K mg base (L2.CX P w) k f fd ps sp ∧ mg x = some (.ref C) ∧ Binds K fd ps []
def tCa (sp : Sp) (E : XK) (t : TA) : TE := fun σ H Q => t σ H fun vs H1 => sp vs H1 Q E
def tMe (C : Addr) (m : Str) (sp : Sp) (E : XK) (ta : TE) (t : TA) : TE := fun σ H Q => ta σ H fun x H1 => ∃ a dx fs, x = .ref a ∧ H1 a = some (.ins C dx fs) ∧ fs.lookup m = none ∧ t σ H1 fun vs H2 => sp (x :: vs) H2 Q E
def tMa (C : Addr) (sp : Sp) (E : XK) (t : TA) : TE := fun σ H Q => t σ H fun vs H1 => ∀ x dx, H1 x = none → H1 dx = none → dx ≠ x → sp (.ref x :: vs) (upd (upd H1 dx (.own x)) x (.ins C dx [])) (fun v H2 => v = .non ∧ Q (.ref x) H2) E
theorem sp_nil {sp : Sp} {Q : VK} {E : XK} : (fun (vs : List V) H1 => sp (vs ++ []) H1 Q E) = fun vs H1 => sp vs H1 Q E := by
  funext vs H1
  rw [List.append_nil]
section
variable {X : Cx} {k j : Nat} {x m : Str} {C : Addr} {sp : Sp} {p pos apos : Pos} {e o : Expr} {es : List Expr} {t : TA} {ta : TE} {E : XK}
theorem pe_caX (c : Ca X.prog X.w X.K X.mg X.base k x sp) (hr : Room j X.A) (hk : k ≤ j) (hg : Gl X x) (hx : Passes (L2.CX X.prog X.w) X E) (ha : PA X (e :: es) t)
    (hdb : (x == ("__debug__" : Str)) = false := by decide) (he : starEach (e :: es) X.env = (false, eval e X.env) :: starEach es X.env := by rfl) (hpl : (backTo pos (starEach es X.env)).any (·.1) = false := by rfl) :
    PE X (.Call (.Name x p) (e :: es) [] pos) (tCa sp E t) := by
  obtain ⟨f, fd, ps, F, hm, kp, b⟩ := c.ex
  refine ⟨fun pins s σ H Q I h => (pe_call F (hr.mono hk) hg hm kp b .nil hx ha hdb he hpl).run pins s σ H Q I ?_⟩
  show t σ H fun vs H1 => sp (vs ++ []) H1 Q E
  rw [sp_nil]
  exact h
theorem pe_ca (c : Ca X.prog X.w X.K X.mg X.base k x sp) (hr : Room j X.A) (hk : k ≤ j) (hg : Gl X x) (ha : PA X (e :: es) t)
    (hdb : (x == ("__debug__" : Str)) = false := by decide) (he : starEach (e :: es) X.env = (false, eval e X.env) :: starEach es X.env := by rfl) (hpl : (backTo pos (starEach es X.env)).any (·.1) = false := by rfl) :
    PE X (.Call (.Name x p) (e :: es) [] pos) (tCa sp E0 t) := pe_caX c hr hk hg passL ha hdb he hpl
theorem pe_ca0 (c : Ca X.prog X.w X.K X.mg X.base k x sp) (hr : Room j X.A) (hk : k ≤ j) (hg : Gl X x) (hdb : (x == ("__debug__" : Str)) = false := by decide) :
    PE X (.Call (.Name x p) [] [] pos) (tCa sp E0 tNil) := by
  obtain ⟨f, fd, ps, F, hm, kp, b⟩ := c.ex
  exact ⟨fun pins s σ H Q I h => (pe_call0 F (hr.mono hk) hg hm kp b .nil passL hdb).run pins s σ H Q I h⟩
theorem pe_meX {pl : Sem Bool} (c : Me X.prog X.w X.K X.mg X.base k C m sp) (hr : Room j X.A) (hk : k ≤ j) (he : PE X o ta) (hx : Passes (L2.CX X.prog X.w) X E) (ha : PA X (e :: es) t)
    (hst : starEach (e :: es) X.env = (false, eval e X.env) :: starEach es X.env := by rfl) (hpl : (backTo pos (starEach es X.env)).any (·.1) = false := by rfl)
    (ht : eval (.Call (.Attribute o m apos) (e :: es) [] pos) X.env = (do
      let ov ← eval o X.env
      standAt apos.atName
      let (f, first) ← holding [ov] (getMethod ov m pl)
      callWith pos f first (backTo pos (starEach (e :: es) X.env)) (backToKw pos (keywordEach [] X.env))) := by rfl) :
    PE X (.Call (.Attribute o m apos) (e :: es) [] pos) (tMe C m sp E ta t) := by
  obtain ⟨f, fd, ps, cl, me, F, b⟩ := c.ex
  refine ⟨fun pins s σ H Q I h => (pe_meth he cl me F (hr.mono hk) b .nil hx ha hst hpl ht).run pins s σ H Q I ?_⟩
  have e : tMeth C m sp [] E ta t σ H Q = tMe C m sp E ta t σ H Q := by
    unfold tMeth tMe
    congr 1
    funext x H1
    simp only [List.append_nil]
  rw [e]
  exact h
theorem pe_me {pl : Sem Bool} (c : Me X.prog X.w X.K X.mg X.base k C m sp) (hr : Room j X.A) (hk : k ≤ j) (he : PE X o ta) (ha : PA X (e :: es) t)
    (hst : starEach (e :: es) X.env = (false, eval e X.env) :: starEach es X.env := by rfl) (hpl : (backTo pos (starEach es X.env)).any (·.1) = false := by rfl)
    (ht : eval (.Call (.Attribute o m apos) (e :: es) [] pos) X.env = (do
      let ov ← eval o X.env
      standAt apos.atName
      let (f, first) ← holding [ov] (getMethod ov m pl)
      callWith pos f first (backTo pos (starEach (e :: es) X.env)) (backToKw pos (keywordEach [] X.env))) := by rfl) :
    PE X (.Call (.Attribute o m apos) (e :: es) [] pos) (tMe C m sp E0 ta t) := pe_meX c hr hk he passL ha hst hpl ht
theorem pe_me0 {pl : Sem Bool} (c : Me X.prog X.w X.K X.mg X.base k C m sp) (hr : Room j X.A) (hk : k ≤ j) (he : PE X o ta)
    (ht : eval (.Call (.Attribute o m apos) [] [] pos) X.env = (do
      let ov ← eval o X.env
      standAt apos.atName
      let (f, first) ← holding [ov] (getMethod ov m pl)
      callWith pos f first [] (backToKw pos (keywordEach [] X.env))) := by rfl) :
    PE X (.Call (.Attribute o m apos) [] [] pos) (tMe C m sp E0 ta tNil) := by
  obtain ⟨f, fd, ps, cl, me, F, b⟩ := c.ex
  exact ⟨fun pins s σ H Q I h => (pe_meth0 he cl me F (hr.mono hk) b .nil passL ht).run pins s σ H Q I h⟩
theorem pe_ma0 (c : Ma X.prog X.w X.K X.mg X.base k x C sp) (hr : Room j X.A) (hk : k + 1 ≤ j) (hg : Gl X x) (hdb : (x == ("__debug__" : Str)) = false := by decide) :
    PE X (.Call (.Name x p) [] [] pos) (tMa C sp E0 tNil) := by
  obtain ⟨f, fd, ps, M, F, hm, b⟩ := c.ex
  exact ⟨fun pins s σ H Q I h => (pe_make0 M F (hr.mono hk) hg hm b .nil passL hdb).run pins s σ H Q I h⟩
theorem pe_ma (c : Ma X.prog X.w X.K X.mg X.base k x C sp) (hr : Room j X.A) (hk : k + 1 ≤ j) (hg : Gl X x) (ha : PA X (e :: es) t)
    (hdb : (x == ("__debug__" : Str)) = false := by decide) (he : starEach (e :: es) X.env = (false, eval e X.env) :: starEach es X.env := by rfl) (hpl : (backTo pos (starEach es X.env)).any (·.1) = false := by rfl) :
    PE X (.Call (.Name x p) (e :: es) [] pos) (tMa C sp E0 t) := by
  obtain ⟨f, fd, ps, M, F, hm, b⟩ := c.ex
  refine ⟨fun pins s σ H Q I h => (pe_make M F (hr.mono hk) hg hm b .nil passL ha hdb he hpl).run pins s σ H Q I ?_⟩
  have e : tMake C sp [] E0 t σ H Q = tMa C sp E0 t σ H Q := by
    unfold tMake tMa
    simp only [List.append_nil]
  rw [e]
  exact h
end
/-- calls within a try: what is wished of an exception may speak of the slots -/
def tMeS (C : Addr) (m : Str) (sp : Sp) (E : L2.St → XK) (ta : TE) (t : TA) : TE := fun σ H Q => ta σ H fun x H1 => ∃ a dx fs, x = .ref a ∧ H1 a = some (.ins C dx fs) ∧ fs.lookup m = none ∧ t σ H1 fun vs H2 => sp (x :: vs) H2 Q (E σ)
def tCaS (sp : Sp) (E : L2.St → XK) (t : TA) : TE := fun σ H Q => t σ H fun vs H1 => sp vs H1 Q (E σ)
section
variable {X : Cx} {k j : Nat} {x m : Str} {C : Addr} {sp : Sp} {p pos apos : Pos} {e o : Expr} {es : List Expr} {t : TA} {ta : TE} {E : L2.St → XK}
theorem pe_meS {pl : Sem Bool} (c : Me X.prog X.w X.K X.mg X.base k C m sp) (hr : Room j X.A) (hk : k ≤ j) (he : PE X o ta) (hx : ∀ σ, PassesAt (L2.CX X.prog X.w) X σ (E σ)) (ha : PA X (e :: es) t)
    (hst : starEach (e :: es) X.env = (false, eval e X.env) :: starEach es X.env := by rfl) (hpl : (backTo pos (starEach es X.env)).any (·.1) = false := by rfl)
    (ht : eval (.Call (.Attribute o m apos) (e :: es) [] pos) X.env = (do
      let ov ← eval o X.env
      standAt apos.atName
      let (f, first) ← holding [ov] (getMethod ov m pl)
      callWith pos f first (backTo pos (starEach (e :: es) X.env)) (backToKw pos (keywordEach [] X.env))) := by rfl) :
    PE X (.Call (.Attribute o m apos) (e :: es) [] pos) (tMeS C m sp E ta t) := by
  obtain ⟨f, fd, ps, cl, hm, F, b⟩ := c.ex
  refine ⟨fun pins s σ H Q I h => ?_⟩
  refine PySem.W.methodCall_KW (pl := pl) (thn (he.run pins s σ H _ I h) fun u s1 ⟨x, H1, I1, rx, a, dx, fs, ex, ea, l, q⟩ => ?_) ht
  subst ex
  have rx : u = Value.ref a := rx
  subst rx
  refine getmeth_ok I1 ea cl hm l (PySem.W.callWith_K (first := [.ref a]) (h₀ := X.base) I.ok.mod.kin hm.kp (thn (ha.run pos pins s1 σ H1 _ I1 q) fun us s2 ⟨vs, H2, I2, r, q2⟩ => ⟨I2.kIn, ?_⟩) hst hpl)
  exact run_fnS (us := .ref a :: us) (vs := .ref a :: vs) F (hr.mono hk) b (hx σ) I2 (.cons rfl r) q2
theorem pe_caS (c : Ca X.prog X.w X.K X.mg X.base k x sp) (hr : Room j X.A) (hk : k ≤ j) (hg : Gl X x) (hx : ∀ σ, PassesAt (L2.CX X.prog X.w) X σ (E σ)) (ha : PA X (e :: es) t)
    (hdb : (x == ("__debug__" : Str)) = false := by decide) (he : starEach (e :: es) X.env = (false, eval e X.env) :: starEach es X.env := by rfl) (hpl : (backTo pos (starEach es X.env)).any (·.1) = false := by rfl) :
    PE X (.Call (.Name x p) (e :: es) [] pos) (tCaS sp E t) := by
  obtain ⟨f, fd, ps, F, hm, kp, b⟩ := c.ex
  exact pe_callS F (hr.mono hk) hg hm kp b hx ha hdb he hpl
end
theorem hu65 {A : Around} {k : Nat} (hr : Room k A) : A.units + 65 < cLine := by have := hr.un; omega
theorem pe_gi {X : Cx} {x : Str} {pos : Pos} {v : V} (hg : Gl X x) (h : ∃ u, X.mg x = some u ∧ RelV v u) (hd : (x == ("__debug__" : Str)) = false := by decide) : PE X (.Name x pos) (tC v) := by
  obtain ⟨u, hm, r⟩ := h
  exact pe_glob hg hm r hd

/-! ### one rule for an operator, whatever the values -/
section
variable {X : Cx}
def rAddU (K : PySem.W.Frag) : R2 := fun x y H Q => rI0 (fun i j => .int (i + j)) x y H Q ∨ rCatA K x y H Q ∨ rCat x y H Q ∨ (∃ i j, x = .str i ∧ y = .str j ∧ i.length + j.length ≤ sizeLine ∧ Q (.str (i ++ j)) H)
theorem opU_add : OpR X (binaryOp .Add) (rAddU X.K) := op_add.or (op_catA.or (op_cat.or op_add_str))
def rMulU (K : PySem.W.Frag) : R2 := fun x y H Q => rI CMul (fun i j => .int (i * j)) x y H Q ∨ rRepT K x y H Q ∨ rRep x y H Q
theorem opU_mul : OpR X (binaryOp .Mult) (rMulU X.K) := op_mul.or (op_repT.or op_rep)
def rLeU : R2 := fun x y H Q => rI0 (fun i j => .bl (decide (i ≤ j))) x y H Q ∨ (∃ i j, x = .str i ∧ y = .str j ∧ Q (.bl (!decide (j.cps.toList < i.cps.toList))) H)
theorem opU_le : OpR X (compareOp .LtE) rLeU := op_le.or op_le_str
def rLtU : R2 := rI0 (fun i j => .bl (decide (i < j)))
theorem opU_lt : OpR X (compareOp .Lt) rLtU := op_lt
def rGeU : R2 := rI0 (fun i j => .bl (decide (j ≤ i)))
theorem opU_ge : OpR X (compareOp .GtE) rGeU := op_ge
def rGtU : R2 := rI0 (fun i j => .bl (decide (j < i)))
theorem opU_gt : OpR X (compareOp .Gt) rGtU := op_gt
def rEqU (K : PySem.W.Frag) : R2 := fun x y H Q => rEq x y H Q ∨ rEqD K x y H Q
theorem opU_eq (hu : X.A.units + 64 < cLine) : OpR X (compareOp .Eq) (rEqU X.K) := op_eq.or (op_eqD hu)
def rNeU (K : PySem.W.Frag) : R2 := fun x y H Q => rNe x y H Q ∨ rNeD K x y H Q
theorem opU_ne (hu : X.A.units + 64 < cLine) : OpR X (compareOp .NotEq) (rNeU X.K) := op_ne.or (op_neD hu)
theorem opU_in_list (hu : X.A.units + 65 < cLine) : OpR X (compareOp .In) (rInD X.K) := op_inD hu
theorem opU_notin_list (hu : X.A.units + 65 < cLine) : OpR X (compareOp .NotIn) (rNotInD X.K) := op_notInD hu
theorem opU_is : OpR X (compareOp .Is) rIsB := op_isBl
theorem opU_isnot : OpR X (compareOp .IsNot) rNotB := op_notBl
theorem ixU : IxR X (rIx X.K) := ix_seq
def rSlU (K : PySem.W.Frag) : V → Option Int → Option Int → Hp → VK → Prop := fun x lo hi H Q => rSlL K x lo hi H Q ∨ rSlA K x lo hi H Q ∨ rSlS x lo hi H Q
theorem slU : SlR X (rSlU X.K) := sl_list.or (sl_tupA.or sl_str)
def rLenU (K : PySem.W.Frag) : List V → Hp → VK → Prop := fun xs H Q => ∃ x n, xs = [x] ∧ LenV K x H n ∧ Q (.int n) H
theorem lenU : CallR X (.builtin "len") (rLenU X.K) := call_len
def rListU (K : PySem.W.Frag) : List V → Hp → VK → Prop := fun xs H Q => ∃ p ys, xs = [.ref p] ∧ (SqL K H p ys ∨ SqT K H p ys) ∧ ∀ l, H l = none → Q (.ref l) (upd H l (.lst ys))
theorem listU : CallR X (.type "list") (rListU X.K) := call_list_of
def rTupleU (K : PySem.W.Frag) : List V → Hp → VK → Prop := fun xs H Q => ∃ p ys, xs = [.ref p] ∧ ((SqL K H p ys ∧ ∀ l, H l = none → Q (.ref l) (upd H l (.tup ys))) ∨ (SqT K H p ys ∧ Q (.ref p) H))
theorem tupleU : CallR X (.type "tuple") (rTupleU X.K) := call_tuple_of
def rIntU : List V → Hp → VK → Prop := fun xs H Q => (∃ i, xs = [.int i] ∧ Q (.int i) H) ∨ ∃ k, xs = [.bl k] ∧ Q (.int (if k then 1 else 0)) H
theorem intU : CallR X (.type "int") rIntU := call_int1
theorem gxOk_by {scope : Scope} (h1 : scope.isCoroutine = false := by rfl) (h2 : ∀ y ∈ scope.names, y.2 ≠ .cell := by decide +kernel) (h3 : scope.names.lookup (".0" : Str) = some NameKind.local := by decide +kernel) : GxOk scope := ⟨h1, h2, h3⟩
end

/-! ### readings, rule by rule; heaps that come are new letters -/
section
variable {K : PySem.W.Frag} {σ : L2.St} {H H1 : Hp} {Q : VK} {D : Ends} {ta tb tc te : TE} {t : TA} {ts tu : TS} {g : TG} {E : XK}
theorem rd_var {i : Nat} {v : V} (h : σ[i]? = some (some v)) (q : Q v H) : tVar i σ H Q := ⟨v, h, q⟩
theorem rd_c {v : V} (q : Q v H) : tC v σ H Q := q
theorem rd_op {r : R2} (h : ta σ H fun x H1 => tb σ H1 fun y H2 => r x y H2 Q) : tOp r ta tb σ H Q := h
theorem rd_un {r : V → Hp → VK → Prop} (h : ta σ H fun x H1 => r x H1 Q) : tUn r ta σ H Q := h
theorem rd_chain {r r' : R2} (h : ta σ H fun x H1 => tb σ H1 fun y H2 => r x y H2 fun z H3 => ∃ k, z = .bl k ∧ (if k = true then tc σ H3 fun w' H4 => r' y w' H4 Q else Q (.bl false) H3)) : tChain r r' ta tb tc σ H Q := h
theorem rd_k {P : Bool → Prop} {b : Bool} (h : P b) : ∃ k, V.bl b = V.bl k ∧ P k := ⟨b, rfl, h⟩
theorem rd_I0 {gg : Int → Int → V} {i j : Int} (q : Q (gg i j) H) : rI0 gg (.int i) (.int j) H Q := ⟨i, j, rfl, rfl, q⟩
theorem rd_I {C : Int → Int → Prop} {gg : Int → Int → V} {i j : Int} (c : C i j) (q : Q (gg i j) H) : rI C gg (.int i) (.int j) H Q := ⟨i, j, rfl, rfl, c, q⟩
theorem rd_addI {i j : Int} (q : Q (.int (i + j)) H) : rAddU K (.int i) (.int j) H Q := .inl ⟨i, j, rfl, rfl, q⟩
theorem rd_addS {i j : Str} (l : i.length + j.length ≤ sizeLine) (q : Q (.str (i ++ j)) H) : rAddU K (.str i) (.str j) H Q := .inr (.inr (.inr ⟨i, j, rfl, rfl, l, q⟩))
theorem rd_mulI {i j : Int} (c : CMul i j) (q : Q (.int (i * j)) H) : rMulU K (.int i) (.int j) H Q := .inl ⟨i, j, rfl, rfl, c, q⟩
theorem rd_leI {i j : Int} (q : Q (.bl (decide (i ≤ j))) H) : rLeU (.int i) (.int j) H Q := .inl ⟨i, j, rfl, rfl, q⟩
theorem rd_leS {i j : Str} (q : Q (.bl (!decide (j.cps.toList < i.cps.toList))) H) : rLeU (.str i) (.str j) H Q := .inr ⟨i, j, rfl, rfl, q⟩
theorem rd_ltI {i j : Int} (q : Q (.bl (decide (i < j))) H) : rLtU (.int i) (.int j) H Q := ⟨i, j, rfl, rfl, q⟩
theorem rd_geI {i j : Int} (q : Q (.bl (decide (j ≤ i))) H) : rGeU (.int i) (.int j) H Q := ⟨i, j, rfl, rfl, q⟩
theorem rd_gtI {i j : Int} (q : Q (.bl (decide (j < i))) H) : rGtU (.int i) (.int j) H Q := ⟨i, j, rfl, rfl, q⟩
theorem rd_eqI {i j : Int} (q : Q (.bl (decide (i = j))) H) : rEqU K (.int i) (.int j) H Q := .inl ⟨rfl, by
  have e : decide (V.int i = V.int j) = decide (i = j) := by simp
  rw [e]; exact q⟩
theorem rd_eqS {i j : Str} (q : Q (.bl (decide (i = j))) H) : rEqU K (.str i) (.str j) H Q := .inl ⟨rfl, by
  have e : decide (V.str i = V.str j) = decide (i = j) := by simp
  rw [e]; exact q⟩
theorem rd_eqB {i j : Bool} (q : Q (.bl (decide (i = j))) H) : rEqU K (.bl i) (.bl j) H Q := .inl ⟨rfl, by
  have e : decide (V.bl i = V.bl j) = decide (i = j) := by simp
  rw [e]; exact q⟩
theorem rd_neI {i j : Int} (q : Q (.bl (!decide (i = j))) H) : rNeU K (.int i) (.int j) H Q := .inl ⟨rfl, by
  have e : decide (V.int i = V.int j) = decide (i = j) := by simp
  rw [e]; exact q⟩
theorem rd_neS {i j : Str} (q : Q (.bl (!decide (i = j))) H) : rNeU K (.str i) (.str j) H Q := .inl ⟨rfl, by
  have e : decide (V.str i = V.str j) = decide (i = j) := by simp
  rw [e]; exact q⟩
theorem rd_isN {x : V} (q : Q (.bl (decide (x = .non))) H) : (fun x y H Q => y = V.non ∧ Q (.bl (decide (x = .non))) H : R2) x .non H Q := ⟨rfl, q⟩
theorem rd_neg {i : Int} (q : Q (.int (-i)) H) : rU (fun i => .int (-i)) (.int i) H Q := ⟨i, rfl, q⟩
theorem rd_andV (h : ta σ H fun x H1 => ∃ c, x = .bl c ∧ if c = true then tb σ H1 Q else Q (.bl false) H1) : tAndV ta tb σ H Q := h
theorem rd_orV (h : ta σ H fun x H1 => ∃ c, x = .bl c ∧ if c = true then Q (.bl true) H1 else tb σ H1 Q) : tOrV ta tb σ H Q := h
theorem rd_notV (h : ta σ H fun x H1 => ∃ c, x = .bl c ∧ Q (.bl (!c)) H1) : tNotV ta σ H Q := h
theorem rd_if {tt : TT} (h : tt σ H fun c H1 => if c = true then ta σ H1 Q else tb σ H1 Q) : tIf tt ta tb σ H Q := h
theorem rd_test {R : Bool → Hp → Prop} (h : te σ H fun x H' => ∃ k, x = .bl k ∧ R k H') : tTest te σ H R := h
theorem rd_tB {R : Bool → Hp → Prop} (h : te σ H fun x H1 => ∃ c, x = .bl c ∧ R c H1) : tB te σ H R := h
theorem rd_tand {t u : TT} {R : Bool → Hp → Prop} (h : t σ H fun c H1 => if c = true then u σ H1 R else R false H1) : tAnd t u σ H R := h
theorem rd_tor {t u : TT} {R : Bool → Hp → Prop} (h : t σ H fun c H1 => if c = true then R true H1 else u σ H1 R) : tOr t u σ H R := h
theorem rd_tnot {t : TT} {R : Bool → Hp → Prop} (h : t σ H fun c H1 => R (!c) H1) : tNot t σ H R := h
theorem rd_seq (h : ts { D with nx := tu D } σ H) : tSeq ts tu D σ H := h
theorem rd_next (h : D.nx σ H) : tNext D σ H := h
theorem rd_asg (h : te σ H fun x H1 => g x σ H1 D.nx) : tAsg te g D σ H := h
theorem rd_name {i : Nat} {v : V} {R : L2.St → Hp → Prop} (h : R (σ.set i (some v)) H) : gName i v σ H R := h
theorem rd_gsub {to ti : TE} {tset : TSet} {v : V} {R : L2.St → Hp → Prop} (h : to σ H fun o H1 => ti σ H1 fun i H2 => tset o i v H2 fun H3 => R σ H3) : gSub to ti tset v σ H R := h
theorem rd_ret (h : te σ H D.rt) : tRet te D σ H := h
theorem rd_retN (h : D.rt .non H) : tRetN D σ H := h
theorem rd_drop (h : te σ H fun _ H1 => D.nx σ H1) : tDrop te D σ H := h
theorem rd_ifS {c : TT} (h : c σ H fun b H1 => if b = true then ts D σ H1 else tu D σ H1) : tIfS c ts tu D σ H := h
theorem rd_cons {tr : TA} {R : List V → Hp → Prop} (h : ta σ H fun x H1 => tr σ H1 fun xs H2 => R (x :: xs) H2) : tCons ta tr σ H R := h
theorem rd_nil {R : List V → Hp → Prop} (h : R [] H) : tNil σ H R := h
theorem rd_ca {sp : Sp} (h : t σ H fun vs H1 => sp vs H1 Q E) : tCa sp E t σ H Q := h
theorem rd_cb {r : List V → Hp → VK → Prop} (h : t σ H fun vs H1 => r vs H1 Q) : tCB r t σ H Q := h
theorem rd_me {C : Addr} {m : Str} {sp : Sp} (h : ta σ H fun x H1 => ∃ a dx fs, x = .ref a ∧ H1 a = some (.ins C dx fs) ∧ fs.lookup m = none ∧ t σ H1 fun vs H2 => sp (x :: vs) H2 Q E) : tMe C m sp E ta t σ H Q := h
theorem rd_me2 {C : Addr} {m : Str} {a dx : Addr} {fs : List (Str × V)} {R : Prop} (h : H a = some (.ins C dx fs)) (l : fs.lookup m = none) (q : R) : ∃ a' dx fs, V.ref a = .ref a' ∧ H a' = some (.ins C dx fs) ∧ fs.lookup m = none ∧ R := ⟨a, dx, fs, rfl, h, l, q⟩
theorem rd_meS {C : Addr} {m : Str} {sp : Sp} {E : L2.St → XK} (h : ta σ H fun x H1 => ∃ a dx fs, x = .ref a ∧ H1 a = some (.ins C dx fs) ∧ fs.lookup m = none ∧ t σ H1 fun vs H2 => sp (x :: vs) H2 Q (E σ)) : tMeS C m sp E ta t σ H Q := h
theorem rd_caS {sp : Sp} {E : L2.St → XK} (h : t σ H fun vs H1 => sp vs H1 Q (E σ)) : tCaS sp E t σ H Q := h
/-- what follows when a new thing is laid, folded -/
def kMa (C : Addr) (sp : Sp) (E : XK) (Q : VK) : List V → Hp → Prop := fun vs H1 => ∀ x dx, H1 x = none → H1 dx = none → dx ≠ x → sp (.ref x :: vs) (upd (upd H1 dx (.own x)) x (.ins C dx [])) (fun v H2 => v = .non ∧ Q (.ref x) H2) E
def kTup (Q : VK) : List V → Hp → Prop := fun xs H1 => xs.length ≤ sizeLine ∧ ∀ p, H1 p = none → Q (.ref p) (upd H1 p (.tup xs))
def kLst (Q : VK) : List V → Hp → Prop := fun xs H1 => xs.length ≤ sizeLine ∧ ∀ p, H1 p = none → Q (.ref p) (upd H1 p (.lst xs))
theorem rd_ma {C : Addr} {sp : Sp} (h : t σ H (kMa C sp E Q)) : tMa C sp E t σ H Q := h
theorem rd_kMa {C : Addr} {sp : Sp} {vs : List V} (h : ∀ x dx H2, H1 x = none → H1 dx = none → H2 x = some (.ins C dx []) → Fr [] H1 H2 → sp (.ref x :: vs) H2 (fun v H3 => v = .non ∧ Q (.ref x) H3) E) : kMa C sp E Q vs H1 := fun x dx h1 h2 h3 =>
  h x dx _ h1 h2 upd_same ((Fr.lay (ch := []) h2).snoc (Fr.lay (ch := []) (by rw [upd_ne (Ne.symm h3)]; exact h1)) fun _ z => absurd z (by simp))
theorem rd_tup (h : t σ H (kTup Q)) : tTup t σ H Q := h
theorem rd_lst (h : t σ H (kLst Q)) : tLst t σ H Q := h
theorem rd_kTup {xs : List V} (hl : xs.length ≤ sizeLine) (h : ∀ p H2, H1 p = none → H2 p = some (.tup xs) → Fr [] H1 H2 → Q (.ref p) H2) : kTup Q xs H1 := ⟨hl, fun p hp => h p _ hp upd_same (Fr.lay hp)⟩
theorem rd_kLst {xs : List V} (hl : xs.length ≤ sizeLine) (h : ∀ p H2, H1 p = none → H2 p = some (.lst xs) → Fr [] H1 H2 → Q (.ref p) H2) : kLst Q xs H1 := ⟨hl, fun p hp => h p _ hp upd_same (Fr.lay hp)⟩
theorem rd_new {o : HO} {P : V → Hp → Prop} (h : ∀ p H2, H1 p = none → H2 p = some o → Fr [] H1 H2 → P (.ref p) H2) : ∀ p, H1 p = none → P (.ref p) (upd H1 p o) :=
  fun p hp => h p _ hp upd_same (Fr.lay hp)
theorem rd_dT (h : ∀ p H2, H p = none → H2 p = some (.dT []) → Fr [] H H2 → Q (.ref p) H2) : tDNewT σ H Q := rd_new (P := Q) h
theorem rd_dK (h : ∀ p H2, H p = none → H2 p = some (.dK []) → Fr [] H H2 → Q (.ref p) H2) : tDNewK σ H Q := rd_new (P := Q) h
theorem rd_fld {f : Str} (h : ta σ H fun x H1 => ∃ a C dx fs v, x = .ref a ∧ H1 a = some (.ins C dx fs) ∧ Cls K C ∧ NoAttr K C f ∧ fs.lookup f = some v ∧ Q v H1) : tFld K ta f σ H Q := h
theorem rd_fld2 {f : Str} {a C dx : Addr} {fs : List (Str × V)} {v : V} (h : H a = some (.ins C dx fs)) (c : Cls K C) (n : NoAttr K C f) (l : fs.lookup f = some v) (q : Q v H) :
    ∃ a' C dx fs v, V.ref a = .ref a' ∧ H a' = some (.ins C dx fs) ∧ Cls K C ∧ NoAttr K C f ∧ fs.lookup f = some v ∧ Q v H := ⟨a, C, dx, fs, v, rfl, h, c, n, l, q⟩
theorem rd_sfld {f : Str} {tv : TE} (h : tv σ H fun y H1 => ta σ H1 fun x H2 => ∃ a C dx fs, x = .ref a ∧ H2 a = some (.ins C dx fs) ∧ Cls K C ∧ NoAttr K C f ∧ fs.length < 1000 ∧ D.nx σ (upd H2 a (.ins C dx (putF f y fs)))) : sFld K ta tv f D σ H := h
theorem rd_sfld2 {f : Str} {a C dx : Addr} {fs : List (Str × V)} {y : V} {P : Hp → Prop} (h : H a = some (.ins C dx fs)) (c : Cls K C) (n : NoAttr K C f) (l : fs.length < 1000)
    (q : ∀ H2, H2 a = some (.ins C dx (putF f y fs)) → Fr [a] H H2 → P H2) : ∃ a' C dx fs, V.ref a = .ref a' ∧ H a' = some (.ins C dx fs) ∧ Cls K C ∧ NoAttr K C f ∧ fs.length < 1000 ∧ P (upd H a' (.ins C dx (putF f y fs))) :=
  ⟨a, C, dx, fs, rfl, h, c, n, l, q _ upd_same (Fr.put h trivial List.mem_cons_self)⟩
theorem rd_sfaug {f : Str} {tv : TE} {rd : V → V → Hp → VK → Prop} (h : ta σ H fun x H1 => ∃ a C dx fs v, x = .ref a ∧ H1 a = some (.ins C dx fs) ∧ Cls K C ∧ NoAttr K C f ∧ fs.lookup f = some v ∧
    tv σ H1 fun y H2 => rd v y H2 fun z H3 => ∃ dx' fs', H3 a = some (.ins C dx' fs') ∧ fs'.length < 1000 ∧ D.nx σ (upd H3 a (.ins C dx' (putF f z fs')))) : sFldAug K ta tv rd f D σ H := h
theorem rd_sfaug2 {f : Str} {a C dx : Addr} {fs : List (Str × V)} {v : V} {R : Addr → Addr → Addr → V → Prop} (h : H a = some (.ins C dx fs)) (c : Cls K C) (n : NoAttr K C f) (l : fs.lookup f = some v) (q : R a C dx v) :
    ∃ a' C dx fs v, V.ref a = .ref a' ∧ H a' = some (.ins C dx fs) ∧ Cls K C ∧ NoAttr K C f ∧ fs.lookup f = some v ∧ R a' C dx v := ⟨a, C, dx, fs, v, rfl, h, c, n, l, q⟩
theorem rd_sfaug3 {f : Str} {a C dx : Addr} {fs : List (Str × V)} {z : V} {P : Hp → Prop} (h : H a = some (.ins C dx fs)) (l : fs.length < 1000) (q : ∀ H2, H2 a = some (.ins C dx (putF f z fs)) → Fr [a] H H2 → P H2) :
    ∃ dx' fs', H a = some (.ins C dx' fs') ∧ fs'.length < 1000 ∧ P (upd H a (.ins C dx' (putF f z fs'))) := ⟨dx, fs, h, l, q _ upd_same (Fr.put h trivial List.mem_cons_self)⟩
theorem rd_inadd {i j : Int} (q : Q (.int (i + j)) H) : rAdd (.int i) (.int j) H Q := ⟨i, j, rfl, rfl, q⟩
theorem rd_bm {T : String} {r : V → List V → Hp → VK → Prop} {to : TE} (h : to σ H fun x H1 => tyV K T x H1 ∧ t σ H1 fun xs H2 => r x xs H2 Q) : tBM K T r to t σ H Q := h
theorem rd_bm0 {T : String} {r : V → List V → Hp → VK → Prop} {to : TE} (h : to σ H fun x H1 => tyV K T x H1 ∧ r x [] H1 Q) : tBM0 K T r to σ H Q := h
theorem rd_tyL {p : Addr} {xs : List V} {R : Prop} (h : SqL K H p xs) (q : R) : tyV K "list" (.ref p) H ∧ R := ⟨.inl ⟨rfl, xs, h⟩, q⟩
theorem rd_app {l : Addr} {xs : List V} {y : V} (h : H l = some (.lst xs)) (n : xs.length < sizeLine) (q : ∀ H2, H2 l = some (.lst (xs ++ [y])) → Fr [l] H H2 → Q .non H2) : rAppend (.ref l) [y] H Q :=
  ⟨l, xs, y, rfl, rfl, h, n, q _ upd_same (Fr.put h trivial List.mem_cons_self)⟩
theorem rd_pop0 {l : Addr} {x : V} {xs : List V} (h : H l = some (.lst (x :: xs))) (q : ∀ H2, H2 l = some (.lst xs) → Fr [l] H H2 → Q x H2) : rPopAt (.ref l) [.int 0] H Q :=
  ⟨l, x :: xs, 0, 0, x, rfl, rfl, h, by decide, by decide, by simp [seqIndex?], rfl, q _ upd_same (Fr.put h trivial List.mem_cons_self)⟩
theorem rd_setL {p : Addr} {xs : List V} {k : Int} {j : Nat} {v : V} {P : Hp → Prop} (h : H p = some (.lst xs)) (hj : ixN xs.length k = some j) (q : ∀ H2, H2 p = some (.lst (xs.set j v)) → Fr [p] H H2 → P H2) : rSetL (.ref p) (.int k) v H P :=
  ⟨p, xs, k, j, rfl, rfl, h, hj, q _ upd_same (Fr.put h trivial List.mem_cons_self)⟩
theorem rd_ixL {p : Addr} {xs : List V} {i : Int} {v : V} (h : SqL K H p xs) (e : atI xs i = some v) (q : Q v H) : rIx K (.ref p) (.int i) H Q := .inl ⟨p, xs, i, v, rfl, rfl, h, e, q⟩
theorem rd_ixT {p : Addr} {xs : List V} {i : Int} {v : V} (h : SqT K H p xs) (e : atI xs i = some v) (q : Q v H) : rIx K (.ref p) (.int i) H Q := .inr (.inl ⟨p, xs, i, v, rfl, rfl, h, e, q⟩)
theorem rd_lenS {x : Str} (h : x.length ≤ sizeLine) (q : Q (.int x.length) H) : rLenU K [.str x] H Q := ⟨_, _, rfl, ⟨h, rfl⟩, q⟩
theorem rd_lenL {p : Addr} {xs : List V} (h : SqL K H p xs) (q : Q (.int xs.length) H) : rLenU K [.ref p] H Q := ⟨_, _, rfl, .inl ⟨xs, h, rfl⟩, q⟩
theorem rd_lenT {p : Addr} {xs : List V} (h : SqT K H p xs) (q : Q (.int xs.length) H) : rLenU K [.ref p] H Q := ⟨_, _, rfl, .inr ⟨xs, h, rfl⟩, q⟩
theorem rd_listL {p : Addr} {ys : List V} (h : SqL K H p ys) (q : ∀ l H2, H l = none → H2 l = some (.lst ys) → Fr [] H H2 → Q (.ref l) H2) : rListU K [.ref p] H Q := ⟨p, ys, rfl, .inl h, rd_new q⟩
theorem rd_listT {p : Addr} {ys : List V} (h : SqT K H p ys) (q : ∀ l H2, H l = none → H2 l = some (.lst ys) → Fr [] H H2 → Q (.ref l) H2) : rListU K [.ref p] H Q := ⟨p, ys, rfl, .inr h, rd_new q⟩
theorem rd_tupL {p : Addr} {ys : List V} (h : SqL K H p ys) (q : ∀ l H2, H l = none → H2 l = some (.tup ys) → Fr [] H H2 → Q (.ref l) H2) : rTupleU K [.ref p] H Q := ⟨p, ys, rfl, .inl ⟨h, rd_new q⟩⟩
theorem rd_int {i : Int} (q : Q (.int i) H) : rIntU [.int i] H Q := .inl ⟨i, rfl, q⟩
theorem rd_isi {v : V} {d : Ow.D} {T : String} {b : Bool} (h : Im H v d) (e : kitB (tyD d) T = some b) (q : Q (.bl b) H) : rIsi K [v, .ty T] H Q := ⟨v, .ty T, _, _, b, rfl, .ty T, h.ty, kit_ty e, q⟩
theorem rd_iteT {A B : Prop} (h : A) : if true = true then A else B := by simpa using h
theorem rd_iteF {A B : Prop} (h : B) : if false = true then A else B := by simpa using h
theorem rd_not {A B : Prop} (h : B) : if (!true) = true then A else B := by simpa using h
theorem rd_nof {A B : Prop} (h : A) : if (!false) = true then A else B := by simpa using h
theorem rd_ite {p : Prop} [Decidable p] {A B : Prop} (h1 : p → A) (h2 : ¬ p → B) : if decide p = true then A else B := by
  by_cases h : p
  · simpa [h] using h1 h
  · simpa [h] using h2 h
theorem rd_iteN {p : Prop} [Decidable p] {A B : Prop} (h1 : ¬ p → A) (h2 : p → B) : if (!decide p) = true then A else B := by
  by_cases h : p
  · simpa [h] using h2 h
  · simpa [h] using h1 h
theorem rd_iteB {b : Bool} {A B : Prop} (h1 : b = true → A) (h2 : b = false → B) : if b = true then A else B := by
  cases b with
  | true => simpa using h1 rfl
  | false => simpa using h2 rfl
theorem rd_iteNB {b : Bool} {A B : Prop} (h1 : b = false → A) (h2 : b = true → B) : if (!b) = true then A else B := by
  cases b with
  | true => simpa using h2 rfl
  | false => simpa using h1 rfl
end

/-! ### all(.. for ..) over n items that stay -/
section
variable {K : PySem.W.Frag} {σ : L2.St} {H : Hp} {Q : VK} {te : TE} {g : TG} {vs : List Nat}
theorem gx_run {J : It} {P : Addr} {n : Nat} (item : Nat → V → Prop) (pb : Nat → Bool) (hT : TabG H P) (stop : ∀ H', Fr [] H H' → J.stop n H') (go : ∀ i H', i < n → Fr [] H H' → J.go i H')
    (yld : ∀ i H' x H'', i < n → Fr [] H H' → J.yld i H' x H'' → H'' = H' ∧ item i x)
    (step : ∀ i x H' (R : VK), i < n → item i x → Fr [] H H' → (∀ H3, Fr [] H H3 → R (.bl (pb i)) H3) → g x (wipe σ vs) H' fun σ2 H2 => wipe σ2 vs = wipe σ vs ∧ te σ2 H2 R)
    (yes : (∀ i, i < n → pb i = true) → ∀ H', Fr [] H H' → Q (.bl true) H') (no : ∀ i, i < n → pb i = false → ∀ H', Fr [] H H' → Q (.bl false) H') :
    TabG H P ∧ ∀ H2, Tabbed P H H2 → ∃ W : Nat → Nat → Hp → Prop, (∃ m, W 0 m H2) ∧ gxTurns J g te (wipe σ vs) vs (Q (.bl true)) (Q (.bl false)) W := by
  refine ⟨hT, fun H2 ht => ⟨fun i m H' => m = n - i ∧ i ≤ n ∧ Fr [] H H' ∧ ∀ j, j < i → pb j = true, ⟨n, by simp, Nat.zero_le _, Fr.tabbed hT ht, fun j hj => absurd hj (Nat.not_lt_zero _)⟩, ?_⟩⟩
  rintro i m H' ⟨rfl, hi, f, hp⟩
  by_cases hlt : i < n
  · refine .inr ⟨go i H' hlt f, fun H'' => Fr [] H H'' ∧ pb i = true, fun H'' ⟨f', hb⟩ => ⟨n - (i + 1), by omega, rfl, hlt, f', fun j hj => ?_⟩, fun x H'' y => ?_⟩
    · by_cases e : j = i
      · rw [e]; exact hb
      · exact hp j (by omega)
    · obtain ⟨e, hx⟩ := yld i H' x H'' hlt f y
      subst e
      exact step i x H'' _ hlt hx f fun H4 f4 => ⟨pb i, rfl, fun hb => ⟨f4, hb⟩, fun hb => no i hlt hb H4 f4⟩
  · have e : i = n := by omega
    subst e
    exact .inl ⟨stop H' f, yes (fun j hj => hp j hj) H' f⟩

def gxBody (P : Addr) (g : TG) (te : TE) (vs : List Nat) (σ : L2.St) (Q : VK) : It → Hp → Prop := fun J H1 => TabG H1 P ∧ ∀ H2, Tabbed P H1 H2 → ∃ W : Nat → Nat → Hp → Prop, (∃ m, W 0 m H2) ∧ gxTurns J g te (wipe σ vs) vs (Q (.bl true)) (Q (.bl false)) W
theorem rd_allG {P : Addr} {wi : TI} (h : wi σ H (gxBody P g te vs σ Q)) : tAllG P wi g te vs σ H Q := h
theorem rd_iStr {R : It → Hp → Prop} {ta : TE} (h : ta σ H fun v H1 => ∃ x, v = .str x ∧ R (Its x) H1) : iStr ta σ H R := h
theorem rd_iStr2 {R : It → Hp → Prop} {x : Str} (h : R (Its x) H) : ∃ y, V.str x = .str y ∧ R (Its y) H := ⟨x, rfl, h⟩
theorem rd_iTup {R : It → Hp → Prop} {ta : TE} (h : ta σ H fun x H1 => ∃ a, x = .ref a ∧ (∃ xs, SqT K H1 a xs) ∧ R (Itt K a) H1) : iTup K ta σ H R := h
theorem rd_iTup2 {R : It → Hp → Prop} {a : Addr} {xs : List V} (k : SqT K H a xs) (h : R (Itt K a) H) : ∃ b, V.ref a = .ref b ∧ (∃ xs, SqT K H b xs) ∧ R (Itt K b) H := ⟨a, rfl, ⟨xs, k⟩, h⟩
theorem gx_str {P : Addr} {x : Str} (pb : Nat → Bool) (hT : TabG H P)
    (step : ∀ c H' (R : VK), Fr [] H H' → (∀ H3, Fr [] H H3 → R (.bl (pb c)) H3) → g (.str ⟨#[c]⟩) (wipe σ vs) H' fun σ2 H2 => wipe σ2 vs = wipe σ vs ∧ te σ2 H2 R)
    (fin : ∀ H', Fr [] H H' → Q (.bl (x.cps.toList.all pb)) H') : gxBody P g te vs σ Q (Its x) H := by
  have hn : x.cps.size = x.cps.toList.length := by simp

  refine gx_run (n := x.cps.size) (fun i v => ∃ c, x.cps[i]? = some c ∧ v = .str ⟨#[c]⟩) (fun i => match x.cps[i]? with | some c => pb c | none => false) hT (fun _ _ => Nat.le_refl _) (fun _ _ h _ => h) (fun i H' y H'' _ _ h => h) ?_ ?_ ?_
  · rintro i v H' R hi ⟨c, hc, rfl⟩ f k
    refine step c H' R f fun H3 f3 => ?_
    have := k H3 f3
    simp only [hc] at this
    exact this
  · intro hall H' f
    have e : x.cps.toList.all pb = true := List.all_eq_true.mpr fun c hc => by
      obtain ⟨j, hj, e⟩ := List.getElem_of_mem hc
      have hj' : j < x.cps.size := by omega
      have h1 : x.cps[j]? = some c := by rw [Array.getElem?_eq_getElem hj']; simpa using e
      have := hall j hj'
      simpa only [h1] using this
    have := fin H' f
    rw [e] at this
    exact this
  · intro i hi hb H' f
    have h1 : x.cps[i]? = some x.cps[i] := Array.getElem?_eq_getElem hi
    simp only [h1] at hb
    have e : x.cps.toList.all pb = false := by
      rw [List.all_eq_false]
      exact ⟨x.cps[i], by simp, by simp [hb]⟩
    have := fin H' f
    rw [e] at this
    exact this
theorem gx_tup {P a : Addr} {xs : List V} {ds : List D} (pb : D → Bool) (hT : TabG H P) (hx : H a = some (.tup xs)) (hd : ImAll H xs ds)
    (step : ∀ v d H' (R : VK), Im H' v d → Fr [] H H' → (∀ H3, Fr [] H H3 → R (.bl (pb d)) H3) → g v (wipe σ vs) H' fun σ2 H2 => wipe σ2 vs = wipe σ vs ∧ te σ2 H2 R)
    (fin : ∀ H', Fr [] H H' → Q (.bl (ds.all pb)) H') : gxBody P g te vs σ Q (Itt K a) H := by
  have hl := hd.length
  refine gx_run (n := xs.length) (fun i v => xs[i]? = some v) (fun i => match ds[i]? with | some d => pb d | none => false) hT (fun H' f => ⟨xs, f.seqT (SqT.of hx), Nat.le_refl _⟩) (fun i H' h f => ⟨xs, xs[i], f.seqT (SqT.of hx), List.getElem?_eq_getElem h⟩) (fun i H' y H'' _ f h => ⟨h.1, h.2 xs (f.seqT (SqT.of hx))⟩) ?_ ?_ ?_
  · intro i v H' R hi hv f k
    obtain ⟨d, hd1, hd2⟩ := hd.get hv
    refine step v d H' R (hd2.go f) f fun H3 f3 => ?_
    have := k H3 f3
    simp only [hd1] at this
    exact this
  · intro hall H' f
    have e : ds.all pb = true := List.all_eq_true.mpr fun c hc => by
      obtain ⟨j, hj, e⟩ := List.getElem_of_mem hc
      have h1 : ds[j]? = some c := by rw [List.getElem?_eq_getElem hj, e]
      have := hall j (by omega)
      simpa only [h1] using this
    have := fin H' f
    rw [e] at this
    exact this
  · intro i hi hb H' f
    have hi' : i < ds.length := by omega
    have h1 : ds[i]? = some ds[i] := List.getElem?_eq_getElem hi'
    simp only [h1] at hb
    have e : ds.all pb = false := by
      rw [List.all_eq_false]
      exact ⟨ds[i], by simp, by simp [hb]⟩
    have := fin H' f
    rw [e] at this
    exact this
end
end Ow

set_option Elab.async false
set_option linter.all false
set_option maxRecDepth 100000
set_option maxHeartbeats 4000000
namespace Ow
open PySem PySem.Spec PyProof.Rows L2 GxR
/-! ### text * int -/
def repS (z : Str) (k : Int) : Str := ⟨(List.replicate k.toNat z.cps).foldl (· ++ ·) #[]⟩
def rRepS : R2 := fun x y H Q => ∃ z k, x = .str z ∧ y = .int k ∧ 2 ≤ k ∧ k ≤ 1000 ∧ 1 ≤ z.length ∧ z.length ≤ 1000 ∧ Q (.str (repS z k)) H
theorem op_repS {X : Cx} : OpR X (binaryOp .Mult) rRepS := by
  intro pins s σ H x y v u Q I rx ry h
  obtain ⟨z, k, rfl, rfl, h1, h2, h3, h4, q⟩ := h
  obtain ⟨t, rfl⟩ := rx
  obtain ⟨t', rfl⟩ := ry
  have c : (k == 1 || z.length == 0) = false := by
    have e1 : (k == 1) = false := beq_eq_false_iff_ne.mpr (by omega)
    have e2 : (z.length == 0) = false := beq_eq_false_iff_ne.mpr (by omega)
    rw [e1, e2]; rfl
  have hm : z.length * k.toNat ≤ 1000 * 1000 := Nat.mul_le_mul h4 (by omega)
  refine PySem.P.mul_str ?_ (fun _ _ => ?_) (fun _ _ => ?_) ?_
  · rw [decide_eq_false (by omega), decide_eq_false (by omega)]; rfl
  · have : (1000 : Int) ≤ (2 ^ 63 - 1) / k := by
      rw [Int.le_ediv_iff_mul_le (by omega)]
      omega
    omega
  · unfold Builtin.Str.tooLong
    rw [sizeLine_eq]
    exact decide_eq_false (by omega)
  · rw [if_neg (by omega), if_neg (by rw [c]; exact Bool.false_ne_true)]
    have hlen : (repS z k).length ≤ sizeLine := by
      have e : ∀ (n : Nat) (acc : Array Nat), ((List.replicate n z.cps).foldl (· ++ ·) acc).size = acc.size + n * z.length := by
        intro n
        induction n with
        | zero => intro acc; simp
        | succ n ih =>
          intro acc
          rw [List.replicate_succ, List.foldl_cons, ih, Array.size_append, Nat.succ_mul]
          show acc.size + z.length + n * z.length = _
          omega
      show ((List.replicate k.toNat z.cps).foldl (· ++ ·) #[]).size ≤ _
      rw [e, sizeLine_eq]
      have : k.toNat * z.length = z.length * k.toNat := Nat.mul_comm _ _
      simp
      omega
    exact ⟨hlen, .str (repS z k), H, I.tok _, ⟨_, rfl⟩, q⟩
/-- * of any -/
def rMulV (K : PySem.W.Frag) : R2 := fun x y H Q => rMulU K x y H Q ∨ rRepS x y H Q
theorem opV_mul {X : Cx} : OpR X (binaryOp .Mult) (rMulV X.K) := opU_mul.or op_repS
section
variable {K : PySem.W.Frag} {σ : L2.St} {H H1 : Hp} {Q : VK} {D : Ends} {ta tb tc te : TE} {t : TA} {ts tu tb' : TS} {g : TG} {E : XK} {wi : TI} {tt : TT}
theorem rv_mulI {i j : Int} (c : CMul i j) (q : Q (.int (i * j)) H) : rMulV K (.int i) (.int j) H Q := .inl (rd_mulI c q)
theorem rv_mulS {z : Str} {k : Int} (h : 2 ≤ k ∧ k ≤ 1000 ∧ 1 ≤ z.length ∧ z.length ≤ 1000) (q : Q (.str (repS z k)) H) : rMulV K (.str z) (.int k) H Q := .inr ⟨z, k, rfl, rfl, h.1, h.2.1, h.2.2.1, h.2.2.2, q⟩
theorem rv_mulT {p : Addr} {xs : List V} {k : Int} (h : SqT K H p xs) (h2 : xs ≠ [] ∧ 2 ≤ k ∧ k ≤ 1000 ∧ xs.length ≤ 1000) (q : ∀ p2 H2, H p2 = none → H2 p2 = some (.tup (List.replicate k.toNat xs).flatten) → Fr [] H H2 → Q (.ref p2) H2) : rMulV K (.ref p) (.int k) H Q :=
  .inl (.inr (.inl ⟨p, k, xs, rfl, rfl, h, h2.1, h2.2.1, h2.2.2.1, h2.2.2.2, rd_new (P := Q) q⟩))

theorem rd_subI {i j : Int} (q : Q (.int (i - j)) H) : rI0 (fun i j => .int (i - j)) (.int i) (.int j) H Q := ⟨i, j, rfl, rfl, q⟩
theorem cdivW_of {i m : Int} (h0 : 0 < m) (h : m < 1000000000000000000) : CDivW i m := ⟨h0, by
  have : m.natAbs < 2 ^ 60 := by omega
  have := (Nat.log2_lt (by omega)).mpr this
  omega⟩
theorem Fr.seqL {ch : List Addr} {K : PySem.W.Frag} {H H' : Hp} (f : Fr ch H H') {a : Addr} {xs : List V} (hc : a ∉ ch) (h : SqL K H a xs) : SqL K H' a xs := by
  rcases h with (h | ⟨o, h⟩) | h
  · exact .inl (.inl (f.lst h rfl hc))
  · exact .inl (.inr ⟨o, f.frz _ _ _ h⟩)
  · exact .inr h
theorem rd_nn {R : Prop} (q : R) : V.non = V.non ∧ R := ⟨rfl, q⟩
/-! ### loops -/
def kF (g : TG) (tb : TS) (D : Ends) (σ : L2.St) : It → Hp → Prop := fun J H1 => ∃ W : Nat → Nat → L2.St → Hp → Prop, (∃ m, W 0 m σ H1) ∧ ∀ i m σ H, W i m σ H →
  (J.stop i H ∧ D.nx σ H) ∨ (J.go i H ∧ ∃ N : L2.St → Hp → Prop, (∀ σ' H', N σ' H' → ∃ m', m' < m ∧ W (i + 1) m' σ' H') ∧ ∀ x H', J.yld i H x H' → g x σ H' fun σ2 H2 => tb { D with nx := N, ct := N, bk := D.nx } σ2 H2)
theorem rd_for (h : wi σ H (kF g tb' D σ)) : tFor wi g tb' D σ H := h
theorem kF_range {lo : Int} {n : Nat} (Pv : Nat → L2.St → Hp → Prop) (h0 : Pv 0 σ H)
    (hs : ∀ i σ H, i < n → Pv i σ H → g (.int (lo + i)) σ H fun σ2 H2 => tb' { D with nx := Pv (i + 1), ct := Pv (i + 1), bk := D.nx } σ2 H2) (hd : ∀ σ H, Pv n σ H → D.nx σ H) : kF g tb' D σ (Itr lo n) H := for_range Pv h0 hs hd
theorem rd_rng1 {R : It → Hp → Prop} (h : t σ H fun vs H1 => ∃ j : Int, vs = [.int j] ∧ -(2 ^ 62) ≤ j ∧ j < 2 ^ 62 ∧ R (Itr 0 j.toNat) H1) : iRng1 t σ H R := h
theorem rd_rng1b {R : It → Hp → Prop} {j : Int} (h : -(2 ^ 62) ≤ j ∧ j < 2 ^ 62) (q : R (Itr 0 j.toNat) H) : ∃ i : Int, [V.int j] = [.int i] ∧ -(2 ^ 62) ≤ i ∧ i < 2 ^ 62 ∧ R (Itr 0 i.toNat) H := ⟨j, rfl, h.1, h.2, q⟩
/-! ### list comprehensions over ranges, without a condition -/
def kLc (g : TG) (tt : TT) (te : TE) (vs : List Nat) (σ : L2.St) (Q : VK) : It → Hp → Prop := fun J H1 => ∀ D, H1 D = none → ∃ W : Nat → Nat → Hp → Prop, (∃ m, W 0 m (upd H1 D (.lst []))) ∧ ∀ i m H, W i m H →
  (J.stop i H ∧ Q (.ref D) H) ∨ (J.go i H ∧ ∃ Nx : Hp → Prop, (∀ H', Nx H' → ∃ m', m' < m ∧ W (i + 1) m' H') ∧ ∀ x H', J.yld i H x H' → g x (wipe σ vs) H' fun σ2 H2 => wipe σ2 vs = wipe σ vs ∧ tt σ2 H2 fun b H3 =>
    if b = true then te σ2 H3 fun y H4 => ∃ acc, H4 D = some (.lst acc) ∧ acc.length < sizeLine ∧ Nx (upd H4 D (.lst (acc ++ [y]))) else Nx H3)
theorem rd_lc {vs : List Nat} (h : wi σ H (kLc g tt te vs σ Q)) : tLc wi g tt te vs σ H Q := h
/-- I: what holds of the list so far and the heap -/
theorem kLc_range {lo : Int} {n : Nat} {vs : List Nat} (I : Addr → Nat → List V → Hp → Prop) (h0 : ∀ D H2, H1 D = none → H2 D = some (.lst []) → Fr [] H1 H2 → I D 0 [] H2)
    (hs : ∀ D i acc H (R : V → Hp → Prop), H1 D = none → i < n → H D = some (.lst acc) → I D i acc H → (∀ y H4, H4 D = some (.lst acc) → acc.length < sizeLine → (∀ H5, H5 D = some (.lst (acc ++ [y])) → Fr [D] H4 H5 → I D (i + 1) (acc ++ [y]) H5) → R y H4) →
      g (.int (lo + i)) (wipe σ vs) H fun σ2 H2 => wipe σ2 vs = wipe σ vs ∧ tt σ2 H2 fun b H3 => if b = true then te σ2 H3 R else False)
    (hd : ∀ D acc H, H1 D = none → H D = some (.lst acc) → I D n acc H → Q (.ref D) H)
    (mono : ∀ x σ2 H2 (R R' : L2.St → Hp → Prop), (∀ σ H, R σ H → R' σ H) → g x σ2 H2 R → g x σ2 H2 R')
    (mtt : ∀ σ2 H2 (R R' : Bool → Hp → Prop), (∀ b H, R b H → R' b H) → tt σ2 H2 R → tt σ2 H2 R') : kLc g tt te vs σ Q (Itr lo n) H1 := fun D hD => by
  refine lc_range (fun i H => ∃ acc, H D = some (.lst acc) ∧ I D i acc H) ⟨[], upd_same, h0 D _ hD upd_same (Fr.lay hD)⟩ (fun i H hi ⟨acc, ha, hI⟩ => ?_) (fun H ⟨acc, ha, hI⟩ => hd D acc H hD ha hI)
  have h := hs D i acc H (fun y H4 => ∃ acc, H4 D = some (.lst acc) ∧ acc.length < sizeLine ∧ ∃ acc', (upd H4 D (.lst (acc ++ [y]))) D = some (.lst acc') ∧ I D (i + 1) acc' (upd H4 D (.lst (acc ++ [y])))) hD hi ha hI
    (fun y H4 h4 hl k => ⟨acc, h4, hl, acc ++ [y], upd_same, k _ upd_same (Fr.put h4 trivial List.mem_cons_self)⟩)
  refine mono _ _ _ _ _ (fun σ2 H2 z => ⟨z.1, mtt _ _ _ _ (fun b H3 q => ?_) z.2⟩) h
  cases b with
  | true => simpa using q
  | false => exact absurd q (by simp)
end
end Ow

set_option Elab.async false
set_option linter.all false
set_option maxRecDepth 100000
set_option maxHeartbeats 4000000
namespace Ow
open PySem PySem.Spec PyProof.Rows L2 GxR
section
variable {K : PySem.W.Frag} {σ : L2.St} {H H1 : Hp} {Q : VK} {ta te : TE} {t : TA} {g : TG} {tt : TT} {vs : List Nat}
/-- a comprehension, whatever it walks over; I: what holds of the list so far and the heap -/
theorem kLc_run {J : It} {n : Nat} (item : Nat → V → Prop) (I : Addr → Nat → List V → Hp → Prop) (h0 : ∀ D H2, H1 D = none → H2 D = some (.lst []) → Fr [] H1 H2 → I D 0 [] H2)
    (hJ : ∀ D i acc H, H1 D = none → i ≤ n → H D = some (.lst acc) → I D i acc H → (i < n → J.go i H) ∧ (i = n → J.stop i H) ∧ ∀ x H', i < n → J.yld i H x H' → H' = H ∧ item i x)
    (hs : ∀ D i acc H x (R : V → Hp → Prop) (Rn : Hp → Prop), H1 D = none → i < n → H D = some (.lst acc) → I D i acc H → item i x →
      (∀ y H4, H4 D = some (.lst acc) → acc.length < sizeLine → (∀ H5, H5 D = some (.lst (acc ++ [y])) → Fr [D] H4 H5 → I D (i + 1) (acc ++ [y]) H5) → R y H4) → (∀ H4, H4 D = some (.lst acc) → I D (i + 1) acc H4 → Rn H4) →
      g x (wipe σ vs) H fun σ2 H2 => wipe σ2 vs = wipe σ vs ∧ tt σ2 H2 fun b H3 => if b = true then te σ2 H3 R else Rn H3)
    (hd : ∀ D acc H, H1 D = none → H D = some (.lst acc) → I D n acc H → Q (.ref D) H) : kLc g tt te vs σ Q J H1 := fun D hD => by
  refine ⟨fun i m H => m = n - i ∧ i ≤ n ∧ ∃ acc, H D = some (.lst acc) ∧ I D i acc H, ⟨n, by simp, Nat.zero_le _, [], upd_same, h0 D _ hD upd_same (Fr.lay hD)⟩, ?_⟩
  rintro i m H ⟨rfl, hi, acc, ha, hI⟩
  obtain ⟨a1, a2, a3⟩ := hJ D i acc H hD hi ha hI
  by_cases hlt : i < n
  · refine .inr ⟨a1 hlt, fun H' => ∃ acc', H' D = some (.lst acc') ∧ I D (i + 1) acc' H', fun H' ⟨acc', x1, x2⟩ => ⟨n - (i + 1), by omega, rfl, hlt, acc', x1, x2⟩, fun x H' y => ?_⟩
    obtain ⟨e, hx⟩ := a3 x H' hlt y
    subst e
    exact hs D i acc _ x _ _ hD hlt ha hI hx (fun y H4 h4 hl k => ⟨acc, h4, hl, acc ++ [y], upd_same, k _ upd_same (Fr.put h4 trivial List.mem_cons_self)⟩) fun H3 h3 k => ⟨acc, h3, k⟩
  · have e : i = n := by omega
    subst e
    exact .inl ⟨a2 rfl, hd D acc H hD ha hI⟩
theorem itt_J {K : PySem.W.Frag} {a : Addr} {xs : List V} {H : Hp} {i : Nat} (h : SqT K H a xs) (hi : i ≤ xs.length) : (i < xs.length → (Itt K a).go i H) ∧ (i = xs.length → (Itt K a).stop i H) ∧ ∀ x H', i < xs.length → (Itt K a).yld i H x H' → H' = H ∧ xs[i]? = some x :=
  ⟨fun z => ⟨xs, xs[i], h, List.getElem?_eq_getElem z⟩, fun z => ⟨xs, h, by omega⟩, fun x H' _ y => ⟨y.1, y.2 xs h⟩⟩
theorem its_J {x : Str} {H : Hp} {i : Nat} (hi : i ≤ x.cps.size) : (i < x.cps.size → (Its x).go i H) ∧ (i = x.cps.size → (Its x).stop i H) ∧ ∀ v H', i < x.cps.size → (Its x).yld i H v H' → H' = H ∧ ∃ c, x.cps[i]? = some c ∧ v = .str ⟨#[c]⟩ :=
  ⟨fun z => z, fun z => by show x.cps.size ≤ i; omega, fun v H' _ y => y⟩
theorem itr_J {n : Nat} {H : Hp} {i : Nat} (hi : i ≤ n) : (i < n → (Itr 0 n).go i H) ∧ (i = n → (Itr 0 n).stop i H) ∧ ∀ v H', i < n → (Itr 0 n).yld i H v H' → H' = H ∧ v = .int ((0 : Int) + (i : Nat)) :=
  ⟨fun z => z, fun z => by show n ≤ i; omega, fun v H' _ y => y⟩
theorem rd_ixS {z : Str} {i : Int} {c : Nat} (l : z.length ≤ sizeLine) (e : atI z.cps.toList i = some c) (q : Q (.str ⟨#[c]⟩) H) : rIx K (.str z) (.int i) H Q := .inr (.inr ⟨z, i, c, rfl, rfl, l, e, q⟩)
theorem rd_join {to : TE} (h : to σ H fun x H1 => (∃ a, x = .str a) ∧ ta σ H1 fun y H2 => ∃ a p, ∃ ys : List Str, x = .str a ∧ [y] = [.ref p] ∧ (SqL K H2 p (ys.map V.str) ∨ SqT K H2 p (ys.map V.str)) ∧ (ys.map (·.length)).sum + ys.length * a.length ≤ 16777216 ∧ Q (.str (Txt.join a ys)) H2) :
    tM1 (fun x xs H Q => ∃ a p, ∃ ys : List Str, x = .str a ∧ xs = [.ref p] ∧ (SqL K H p (ys.map V.str) ∨ SqT K H p (ys.map V.str)) ∧ (ys.map (·.length)).sum + ys.length * a.length ≤ 16777216 ∧ Q (.str (Txt.join a ys)) H) to ta σ H Q := h
theorem rd_jS {x : Str} {R : Prop} (q : R) : (∃ a, V.str x = .str a) ∧ R := ⟨⟨x, rfl⟩, q⟩
theorem rd_jL {K : PySem.W.Frag} {p : Addr} {a : Str} {ys : List Str} (h : SqL K H p (ys.map V.str)) (l : (ys.map (·.length)).sum + ys.length * a.length ≤ 16777216) (q : Q (.str (Txt.join a ys)) H) :
    ∃ a' p', ∃ ys' : List Str, V.str a = .str a' ∧ [V.ref p] = [.ref p'] ∧ (SqL K H p' (ys'.map V.str) ∨ SqT K H p' (ys'.map V.str)) ∧ (ys'.map (·.length)).sum + ys'.length * a'.length ≤ 16777216 ∧ Q (.str (Txt.join a' ys')) H := ⟨a, p, ys, rfl, rfl, .inl h, l, q⟩
theorem len_app (a b : Str) : (a ++ b).length = a.length + b.length := Array.size_append
theorem join_len : ∀ (ys : List Str), (∀ y ∈ ys, y.length = 1) → (Txt.join "" ys).length = ys.length := by
  intro ys h
  rw [TL.join_eq]
  induction ys with
  | nil => rfl
  | cons y ys ih =>
    have h1 := h y List.mem_cons_self
    have h2 := ih fun z hz => h z (List.mem_cons_of_mem _ hz)
    cases ys with
    | nil =>
      rw [Str.join.eq_2, h1]; rfl
    | cons z zs =>
      rw [Str.join.eq_3 ("" : Str) y (z :: zs) (by intro e; cases e), len_app, len_app, h1, h2]
      show 1 + 0 + _ = _
      simp
      omega
theorem sum_one : ∀ (ys : List Str), (∀ y ∈ ys, y.length = 1) → (ys.map (·.length)).sum = ys.length
  | [], _ => rfl
  | y :: ys, h => by
    rw [List.map_cons, List.sum_cons, h y List.mem_cons_self, sum_one ys fun z hz => h z (List.mem_cons_of_mem _ hz), List.length_cons]
    omega
theorem rd_allL {p : Addr} {bs : List Bool} (h : SqL K H p (bs.map V.bl)) (q : Q (.bl (bs.all id)) H) : rAll K [.ref p] H Q := ⟨p, bs, rfl, h, q⟩
theorem yes_of2 {P : Hp → Prop} {R : VK} (h : te σ H R) : tYes σ H fun b H3 => if b = true then te σ H3 R else P H3 := by
  show (if true = true then te σ H R else P H)
  simpa using h
theorem take_next {α : Type} {l : List α} {i : Nat} {x : α} (h : l[i]? = some x) : l.take (i + 1) = l.take i ++ [x] := by
  rw [List.take_add_one, h]; rfl
end
end Ow

set_option Elab.async false
set_option linter.all false
set_option maxRecDepth 100000
set_option maxHeartbeats 4000000
namespace Sd
open PySem PySem.Spec PyProof.Rows L2 GxR

/-! ### data: tuples are values; what may change stands at an address -/
/-- what stands at an address -/
inductive O where
  | lst (ds : List D) | dK (kvs : List (Key × D)) | dT (kvs : List (List Key × D)) | ins (C : Addr) (nm : List Str) (ds : List D)
  | fK (kvs : List (Key × D)) (o : Obj) (ks : List (Key × V)) | fT (kvs : List (List Key × D))
  | box (c : Addr) | cells
abbrev Sto := Addr → Option O
def sup (S : Sto) (a : Addr) (o : O) : Sto := fun b => if b = a then some o else S b
theorem sup_same {S : Sto} {a : Addr} {o : O} : sup S a o a = some o := by unfold sup; rw [if_pos rfl]
theorem sup_ne {S : Sto} {a b : Addr} {o : O} (h : b ≠ a) : sup S a o b = S b := by unfold sup; rw [if_neg h]
theorem sup_sup {S : Sto} {a : Addr} {o u : O} : sup (sup S a o) a u = sup S a u := by funext b; unfold sup; split <;> rfl
theorem sup_comm {S : Sto} {a b : Addr} {o u : O} (h : a ≠ b) : sup (sup S a o) b u = sup (sup S b u) a o := by
  funext c
  unfold sup
  by_cases h1 : c = b
  · by_cases h2 : c = a
    · exact absurd (h2.symm.trans h1) h
    · simp [h1, Ne.symm h]
  · by_cases h2 : c = a
    · simp [h2, h]
    · simp [h1, h2]
theorem sup_id {S : Sto} {a : Addr} {o : O} (h : S a = some o) : sup S a o = S := by
  funext b; unfold sup; split
  · rename_i e; rw [e, h]
  · rfl
theorem sne {S : Sto} {a b : Addr} {o : O} (h : S a = some o) (h' : S b = none) : a ≠ b := by
  intro e; subst e; rw [h] at h'; cases h'

/-- what is fixed through a law: the written part, the tables, the script -/
structure Gm where
  K : PySem.W.Frag
  tabs : List Addr
  scr : Addr
  ns : List Int

/-- a tuple that stands -/
def isT : HO → Bool
  | .tup _ => true
  | .frz _ (.tup _) => true
  | _ => false
/-- a text of a size that all rules take -/
def okS (x : Str) : Prop := x.length ≤ 1000000 ∧ PyData.strOk x = true
mutual
inductive Im (G : Gm) (H : Hp) : V → D → Prop
  | non : Im G H .non .non
  | bl (b : Bool) : Im G H (.bl b) (.bl b)
  | int (i : Int) : Im G H (.int i) (.int i)
  | str (x : Str) (h : okS x) : Im G H (.str x) (.str x)
  | tup {a : Addr} {xs : List V} {ds : List D} : H a = some (.tup xs) → ImAll G H xs ds → Im G H (.ref a) (.tup ds)
  | ctup {a : Addr} {xs : List V} {ds : List D} {o : Obj} : (∀ H1, SqT G.K H1 a xs) → G.K.lookup a = some o → o.cls = .type "tuple" → o.dict = none → ImAll G H xs ds → Im G H (.ref a) (.ctup ds)
  | ftup {a : Addr} {xs : List V} {ds : List D} {o : Obj} : H a = some (.frz o (.tup xs)) → o.cls = .type "tuple" → o.dict = none → ImAll G H xs ds → Im G H (.ref a) (.ctup ds)
  | ref (a : Addr) : Im G H (.ref a) (.ref a)
  | scr : Im G H (.ref G.scr) .scr
  | ty (n : String) : Im G H (.ty n) (.ty n)
inductive ImAll (G : Gm) (H : Hp) : List V → List D → Prop
  | nil : ImAll G H [] []
  | cons {v : V} {vs : List V} {d : D} {ds : List D} : Im G H v d → ImAll G H vs ds → ImAll G H (v :: vs) (d :: ds)
end
/-- pairs: the same keys, values that are the data -/
inductive KvAll (G : Gm) (H : Hp) {κ : Type} : List (κ × V) → List (κ × D) → Prop
  | nil : KvAll G H [] []
  | cons {k : κ} {v : V} {d : D} {r : List (κ × V)} {s : List (κ × D)} : Im G H v d → KvAll G H r s → KvAll G H ((k, v) :: r) ((k, d) :: s)

def nt : HO → Bool
  | .tbl _ => false
  | _ => true

/-- what the store says of the heap -/
def RO (G : Gm) (S : Sto) (H : Hp) (a : Addr) : O → Prop
  | .lst ds => ∃ xs, H a = some (.lst xs) ∧ ImAll G H xs ds
  | .dK kvs => ∃ ks, H a = some (.dK ks) ∧ KvAll G H ks kvs
  | .dT kvs => ∃ ks, H a = some (.dT ks) ∧ KvAll G H ks kvs
  | .ins C nm ds => ∃ dx gs, H a = some (.ins C dx gs) ∧ KvAll G H gs (nm.zip ds) ∧ ds.length ≤ nm.length ∧ nm.length ≤ 999
  | .fK kvs o ks => H a = some (.frz o (.dK ks)) ∧ KvAll G H ks kvs
  | .fT kvs => ∃ o ks, H a = some (.frz o (.dT ks)) ∧ KvAll G H ks kvs
  | .box c => ∃ v1 v2 nd, H a = some (.lst [.ref c, .int v1, .int v2, nd]) ∧ S c = some .cells ∧ c ≠ a
  | .cells => ∃ ns : List Int, H a = some (.lst (ns.map V.int))

/-- a list of the store -/
def atL (S : Sto) (a : Addr) (k : List D → Prop) : Prop := match S a with | some (.lst ds) => k ds | _ => False
theorem atL_of {S : Sto} {a : Addr} {k : List D → Prop} (h : atL S a k) : ∃ ds, S a = some (.lst ds) ∧ k ds := by
  unfold atL at h
  split at h
  · exact ⟨_, by assumption, h⟩
  · exact h.elim
theorem atL_to {S : Sto} {a : Addr} {k : List D → Prop} {ds : List D} (h : S a = some (.lst ds)) (q : k ds) : atL S a k := by unfold atL; rw [h]; exact q
/-- an instance of the store -/
def atO (S : Sto) (a : Addr) (C : Addr) (nm : List Str) (k : List D → Prop) : Prop := match S a with | some (.ins C' nm' ds) => C' = C ∧ nm' = nm ∧ k ds | _ => False
theorem atO_of {S : Sto} {a C : Addr} {nm : List Str} {k : List D → Prop} (h : atO S a C nm k) : ∃ ds, S a = some (.ins C nm ds) ∧ k ds := by
  unfold atO at h
  split at h
  · obtain ⟨rfl, rfl, h⟩ := h
    exact ⟨_, by assumption, h⟩
  · exact h.elim
theorem atO_to {S : Sto} {a C : Addr} {nm : List Str} {k : List D → Prop} {ds : List D} (h : S a = some (.ins C nm ds)) (q : k ds) : atO S a C nm k := by unfold atO; rw [h]; exact ⟨rfl, rfl, q⟩
def asRef (x : D) (k : Addr → Prop) : Prop := match x with | .ref a => k a | _ => False
theorem asRef_of {x : D} {k : Addr → Prop} (h : asRef x k) : ∃ a, x = .ref a ∧ k a := by
  cases x <;> first | exact ⟨_, rfl, h⟩ | exact h.elim
/-- the place of a name -/
structure FIx (nm : List Str) (f : Str) (i : Nat) : Prop where
  at_ : nm[i]? = some f
  no : f ∉ nm.take i

/-- how a heap grows: what was tracked stands -/
structure Ext (H H' : Hp) : Prop where
  keep : ∀ a o, H a = some o → nt o = true → H' a = some o
  tab : ∀ P, TabG H P → TabG H' P
  there : ∀ a, H a ≠ none → H' a ≠ none
/-- tuples stand -/
def Tu (H H' : Hp) : Prop := ∀ a u, isT u = true → H a = some u → H' a = some u
theorem isT_nt {u : HO} (h : isT u = true) : nt u = true := by cases u <;> first | rfl | cases h
theorem Ext.tu {H H' : Hp} (e : Ext H H') : Tu H H' := fun a u hT h => e.keep a _ h (isT_nt hT)

section
variable {G : Gm} {S S' : Sto} {H H' : Hp}
mutual
theorem Im.tu (t : Tu H H') : ∀ (d : D) (v : V), Im G H v d → Im G H' v d
  | .non, _, h => by cases h; exact .non
  | .bl b, _, h => by cases h; exact .bl b
  | .int i, _, h => by cases h; exact .int i
  | .str x, _, h => by
    cases h with
    | str _ hl => exact .str x hl
  | .tup ds, _, h => by
    cases h with
    | tup e ha => exact .tup (t _ _ rfl e) (ImAll.tu t ds _ ha)
  | .ctup ds, _, h => by
    cases h with
    | ctup e k1 k2 k3 ha => exact .ctup e k1 k2 k3 (ImAll.tu t ds _ ha)
    | ftup e k2 k3 ha => exact .ftup (t _ _ rfl e) k2 k3 (ImAll.tu t ds _ ha)
  | .ref a, _, h => by cases h; exact .ref a
  | .scr, _, h => by cases h; exact .scr
  | .ty n, _, h => by cases h; exact .ty n
theorem ImAll.tu (t : Tu H H') : ∀ (ds : List D) (vs : List V), ImAll G H vs ds → ImAll G H' vs ds
  | [], _, h => by cases h; exact .nil
  | d :: ds, _, h => by
    cases h with
    | cons h1 h2 => exact .cons (Im.tu t d _ h1) (ImAll.tu t ds _ h2)
end
theorem Im.go {v : V} {d : D} (h : Im G H v d) (t : Tu H H') : Im G H' v d := Im.tu t d v h
theorem ImAll.go {vs : List V} {ds : List D} (h : ImAll G H vs ds) (t : Tu H H') : ImAll G H' vs ds := ImAll.tu t ds vs h
theorem KvAll.go {κ : Type} {r : List (κ × V)} {s : List (κ × D)} (h : KvAll G H r s) (t : Tu H H') : KvAll G H' r s := by
  induction h with
  | nil => exact .nil
  | cons h _ ih => exact .cons (h.go t) ih
theorem ImAll.length : ∀ {vs : List V} {ds : List D}, ImAll G H vs ds → vs.length = ds.length
  | _, _, .nil => rfl
  | _, _, .cons _ h => by rw [List.length_cons, List.length_cons, ImAll.length h]
theorem ImAll.get : ∀ {vs : List V} {ds : List D}, ImAll G H vs ds → ∀ {i : Nat} {v : V}, vs[i]? = some v → ∃ d, ds[i]? = some d ∧ Im G H v d
  | _, _, .nil, i, v, e => by simp at e
  | _, _, .cons h _, 0, v, e => by simp at e; subst e; exact ⟨_, rfl, h⟩
  | _, _, .cons _ h, i + 1, v, e => by
    obtain ⟨d, h1, h2⟩ := ImAll.get h (i := i) (v := v) (by simpa using e)
    exact ⟨d, by simpa using h1, h2⟩
theorem ImAll.getD {vs : List V} {ds : List D} (h : ImAll G H vs ds) {i : Nat} {d : D} (e : ds[i]? = some d) : ∃ v, vs[i]? = some v ∧ Im G H v d := by
  have hl := h.length
  obtain ⟨hi, _⟩ := List.getElem?_eq_some_iff.mp e
  have hv : vs[i]? = some vs[i] := List.getElem?_eq_getElem (by omega)
  obtain ⟨d', h1, h2⟩ := h.get hv
  rw [e] at h1
  cases h1
  exact ⟨_, hv, h2⟩
theorem ImAll.append : ∀ {vs ws : List V} {ds es : List D}, ImAll G H vs ds → ImAll G H ws es → ImAll G H (vs ++ ws) (ds ++ es)
  | _, _, _, _, .nil, h => h
  | _, _, _, _, .cons h k, h2 => .cons h (ImAll.append k h2)
theorem ImAll.take : ∀ {vs : List V} {ds : List D} (n : Nat), ImAll G H vs ds → ImAll G H (vs.take n) (ds.take n)
  | _, _, 0, _ => .nil
  | _, _, n + 1, .nil => .nil
  | _, _, n + 1, .cons h k => .cons h (ImAll.take n k)
theorem ImAll.drop : ∀ {vs : List V} {ds : List D} (n : Nat), ImAll G H vs ds → ImAll G H (vs.drop n) (ds.drop n)
  | _, _, 0, h => h
  | _, _, n + 1, .nil => .nil
  | _, _, n + 1, .cons _ k => ImAll.drop n k
theorem ImAll.set : ∀ {vs : List V} {ds : List D} (i : Nat) {v : V} {d : D}, ImAll G H vs ds → Im G H v d → ImAll G H (vs.set i v) (ds.set i d)
  | _, _, _, _, _, .nil, _ => .nil
  | _, _, 0, _, _, .cons _ t, h => .cons h t
  | _, _, i + 1, _, _, .cons q t, h => .cons q (ImAll.set i t h)
theorem ImAll.snoc {vs : List V} {ds : List D} {v : V} {d : D} (h : ImAll G H vs ds) (k : Im G H v d) : ImAll G H (vs ++ [v]) (ds ++ [d]) := h.append (.cons k .nil)
theorem ImAll.ints (ns : List Int) : ImAll G H (ns.map V.int) (ns.map D.int) := by
  induction ns with
  | nil => exact .nil
  | cons n ns ih => exact .cons (.int n) ih
theorem ImAll.reverse {vs : List V} {ds : List D} (h : ImAll G H vs ds) : ImAll G H vs.reverse ds.reverse := by
  have gen : ∀ {vs : List V} {ds : List D}, ImAll G H vs ds → ∀ {ws es}, ImAll G H ws es → ImAll G H (vs.reverseAux ws) (ds.reverseAux es) := by
    intro vs ds h
    induction vs generalizing ds with
    | nil => intro ws es k; cases h; exact k
    | cons v vs ih =>
      intro ws es k
      cases h with
      | cons h1 h2 => exact ih h2 (.cons h1 k)
  exact gen h .nil
theorem ImAll.rep {v : V} {d : D} (h : Im G H v d) : ∀ n, ImAll G H (List.replicate n v) (List.replicate n d)
  | 0 => .nil
  | n + 1 => by rw [List.replicate_succ, List.replicate_succ]; exact .cons h (ImAll.rep h n)
theorem ImAll.repL {vs : List V} {ds : List D} (h : ImAll G H vs ds) : ∀ n, ImAll G H (List.replicate n vs).flatten (List.replicate n ds).flatten
  | 0 => .nil
  | n + 1 => by rw [List.replicate_succ, List.replicate_succ, List.flatten_cons, List.flatten_cons]; exact h.append (ImAll.repL h n)
theorem KvAll.keys {κ : Type} {r : List (κ × V)} {s : List (κ × D)} (h : KvAll G H r s) : r.map (·.1) = s.map (·.1) := by
  induction h with
  | nil => rfl
  | cons _ _ ih => simp [ih]
theorem KvAll.length {κ : Type} {r : List (κ × V)} {s : List (κ × D)} (h : KvAll G H r s) : r.length = s.length := by
  have := congrArg List.length h.keys
  simpa using this

/-- the store is held -/
structure Sim (G : Gm) (S : Sto) (H : Hp) : Prop where
  ob : ∀ a o, S a = some o → RO G S H a o
  tab : ∀ P ∈ G.tabs, TabG H P
  scr : (S G.scr = none ∧ Rd H G.scr (.lst (G.ns.map V.int))) ∨ ∀ H1, SqL G.K H1 G.scr (G.ns.map V.int)

/-- from one state to a later one: what the store does not name stands -/
structure Up (S S' : Sto) (H H' : Hp) : Prop where
  keep : ∀ a o, H a = some o → nt o = true → S a = none → H' a = some o
  dom : ∀ a, S a = none → H a ≠ none → S' a = none
  there : ∀ a, H a ≠ none → H' a ≠ none
theorem Up.refl : Up S S H H := ⟨fun _ _ h _ _ => h, fun _ h _ => h, fun _ h => h⟩
theorem Up.trans {S S1 S2 : Sto} {H H1 H2 : Hp} (u : Up S S1 H H1) (v : Up S1 S2 H1 H2) : Up S S2 H H2 :=
  ⟨fun a o h n z => v.keep a o (u.keep a o h n z) n (u.dom a z (by rw [h]; simp)), fun a z h => v.dom a (u.dom a z h) (u.there a h), fun a h => v.there a (u.there a h)⟩

/-- the kind of a tracked thing is none of these -/
theorem Sim.has (s : Sim G S H) {a : Addr} {o : O} (h : S a = some o) : ∃ u, H a = some u ∧ nt u = true ∧ isT u = false := by
  have r := s.ob a o h
  cases o with
  | lst ds => obtain ⟨_, e, _⟩ := r; exact ⟨_, e, rfl, rfl⟩
  | dK ds => obtain ⟨_, e, _⟩ := r; exact ⟨_, e, rfl, rfl⟩
  | dT ds => obtain ⟨_, e, _⟩ := r; exact ⟨_, e, rfl, rfl⟩
  | ins C nm fs => obtain ⟨_, _, e, _⟩ := r; exact ⟨_, e, rfl, rfl⟩
  | fK ds _ _ => obtain ⟨e, _⟩ := r; exact ⟨_, e, rfl, rfl⟩
  | fT ds => obtain ⟨_, _, e, _⟩ := r; exact ⟨_, e, rfl, rfl⟩
  | box c => obtain ⟨_, _, _, e, _⟩ := r; exact ⟨_, e, rfl, rfl⟩
  | cells => obtain ⟨_, e⟩ := r; exact ⟨_, e, rfl, rfl⟩
theorem Sim.free (s : Sim G S H) {a : Addr} (h : H a = none) : S a = none := by
  cases q : S a with
  | none => rfl
  | some o =>
    obtain ⟨u, e, _⟩ := s.has q
    rw [h] at e; cases e
theorem Sim.notup (s : Sim G S H) {a : Addr} {u : HO} (hT : isT u = true) (h : H a = some u) : S a = none := by
  cases q : S a with
  | none => rfl
  | some o =>
    obtain ⟨u, e, _, n⟩ := s.has q
    rw [h] at e; cases e
    rw [hT] at n; cases n
theorem Up.tu (s : Sim G S H) (u : Up S S' H H') : Tu H H' := fun a x hT h => u.keep a _ h (isT_nt hT) (s.notup hT h)
theorem Up.of_ext (e : Ext H H') : Up S S H H' := ⟨fun a o h n _ => e.keep a o h n, fun _ h _ => h, e.there⟩
theorem Ext.refl : Ext H H := ⟨fun _ _ h _ => h, fun _ h => h, fun _ h => h⟩
theorem Ext.lay {p : Addr} {o : HO} (h : H p = none) : Ext H (upd H p o) :=
  ⟨fun a u e _ => by rw [upd_ne (ne_of_none e h)]; exact e, fun P ⟨ps, e, t⟩ => ⟨ps, by rw [upd_ne (ne_of_none e h)]; exact e, t⟩, fun a z => by
    by_cases e : a = p
    · rw [e, upd_same]; simp
    · rw [upd_ne e]; exact z⟩
theorem Ext.tabbed {P : Addr} (h : TabG H P) (t : Tabbed P H H') : Ext H H' := by
  obtain ⟨ps, e, tr⟩ := h
  obtain ⟨⟨ps', e', tr'⟩, k⟩ := t
  refine ⟨fun a o h n => ?_, fun Q hQ => ?_, fun a z => ?_⟩
  · rw [k a (fun z => by rw [z, e] at h; cases h; cases n)]; exact h
  · by_cases z : Q = P
    · exact ⟨ps', by rw [z]; exact e', tr'⟩
    · obtain ⟨qs, e2, t2⟩ := hQ
      exact ⟨qs, by rw [k Q z]; exact e2, t2⟩
  · by_cases y : a = P
    · rw [y, e']; simp
    · rw [k a y]; exact z
/-- a tracked thing's word, where it and the tuples stand -/
theorem RO.go {a : Addr} {o : O} (r : RO G S H a o) (he : ∀ u, H a = some u → nt u = true → H' a = some u) (t : Tu H H') (hc : ∀ c, S c = some .cells → S' c = some .cells) : RO G S' H' a o := by
  cases o with
  | lst ds => obtain ⟨xs, e, i⟩ := r; exact ⟨xs, he _ e rfl, i.go t⟩
  | dK ds => obtain ⟨xs, e, i⟩ := r; exact ⟨xs, he _ e rfl, i.go t⟩
  | dT ds => obtain ⟨xs, e, i⟩ := r; exact ⟨xs, he _ e rfl, i.go t⟩
  | ins C nm fs => obtain ⟨dx, gs, e, i, l⟩ := r; exact ⟨dx, gs, he _ e rfl, i.go t, l⟩
  | fK ds o xs => obtain ⟨e, i⟩ := r; exact ⟨he _ e rfl, i.go t⟩
  | fT ds => obtain ⟨o, xs, e, i⟩ := r; exact ⟨o, xs, he _ e rfl, i.go t⟩
  | box c => obtain ⟨v1, v2, nd, e, i, n⟩ := r; exact ⟨v1, v2, nd, he _ e rfl, hc c i, n⟩
  | cells => obtain ⟨ns, e⟩ := r; exact ⟨ns, he _ e rfl⟩
theorem Sim.ext (s : Sim G S H) (e : Ext H H') : Sim G S H' := by
  refine ⟨fun a o h => (s.ob a o h).go (fun u hu n => e.keep a u hu n) e.tu fun _ z => z, fun P hP => e.tab P (s.tab P hP), ?_⟩
  rcases s.scr with ⟨h1, h2⟩ | h
  · refine .inl ⟨h1, ?_⟩
    rcases h2 with h2 | ⟨o, h2⟩
    · exact .inl (e.keep _ _ h2 rfl)
    · exact .inr ⟨o, e.keep _ _ h2 rfl⟩
  · exact .inr h
/-- a new thing -/
theorem Sim.lay {p : Addr} {o : O} {ho : HO} (s : Sim G S H) (hp : H p = none) (r : RO G (sup S p o) (upd H p ho) p o) : Sim G (sup S p o) (upd H p ho) ∧ Up S (sup S p o) H (upd H p ho) := by
  have e := Ext.lay (o := ho) hp
  have s2 := s.ext e
  have hS := s.free hp
  have hc : ∀ c, S c = some .cells → (sup S p o) c = some .cells := fun c z => by rw [sup_ne (sne z hS)]; exact z
  refine ⟨⟨fun a u h => ?_, s2.tab, ?_⟩, ⟨fun a u h n _ => e.keep a u h n, fun a h z => ?_, e.there⟩⟩
  · by_cases y : a = p
    · subst y
      rw [sup_same] at h
      cases h
      exact r
    · rw [sup_ne y] at h
      exact (s2.ob a u h).go (fun _ z _ => z) (fun _ _ _ z => z) hc
  · rcases s.scr with ⟨h1, h2⟩ | h
    · have np : G.scr ≠ p := by
        rcases h2 with h2 | ⟨o, h2⟩ <;> exact ne_of_none h2 hp
      refine .inl ⟨by rw [sup_ne np]; exact h1, ?_⟩
      rcases h2 with h2 | ⟨o, h2⟩
      · exact .inl (by rw [upd_ne np]; exact h2)
      · exact .inr ⟨o, by rw [upd_ne np]; exact h2⟩
    · exact .inr h
  · rw [sup_ne (fun y => z (by rw [y]; exact hp))]; exact h
/-- a thing that changes -/
theorem Sim.put {a : Addr} {o0 o : O} {ho : HO} (s : Sim G S H) (h0 : S a = some o0) (hn : o0 ≠ .cells) (hno : nt ho = true) (r : RO G (sup S a o) (upd H a ho) a o) : Sim G (sup S a o) (upd H a ho) ∧ Up S (sup S a o) H (upd H a ho) := by
  obtain ⟨u0, e0, n0, nt0⟩ := s.has h0
  have hc : ∀ c, S c = some .cells → (sup S a o) c = some .cells := fun c z => by rw [sup_ne (fun y => by rw [y, h0] at z; exact hn (Option.some.inj z))]; exact z
  have t : Tu H (upd H a ho) := fun b x hT h => by rw [upd_ne (fun y => by rw [y, e0] at h; cases h; rw [hT] at nt0; cases nt0)]; exact h
  refine ⟨⟨fun b u h => ?_, fun P hP => ?_, ?_⟩, ⟨fun b u h n z => ?_, fun b h z => ?_, fun b z => ?_⟩⟩
  · by_cases y : b = a
    · subst y
      rw [sup_same] at h
      cases h
      exact r
    · rw [sup_ne y] at h
      exact (s.ob b u h).go (fun _ z _ => by rw [upd_ne y]; exact z) t hc
  · obtain ⟨ps, e, tr⟩ := s.tab P hP
    exact ⟨ps, by rw [upd_ne (fun y => by rw [y, e0] at e; cases e; cases n0)]; exact e, tr⟩
  · rcases s.scr with ⟨h1, h2⟩ | h
    · have np : G.scr ≠ a := Ne.symm (sne h0 h1)
      refine .inl ⟨by rw [sup_ne np]; exact h1, ?_⟩
      rcases h2 with h2 | ⟨o, h2⟩
      · exact .inl (by rw [upd_ne np]; exact h2)
      · exact .inr ⟨o, by rw [upd_ne np]; exact h2⟩
    · exact .inr h
  · rw [upd_ne (Ne.symm (sne h0 z))]; exact h
  · rw [sup_ne (Ne.symm (sne h0 h))]; exact h
  · by_cases y : b = a
    · rw [y, upd_same]; simp
    · rw [upd_ne y]; exact z
end

/-! ### where one stands -/
abbrev DV := List (Option D)
/-- the slots -/
structure Sl (G : Gm) (H : Hp) (σ : L2.St) (δ : DV) : Prop where
  len : σ.length = δ.length
  at_ : ∀ (i : Nat) (d : D), δ[i]? = some (some d) → ∃ v, σ[i]? = some (some v) ∧ Im G H v d
theorem Sl.go {G : Gm} {H H' : Hp} {σ : L2.St} {δ : DV} (h : Sl G H σ δ) (t : Tu H H') : Sl G H' σ δ := ⟨h.len, fun i d e => by obtain ⟨v, h1, h2⟩ := h.at_ i d e; exact ⟨v, h1, h2.go t⟩⟩
theorem Sl.set {G : Gm} {H : Hp} {σ : L2.St} {δ : DV} (h : Sl G H σ δ) (i : Nat) {v : V} {d : D} (k : Im G H v d) : Sl G H (σ.set i (some v)) (δ.set i (some d)) := by
  refine ⟨by rw [List.length_set, List.length_set]; exact h.len, fun j e hj => ?_⟩
  rw [List.getElem?_set] at hj ⊢
  by_cases y : i = j
  · subst y
    rw [if_pos rfl] at hj ⊢
    have hl := h.len
    by_cases z : i < δ.length
    · rw [if_pos z] at hj
      rw [if_pos (by omega)]
      cases hj
      exact ⟨v, rfl, k⟩
    · rw [if_neg z] at hj; cases hj
  · rw [if_neg y] at hj ⊢
    exact h.at_ j e hj
/-- the state at a def's entry -/
structure En where
  S : Sto
  H : Hp
structure Rel (G : Gm) (N : En) (σ : L2.St) (δ : DV) (S : Sto) (H : Hp) : Prop where
  sl : Sl G H σ δ
  sim : Sim G S H
  up : Up N.S S N.H H
section
variable {G : Gm} {N : En} {σ : L2.St} {δ : DV} {S S' : Sto} {H H' : Hp}
theorem Rel.go (r : Rel G N σ δ S H) (s : Sim G S' H') (u : Up S S' H H') : Rel G N σ δ S' H' := ⟨r.sl.go (u.tu r.sim), s, r.up.trans u⟩
theorem Rel.set (r : Rel G N σ δ S H) (i : Nat) {v : V} {d : D} (k : Im G H v d) : Rel G N (σ.set i (some v)) (δ.set i (some d)) S H := ⟨r.sl.set i k, r.sim, r.up⟩
end
end Sd

set_option Elab.async false
set_option linter.all false
set_option maxRecDepth 100000
set_option maxHeartbeats 4000000
namespace Sd
open PySem PySem.Spec PyProof.Rows L2 GxR

abbrev DK := D → Sto → Prop
abbrev DE := DV → Sto → DK → Prop
abbrev DT := DV → Sto → (Bool → Sto → Prop) → Prop
abbrev DA := DV → Sto → (List D → Sto → Prop) → Prop
structure DN where
  nx : DV → Sto → Prop
  rt : DK
  bk : DV → Sto → Prop := fun _ _ => False
  ct : DV → Sto → Prop := fun _ _ => False
abbrev DS := DN → DV → Sto → Prop
/-- an operator by values -/
abbrev B2 := D → D → Sto → DK → Prop
abbrev B1 := D → Sto → DK → Prop
abbrev BL := List D → Sto → DK → Prop
/-- a def: arguments, store, what follows, what is raised (class, fields of the error) -/
abbrev XD := Addr → List (Str × D) → Sto → Prop
abbrev WF := List D → Sto → DK → XD → Prop

section
variable (G : Gm) (N : En)
def SE (t : TE) (f : DE) : Prop := ∀ (σ : L2.St) (δ : DV) (H : Hp) (S : Sto) (Q : DK) (R : VK), Rel G N σ δ S H → f δ S Q → (∀ v d H' S', Im G H' v d → Rel G N σ δ S' H' → Up S S' H H' → Q d S' → R v H') → t σ H R
def ST (t : TT) (f : DT) : Prop := ∀ (σ : L2.St) (δ : DV) (H : Hp) (S : Sto) (Q : Bool → Sto → Prop) (R : Bool → Hp → Prop), Rel G N σ δ S H → f δ S Q → (∀ b H' S', Rel G N σ δ S' H' → Up S S' H H' → Q b S' → R b H') → t σ H R
def SA (t : TA) (f : DA) : Prop := ∀ (σ : L2.St) (δ : DV) (H : Hp) (S : Sto) (Q : List D → Sto → Prop) (R : List V → Hp → Prop), Rel G N σ δ S H → f δ S Q → (∀ vs ds H' S', ImAll G H' vs ds → Rel G N σ δ S' H' → Up S S' H H' → Q ds S' → R vs H') → t σ H R
/-- what must be shown behind a statement -/
structure EOk (S : Sto) (H : Hp) (D : DN) (E : Ends) : Prop where
  nx : ∀ σ δ H' S', Rel G N σ δ S' H' → Up S S' H H' → D.nx δ S' → E.nx σ H'
  bk : ∀ σ δ H' S', Rel G N σ δ S' H' → Up S S' H H' → D.bk δ S' → E.bk σ H'
  ct : ∀ σ δ H' S', Rel G N σ δ S' H' → Up S S' H H' → D.ct δ S' → E.ct σ H'
  rt : ∀ v d H' S', Im G H' v d → Sim G S' H' → Up N.S S' N.H H' → D.rt d S' → E.rt v H'
def SS (t : TS) (f : DS) : Prop := ∀ (σ : L2.St) (δ : DV) (H : Hp) (S : Sto) (D : DN) (E : Ends), Rel G N σ δ S H → f D δ S → EOk G N S H D E → t E σ H
def S2 (r : R2) (rd : B2) : Prop := ∀ x y d e H S Q (R : VK), Im G H x d → Im G H y e → Sim G S H → rd d e S Q → (∀ v d' H' S', Im G H' v d' → Sim G S' H' → Up S S' H H' → Q d' S' → R v H') → r x y H R
def S1 (r : V → Hp → VK → Prop) (rd : B1) : Prop := ∀ x d H S Q (R : VK), Im G H x d → Sim G S H → rd d S Q → (∀ v d' H' S', Im G H' v d' → Sim G S' H' → Up S S' H H' → Q d' S' → R v H') → r x H R
def SL (r : List V → Hp → VK → Prop) (rd : BL) : Prop := ∀ xs ds H S Q (R : VK), ImAll G H xs ds → Sim G S H → rd ds S Q → (∀ v d' H' S', Im G H' v d' → Sim G S' H' → Up S S' H H' → Q d' S' → R v H') → r xs H R
end

/-! ### words of the data's side -/
def eVar (i : Nat) : DE := fun δ S Q => match δ[i]? with | some (some d) => Q d S | _ => False
def eC (d : D) : DE := fun _ S Q => Q d S
def eOp (r : B2) (a b : DE) : DE := fun δ S Q => a δ S fun x S1 => b δ S1 fun y S2 => r x y S2 Q
def eUn (r : B1) (a : DE) : DE := fun δ S Q => a δ S fun x S1 => r x S1 Q
/-- both ways of a test -/
def br (b : Bool) (p q : Prop) : Prop := (b = true → p) ∧ (b = false → q)
def asB (d : D) (k : Bool → Prop) : Prop := match d with | .bl b => k b | _ => False
def eAnd (a b : DE) : DE := fun δ S Q => a δ S fun x S1 => asB x fun c => br c (b δ S1 Q) (Q (.bl false) S1)
def eOr (a b : DE) : DE := fun δ S Q => a δ S fun x S1 => asB x fun c => br c (Q (.bl true) S1) (b δ S1 Q)
def eNot (a : DE) : DE := fun δ S Q => a δ S fun x S1 => asB x fun c => Q (.bl (!c)) S1
def eIf (t : DT) (a b : DE) : DE := fun δ S Q => t δ S fun c S1 => br c (a δ S1 Q) (b δ S1 Q)
def eChain (r r' : B2) (a b c : DE) : DE := fun δ S Q => a δ S fun x S1 => b δ S1 fun y S2 => r x y S2 fun z S3 => asB z fun k => br k (c δ S3 fun w S4 => r' y w S4 Q) (Q (.bl false) S3)
def tV (a : DE) : DT := fun δ S Q => a δ S fun x S1 => asB x fun c => Q c S1
def tAnd' (t u : DT) : DT := fun δ S Q => t δ S fun c S1 => br c (u δ S1 Q) (Q false S1)
def tOr' (t u : DT) : DT := fun δ S Q => t δ S fun c S1 => br c (Q true S1) (u δ S1 Q)
def tNot' (t : DT) : DT := fun δ S Q => t δ S fun c S1 => Q (!c) S1
def aNil : DA := fun _ S Q => Q [] S
def aCons (a : DE) (r : DA) : DA := fun δ S Q => a δ S fun x S1 => r δ S1 fun xs S2 => Q (x :: xs) S2
def eTup (a : DA) : DE := fun δ S Q => a δ S fun xs S1 => xs.length ≤ 1000000 ∧ Q (.tup xs) S1
def eLst (a : DA) : DE := fun δ S Q => a δ S fun xs S1 => xs.length ≤ 1000000 ∧ ∀ p, S1 p = none → Q (.ref p) (sup S1 p (.lst xs))
def eCB (r : BL) (a : DA) : DE := fun δ S Q => a δ S fun xs S1 => r xs S1 Q
def eDK : DE := fun _ S Q => ∀ p, S p = none → Q (.ref p) (sup S p (.dK []))
def eDT : DE := fun _ S Q => ∀ p, S p = none → Q (.ref p) (sup S p (.dT []))
/-- o.f, the field at the place i -/
def eFld (C : Addr) (nm : List Str) (i : Nat) (a : DE) : DE := fun δ S Q => a δ S fun x S1 => asRef x fun o => atO S1 o C nm fun ds => match ds[i]? with | some v => Q v S1 | none => False

theorem le_line {n : Nat} (h : n ≤ 1000000) : n ≤ sizeLine := Nat.le_trans h (by decide)
section
variable {G : Gm} {N : En} {ta tb tc : TE} {fa fb fc : DE} {t u : TT} {f g : DT} {r r' : R2} {rd rd' : B2}
theorem se_var {i : Nat} : SE G N (tVar i) (eVar i) := by
  intro σ δ H S Q R r h k
  unfold eVar at h
  split at h
  · rename_i d e
    obtain ⟨v, h1, h2⟩ := r.sl.at_ i d e
    exact ⟨v, h1, k v d H S h2 r .refl h⟩
  · exact h.elim
theorem se_c {v : V} {d : D} (i : ∀ H, Im G H v d) : SE G N (tC v) (eC d) := fun σ δ H S Q R r h k => k v d H S (i H) r .refl h
theorem se_int {i : Int} : SE G N (tC (.int i)) (eC (.int i)) := se_c fun _ => .int i
theorem se_bl {b : Bool} : SE G N (tC (.bl b)) (eC (.bl b)) := se_c fun _ => .bl b
theorem se_non : SE G N (tC .non) (eC .non) := se_c fun _ => .non
theorem se_str {x : Str} (h : okS x) : SE G N (tC (.str x)) (eC (.str x)) := se_c fun _ => .str x h
theorem se_ty {n : String} : SE G N (tC (.ty n)) (eC (.ty n)) := se_c fun _ => .ty n
theorem se_ref {a : Addr} : SE G N (tC (.ref a)) (eC (.ref a)) := se_c fun _ => .ref a
theorem se_op (ho : S2 G r rd) (ha : SE G N ta fa) (hb : SE G N tb fb) : SE G N (tOp r ta tb) (eOp rd fa fb) := by
  intro σ δ H S Q R rl h k
  refine ha σ δ H S _ _ rl h fun x d H1 S1 i1 r1 u1 q1 => ?_
  refine hb σ δ H1 S1 _ _ r1 q1 fun y e H2 S2 i2 r2 u2 q2 => ?_
  exact ho x y d e H2 S2 Q R (i1.go (u2.tu r1.sim)) i2 r2.sim q2 fun v d' H' S' i3 s3 u3 q3 => k v d' H' S' i3 (r2.go s3 u3) (u1.trans (u2.trans u3)) q3
theorem se_un {r1 : V → Hp → VK → Prop} {rd1 : B1} (ho : S1 G r1 rd1) (ha : SE G N ta fa) : SE G N (tUn r1 ta) (eUn rd1 fa) := by
  intro σ δ H S Q R rl h k
  refine ha σ δ H S _ _ rl h fun x d H1 S1 i1 r1 u1 q1 => ?_
  exact ho x d H1 S1 Q R i1 r1.sim q1 fun v d' H' S' i3 s3 u3 q3 => k v d' H' S' i3 (r1.go s3 u3) (u1.trans u3) q3
theorem asB_of {d : D} {k : Bool → Prop} (h : asB d k) : ∃ b, d = .bl b ∧ k b := by
  cases d <;> first | exact ⟨_, rfl, h⟩ | exact h.elim
theorem im_bl {H : Hp} {v : V} {b : Bool} (h : Im G H v (.bl b)) : v = .bl b := by cases h; rfl
theorem se_and (ha : SE G N ta fa) (hb : SE G N tb fb) : SE G N (tAndV ta tb) (eAnd fa fb) := by
  intro σ δ H S Q R rl h k
  refine ha σ δ H S _ _ rl h fun x d H1 S1 i1 r1 u1 q1 => ?_
  obtain ⟨c, rfl, q⟩ := asB_of q1
  refine ⟨c, im_bl i1, ?_⟩
  cases c with
  | true => rw [if_pos rfl]; exact hb σ δ H1 S1 _ _ r1 (q.1 rfl) fun v d' H' S' i2 r2 u2 q2 => k v d' H' S' i2 r2 (u1.trans u2) q2
  | false => rw [if_neg Bool.false_ne_true]; exact k _ _ H1 S1 (.bl false) r1 u1 (q.2 rfl)
theorem se_or (ha : SE G N ta fa) (hb : SE G N tb fb) : SE G N (tOrV ta tb) (eOr fa fb) := by
  intro σ δ H S Q R rl h k
  refine ha σ δ H S _ _ rl h fun x d H1 S1 i1 r1 u1 q1 => ?_
  obtain ⟨c, rfl, q⟩ := asB_of q1
  refine ⟨c, im_bl i1, ?_⟩
  cases c with
  | true => rw [if_pos rfl]; exact k _ _ H1 S1 (.bl true) r1 u1 (q.1 rfl)
  | false => rw [if_neg Bool.false_ne_true]; exact hb σ δ H1 S1 _ _ r1 (q.2 rfl) fun v d' H' S' i2 r2 u2 q2 => k v d' H' S' i2 r2 (u1.trans u2) q2
theorem se_not (ha : SE G N ta fa) : SE G N (tNotV ta) (eNot fa) := by
  intro σ δ H S Q R rl h k
  refine ha σ δ H S _ _ rl h fun x d H1 S1 i1 r1 u1 q1 => ?_
  obtain ⟨c, rfl, q⟩ := asB_of q1
  exact ⟨c, im_bl i1, k _ _ H1 S1 (.bl _) r1 u1 q⟩
theorem se_if (ht : ST G N t f) (ha : SE G N ta fa) (hb : SE G N tb fb) : SE G N (tIf t ta tb) (eIf f fa fb) := by
  intro σ δ H S Q R rl h k
  refine ht σ δ H S _ _ rl h fun c H1 S1 r1 u1 q => ?_
  cases c with
  | true => rw [if_pos rfl]; exact ha σ δ H1 S1 _ _ r1 (q.1 rfl) fun v d' H' S' i2 r2 u2 q2 => k v d' H' S' i2 r2 (u1.trans u2) q2
  | false => rw [if_neg Bool.false_ne_true]; exact hb σ δ H1 S1 _ _ r1 (q.2 rfl) fun v d' H' S' i2 r2 u2 q2 => k v d' H' S' i2 r2 (u1.trans u2) q2
theorem se_chain (ho : S2 G r rd) (ho' : S2 G r' rd') (ha : SE G N ta fa) (hb : SE G N tb fb) (hc : SE G N tc fc) : SE G N (tChain r r' ta tb tc) (eChain rd rd' fa fb fc) := by
  intro σ δ H S Q R rl h k
  refine ha σ δ H S _ _ rl h fun x d H1 S1 i1 r1 u1 q1 => ?_
  refine hb σ δ H1 S1 _ _ r1 q1 fun y e H2 S2 i2 r2 u2 q2 => ?_
  refine ho x y d e H2 S2 _ _ (i1.go (u2.tu r1.sim)) i2 r2.sim q2 fun v d' H3 S3 i3 s3 u3 q3 => ?_
  obtain ⟨c, rfl, q⟩ := asB_of q3
  refine ⟨c, im_bl i3, ?_⟩
  have r3 := r2.go s3 u3
  cases c with
  | true =>
    rw [if_pos rfl]
    refine hc σ δ H3 S3 _ _ r3 (q.1 rfl) fun z e4 H4 S4 i4 r4 u4 q4 => ?_
    exact ho' y z e e4 H4 S4 Q R ((i2.go (u3.tu r2.sim)).go (u4.tu r3.sim)) i4 r4.sim q4 fun v d' H' S' i5 s5 u5 q5 => k v d' H' S' i5 (r4.go s5 u5) (u1.trans (u2.trans (u3.trans (u4.trans u5)))) q5
  | false => rw [if_neg Bool.false_ne_true]; exact k _ _ H3 S3 (.bl false) r3 (u1.trans (u2.trans u3)) (q.2 rfl)
/-! tests -/
theorem st_tB (ha : SE G N ta fa) : ST G N (tB ta) (tV fa) := by
  intro σ δ H S Q R rl h k
  refine ha σ δ H S _ _ rl h fun x d H1 S1 i1 r1 u1 q1 => ?_
  obtain ⟨c, rfl, q⟩ := asB_of q1
  exact ⟨c, im_bl i1, k c H1 S1 r1 u1 q⟩
theorem st_test (ha : SE G N ta fa) : ST G N (tTest ta) (tV fa) := st_tB ha
theorem st_and (ha : ST G N t f) (hb : ST G N u g) : ST G N (tAnd t u) (tAnd' f g) := by
  intro σ δ H S Q R rl h k
  refine ha σ δ H S _ _ rl h fun c H1 S1 r1 u1 q => ?_
  cases c with
  | true => rw [if_pos rfl]; exact hb σ δ H1 S1 _ _ r1 (q.1 rfl) fun c' H' S' r2 u2 q2 => k c' H' S' r2 (u1.trans u2) q2
  | false => rw [if_neg Bool.false_ne_true]; exact k _ H1 S1 r1 u1 (q.2 rfl)
theorem st_or (ha : ST G N t f) (hb : ST G N u g) : ST G N (tOr t u) (tOr' f g) := by
  intro σ δ H S Q R rl h k
  refine ha σ δ H S _ _ rl h fun c H1 S1 r1 u1 q => ?_
  cases c with
  | true => rw [if_pos rfl]; exact k _ H1 S1 r1 u1 (q.1 rfl)
  | false => rw [if_neg Bool.false_ne_true]; exact hb σ δ H1 S1 _ _ r1 (q.2 rfl) fun c' H' S' r2 u2 q2 => k c' H' S' r2 (u1.trans u2) q2
theorem st_not (ha : ST G N t f) : ST G N (tNot t) (tNot' f) := fun σ δ H S Q R rl h k => ha σ δ H S _ _ rl h fun c H1 S1 r1 u1 q => k _ H1 S1 r1 u1 q
/-! arguments, displays -/
variable {tl : TA} {fl : DA}
theorem sa_nil : SA G N tNil aNil := fun σ δ H S Q R rl h k => k [] [] H S .nil rl .refl h
theorem sa_cons (ha : SE G N ta fa) (hl : SA G N tl fl) : SA G N (tCons ta tl) (aCons fa fl) := by
  intro σ δ H S Q R rl h k
  refine ha σ δ H S _ _ rl h fun x d H1 S1 i1 r1 u1 q1 => ?_
  refine hl σ δ H1 S1 _ _ r1 q1 fun vs ds H2 S2 i2 r2 u2 q2 => ?_
  exact k _ _ H2 S2 (.cons (i1.go (u2.tu r1.sim)) i2) r2 (u1.trans u2) q2
theorem new_tup {S : Sto} {H : Hp} {p : Addr} {xs : List V} {ds : List D} (s : Sim G S H) (hp : H p = none) (i : ImAll G H xs ds) : Im G (upd H p (.tup xs)) (.ref p) (.tup ds) ∧ Sim G S (upd H p (.tup xs)) ∧ Up S S H (upd H p (.tup xs)) :=
  let e := Ext.lay (o := .tup xs) hp
  ⟨.tup upd_same (i.go e.tu), s.ext e, Up.of_ext e⟩
theorem se_tup (hl : SA G N tl fl) : SE G N (tTup tl) (eTup fl) := by
  intro σ δ H S Q R rl h k
  refine hl σ δ H S _ _ rl h fun vs ds H1 S1 i1 r1 u1 ⟨z, q⟩ => ⟨by rw [i1.length]; exact le_line z, fun p hp => ?_⟩
  obtain ⟨a1, a2, a3⟩ := new_tup r1.sim hp i1
  exact k _ _ _ S1 a1 (r1.go a2 a3) (u1.trans a3) q
theorem new_lst {S : Sto} {H : Hp} {p : Addr} {xs : List V} {ds : List D} (s : Sim G S H) (hp : H p = none) (i : ImAll G H xs ds) : S p = none ∧ Sim G (sup S p (.lst ds)) (upd H p (.lst xs)) ∧ Up S (sup S p (.lst ds)) H (upd H p (.lst xs)) :=
  ⟨s.free hp, s.lay hp ⟨xs, upd_same, i.go (Ext.lay (o := .lst xs) hp).tu⟩⟩
theorem se_lst (hl : SA G N tl fl) : SE G N (tLst tl) (eLst fl) := by
  intro σ δ H S Q R rl h k
  refine hl σ δ H S _ _ rl h fun vs ds H1 S1 i1 r1 u1 ⟨z, q⟩ => ⟨by rw [i1.length]; exact le_line z, fun p hp => ?_⟩
  obtain ⟨a1, a2, a3⟩ := new_lst r1.sim hp i1
  exact k _ _ _ _ (.ref p) (r1.go a2 a3) (u1.trans a3) (q p a1)
theorem se_dK : SE G N tDNewK eDK := fun σ δ H S Q R rl h k p hp =>
  let a := rl.sim.lay (o := .dK []) (ho := .dK []) hp ⟨[], upd_same, .nil⟩
  k _ _ _ _ (.ref p) (rl.go a.1 a.2) a.2 (h p (rl.sim.free hp))
theorem se_dT : SE G N tDNewT eDT := fun σ δ H S Q R rl h k p hp =>
  let a := rl.sim.lay (o := .dT []) (ho := .dT []) hp ⟨[], upd_same, .nil⟩
  k _ _ _ _ (.ref p) (rl.go a.1 a.2) a.2 (h p (rl.sim.free hp))
theorem se_cb {rl : List V → Hp → VK → Prop} {rb : BL} (ho : SL G rl rb) (hl : SA G N tl fl) : SE G N (tCB rl tl) (eCB rb fl) := by
  intro σ δ H S Q R rl h k
  refine hl σ δ H S _ _ rl h fun vs ds H1 S1 i1 r1 u1 q => ?_
  exact ho vs ds H1 S1 Q R i1 r1.sim q fun v d' H' S' i3 s3 u3 q3 => k v d' H' S' i3 (r1.go s3 u3) (u1.trans u3) q3
theorem kv_look {κ : Type} [BEq κ] {H : Hp} {gs : List (κ × V)} {fs : List (κ × D)} (h : KvAll G H gs fs) {f : κ} {d : D} (e : fs.lookup f = some d) : ∃ v, gs.lookup f = some v ∧ Im G H v d := by
  induction h with
  | nil => cases e
  | @cons k v d' r s hi _ ih =>
    rw [List.lookup_cons] at e ⊢
    split at e
    · rename_i hk
      cases e
      exact ⟨v, rfl, hi⟩
    · rename_i hk
      exact ih e
theorem kv_none {κ : Type} [BEq κ] {H : Hp} {gs : List (κ × V)} {fs : List (κ × D)} (h : KvAll G H gs fs) {f : κ} (e : fs.lookup f = none) : gs.lookup f = none := by
  induction h with
  | nil => rfl
  | @cons k v d' r s hi _ ih =>
    rw [List.lookup_cons] at e ⊢
    split at e
    · cases e
    · rename_i hk
      exact ih e
theorem im_ref {H : Hp} {v : V} {a : Addr} (h : Im G H v (.ref a)) : v = .ref a := by cases h; rfl
theorem zip_look {f : Str} : ∀ {nm : List Str} {i : Nat} {ds : List D}, FIx nm f i → (nm.zip ds).lookup f = ds[i]?
  | [], _, _, h => by have := h.at_; simp at this
  | n :: nm, 0, [], h => by simp
  | n :: nm, 0, d :: ds, h => by
    have : n = f := by simpa using h.at_
    subst this
    simp
  | n :: nm, i + 1, [], h => by simp
  | n :: nm, i + 1, d :: ds, h => by
    have hn : f ≠ n := fun e => h.no (by rw [List.take_succ_cons, e]; exact List.mem_cons_self)
    rw [List.zip_cons_cons, List.lookup_cons, beq_eq_false_iff_ne.mpr hn]
    simp only [List.getElem?_cons_succ]
    exact zip_look ⟨by simpa using h.at_, fun z => h.no (by rw [List.take_succ_cons]; exact List.mem_cons_of_mem _ z)⟩
theorem se_fld {C : Addr} {f' : Str} {nm : List Str} {i : Nat} (c : Cls G.K C) (n : NoAttr G.K C f') (x : FIx nm f' i) (ha : SE G N ta fa) : SE G N (tFld G.K ta f') (eFld C nm i fa) := by
  intro σ δ H S Q R rl h k
  refine ha σ δ H S _ _ rl h fun x' d H1 S1 i1 r1 u1 q1 => ?_
  obtain ⟨o, rfl, q2⟩ := asRef_of q1
  obtain ⟨ds, ho, q⟩ := atO_of q2
  obtain ⟨dx, gs, hH, kv, _⟩ := r1.sim.ob o _ ho
  split at q
  · rename_i v hv
    obtain ⟨w, hw, iw⟩ := kv_look kv (f := f') (d := v) (by rw [zip_look x]; exact hv)
    exact ⟨o, C, dx, gs, w, im_ref i1, hH, c, n, hw, k w v H1 S1 iw r1 u1 q⟩
  · exact q.elim
end
end Sd

set_option Elab.async false
set_option linter.all false
set_option maxRecDepth 100000
set_option maxHeartbeats 4000000
namespace Sd
open PySem PySem.Spec PyProof.Rows L2
/-! ### a tuple times 0, 1, or less than 0 (own; the library's rule begins with 2) -/
theorem tupMul0 (l : Addr) (its : Array Value) (n : Nat) (dd : Option Addr) (sl : Array (Option Value)) (x : Int) (u : Tok) (c0 : (decide (x < -(2 ^ 63)) || decide (x ≥ 2 ^ 63)) = false)
    (c1 : (its.isEmpty || x == 1) = false) (c2 : (decide (x ≤ 0) || its.isEmpty) = true) :
    Meets (Builtin.«tuple.__mul__» ⟨[.ref l, .int x u], []⟩) (fun _ R s => s.heap.get? l = some ⟨.type "tuple", dd, .seq its n, sl⟩ ∧
      R (.ok (.ret (.ref s.heap.objs.size))) ⟨s.heap.push { cls := .type "tuple", data := .seq #[] }, s.gens, s.drawn, s.toks, s.os⟩) :=
  .of_wp fun prog w A R s h => by
    obtain ⟨hp, g, d, tk, os⟩ := s
    obtain ⟨hl, h⟩ := h
    have ix := AutoSeq1.idx_int
    wp_walk using wpAny_loadPart' hl
    repeat first
      | refine wpAny_ite_false (decide_eq_false (by rw [c0]; decide)) ?_; wp_walk using wpAny_loadPart' hl
      | refine wpAny_ite_false (decide_eq_false (by rw [c1]; decide)) ?_; wp_walk using wpAny_loadPart' hl
      | refine wpAny_ite_true (decide_eq_true (by rw [c2])) ?_; wp_walk using wpAny_loadPart' hl
    exact ⟨_, rfl, h⟩
theorem tupMul1 (l : Addr) (its : Array Value) (n : Nat) (dd : Option Addr) (sl : Array (Option Value)) (x : Int) (u : Tok) (c0 : (decide (x < -(2 ^ 63)) || decide (x ≥ 2 ^ 63)) = false) (c1 : (its.isEmpty || x == 1) = true) :
    Meets (Builtin.«tuple.__mul__» ⟨[.ref l, .int x u], []⟩) (fun _ R s => s.heap.get? l = some ⟨.type "tuple", dd, .seq its n, sl⟩ ∧ R (.ok (.ret (.ref l))) s) :=
  .of_wp fun prog w A R s h => by
    obtain ⟨hp, g, d, tk, os⟩ := s
    obtain ⟨hl, h⟩ := h
    have ix := AutoSeq1.idx_int
    wp_walk using wpAny_loadPart' hl
    repeat first
      | refine wpAny_ite_false (decide_eq_false (by rw [c0]; decide)) ?_; wp_walk using wpAny_loadPart' hl
      | refine wpAny_ite_true (decide_eq_true (by rw [c1])) ?_; wp_walk using wpAny_loadPart' hl
    exact ⟨_, rfl, h⟩
def rTm0 (K : PySem.W.Frag) : R2 := fun x y H Q => ∃ l k xs, x = .ref l ∧ y = .int k ∧ SqT K H l xs ∧ xs ≠ [] ∧ -(2 ^ 62) ≤ k ∧ k ≤ 0 ∧ ∀ p, H p = none → Q (.ref p) (upd H p (.tup []))
def rTm1 (K : PySem.W.Frag) : R2 := fun x y H Q => ∃ l xs, x = .ref l ∧ y = .int 1 ∧ SqT K H l xs ∧ Q (.ref l) H
section
variable {X : Cx}
theorem op_tm0 : OpR X (binaryOp .Mult) (rTm0 X.K) := by
  intro pins s σ H x y v u Q I rx ry h
  obtain ⟨l, k, xs, rfl, rfl, hT, hne, k1, k2, q⟩ := h
  cases rx
  obtain ⟨t, rfl⟩ := ry
  obtain ⟨its, r, ⟨⟨cls, dd, data, sl⟩, ho, hc, n, hd⟩, hs⟩ := I.tuple hT
  simp only at hc hd
  subst hc hd
  have e0 : its.toArray.isEmpty = false := by
    cases its with
    | nil => exact absurd (List.eq_nil_of_length_eq_zero r.length) hne
    | cons _ _ => rfl
  have d0 : (decide (k < -(2 ^ 63)) || decide (k ≥ 2 ^ 63)) = false := by simp; omega
  have d1 : (its.toArray.isEmpty || k == 1) = false := by rw [e0, Bool.false_or]; exact beq_eq_false_iff_ne.mpr (by omega)
  have d2 : (decide (k ≤ 0) || its.toArray.isEmpty) = true := by rw [decide_eq_true k2]; rfl
  have ty : s.TypeIs (.ref l) "tuple" := ⟨_, ho, rfl⟩
  refine wpAny_binaryOp_repeat_ref (T := "tuple") (U := "int") (by decide) ty (fun z => typeIs_int z k t) noFill_tuple_mul F.fills_int_mul F.slot_int_rmul repeat_tuple F.slot_int_index.lookup ?_
  refine call_meets F.slot_int_rmul (typeIs_int s k t) F.entry_int_rmul (F.args_int_rmul_2 _ _) (int_rmul_tuple k t l its.toArray n dd sl) ⟨ho, rfl, ty, ?_⟩
  refine call_meets F.slot_tuple_mul ty F.entry_tuple_mul (F.args_tuple_mul_2 _ _) (tupMul0 l its.toArray n dd sl k t d0 d1 d2) ⟨ho, ?_⟩
  refine ⟨.ref s.heap.objs.size, _, I.laid (t' := s.toks) (o := .tup []) (fun b ob z => Heap.get?_push_of_some _ z) (Nat.le_refl _) ?_, rfl, q _ (I.hok.fresh (Nat.le_refl _))⟩
  exact ⟨Nat.zero_le _, _, .nil, IsTup.new _ _⟩
theorem op_tm1 : OpR X (binaryOp .Mult) (rTm1 X.K) := by
  intro pins s σ H x y v u Q I rx ry h
  obtain ⟨l, xs, rfl, rfl, hT, q⟩ := h
  cases rx
  obtain ⟨t, rfl⟩ := ry
  obtain ⟨its, r, ⟨⟨cls, dd, data, sl⟩, ho, hc, n, hd⟩, hs⟩ := I.tuple hT
  simp only at hc hd
  subst hc hd
  have d1 : (its.toArray.isEmpty || (1 : Int) == 1) = true := by simp
  have ty : s.TypeIs (.ref l) "tuple" := ⟨_, ho, rfl⟩
  refine wpAny_binaryOp_repeat_ref (T := "tuple") (U := "int") (by decide) ty (fun z => typeIs_int z 1 t) noFill_tuple_mul F.fills_int_mul F.slot_int_rmul repeat_tuple F.slot_int_index.lookup ?_
  refine call_meets F.slot_int_rmul (typeIs_int s 1 t) F.entry_int_rmul (F.args_int_rmul_2 _ _) (int_rmul_tuple 1 t l its.toArray n dd sl) ⟨ho, rfl, ty, ?_⟩
  refine call_meets F.slot_tuple_mul ty F.entry_tuple_mul (F.args_tuple_mul_2 _ _) (tupMul1 l its.toArray n dd sl 1 t (by decide) d1) ⟨ho, ?_⟩
  exact ⟨.ref l, H, I, rfl, q⟩
/-- a tuple, many times -/
def rTm2 (K : PySem.W.Frag) : R2 := fun x y H Q => ∃ l k xs, x = .ref l ∧ y = .int k ∧ SqT K H l xs ∧ xs ≠ [] ∧ 2 ≤ k ∧ k ≤ 4000 ∧ xs.length ≤ 200 ∧ ∀ p, H p = none → Q (.ref p) (upd H p (.tup (List.replicate k.toNat xs).flatten))
theorem op_tm2 : OpR X (binaryOp .Mult) (rTm2 X.K) := by
  intro pins s σ H x y v u Q I rx ry h
  obtain ⟨l, k, xs, rfl, rfl, hT, hne, k1, k2, k3, q⟩ := h
  cases rx
  obtain ⟨t, rfl⟩ := ry
  obtain ⟨its, r, ⟨⟨cls, dd, data, sl⟩, ho, hc, n, hd⟩, hs⟩ := I.tuple hT
  simp only at hc hd
  subst hc hd
  have hlen : its.length = xs.length := r.length.symm
  have e0 : its.toArray.isEmpty = false := by
    cases its with
    | nil => exact absurd (List.eq_nil_of_length_eq_zero r.length) hne
    | cons _ _ => rfl
  have big : k.toNat * xs.length ≤ 4000 * 200 := Nat.mul_le_mul (by omega) k3
  have big2 : ((its.toArray.size : Nat) : Int) * k ≤ 800000 := by
    rw [List.size_toArray, hlen]
    have e : ((k.toNat * xs.length : Nat) : Int) = (xs.length : Int) * k := by
      rw [Int.natCast_mul, Int.toNat_of_nonneg (by omega), Int.mul_comm]
    rw [← e]
    omega
  have fl : (List.replicate k.toNat its).flatten.length ≤ 800000 := by
    rw [PyProof.Rows.lm_len_rep_flat, hlen]
    exact big
  have sl8 : (800000 : Nat) ≤ sizeLine := by decide
  have d0 : (decide (k < -(2 ^ 63)) || decide (k ≥ 2 ^ 63)) = false := by simp; omega
  have d1 : (its.toArray.isEmpty || k == 1) = false := by rw [e0, Bool.false_or]; exact beq_eq_false_iff_ne.mpr (by omega)
  have d2 : (decide (k ≤ 0) || its.toArray.isEmpty) = false := by rw [e0, Bool.or_false]; exact decide_eq_false (by omega)
  have d4 : Builtin.Tuple.tupleTooMany (((its.toArray.size : Nat) : Int) * k) = false := by
    unfold Builtin.Tuple.tupleTooMany
    have e : ((800000 : Nat) : Int) ≤ (sizeLine : Int) := by exact_mod_cast sl8
    exact decide_eq_false (by omega)
  have ty : s.TypeIs (.ref l) "tuple" := ⟨_, ho, rfl⟩
  refine wpAny_binaryOp_repeat_ref (T := "tuple") (U := "int") (by decide) ty (fun z => typeIs_int z k t) noFill_tuple_mul F.fills_int_mul F.slot_int_rmul repeat_tuple F.slot_int_index.lookup ?_
  refine call_meets F.slot_int_rmul (typeIs_int s k t) F.entry_int_rmul (F.args_int_rmul_2 _ _) (int_rmul_tuple k t l its.toArray n dd sl) ⟨ho, rfl, ty, ?_⟩
  refine call_meets F.slot_tuple_mul ty F.entry_tuple_mul (F.args_tuple_mul_2 _ _) (tuple_mulW l its.toArray n dd sl k t d0 d1 d2 (by omega) d4 (by rw [size_rep, List.size_toArray]; exact Nat.le_trans fl sl8)) ⟨ho, ?_⟩
  rw [size_rep]
  refine ⟨.ref s.heap.objs.size, _, I.laid (t' := s.toks) (o := .tup (List.replicate k.toNat xs).flatten) (fun b ob z => Heap.get?_push_of_some _ z) (Nat.le_refl _) ?_, rfl, q _ (I.hok.fresh (Nat.le_refl _))⟩
  refine ⟨?_, _, r.rep k.toNat, IsTup.new _ _⟩
  rw [PyProof.Rows.lm_len_rep_flat]
  exact Nat.le_trans big sl8
def rMulW (K : PySem.W.Frag) : R2 := fun x y H Q => Ow.rMulV K x y H Q ∨ rTm0 K x y H Q ∨ rTm1 K x y H Q ∨ rTm2 K x y H Q
theorem opW_mul : OpR X (binaryOp .Mult) (rMulW X.K) := Ow.opV_mul.or (op_tm0.or (op_tm1.or op_tm2))
end
end Sd

set_option Elab.async false
set_option linter.all false
set_option maxRecDepth 100000
set_option maxHeartbeats 4000000
namespace Sd
open PySem PySem.Spec PyProof.Rows L2 GxR

/-! ### operators by values -/
def dAdd : B2 := fun x y S Q => match x, y with
  | .int i, .int j => Q (.int (i + j)) S
  | .str a, .str b => a.length + b.length ≤ 1000000 ∧ Q (.str (a ++ b)) S
  | .tup xs, .tup ys => xs.length + ys.length ≤ 1000000 ∧ Q (.tup (xs ++ ys)) S
  | .ref a, .ref b => atL S a fun xs => atL S b fun ys => xs.length + ys.length ≤ 1000000 ∧ ∀ p, S p = none → Q (.ref p) (sup S p (.lst (xs ++ ys)))
  | _, _ => False
def dI (C : Int → Int → Prop) (f : Int → Int → D) : B2 := fun x y S Q => match x, y with
  | .int i, .int j => C i j ∧ Q (f i j) S
  | _, _ => False
def dSub : B2 := fun x y S Q => (dI (fun _ _ => True) fun i j => .int (i - j)) x y S Q
def dMod : B2 := fun x y S Q => (dI (fun _ j => 0 < j) fun i j => .int (i % j)) x y S Q
def dDiv : B2 := fun x y S Q => (dI CDivW fun i j => .int (i / j)) x y S Q
def dXor : B2 := fun x y S Q => (dI (fun _ _ => True) fun i j => .int (Builtin.bitXor i j)) x y S Q
def dShl : B2 := fun x y S Q => (dI CPow fun i j => .int (i * 2 ^ j.toNat)) x y S Q
def dShr : B2 := fun x y S Q => (dI (fun _ j => 0 ≤ j) fun i j => .int (i / 2 ^ j.toNat)) x y S Q
def dMul : B2 := fun x y S Q => match x, y with
  | .int i, .int j => CMul i j ∧ Q (.int (i * j)) S
  | .tup xs, .int k => xs ≠ [] ∧ -(2 ^ 62) ≤ k ∧ k ≤ 4000 ∧ xs.length ≤ 200 ∧ Q (.tup (List.replicate k.toNat xs).flatten) S
  | .str z, .int k => 2 ≤ k ∧ k ≤ 1000 ∧ 1 ≤ z.length ∧ z.length ≤ 1000 ∧ Q (.str (Ow.repS z k)) S
  | .ref a, .int k => atL S a fun xs => -(2 ^ 62) ≤ k ∧ k < 2 ^ 62 ∧ xs.length * k.toNat ≤ 1000000 ∧ ∀ p, S p = none → Q (.ref p) (sup S p (.lst (List.replicate k.toNat xs).flatten))
  | _, _ => False
def sLt (a b : Str) : Bool := decide (a.cps.toList < b.cps.toList)
def dCmp (p : Int → Int → Bool) (q : Str → Str → Bool) : B2 := fun x y S Q => match x, y with
  | .int i, .int j => Q (.bl (p i j)) S
  | .str i, .str j => Q (.bl (q i j)) S
  | _, _ => False
def dLe : B2 := fun x y S Q => (dCmp (fun i j => decide (i ≤ j)) fun i j => !sLt j i) x y S Q
def dLt : B2 := fun x y S Q => (dCmp (fun i j => decide (i < j)) fun i j => sLt i j) x y S Q
def dGe : B2 := fun x y S Q => (dCmp (fun i j => decide (j ≤ i)) fun i j => !sLt i j) x y S Q
def dGt : B2 := fun x y S Q => (dCmp (fun i j => decide (j < i)) fun i j => sLt j i) x y S Q

mutual
/-- data without addresses, as the library has it -/
def py : D → PyData
  | .non => .none
  | .bl b => .bool b
  | .int i => .int i
  | .str x => .str x
  | .tup ds => .tuple (pys ds)
  | .ctup ds => .tuple (pys ds)
  | .ref _ => .none
  | .scr => .none
  | .ty _ => .none
def pys : List D → List PyData
  | [] => []
  | d :: ds => py d :: pys ds
end
mutual
/-- pure data, at most n deep -/
def dat : Nat → D → Bool
  | _, .non => true
  | _, .bl _ => true
  | _, .int _ => true
  | _, .str _ => true
  | 0, .tup _ => false
  | n + 1, .tup ds => decide (ds.length ≤ 1000000) && dats n ds
  | _, .ctup _ => false
  | _, .ref _ => false
  | _, .scr => false
  | _, .ty _ => false
def dats : Nat → List D → Bool
  | _, [] => true
  | n, d :: ds => dat n d && dats n ds
end
def eqD (x y : D) : Bool := PyData.eqv (py x) (py y)
/-- a constant tuple read as a tuple -/
def unC : D → D
  | .ctup ds => .tup ds
  | .tup ds => .tup ds
  | .int i => .int i
  | .str x => .str x
  | .bl b => .bl b
  | .non => .non
  | .ref a => .ref a
  | .scr => .scr
  | .ty n => .ty n
def dEq : B2 := fun x y S Q => dat 60 (unC x) = true ∧ dat 60 (unC y) = true ∧ Q (.bl (eqD x y)) S
def dNe : B2 := fun x y S Q => dat 60 (unC x) = true ∧ dat 60 (unC y) = true ∧ Q (.bl (!eqD x y)) S
def flatD : D → Bool
  | .non => true | .bl _ => true | .int _ => true | .str _ => true | _ => false
def dIn (neg : Bool) : B2 := fun x y S Q => match y with
  | .tup ds => flatD x = true ∧ ds.all flatD = true ∧ Q (.bl (if neg then !ds.any fun z => eqD z x else ds.any fun z => eqD z x)) S
  | .ctup ds => flatD x = true ∧ ds.all flatD = true ∧ Q (.bl (if neg then !ds.any fun z => eqD z x else ds.any fun z => eqD z x)) S
  | .ref a => atL S a fun ds => dat 60 x = true ∧ dats 60 ds = true ∧ Q (.bl (if neg then !ds.any fun z => eqD z x else ds.any fun z => eqD z x)) S
  | _ => False
def isNon : D → Bool
  | .non => true
  | _ => false
def dIsN (neg : Bool) : B2 := fun x y S Q => match y with
  | .non => Q (.bl (if neg then !isNon x else isNon x)) S
  | _ => False
def dIx : B2 := fun x y S Q => match y with
  | .int i => (match x with
    | .tup ds => (match atI ds i with | some d => Q d S | none => False)
    | .ctup ds => (match atI ds i with | some d => Q d S | none => False)
    | .str z => (match atI z.cps.toList i with | some c => Q (.str ⟨#[c]⟩) S | none => False)
    | .ref a => atL S a fun ds => (match atI ds i with | some d => Q d S | none => False)
    | _ => False)
  | _ => False
def dNeg : B1 := fun x S Q => match x with | .int i => Q (.int (-i)) S | _ => False
def dLen : BL := fun xs S Q => match xs with
  | [.str x] => Q (.int x.length) S
  | [.tup ds] => Q (.int ds.length) S
  | [.ctup ds] => Q (.int ds.length) S
  | [.ref a] => atL S a fun ds => Q (.int ds.length) S
  | _ => False
def dList : BL := fun xs S Q => match xs with
  | [.ref a] => atL S a fun ds => ∀ l, S l = none → Q (.ref l) (sup S l (.lst ds))
  | [.tup ds] => ∀ l, S l = none → Q (.ref l) (sup S l (.lst ds))
  | [.ctup ds] => ∀ l, S l = none → Q (.ref l) (sup S l (.lst ds))
  | _ => False
def dTuple : BL := fun xs S Q => match xs with
  | [.ref a] => atL S a fun ds => Q (.tup ds) S
  | [.tup ds] => Q (.tup ds) S
  | [.ctup ds] => Q (.ctup ds) S
  | _ => False
def dInt : BL := fun xs S Q => match xs with
  | [.int i] => Q (.int i) S
  | [.bl k] => Q (.int (if k then 1 else 0)) S
  | _ => False
/-- the name of a value's type -/
def tyD (S : Sto) : D → Option String
  | .non => some "NoneType"
  | .bl _ => some "bool"
  | .int _ => some "int"
  | .str _ => some "str"
  | .tup _ => some "tuple"
  | .ctup _ => some "tuple"
  | .ref a => (match S a with | some (.lst _) => some "list" | some (.dK _) => some "dict" | some (.dT _) => some "dict" | _ => none)
  | _ => none
def tyNames : List String := ["NoneType", "bool", "int", "str", "tuple", "list", "dict"]
def isTy (n T : String) : Bool := n == T || (n == "bool" && T == "int")
def tyKn (T : String) : Bool := T == "int" || T == "bool" || T == "str" || T == "tuple" || T == "list" || T == "dict"
theorem tyKn_mem {T : String} (h : tyKn T = true) : T ∈ ["int", "bool", "str", "tuple", "list", "dict"] := by
  simp only [tyKn, Bool.or_eq_true, beq_iff_eq] at h
  rcases h with ((((rfl | rfl) | rfl) | rfl) | rfl) | rfl <;> decide
def dIsi : BL := fun xs S Q => match xs with
  | [d, .ty T] => (match tyD S d with | some n => tyKn T = true ∧ Q (.bl (isTy n T)) S | none => False)
  | _ => False
def isBl : D → Bool
  | .bl _ => true
  | _ => false
def isTr : D → Bool
  | .bl true => true
  | _ => false
def dAll : BL := fun xs S Q => match xs with
  | [.ref a] => atL S a fun ds => ds.all isBl = true ∧ Q (.bl (ds.all isTr)) S
  | _ => False

section
variable {G : Gm} {H : Hp} {S : Sto}
theorem im_int {v : V} {i : Int} (h : Im G H v (.int i)) : v = .int i := by cases h; rfl
theorem im_str {v : V} {x : Str} (h : Im G H v (.str x)) : v = .str x ∧ okS x := by cases h; exact ⟨rfl, by assumption⟩
theorem im_non {v : V} (h : Im G H v .non) : v = .non := by cases h; rfl
theorem im_ty {v : V} {n : String} (h : Im G H v (.ty n)) : v = .ty n := by cases h; rfl
theorem im_tup {v : V} {ds : List D} (h : Im G H v (.tup ds)) : ∃ a xs, v = .ref a ∧ H a = some (.tup xs) ∧ ImAll G H xs ds := by cases h; exact ⟨_, _, rfl, by assumption, by assumption⟩
theorem im_seq {v : V} {ds : List D} (h : Im G H v (.tup ds) ∨ Im G H v (.ctup ds)) : ∃ a xs, v = .ref a ∧ SqT G.K H a xs ∧ ImAll G H xs ds := by
  rcases h with h | h
  · obtain ⟨a, xs, e, h1, h2⟩ := im_tup h
    exact ⟨a, xs, e, SqT.of h1, h2⟩
  · match h with
    | .ctup h1 _ _ _ h2 => exact ⟨_, _, rfl, h1 H, h2⟩
    | .ftup h1 _ _ h2 => exact ⟨_, _, rfl, .inl (.inr ⟨_, h1⟩), h2⟩
theorem okS_app {a b : Str} (ha : okS a) (hb : okS b) (h : a.length + b.length ≤ 1000000) : okS (a ++ b) := by
  refine ⟨by rw [Ow.len_app]; exact h, ?_⟩
  show (a.cps ++ b.cps).all _ = true
  rw [Array.all_append]
  have h1 := ha.2
  have h2 := hb.2
  unfold PyData.strOk at h1 h2
  simp [h1, h2]
theorem s2_add : S2 G (Ow.rAddU G.K) dAdd := by
  intro x y d e H S Q R hx hy s h k
  unfold dAdd at h
  split at h
  · cases im_int hx; cases im_int hy
    exact .inl ⟨_, _, rfl, rfl, k _ _ H S (.int _) s .refl h⟩
  · obtain ⟨rfl, o1⟩ := im_str hx
    obtain ⟨rfl, o2⟩ := im_str hy
    exact .inr (.inr (.inr ⟨_, _, rfl, rfl, le_line h.1, k _ _ H S (.str _ (okS_app o1 o2 h.1)) s .refl h.2⟩))
  · obtain ⟨a, vs, rfl, h1, i1⟩ := im_tup hx
    obtain ⟨b, ws, rfl, h2, i2⟩ := im_tup hy
    refine .inr (.inl ⟨a, b, vs, ws, rfl, rfl, SqT.of h1, SqT.of h2, by rw [i1.length, i2.length]; exact le_line h.1, fun z => ?_, fun _ z => ?_, fun _ _ p hp => ?_⟩)
    · subst z
      cases i1
      exact k _ _ H S (.tup h2 i2) s .refl h.2
    · subst z
      cases i2
      have q := h.2
      rw [List.append_nil] at q
      exact k _ _ H S (.tup h1 i1) s .refl q
    · obtain ⟨a1, a2, a3⟩ := new_tup s hp (i1.append i2)
      exact k _ _ _ S a1 a2 a3 h.2
  · cases im_ref hx; cases im_ref hy
    obtain ⟨xs, h1, h⟩ := atL_of h
    obtain ⟨ys, h2, hl, q⟩ := atL_of h
    obtain ⟨vs, e1, i1⟩ := s.ob _ _ h1
    obtain ⟨ws, e2, i2⟩ := s.ob _ _ h2
    refine .inr (.inr (.inl ⟨_, _, vs, ws, rfl, rfl, e1, e2, by rw [i1.length, i2.length]; exact le_line hl, fun p hp => ?_⟩))
    obtain ⟨a1, a2, a3⟩ := new_lst s hp (i1.append i2)
    exact k _ _ _ _ (.ref p) a2 a3 (q p a1)
  · exact h.elim
theorem s2_I {C : Int → Int → Prop} {g : Int → Int → V} {f : Int → Int → D} (hf : ∀ H i j, Im G H (g i j) (f i j)) : S2 G (rI C g) (dI C f) := by
  intro x y d e H S Q R hx hy s h k
  unfold dI at h
  split at h
  · cases im_int hx; cases im_int hy
    exact ⟨_, _, rfl, rfl, h.1, k _ _ H S (hf H _ _) s .refl h.2⟩
  · exact h.elim
theorem s2_I0 {g : Int → Int → V} {f : Int → Int → D} (hf : ∀ H i j, Im G H (g i j) (f i j)) : S2 G (rI0 g) (dI (fun _ _ => True) f) := by
  intro x y d e H S Q R hx hy s h k
  unfold dI at h
  split at h
  · cases im_int hx; cases im_int hy
    exact ⟨_, _, rfl, rfl, k _ _ H S (hf H _ _) s .refl h.2⟩
  · exact h.elim
theorem s2_sub : S2 G (rI0 fun i j => .int (i - j)) dSub := s2_I0 fun _ _ _ => .int _
theorem s2_mod : S2 G (rI (fun _ j => 0 < j) fun i j => .int (i % j)) dMod := s2_I fun _ _ _ => .int _
theorem s2_div : S2 G (rI CDivW fun i j => .int (i / j)) dDiv := s2_I fun _ _ _ => .int _
theorem s2_xor : S2 G (rI0 fun i j => .int (Builtin.bitXor i j)) dXor := s2_I0 fun _ _ _ => .int _
theorem s2_shl : S2 G (rI CPow fun i j => .int (i * 2 ^ j.toNat)) dShl := s2_I fun _ _ _ => .int _
theorem s2_shr : S2 G (rI (fun _ j => 0 ≤ j) fun i j => .int (i / 2 ^ j.toNat)) dShr := s2_I fun _ _ _ => .int _
theorem okS_rep {z : Str} {k : Int} (h : okS z) (h1 : 1 ≤ z.length) (h2 : z.length ≤ 1000) (h3 : k ≤ 1000) : okS (Ow.repS z k) := by
  have e : ∀ (n : Nat) (acc : Array Nat), ((List.replicate n z.cps).foldl (· ++ ·) acc).size = acc.size + n * z.length ∧ (acc.all (· < 0x110000) = true → ((List.replicate n z.cps).foldl (· ++ ·) acc).all (· < 0x110000) = true) := by
    intro n
    induction n with
    | zero => intro acc; simp
    | succ n ih =>
      intro acc
      rw [List.replicate_succ, List.foldl_cons]
      obtain ⟨a1, a2⟩ := ih (acc ++ z.cps)
      refine ⟨?_, fun ha => a2 ?_⟩
      · rw [a1, Array.size_append, Nat.succ_mul]
        show acc.size + z.length + n * z.length = _
        omega
      · rw [Array.all_append, ha]
        exact h.2
  obtain ⟨a1, a2⟩ := e k.toNat #[]
  refine ⟨?_, a2 (by simp)⟩
  show ((List.replicate k.toNat z.cps).foldl (· ++ ·) #[]).size ≤ _
  rw [a1]
  have : k.toNat * z.length ≤ 1000 * 1000 := Nat.mul_le_mul (by omega) h2
  simp
  omega
theorem s2_mul : S2 G (rMulW G.K) dMul := by
  intro x y d e H S Q R hx hy s h k
  unfold dMul at h
  split at h
  · cases im_int hx; cases im_int hy
    exact .inl <| .inl <| .inl ⟨_, _, rfl, rfl, h.1, k _ _ H S (.int _) s .refl h.2⟩
  · cases im_int hy
    obtain ⟨a, vs, rfl, h1, i1⟩ := im_tup hx
    obtain ⟨c1, c2, c3, c4, q⟩ := h
    have hl := i1.length
    have vne : vs ≠ [] := fun z => by
      subst z
      cases i1
      exact c1 rfl
    rename_i ki
    by_cases k2 : 2 ≤ ki
    · refine .inr <| .inr <| .inr ⟨a, _, vs, rfl, rfl, SqT.of h1, vne, k2, c3, by omega, fun p hp => ?_⟩
      obtain ⟨a1, a2, a3⟩ := new_tup s hp (i1.repL _)
      exact k _ _ _ S a1 a2 a3 q
    · by_cases k1 : ki = 1
      · subst k1
        refine .inr <| .inr <| .inl ⟨a, vs, rfl, rfl, SqT.of h1, ?_⟩
        have e : (List.replicate (Int.toNat 1) ‹List D›).flatten = ‹List D› := by simp
        rw [e] at q
        exact k _ _ H S (.tup h1 i1) s .refl q
      · refine .inr <| .inl ⟨a, ki, vs, rfl, rfl, SqT.of h1, vne, c2, by omega, fun p hp => ?_⟩
        obtain ⟨a1, a2, a3⟩ := new_tup s hp (xs := []) (ds := []) .nil
        have e : ki.toNat = 0 := by omega
        rw [e] at q
        exact k _ _ _ S a1 a2 a3 q
  · cases im_int hy
    obtain ⟨rfl, o⟩ := im_str hx
    obtain ⟨c1, c2, c3, c4, q⟩ := h
    exact .inl <| .inr ⟨_, _, rfl, rfl, c1, c2, c3, c4, k _ _ H S (.str _ (okS_rep o c3 c4 c2)) s .refl q⟩
  · cases im_int hy; cases im_ref hx
    obtain ⟨xs, h1, c1, c2, c3, q⟩ := atL_of h
    obtain ⟨vs, e1, i1⟩ := s.ob _ _ h1
    have hl := i1.length
    refine .inl <| .inl <| .inr (.inr ⟨_, _, vs, rfl, rfl, e1, by omega, by omega, by rw [hl]; exact le_line c3, fun p hp => ?_⟩)
    obtain ⟨a1, a2, a3⟩ := new_lst s hp (i1.repL _)
    exact k _ _ _ _ (.ref p) a2 a3 (q p a1)
  · exact h.elim
theorem s2_cmp {r : R2} {p : Int → Int → Bool} {q : Str → Str → Bool} (h1 : ∀ i j H (Q : VK), Q (.bl (p i j)) H → r (.int i) (.int j) H Q) (h2 : ∀ i j H (Q : VK), Q (.bl (q i j)) H → r (.str i) (.str j) H Q) : S2 G r (dCmp p q) := by
  intro x y d e H S Q R hx hy s h k
  unfold dCmp at h
  split at h
  · cases im_int hx; cases im_int hy
    exact h1 _ _ _ _ (k _ _ H S (.bl _) s .refl h)
  · obtain ⟨rfl, o1⟩ := im_str hx
    obtain ⟨rfl, o2⟩ := im_str hy
    exact h2 _ _ _ _ (k _ _ H S (.bl _) s .refl h)
  · exact h.elim
def rLtV : R2 := fun x y H Q => rI0 (fun i j => .bl (decide (i < j))) x y H Q ∨ ∃ i j, x = .str i ∧ y = .str j ∧ Q (.bl (decide (i.cps.toList < j.cps.toList))) H
theorem opV_lt {X : Cx} : OpR X (compareOp .Lt) rLtV := op_lt.or op_lt_str
def rGeV : R2 := fun x y H Q => rI0 (fun i j => .bl (decide (j ≤ i))) x y H Q ∨ ∃ i j, x = .str i ∧ y = .str j ∧ Q (.bl (!decide (i.cps.toList < j.cps.toList))) H
theorem opV_ge {X : Cx} : OpR X (compareOp .GtE) rGeV := op_ge.or op_ge_str
def rGtV : R2 := fun x y H Q => rI0 (fun i j => .bl (decide (j < i))) x y H Q ∨ ∃ i j, x = .str i ∧ y = .str j ∧ Q (.bl (decide (j.cps.toList < i.cps.toList))) H
theorem opV_gt {X : Cx} : OpR X (compareOp .Gt) rGtV := op_gt.or op_gt_str
theorem s2_le : S2 G Ow.rLeU dLe := s2_cmp (fun i j H Q q => .inl ⟨i, j, rfl, rfl, q⟩) fun i j H Q q => .inr ⟨i, j, rfl, rfl, q⟩
theorem s2_lt : S2 G rLtV dLt := s2_cmp (fun i j H Q q => .inl ⟨i, j, rfl, rfl, q⟩) fun i j H Q q => .inr ⟨i, j, rfl, rfl, q⟩
theorem s2_ge : S2 G rGeV dGe := s2_cmp (fun i j H Q q => .inl ⟨i, j, rfl, rfl, q⟩) fun i j H Q q => .inr ⟨i, j, rfl, rfl, q⟩
theorem s2_gt : S2 G rGtV dGt := s2_cmp (fun i j H Q q => .inl ⟨i, j, rfl, rfl, q⟩) fun i j H Q q => .inr ⟨i, j, rfl, rfl, q⟩

/-! equality -/
mutual
theorem dp_of : ∀ (n : Nat) (d : D) (v : V), dat n d = true → Im G H v d → Dp G.K H v (py d) ∧ (py d).canLay0 = true ∧ (py d).depth ≤ n + 1
  | _, .non, _, _, h => by cases h; exact ⟨.non, by simp [py, PyData.canLay0], by simp [py, PyData.depth]⟩
  | _, .bl b, _, _, h => by cases h; exact ⟨.bl b, by simp [py, PyData.canLay0], by simp [py, PyData.depth]⟩
  | _, .int i, _, _, h => by cases h; exact ⟨.int i, by simp [py, PyData.canLay0], by simp [py, PyData.depth]⟩
  | _, .str x, _, _, h => by
    obtain ⟨rfl, o⟩ := im_str h
    exact ⟨.str x, by simp [py, PyData.canLay0, o.2], by simp [py, PyData.depth]⟩
  | 0, .tup ds, _, z, _ => by simp [dat] at z
  | n + 1, .tup ds, _, z, h => by
    rw [dat, Bool.and_eq_true] at z
    replace z := z.2
    obtain ⟨a, xs, rfl, h1, h2⟩ := im_seq (.inl h)
    obtain ⟨k1, k2, k3⟩ := dps_of n ds xs z h2
    exact ⟨by rw [py]; exact .tup h1 k1, by rw [py, PyData.canLay0]; exact k2, by rw [py, PyData.depth]; omega⟩
  | n, .ctup a, _, z, _ => by cases n <;> simp [dat] at z
  | n, .ref a, _, z, _ => by cases n <;> simp [dat] at z
  | n, .scr, _, z, _ => by cases n <;> simp [dat] at z
  | n, .ty t, _, z, _ => by cases n <;> simp [dat] at z
theorem dps_of : ∀ (n : Nat) (ds : List D) (vs : List V), dats n ds = true → ImAll G H vs ds → DpAll G.K H vs (pys ds) ∧ PyData.canLayAll0 (pys ds) = true ∧ PyData.depthAll (pys ds) ≤ n + 1
  | _, [], _, _, h => by cases h; exact ⟨.nil, by simp [pys, PyData.canLayAll0], by simp [pys, PyData.depthAll]⟩
  | n, d :: ds, _, z, h => by
    rw [dats, Bool.and_eq_true] at z
    cases h with
    | cons h1 h2 =>
      obtain ⟨a1, a2, a3⟩ := dp_of n d _ z.1 h1
      obtain ⟨b1, b2, b3⟩ := dps_of n ds _ z.2 h2
      refine ⟨by rw [pys]; exact .cons a1 b1, by rw [pys, PyData.canLayAll0, a2, b2]; rfl, by rw [pys, PyData.depthAll]; omega⟩
end
theorem dpC_of {n : Nat} {d : D} {v : V} (h : dat n (unC d) = true) (i : Im G H v d) : Dp G.K H v (py d) ∧ (py d).canLay0 = true ∧ (py d).depth ≤ n + 1 := by
  cases d with
  | ctup ds =>
    cases n with
    | zero => simp [unC, dat] at h
    | succ n =>
      rw [unC, dat, Bool.and_eq_true] at h
      obtain ⟨a, xs, rfl, h1, h2⟩ := im_seq (.inr i)
      obtain ⟨k1, k2, k3⟩ := dps_of n ds xs h.2 h2
      exact ⟨by rw [py]; exact .tup h1 k1, by rw [py, PyData.canLay0]; exact k2, by rw [py, PyData.depth]; omega⟩
  | _ => exact dp_of n _ v h i
theorem shaped_of {d : PyData} (h : d.canLay0 = true) (k : d.depth ≤ 64) : SeqAt.shaped d = true := by
  show (d.canLay0 && decide (d.depth ≤ 64)) = true
  rw [h, decide_eq_true k]; rfl
theorem s2_eq : S2 G (Ow.rEqU G.K) dEq := by
  intro x y d e H S Q R hx hy s ⟨h1, h2, h⟩ k
  obtain ⟨a1, a2, a3⟩ := dpC_of h1 hx
  obtain ⟨b1, b2, b3⟩ := dpC_of h2 hy
  exact .inr ⟨py d, py e, a1, b1, shaped_of a2 (by omega), shaped_of b2 (by omega), k _ _ H S (.bl _) s .refl h⟩
theorem s2_ne : S2 G (Ow.rNeU G.K) dNe := by
  intro x y d e H S Q R hx hy s ⟨h1, h2, h⟩ k
  obtain ⟨a1, a2, a3⟩ := dpC_of h1 hx
  obtain ⟨b1, b2, b3⟩ := dpC_of h2 hy
  exact .inr ⟨py d, py e, a1, b1, shaped_of a2 (by omega), shaped_of b2 (by omega), k _ _ H S (.bl _) s .refl h⟩
/-! in, not in -/
def rInV (K : PySem.W.Frag) : R2 := fun x y H Q => rInD K x y H Q ∨ rIn K false x y H Q
theorem opV_in {X : Cx} (hu : X.A.units + 65 < cLine) : OpR X (compareOp .In) (rInV X.K) := (op_inD hu).or op_in_seq
def rNotInV (K : PySem.W.Frag) : R2 := fun x y H Q => rNotInD K x y H Q ∨ rIn K true x y H Q
theorem opV_notin {X : Cx} (hu : X.A.units + 65 < cLine) : OpR X (compareOp .NotIn) (rNotInV X.K) := (op_notInD hu).or op_notIn_seq
theorem flat_im {d : D} {v : V} (h : flatD d = true) (i : Im G H v d) : flatV v = true := by
  cases d <;> first | (cases i; rfl) | cases h
theorem flats_im : ∀ {ds : List D} {vs : List V}, ds.all flatD = true → ImAll G H vs ds → vs.all flatV = true
  | _, _, _, .nil => rfl
  | _, _, h, .cons h1 h2 => by
    rw [List.all_cons, Bool.and_eq_true] at h
    rw [List.all_cons, flat_im h.1 h1, flats_im h.2 h2]; rfl
theorem eqV_im {d e : D} {v w : V} (hd : flatD d = true) (he : flatD e = true) (i : Im G H v d) (j : Im G H w e) : eqV v w = eqD d e := by
  cases d <;> first | cases hd | skip
  all_goals cases e <;> first | cases he | skip
  all_goals cases i <;> cases j <;> simp [eqV, eqD, py, PyData.eqv]
theorem any_im {x : D} {v : V} (hx : flatD x = true) (i : Im G H v x) : ∀ {ds : List D} {vs : List V}, ds.all flatD = true → ImAll G H vs ds → inV v vs = ds.any fun z => eqD z x
  | _, _, _, .nil => rfl
  | _, _, h, .cons h1 h2 => by
    rw [List.all_cons, Bool.and_eq_true] at h
    rw [List.any_cons, ← any_im hx i h.2 h2, ← eqV_im h.1 hx h1 i]
    rfl
theorem pys_map : ∀ ds : List D, pys ds = ds.map py
  | [] => rfl
  | d :: ds => by rw [pys, pys_map ds]; rfl
theorem any_py (x : D) (ds : List D) : ((pys ds).any fun z => PyData.eqv z (py x)) = ds.any fun z => eqD z x := by
  rw [pys_map, List.any_map]
  rfl
theorem s2_inB {neg : Bool} {r : R2} (h1 : ∀ x y d ds H (Q : VK), Dp G.K H x d → Dp G.K H y (.list ds) → SeqAt.shaped d = true → SeqAt.shaped (.list ds) = true → Q (.bl (if neg then !(ds.any fun z => PyData.eqv z d) else ds.any fun z => PyData.eqv z d)) H → r x y H Q)
    (h2 : ∀ x y H (Q : VK), rIn G.K neg x y H Q → r x y H Q) : S2 G r (dIn neg) := by
  intro x y d e H S Q R hx hy s h k
  unfold dIn at h
  have seq : ∀ {ds : List D}, Im G H y (.tup ds) ∨ Im G H y (.ctup ds) → flatD d = true ∧ ds.all flatD = true ∧ Q (.bl (if neg then !ds.any fun z => eqD z d else ds.any fun z => eqD z d)) S → r x y H R := by
    intro ds hy ⟨c1, c2, q⟩
    obtain ⟨a, vs, rfl, e1, i1⟩ := im_seq hy
    refine h2 _ _ _ _ ⟨a, vs, rfl, .inr e1, flat_im c1 hx, flats_im c2 i1, ?_⟩
    rw [any_im c1 hx c2 i1]
    exact k _ _ H S (.bl _) s .refl q
  split at h
  · exact seq (.inl hy) h
  · exact seq (.inr hy) h
  · cases im_ref hy
    obtain ⟨ds, e1, c1, c2, q⟩ := atL_of h
    obtain ⟨vs, hv, i1⟩ := s.ob _ _ e1
    obtain ⟨a1, a2, a3⟩ := dp_of 60 d x c1 hx
    obtain ⟨b1, b2, b3⟩ := dps_of 60 ds vs c2 i1
    refine h1 _ _ _ _ _ _ a1 (.lst (SqL.of hv) b1) (shaped_of a2 (by omega)) (shaped_of (by rw [PyData.canLay0]; exact b2) (by rw [PyData.depth]; omega)) ?_
    rw [any_py]
    exact k _ _ H S (.bl _) s .refl q
  · exact h.elim
theorem s2_in : S2 G (rInV G.K) (dIn false) := s2_inB (fun x y d ds H Q a b c e q => .inl ⟨d, ds, a, b, c, e, q⟩) fun x y H Q q => .inr q
theorem s2_notin : S2 G (rNotInV G.K) (dIn true) := s2_inB (fun x y d ds H Q a b c e q => .inl ⟨d, ds, a, b, c, e, q⟩) fun x y H Q q => .inr q
theorem isNon_im {d : D} {v : V} (i : Im G H v d) : decide (v = .non) = isNon d := by
  cases i <;> simp [isNon]
theorem s2_isN : S2 G (fun x y H Q => y = .non ∧ Q (.bl (decide (x = .non))) H) (dIsN false) := by
  intro x y d e H S Q R hx hy s h k
  unfold dIsN at h
  split at h
  · cases im_non hy
    refine ⟨rfl, ?_⟩
    rw [isNon_im hx]
    exact k _ _ H S (.bl _) s .refl h
  · exact h.elim
theorem s2_notN : S2 G (fun x y H Q => y = .non ∧ Q (.bl (!decide (x = .non))) H) (dIsN true) := by
  intro x y d e H S Q R hx hy s h k
  unfold dIsN at h
  split at h
  · cases im_non hy
    refine ⟨rfl, ?_⟩
    rw [isNon_im hx]
    exact k _ _ H S (.bl _) s .refl h
  · exact h.elim
/-! places -/
theorem at_im {ds : List D} {vs : List V} {i : Int} {d : D} (h : ImAll G H vs ds) (e : atI ds i = some d) : ∃ v, atI vs i = some v ∧ Im G H v d := by
  unfold atI at e ⊢
  rw [h.length]
  cases q : ixN ds.length i with
  | none => rw [q] at e; cases e
  | some j =>
    rw [q] at e
    exact h.getD e
theorem okS_sign {z : Str} {c : Nat} (h : okS z) (hc : c ∈ z.cps.toList) : okS ⟨#[c]⟩ := by
  refine ⟨by show 1 ≤ 1000000; decide, ?_⟩
  have := h.2
  unfold PyData.strOk at this ⊢
  rw [Array.all_eq_true] at this
  simp only [List.size_toArray]
  obtain ⟨i, hi, e⟩ := List.getElem_of_mem hc
  have h1 := this i (by simpa using hi)
  have h2 : z.cps[i]'(by simpa using hi) = c := by simpa using e
  rw [h2] at h1
  simpa using h1
theorem atI_mem {α : Type} {xs : List α} {i : Int} {c : α} (h : atI xs i = some c) : c ∈ xs := by
  obtain ⟨j, _, h2, _⟩ := atI_get h
  exact List.mem_of_getElem? h2
theorem s2_ix : S2 G (rIx G.K) dIx := by
  intro x y d e H S Q R hx hy s h k
  unfold dIx at h
  split at h
  · cases im_int hy
    split at h
    · split at h
      · rename_i ds _ c hc
        obtain ⟨a, vs, rfl, e1, i1⟩ := im_seq (.inl hx)
        obtain ⟨v, hv, iv⟩ := at_im i1 hc
        exact .inr (.inl ⟨a, vs, _, v, rfl, rfl, e1, hv, k v c H S iv s .refl h⟩)
      · exact h.elim
    · split at h
      · rename_i ds _ c hc
        obtain ⟨a, vs, rfl, e1, i1⟩ := im_seq (.inr hx)
        obtain ⟨v, hv, iv⟩ := at_im i1 hc
        exact .inr (.inl ⟨a, vs, _, v, rfl, rfl, e1, hv, k v c H S iv s .refl h⟩)
      · exact h.elim
    · split at h
      · rename_i z _ c hc
        obtain ⟨rfl, o⟩ := im_str hx
        exact .inr (.inr ⟨z, _, c, rfl, rfl, le_line o.1, hc, k _ _ H S (.str _ (okS_sign o (atI_mem hc))) s .refl h⟩)
      · exact h.elim
    · cases im_ref hx
      obtain ⟨ds, e1, q⟩ := atL_of h
      obtain ⟨vs, hv, i1⟩ := s.ob _ _ e1
      split at q
      · rename_i c hc
        obtain ⟨v, hv2, iv⟩ := at_im i1 hc
        exact .inl ⟨_, vs, _, v, rfl, rfl, SqL.of hv, hv2, k v c H S iv s .refl q⟩
      · exact q.elim
    · exact h.elim
  · exact h.elim
theorem s1_neg : S1 G (rU fun i => .int (-i)) dNeg := by
  intro x d H S Q R hx s h k
  unfold dNeg at h
  split at h
  · cases im_int hx
    exact ⟨_, rfl, k _ _ H S (.int _) s .refl h⟩
  · exact h.elim
/-! builtins -/
theorem ia1 {vs : List V} {d : D} (h : ImAll G H vs [d]) : ∃ v, vs = [v] ∧ Im G H v d := by
  cases h with
  | cons h1 h2 => cases h2; exact ⟨_, rfl, h1⟩
theorem ia2 {vs : List V} {d e : D} (h : ImAll G H vs [d, e]) : ∃ v w, vs = [v, w] ∧ Im G H v d ∧ Im G H w e := by
  cases h with
  | cons h1 h2 =>
    obtain ⟨w, rfl, h3⟩ := ia1 h2
    exact ⟨_, w, rfl, h1, h3⟩
theorem sl_len : SL G (Ow.rLenU G.K) dLen := by
  intro xs ds H S Q R hx s h k
  unfold dLen at h
  split at h
  · obtain ⟨v, rfl, i⟩ := ia1 hx
    obtain ⟨rfl, o⟩ := im_str i
    exact ⟨_, _, rfl, ⟨le_line o.1, rfl⟩, k _ _ H S (.int _) s .refl h⟩
  · obtain ⟨v, rfl, i⟩ := ia1 hx
    obtain ⟨a, vs, rfl, e1, i1⟩ := im_seq (.inl i)
    exact ⟨_, _, rfl, .inr ⟨vs, e1, rfl⟩, by rw [i1.length]; exact k _ _ H S (.int _) s .refl h⟩
  · obtain ⟨v, rfl, i⟩ := ia1 hx
    obtain ⟨a, vs, rfl, e1, i1⟩ := im_seq (.inr i)
    exact ⟨_, _, rfl, .inr ⟨vs, e1, rfl⟩, by rw [i1.length]; exact k _ _ H S (.int _) s .refl h⟩
  · obtain ⟨v, rfl, i⟩ := ia1 hx
    cases im_ref i
    obtain ⟨ds, e1, q⟩ := atL_of h
    obtain ⟨vs, hv, i1⟩ := s.ob _ _ e1
    exact ⟨_, _, rfl, .inl ⟨vs, SqL.of hv, rfl⟩, by rw [i1.length]; exact k _ _ H S (.int _) s .refl q⟩
  · exact h.elim
theorem sl_list : SL G (Ow.rListU G.K) dList := by
  intro xs ds H S Q R hx s h k
  unfold dList at h
  split at h
  · obtain ⟨v, rfl, i⟩ := ia1 hx
    cases im_ref i
    obtain ⟨ds, e1, q⟩ := atL_of h
    obtain ⟨vs, hv, i1⟩ := s.ob _ _ e1
    refine ⟨_, vs, rfl, .inl (SqL.of hv), fun l hl => ?_⟩
    obtain ⟨a1, a2, a3⟩ := new_lst s hl i1
    exact k _ _ _ _ (.ref l) a2 a3 (q l a1)
  · obtain ⟨v, rfl, i⟩ := ia1 hx
    obtain ⟨a, vs, rfl, e1, i1⟩ := im_seq (.inl i)
    refine ⟨_, vs, rfl, .inr e1, fun l hl => ?_⟩
    obtain ⟨a1, a2, a3⟩ := new_lst s hl i1
    exact k _ _ _ _ (.ref l) a2 a3 (h l a1)
  · obtain ⟨v, rfl, i⟩ := ia1 hx
    obtain ⟨a, vs, rfl, e1, i1⟩ := im_seq (.inr i)
    refine ⟨_, vs, rfl, .inr e1, fun l hl => ?_⟩
    obtain ⟨a1, a2, a3⟩ := new_lst s hl i1
    exact k _ _ _ _ (.ref l) a2 a3 (h l a1)
  · exact h.elim
theorem sl_tuple : SL G (Ow.rTupleU G.K) dTuple := by
  intro xs ds H S Q R hx s h k
  unfold dTuple at h
  split at h
  · obtain ⟨v, rfl, i⟩ := ia1 hx
    cases im_ref i
    obtain ⟨ds, e1, q⟩ := atL_of h
    obtain ⟨vs, hv, i1⟩ := s.ob _ _ e1
    refine ⟨_, vs, rfl, .inl ⟨SqL.of hv, fun l hl => ?_⟩⟩
    obtain ⟨a1, a2, a3⟩ := new_tup s hl i1
    exact k _ _ _ S a1 a2 a3 q
  · obtain ⟨v, rfl, i⟩ := ia1 hx
    have i' := i
    obtain ⟨a, vs, rfl, e1, i1⟩ := im_seq (.inl i)
    exact ⟨_, vs, rfl, .inr ⟨e1, k _ _ H S i' s .refl h⟩⟩
  · obtain ⟨v, rfl, i⟩ := ia1 hx
    have i' := i
    obtain ⟨a, vs, rfl, e1, i1⟩ := im_seq (.inr i)
    exact ⟨_, vs, rfl, .inr ⟨e1, k _ _ H S i' s .refl h⟩⟩
  · exact h.elim
theorem sl_int : SL G Ow.rIntU dInt := by
  intro xs ds H S Q R hx s h k
  unfold dInt at h
  split at h
  · obtain ⟨v, rfl, i⟩ := ia1 hx
    cases im_int i
    exact .inl ⟨_, rfl, k _ _ H S (.int _) s .refl h⟩
  · obtain ⟨v, rfl, i⟩ := ia1 hx
    cases im_bl i
    exact .inr ⟨_, rfl, k _ _ H S (.int _) s .refl h⟩
  · exact h.elim
theorem ty_im {S : Sto} {d : D} {v : V} {n : String} (s : Sim G S H) (i : Im G H v d) (e : tyD S d = some n) : TyX G.K H v (.type n) ∧ n ∈ tyNames := by
  cases i with
  | non => cases e; exact ⟨.base .non, by decide⟩
  | bl b => cases e; exact ⟨.base (.bl b), by decide⟩
  | int i => cases e; exact ⟨.base (.int i), by decide⟩
  | str x _ => cases e; exact ⟨.base (.str x), by decide⟩
  | tup h1 _ => cases e; exact ⟨.base (.tup h1), by decide⟩
  | ctup _ h2 h3 _ _ => cases e; exact ⟨.kTuple h2 h3, by decide⟩
  | ftup h1 _ _ _ => cases e; exact ⟨.fTuple h1, by decide⟩
  | ref a =>
    simp only [tyD] at e
    split at e
    · rename_i ds hs
      cases e
      obtain ⟨vs, hv, _⟩ := s.ob _ _ hs
      exact ⟨.base (.lst hv), by decide⟩
    · rename_i ds hs
      cases e
      obtain ⟨vs, hv, _⟩ := s.ob _ _ hs
      exact ⟨.base (.dK hv), by decide⟩
    · rename_i ds hs
      cases e
      obtain ⟨vs, hv, _⟩ := s.ob _ _ hs
      exact ⟨.base (.dT hv), by decide⟩
    · cases e
  | scr => cases e
  | ty n => cases e
theorem kit_tab {n T : String} (h1 : n ∈ tyNames) (h2 : T ∈ ["int", "bool", "str", "tuple", "list", "dict"]) : kitB n T = some (isTy n T) := by
  simp only [tyNames, List.mem_cons, List.not_mem_nil, or_false] at h1 h2
  rcases h1 with rfl | rfl | rfl | rfl | rfl | rfl | rfl <;> rcases h2 with rfl | rfl | rfl | rfl | rfl | rfl <;> rfl
theorem sl_isi : SL G (rIsi G.K) dIsi := by
  intro xs ds H S Q R hx s h k
  unfold dIsi at h
  split at h
  · obtain ⟨v, w, rfl, i, j⟩ := ia2 hx
    cases im_ty j
    split at h
    · rename_i n hn
      obtain ⟨t, m⟩ := ty_im s i hn
      exact ⟨v, _, _, _, _, rfl, .ty _, t, kit_ty (kit_tab m (tyKn_mem h.1)), k _ _ H S (.bl _) s .refl h.2⟩
    · exact h.elim
  · exact h.elim
theorem im_bls : ∀ {bs : List Bool} {vs : List V}, ImAll G H vs (bs.map D.bl) → vs = bs.map V.bl
  | [], _, h => by cases h; rfl
  | b :: bs, _, h => by
    cases h with
    | cons h1 h2 => cases im_bl h1; rw [im_bls h2]; rfl
theorem bls_of : ∀ {ds : List D}, ds.all isBl = true → ∃ bs : List Bool, ds = bs.map D.bl
  | [], _ => ⟨[], rfl⟩
  | d :: ds, h => by
    rw [List.all_cons, Bool.and_eq_true] at h
    obtain ⟨bs, rfl⟩ := bls_of h.2
    cases d <;> first | exact ⟨_ :: bs, rfl⟩ | cases h.1
theorem all_bls : ∀ bs : List Bool, (bs.map D.bl).all isTr = bs.all id
  | [] => rfl
  | b :: bs => by
    rw [List.map_cons, List.all_cons, List.all_cons, all_bls bs]
    cases b <;> rfl
theorem sl_all : SL G (rAll G.K) dAll := by
  intro xs ds H S Q R hx s h k
  unfold dAll at h
  split at h
  · obtain ⟨v, rfl, i⟩ := ia1 hx
    cases im_ref i
    obtain ⟨ds, e1, c1, q⟩ := atL_of h
    obtain ⟨bs, rfl⟩ := bls_of c1
    obtain ⟨vs, hv, i1⟩ := s.ob _ _ e1
    cases im_bls i1
    rw [all_bls] at q
    exact ⟨_, bs, rfl, SqL.of hv, k _ _ H S (.bl _) s .refl q⟩
  · exact h.elim
/-! slices -/
abbrev DO := DV → Sto → (Option Int → Sto → Prop) → Prop
def oNone : DO := fun _ S Q => Q none S
def oSome (a : DE) : DO := fun δ S Q => a δ S fun x S1 => match x with | .int i => Q (some i) S1 | _ => False
def SO (G : Gm) (N : En) (t : TO) (f : DO) : Prop := ∀ (σ : L2.St) (δ : DV) (H : Hp) (S : Sto) (Q : Option Int → Sto → Prop) (R : Option Int → Hp → Prop), Rel G N σ δ S H → f δ S Q → (∀ b H' S', Rel G N σ δ S' H' → Up S S' H H' → Q b S' → R b H') → t σ H R
def cutD (xs : List D) (lo hi : Option Int) : List D := (xs.drop (HT.sIx xs.length 0 lo)).take (HT.sIx xs.length xs.length hi - HT.sIx xs.length 0 lo)
def dSl (x : D) (lo hi : Option Int) : Sto → DK → Prop := fun S Q => match x with
  | .tup ds => Q (.tup (cutD ds lo hi)) S
  | .ref a => atL S a fun ds => ∀ p, S p = none → Q (.ref p) (sup S p (.lst (cutD ds lo hi)))
  | _ => False
def eSl (a : DE) (l u : DO) : DE := fun δ S Q => a δ S fun x S1 => l δ S1 fun lo S2 => u δ S2 fun hi S3 => dSl x lo hi S3 Q
theorem so_none {N : En} : SO G N tNoPart oNone := fun σ δ H S Q R rl h k => k none H S rl .refl h
theorem so_some {N : En} {ta : TE} {fa : DE} (ha : SE G N ta fa) : SO G N (tPart ta) (oSome fa) := by
  intro σ δ H S Q R rl h k
  refine ha σ δ H S _ _ rl h fun x d H1 S1 i1 r1 u1 q1 => ?_
  cases d <;> first | exact q1.elim | skip
  exact ⟨_, im_int i1, k _ H1 S1 r1 u1 q1⟩
theorem cut_im {xs : List V} {ds : List D} (h : ImAll G H xs ds) (lo hi : Option Int) : ImAll G H (cutV xs lo hi) (cutD ds lo hi) := by
  unfold cutV cutD
  rw [h.length]
  exact (h.drop _).take _
theorem cut_whole {xs : List D} {lo hi : Option Int} (h : HT.sIx xs.length 0 lo = 0 ∧ HT.sIx xs.length xs.length hi = xs.length) : cutD xs lo hi = xs := by
  unfold cutD
  rw [h.1, h.2]
  simp
theorem se_sl {N : En} {ta : TE} {fa : DE} {tl tu : TO} {fl fu : DO} (ha : SE G N ta fa) (hl : SO G N tl fl) (hu : SO G N tu fu) : SE G N (tSl (Ow.rSlU G.K) ta tl tu) (eSl fa fl fu) := by
  intro σ δ H S Q R rl h k
  refine ha σ δ H S _ _ rl h fun x d H1 S1 i1 r1 u1 q1 => ?_
  refine hl σ δ H1 S1 _ _ r1 q1 fun lo H2 S2 r2 u2 q2 => ?_
  refine hu σ δ H2 S2 _ _ r2 q2 fun hi H3 S3 r3 u3 q3 => ?_
  have i3 := (i1.go (u2.tu r1.sim)).go (u3.tu r2.sim)
  have uu := u1.trans (u2.trans u3)
  unfold dSl at q3
  split at q3
  · rename_i ds
    have i3' := i3
    obtain ⟨a, vs, rfl, e1, j1⟩ := im_tup i3
    refine .inr (.inl ⟨a, vs, rfl, SqT.of e1, fun z => ?_, fun z p hp => ?_⟩)
    · rw [j1.length] at z
      rw [cut_whole z] at q3
      exact k _ _ H3 S3 i3' r3 uu q3
    · obtain ⟨a1, a2, a3⟩ := new_tup r3.sim hp (cut_im j1 lo hi)
      exact k _ _ _ S3 a1 (r3.go a2 a3) (uu.trans a3) q3
  · cases im_ref i3
    obtain ⟨ds, e1, q⟩ := atL_of q3
    obtain ⟨vs, hv, j1⟩ := r3.sim.ob _ _ e1
    refine .inl ⟨_, vs, rfl, SqL.of hv, fun p hp => ?_⟩
    obtain ⟨a1, a2, a3⟩ := new_lst r3.sim hp (cut_im j1 lo hi)
    exact k _ _ _ _ (.ref p) (r3.go a2 a3) (uu.trans a3) (q p a1)
  · exact q3.elim
end
end Sd

set_option Elab.async false
set_option linter.all false
set_option maxRecDepth 100000
set_option maxHeartbeats 4000000
namespace Sd
open PySem PySem.Spec PyProof.Rows L2 GxR

/-! ### slots forgotten -/
def wipeD (δ : DV) : List Nat → DV
  | [] => δ
  | v :: vs => (wipeD δ vs).set v none
theorem wipeD_length (δ : DV) : ∀ vs : List Nat, (wipeD δ vs).length = δ.length
  | [] => rfl
  | v :: vs => by unfold wipeD; rw [List.length_set, wipeD_length δ vs]
theorem Sl.wipe {G : Gm} {H : Hp} {σ : L2.St} {δ : DV} (h : Sl G H σ δ) : ∀ vs, Sl G H (L2.wipe σ vs) (wipeD δ vs)
  | [] => h
  | v :: vs => by
    have ih := Sl.wipe h vs
    unfold L2.wipe wipeD
    refine ⟨by rw [List.length_set, List.length_set]; exact ih.len, fun j e hj => ?_⟩
    rw [List.getElem?_set] at hj ⊢
    by_cases y : v = j
    · rw [if_pos y] at hj
      split at hj <;> cases hj
    · rw [if_neg y] at hj ⊢
      exact ih.at_ j e hj
theorem wipe_set {σ : L2.St} {i : Nat} {x : Option V} : ∀ {vs : List Nat}, i ∈ vs → L2.wipe (σ.set i x) vs = L2.wipe σ vs
  | [], h => by cases h
  | v :: vs, h => by
    unfold L2.wipe
    by_cases e : i ∈ vs
    · rw [wipe_set e]
    · have hv : i = v := by
        rcases List.mem_cons.mp h with h | h
        · exact h
        · exact absurd h e
      subst hv
      have : ∀ ws : List Nat, i ∉ ws → L2.wipe (σ.set i x) ws = (L2.wipe σ ws).set i x := by
        intro ws
        induction ws with
        | nil => intro _; rfl
        | cons w ws ih =>
          intro hw
          rw [List.mem_cons, not_or] at hw
          unfold L2.wipe
          rw [ih hw.2, List.set_comm _ _ hw.1]
      rw [this vs e, List.set_set]
theorem wipeD_set {δ : DV} {i : Nat} {x : Option D} : ∀ {vs : List Nat}, i ∈ vs → wipeD (δ.set i x) vs = wipeD δ vs
  | [], h => by cases h
  | v :: vs, h => by
    unfold wipeD
    by_cases e : i ∈ vs
    · rw [wipeD_set e]
    · have hv : i = v := by
        rcases List.mem_cons.mp h with h | h
        · exact h
        · exact absurd h e
      subst hv
      have : ∀ ws : List Nat, i ∉ ws → wipeD (δ.set i x) ws = (wipeD δ ws).set i x := by
        intro ws
        induction ws with
        | nil => intro _; rfl
        | cons w ws ih =>
          intro hw
          rw [List.mem_cons, not_or] at hw
          unfold wipeD
          rw [ih hw.2, List.set_comm _ _ hw.1]
      rw [this vs e, List.set_set]
theorem wipe_wipe (σ : L2.St) : ∀ vs : List Nat, L2.wipe (L2.wipe σ vs) vs = L2.wipe σ vs := by
  have gen : ∀ ws vs : List Nat, (∀ v ∈ ws, v ∈ vs) → L2.wipe (L2.wipe σ ws) vs = L2.wipe σ vs := by
    intro ws
    induction ws with
    | nil => intro vs _; rfl
    | cons w ws ih =>
      intro vs h
      show L2.wipe ((L2.wipe σ ws).set w none) vs = _
      rw [wipe_set (h w List.mem_cons_self), ih vs fun v hv => h v (List.mem_cons_of_mem _ hv)]
  intro vs
  exact gen vs vs fun _ h => h
theorem wipeD_wipe (δ : DV) : ∀ vs : List Nat, wipeD (wipeD δ vs) vs = wipeD δ vs := by
  have gen : ∀ ws vs : List Nat, (∀ v ∈ ws, v ∈ vs) → wipeD (wipeD δ ws) vs = wipeD δ vs := by
    intro ws
    induction ws with
    | nil => intro vs _; rfl
    | cons w ws ih =>
      intro vs h
      show wipeD ((wipeD δ ws).set w none) vs = _
      rw [wipeD_set (h w List.mem_cons_self), ih vs fun v hv => h v (List.mem_cons_of_mem _ hv)]
  intro vs
  exact gen vs vs fun _ h => h

/-! ### targets -/
abbrev DG := D → DV → Sto → (DV → Sto → Prop) → Prop
abbrev DGs := List D → DV → Sto → (DV → Sto → Prop) → Prop
def SG (G : Gm) (N : En) (ws : List Nat) (t : TG) (g : DG) : Prop := ∀ (v : V) (d : D) (σ : L2.St) (δ : DV) (H : Hp) (S : Sto) (Q : DV → Sto → Prop) (R : L2.St → Hp → Prop), Rel G N σ δ S H → Im G H v d → g d δ S Q →
  (∀ σ' δ' H' S', Rel G N σ' δ' S' H' → Up S S' H H' → (∀ vs, (∀ i ∈ ws, i ∈ vs) → L2.wipe σ' vs = L2.wipe σ vs ∧ wipeD δ' vs = wipeD δ vs) → Q δ' S' → R σ' H') → t v σ H R
def SGs (G : Gm) (N : En) (ws : List Nat) (t : TGs) (g : DGs) : Prop := ∀ (v : List V) (d : List D) (σ : L2.St) (δ : DV) (H : Hp) (S : Sto) (Q : DV → Sto → Prop) (R : L2.St → Hp → Prop), Rel G N σ δ S H → ImAll G H v d → g d δ S Q →
  (∀ σ' δ' H' S', Rel G N σ' δ' S' H' → Up S S' H H' → (∀ vs, (∀ i ∈ ws, i ∈ vs) → L2.wipe σ' vs = L2.wipe σ vs ∧ wipeD δ' vs = wipeD δ vs) → Q δ' S' → R σ' H') → t v σ H R
def xName (i : Nat) : DG := fun d δ S Q => Q (δ.set i (some d)) S
def xNil : DGs := fun ds δ S Q => ds = [] ∧ Q δ S
def xCons (t : DG) (u : DGs) : DGs := fun ds δ S Q => match ds with | d :: r => t d δ S fun δ' S' => u r δ' S' Q | [] => False
def xTup (n : Nat) (t : DGs) : DG := fun d δ S Q => match d with | .tup ds => ds.length = n ∧ t ds δ S Q | .ctup ds => ds.length = n ∧ t ds δ S Q | _ => False
section
variable {G : Gm} {N : En} {ws us : List Nat}
theorem sg_name {i : Nat} : SG G N [i] (gName i) (xName i) := by
  intro v d σ δ H S Q R rl im h k
  refine k _ _ H S (rl.set i im) .refl (fun vs hv => ⟨wipe_set (hv i List.mem_cons_self), wipeD_set (hv i List.mem_cons_self)⟩) h
theorem sgs_nil : SGs G N [] gNil xNil := by
  intro v d σ δ H S Q R rl im ⟨e, h⟩ k
  subst e
  cases im
  exact ⟨rfl, k σ δ H S rl .refl (fun _ _ => ⟨rfl, rfl⟩) h⟩
theorem sgs_cons {t : TG} {g : DG} {ts : TGs} {gs : DGs} (h1 : SG G N ws t g) (h2 : SGs G N us ts gs) : SGs G N (ws ++ us) (gCons t ts) (xCons g gs) := by
  intro v d σ δ H S Q R rl im h k
  cases im with
  | nil => exact h.elim
  | @cons v vs d ds i1 i2 =>
    refine ⟨v, vs, rfl, h1 v d σ δ H S _ _ rl i1 h fun σ1 δ1 H1 S1 r1 u1 w1 q1 => ?_⟩
    refine h2 vs ds σ1 δ1 H1 S1 _ _ r1 (i2.go (u1.tu rl.sim)) q1 fun σ2 δ2 H2 S2 r2 u2 w2 q2 => ?_
    refine k _ _ H2 S2 r2 (u1.trans u2) (fun ws' hw => ?_) q2
    obtain ⟨a1, a2⟩ := w1 ws' fun i hi => hw i (List.mem_append_left _ hi)
    obtain ⟨b1, b2⟩ := w2 ws' fun i hi => hw i (List.mem_append_right _ hi)
    exact ⟨b1.trans a1, b2.trans a2⟩
theorem sg_tup {n : Nat} {ts : TGs} {gs : DGs} (h1 : SGs G N ws ts gs) : SG G N ws (gTup G.K n ts) (xTup n gs) := by
  intro v d σ δ H S Q R rl im h k
  unfold xTup at h
  split at h
  · obtain ⟨a, xs, rfl, e1, i1⟩ := im_seq (.inl im)
    exact ⟨a, xs, rfl, e1, by rw [i1.length]; exact h.1, h1 xs _ σ δ H S Q R rl i1 h.2 k⟩
  · obtain ⟨a, xs, rfl, e1, i1⟩ := im_seq (.inr im)
    exact ⟨a, xs, rfl, e1, by rw [i1.length]; exact h.1, h1 xs _ σ δ H S Q R rl i1 h.2 k⟩
  · exact h.elim
end
/-- o[i] = v of a list -/
def xSub (fo fi : DE) : DG := fun d δ S Q => fo δ S fun o S1 => fi δ S1 fun i S2 => match o, i with
  | .ref a, .int k => atL S2 a fun ds => (match ixN ds.length k with | some j => Q δ (sup S2 a (.lst (ds.set j d))) | none => False)
  | _, _ => False

/-! ### statements -/
section
variable {G : Gm} {N : En}
theorem EOk.go {S S1 : Sto} {H H1 : Hp} {D : DN} {E : Ends} (k : EOk G N S H D E) (u : Up S S1 H H1) : EOk G N S1 H1 D E :=
  ⟨fun σ δ H' S' r v => k.nx σ δ H' S' r (u.trans v), fun σ δ H' S' r v => k.bk σ δ H' S' r (u.trans v), fun σ δ H' S' r v => k.ct σ δ H' S' r (u.trans v), k.rt⟩
def sNext : DS := fun D δ S => D.nx δ S
/-- what follows, folded -/
noncomputable def NX (u : DS) (D : DN) : DV → Sto → Prop := Classical.choose (⟨_, rfl⟩ : ∃ X : DV → Sto → Prop, X = fun δ S => u D δ S)
theorem NX_eq (u : DS) (D : DN) : NX u D = fun δ S => u D δ S := Classical.choose_spec (⟨_, rfl⟩ : ∃ X : DV → Sto → Prop, X = fun δ S => u D δ S)
theorem nx_go {u : DS} {D : DN} {δ : DV} {S : Sto} (h : u D δ S) : NX u D δ S := by rw [NX_eq]; exact h
theorem nx_of {u : DS} {D : DN} {δ : DV} {S : Sto} (h : NX u D δ S) : u D δ S := by rw [NX_eq] at h; exact h
noncomputable def sSeq (t u : DS) : DS := fun D δ S => t { D with nx := NX u D } δ S
def sBreak : DS := fun D δ S => D.bk δ S
def sCont : DS := fun D δ S => D.ct δ S
def sDrop (e : DE) : DS := fun D δ S => e δ S fun _ S1 => D.nx δ S1
def sRet (e : DE) : DS := fun D δ S => e δ S D.rt
def sRetN : DS := fun D _ S => D.rt .non S
def sIf (c : DT) (t u : DS) : DS := fun D δ S => c δ S fun b S1 => br b (t D δ S1) (u D δ S1)
def sAsg (e : DE) (g : DG) : DS := fun D δ S => e δ S fun x S1 => g x δ S1 D.nx
def sAug (i : Nat) (e : DE) (r : B2) : DS := fun D δ S => match δ[i]? with | some (some x) => e δ S fun y S1 => r x y S1 fun z S2 => D.nx (δ.set i (some z)) S2 | _ => False
def sNever : DS := fun _ _ _ => False
variable {te : TE} {fe : DE} {ts us : TS} {ft fu : DS} {tc : TT} {fc : DT}
theorem ss_next : SS G N tNext sNext := fun σ δ H S D E r h k => k.nx σ δ H S r .refl h
theorem ss_seq (h1 : SS G N ts ft) (h2 : SS G N us fu) : SS G N (tSeq ts us) (sSeq ft fu) := fun σ δ H S D E r h k =>
  h1 σ δ H S _ _ r h ⟨fun σ' δ' H' S' r' u q => h2 σ' δ' H' S' D E r' (nx_of q) (k.go u), k.bk, k.ct, k.rt⟩
theorem ss_break : SS G N tBreak sBreak := fun σ δ H S D E r h k => k.bk σ δ H S r .refl h
theorem ss_cont : SS G N tCont sCont := fun σ δ H S D E r h k => k.ct σ δ H S r .refl h
theorem ss_drop (he : SE G N te fe) : SS G N (tDrop te) (sDrop fe) := fun σ δ H S D E r h k => he σ δ H S _ _ r h fun v d H' S' i r' u q => k.nx σ δ H' S' r' u q
theorem ss_ret (he : SE G N te fe) : SS G N (tRet te) (sRet fe) := fun σ δ H S D E r h k => he σ δ H S _ _ r h fun v d H' S' i r' u q => k.rt v d H' S' i r'.sim r'.up q
theorem ss_retN : SS G N tRetN sRetN := fun σ δ H S D E r h k => k.rt .non .non H S .non r.sim r.up h
theorem ss_if (hc : ST G N tc fc) (h1 : SS G N ts ft) (h2 : SS G N us fu) : SS G N (tIfS tc ts us) (sIf fc ft fu) := by
  intro σ δ H S D E r h k
  refine hc σ δ H S _ _ r h fun b H1 S1 r1 u1 q => ?_
  cases b with
  | true => rw [if_pos rfl]; exact h1 σ δ H1 S1 D E r1 (q.1 rfl) (k.go u1)
  | false => rw [if_neg Bool.false_ne_true]; exact h2 σ δ H1 S1 D E r1 (q.2 rfl) (k.go u1)
theorem ss_asg {ws : List Nat} {tg : TG} {g : DG} (he : SE G N te fe) (hg : SG G N ws tg g) : SS G N (tAsg te tg) (sAsg fe g) := by
  intro σ δ H S D E r h k
  refine he σ δ H S _ _ r h fun v d H1 S1 i1 r1 u1 q1 => ?_
  exact hg v d σ δ H1 S1 _ _ r1 i1 q1 fun σ2 δ2 H2 S2 r2 u2 _ q2 => k.nx σ2 δ2 H2 S2 r2 (u1.trans u2) q2
theorem ss_aug {i : Nat} {tip : TIp} {rd : B2} (ho : S2 G tip rd) (he : SE G N te fe) : SS G N (tAug i te tip) (sAug i fe rd) := by
  intro σ δ H S D E r h k
  unfold sAug at h
  split at h
  · rename_i x e
    obtain ⟨v, hv, iv⟩ := r.sl.at_ i x e
    refine ⟨v, hv, he σ δ H S _ _ r h fun w d H1 S1 i1 r1 u1 q1 => ?_⟩
    exact ho v w x d H1 S1 _ _ (iv.go (u1.tu r.sim)) i1 r1.sim q1 fun z d2 H2 S2 i2 s2 u2 q2 => k.nx _ _ H2 S2 ((r1.go s2 u2).set i i2) (u1.trans u2) q2
  · exact h.elim
theorem s2_ipadd : S2 G (ipI fun i j => i + j) (dI (fun _ _ => True) fun i j => .int (i + j)) := by
  intro x y d e H S Q R hx hy s h k
  unfold dI at h
  split at h
  · cases im_int hx; cases im_int hy
    exact ⟨_, _, rfl, rfl, k _ _ H S (.int _) s .refl h.2⟩
  · exact h.elim
theorem s2_ipsub : S2 G (ipI fun i j => i - j) (dI (fun _ _ => True) fun i j => .int (i - j)) := by
  intro x y d e H S Q R hx hy s h k
  unfold dI at h
  split at h
  · cases im_int hx; cases im_int hy
    exact ⟨_, _, rfl, rfl, k _ _ H S (.int _) s .refl h.2⟩
  · exact h.elim
theorem ss_never : SS G N tNever sNever := fun _ _ _ _ _ _ _ h _ => h.elim
theorem sg_sub {to ti : TE} {fo fi : DE} (ho : SE G N to fo) (hi : SE G N ti fi) : SG G N [] (gSub to ti rSetL) (xSub fo fi) := by
  intro v d σ δ H S Q R rl im h k
  refine ho σ δ H S _ _ rl h fun o o' H1 S1 i1 r1 u1 q1 => ?_
  refine hi σ δ H1 S1 _ _ r1 q1 fun i i' H2 S2 i2 r2 u2 q2 => ?_
  have io := i1.go (u2.tu r1.sim)
  split at q2
  · rename_i a k'
    cases im_ref io
    cases im_int i2
    obtain ⟨ds, e1, q⟩ := atL_of q2
    obtain ⟨xs, hx, ix⟩ := r2.sim.ob _ _ e1
    split at q
    · rename_i j hj
      have i3 := (im.go (u1.tu rl.sim)).go (u2.tu r1.sim)
      have t : Tu H2 (upd H2 a (.lst (xs.set j v))) := fun b ys hT hb => by rw [upd_ne (fun y => by rw [y, hx] at hb; cases hb; cases hT)]; exact hb
      obtain ⟨s3, u3⟩ := r2.sim.put (o := .lst (ds.set j d)) (ho := .lst (xs.set j v)) e1 (by simp) rfl ⟨_, upd_same, (ix.set j i3).go t⟩
      exact ⟨a, xs, k', j, rfl, rfl, hx, by rw [ix.length]; exact hj, k σ δ _ _ (r2.go s3 u3) (u1.trans (u2.trans u3)) (fun _ _ => ⟨rfl, rfl⟩) q⟩
    · exact q.elim
  · exact q2.elim
end

/-! ### what is walked -/
structure Src where
  items : List D
  ok : Sto → Prop
abbrev DI := DV → Sto → (Src → Sto → Prop) → Prop
def JOk (G : Gm) (J : It) (src : Src) (S : Sto) (H : Hp) : Prop := ∀ S2 H2, Sim G S2 H2 → Up S S2 H H2 → src.ok S2 → ∀ i, i ≤ src.items.length →
  (i < src.items.length → J.go i H2) ∧ (i = src.items.length → J.stop i H2) ∧ ∀ x H', i < src.items.length → J.yld i H2 x H' → ∃ d, src.items[i]? = some d ∧ Im G H' x d ∧ Sim G S2 H' ∧ Up S2 S2 H2 H' ∧ Ext H2 H'
def SI (G : Gm) (N : En) (t : TI) (f : DI) : Prop := ∀ (σ : L2.St) (δ : DV) (H : Hp) (S : Sto) (Q : Src → Sto → Prop) (R : It → Hp → Prop), Rel G N σ δ S H → f δ S Q → (∀ J src H' S', JOk G J src S' H' → Rel G N σ δ S' H' → Up S S' H H' → Q src S' → R J H') → t σ H R
def forD (ok : Sto → Prop) (g : DG) (tb : DS) : List D → DS
  | [] => fun D δ S => ok S ∧ D.nx δ S
  | x :: xs => fun D δ S => ok S ∧ g x δ S fun δ' S' => tb { D with nx := forD ok g tb xs D, ct := forD ok g tb xs D, bk := D.nx } δ' S'
def sFor (wi : DI) (g : DG) (tb : DS) : DS := fun D δ S => wi δ S fun src S' => forD src.ok g tb src.items D δ S'
def whN (c : DT) (tb : DS) : Nat → DS
  | 0 => fun _ _ _ => False
  | n + 1 => fun D δ S => c δ S fun b S1 => br b (tb { D with nx := whN c tb n D, ct := whN c tb n D, bk := D.nx } δ S1) (D.nx δ S1)
def sWhile (c : DT) (tb : DS) : DS := fun D δ S => ∃ n, whN c tb n D δ S
section
variable {G : Gm} {N : En}
theorem ss_for {ws : List Nat} {twi : TI} {wi : DI} {tg : TG} {g : DG} {tb : TS} {fb : DS} (hi : SI G N twi wi) (hg : SG G N ws tg g) (hb : SS G N tb fb) : SS G N (tFor twi tg tb) (sFor wi g fb) := by
  intro σ δ H S D E r h k
  refine hi σ δ H S _ _ r h fun J src H1 S1 jk r1 u1 q1 => ?_
  refine ⟨fun i m σ' H' => m = src.items.length - i ∧ i ≤ src.items.length ∧ ∃ δ' S', Rel G N σ' δ' S' H' ∧ Up S1 S' H1 H' ∧ forD src.ok g fb (src.items.drop i) D δ' S', ⟨src.items.length, by simp, Nat.zero_le _, δ, S1, r1, .refl, by simpa using q1⟩, ?_⟩
  rintro i m σ' H' ⟨rfl, hi', δ', S', r', u', q'⟩
  by_cases hlt : i < src.items.length
  · rw [List.drop_eq_getElem_cons hlt] at q'
    obtain ⟨a1, _, a3⟩ := jk S' H' r'.sim u' q'.1 i hi'
    refine .inr ⟨a1 hlt, fun σ2 H2 => ∃ δ2 S2, Rel G N σ2 δ2 S2 H2 ∧ Up S1 S2 H1 H2 ∧ forD src.ok g fb (src.items.drop (i + 1)) D δ2 S2, fun σ2 H2 ⟨δ2, S2, x1, x2, x3⟩ => ⟨src.items.length - (i + 1), by omega, rfl, hlt, δ2, S2, x1, x2, x3⟩, fun x H2 y => ?_⟩
    obtain ⟨d, hd, im, s2, u2, _⟩ := a3 x H2 hlt y
    rw [List.getElem?_eq_getElem hlt] at hd
    cases hd
    refine hg x _ σ' δ' H2 S' _ _ (r'.go s2 u2) im q'.2 fun σ3 δ3 H3 S3 r3 u3 _ q3 => ?_
    have uu := u'.trans (u2.trans u3)
    exact hb σ3 δ3 H3 S3 _ _ r3 q3 ⟨fun σ4 δ4 H4 S4 r4 u4 q4 => ⟨δ4, S4, r4, uu.trans u4, q4⟩, fun σ4 δ4 H4 S4 r4 u4 q4 => k.nx σ4 δ4 H4 S4 r4 (u1.trans (uu.trans u4)) q4, fun σ4 δ4 H4 S4 r4 u4 q4 => ⟨δ4, S4, r4, uu.trans u4, q4⟩, k.rt⟩
  · have e : i = src.items.length := by omega
    subst e
    rw [List.drop_length] at q'
    obtain ⟨_, a2, _⟩ := jk S' H' r'.sim u' q'.1 _ (Nat.le_refl _)
    exact .inl ⟨a2 rfl, k.nx σ' δ' H' S' r' (u1.trans u') q'.2⟩
theorem ss_while {tc : TT} {fc : DT} {tb : TS} {fb : DS} (hc : ST G N tc fc) (hb : SS G N tb fb) : SS G N (tWhile tc tb) (sWhile fc fb) := by
  rintro σ δ H S D E r ⟨n, h⟩ k
  refine ⟨fun m σ' H' => ∃ δ' S', Rel G N σ' δ' S' H' ∧ Up S S' H H' ∧ whN fc fb m D δ' S', ⟨n, δ, S, r, .refl, h⟩, ?_⟩
  rintro m σ' H' ⟨δ', S', r', u', q'⟩
  cases m with
  | zero => exact q'.elim
  | succ m =>
    refine hc σ' δ' H' S' _ _ r' q' fun b H1 S1 r1 u1 q1 => ?_
    cases b with
    | true =>
      rw [if_pos rfl]
      refine ⟨fun σ2 H2 => ∃ δ2 S2, Rel G N σ2 δ2 S2 H2 ∧ Up S S2 H H2 ∧ whN fc fb m D δ2 S2, fun σ2 H2 ⟨δ2, S2, x⟩ => ⟨m, Nat.lt_succ_self m, δ2, S2, x⟩, ?_⟩
      have uu := u'.trans u1
      exact hb σ' δ' H1 S1 _ _ r1 (q1.1 rfl) ⟨fun σ4 δ4 H4 S4 r4 u4 q4 => ⟨δ4, S4, r4, uu.trans u4, q4⟩, fun σ4 δ4 H4 S4 r4 u4 q4 => k.nx σ4 δ4 H4 S4 r4 (uu.trans u4) q4, fun σ4 δ4 H4 S4 r4 u4 q4 => ⟨δ4, S4, r4, uu.trans u4, q4⟩, k.rt⟩
    | false =>
      rw [if_neg Bool.false_ne_true]
      exact k.nx σ' δ' H1 S1 r1 (u'.trans u1) (q1.2 rfl)

/-! what is walked, kind by kind -/
def iL (e : DE) : DI := fun δ S Q => e δ S fun x S1 => match x with | .ref a => atL S1 a fun ds => Q ⟨ds, fun S2 => S2 a = some (.lst ds)⟩ S1 | _ => False
def iT (e : DE) : DI := fun δ S Q => e δ S fun x S1 => match x with | .tup ds => Q ⟨ds, fun _ => True⟩ S1 | .ctup ds => Q ⟨ds, fun _ => True⟩ S1 | _ => False
def signs (z : Str) : List D := z.cps.toList.map fun c => .str ⟨#[c]⟩
def iS (e : DE) : DI := fun δ S Q => e δ S fun x S1 => match x with | .str z => Q ⟨signs z, fun _ => True⟩ S1 | _ => False
def upto (lo : Int) (n : Nat) : List D := (List.range n).map fun i => .int (lo + (i : Nat))
def iR1 (a : DA) : DI := fun δ S Q => a δ S fun xs S1 => match xs with | [.int j] => -(2 ^ 62) ≤ j ∧ j < 2 ^ 62 ∧ Q ⟨upto 0 j.toNat, fun _ => True⟩ S1 | _ => False
def iR2 (a : DA) : DI := fun δ S Q => a δ S fun xs S1 => match xs with | [.int i, .int j] => -(2 ^ 62) ≤ i ∧ i < 2 ^ 62 ∧ -(2 ^ 62) ≤ j ∧ j < 2 ^ 62 ∧ Q ⟨upto i (j - i).toNat, fun _ => True⟩ S1 | _ => False
variable {te : TE} {fe : DE}
theorem si_list (he : SE G N te fe) : SI G N (iList G.K te) (iL fe) := by
  intro σ δ H S Q R r h k
  refine he σ δ H S _ _ r h fun v d H1 S1 i1 r1 u1 q1 => ?_
  split at q1
  · rename_i a
    cases im_ref i1
    obtain ⟨ds, e1, q⟩ := atL_of q1
    obtain ⟨xs, hx, ix⟩ := r1.sim.ob _ _ e1
    refine ⟨a, rfl, ⟨xs, SqL.of hx⟩, k _ ⟨ds, fun S2 => S2 a = some (.lst ds)⟩ H1 S1 (fun S2 H2 s2 u2 ok i hi => ?_) r1 u1 q⟩
    obtain ⟨ys, hy, iy⟩ := s2.ob _ _ ok
    have hl := iy.length
    refine ⟨fun z => ⟨ys, ys[i], SqL.of hy, List.getElem?_eq_getElem (by show i < ys.length; rw [hl]; exact z)⟩, fun z => ⟨ys, SqL.of hy, by rw [hl]; exact Nat.le_of_eq z.symm⟩, fun x H' z y => ?_⟩
    obtain ⟨rfl, y⟩ := y
    obtain ⟨e, he2, ie⟩ := iy.get (y ys (SqL.of hy))
    exact ⟨e, he2, ie, s2, .refl, .refl⟩
  · exact q1.elim
theorem jok_tup {a : Addr} {xs : List V} {ds : List D} {S : Sto} {H : Hp} (s : Sim G S H) (e1 : ∀ H1, Tu H H1 → SqT G.K H1 a xs) (i1 : ImAll G H xs ds) : JOk G (Itt G.K a) ⟨ds, fun _ => True⟩ S H := by
  intro S2 H2 s2 u2 _ i hi
  have hl := i1.length
  have t := u2.tu s
  have e2 : SqT G.K H2 a xs := e1 H2 t
  refine ⟨fun z => ⟨xs, xs[i], e2, List.getElem?_eq_getElem (by show i < xs.length; rw [hl]; exact z)⟩, fun z => ⟨xs, e2, by rw [hl]; exact Nat.le_of_eq z.symm⟩, fun x H' z y => ?_⟩
  obtain ⟨rfl, y⟩ := y
  obtain ⟨e, he2, ie⟩ := i1.get (y xs e2)
  exact ⟨e, he2, ie.go t, s2, .refl, .refl⟩
theorem si_tup (he : SE G N te fe) : SI G N (iTup G.K te) (iT fe) := by
  intro σ δ H S Q R r h k
  refine he σ δ H S _ _ r h fun v d H1 S1 i1 r1 u1 q1 => ?_
  split at q1
  · obtain ⟨a, xs, rfl, e1, j1⟩ := im_tup i1
    exact ⟨a, rfl, ⟨xs, SqT.of e1⟩, k _ _ H1 S1 (jok_tup r1.sim (fun _ t => SqT.of (t _ _ rfl e1)) j1) r1 u1 q1⟩
  · match i1 with
    | .ctup h1 _ _ _ h2 => exact ⟨_, rfl, ⟨_, h1 H1⟩, k _ _ H1 S1 (jok_tup r1.sim (fun H2 _ => h1 H2) h2) r1 u1 q1⟩
    | .ftup h1 _ _ h2 => exact ⟨_, rfl, ⟨_, .inl (.inr ⟨_, h1⟩)⟩, k _ _ H1 S1 (jok_tup r1.sim (fun _ t => .inl (.inr ⟨_, t _ _ rfl h1⟩)) h2) r1 u1 q1⟩
  · exact q1.elim
theorem si_str (he : SE G N te fe) : SI G N (iStr te) (iS fe) := by
  intro σ δ H S Q R r h k
  refine he σ δ H S _ _ r h fun v d H1 S1 i1 r1 u1 q1 => ?_
  split at q1
  · rename_i z
    obtain ⟨rfl, o⟩ := im_str i1
    refine ⟨z, rfl, k _ _ H1 S1 (fun S2 H2 s2 u2 _ i hi => ?_) r1 u1 q1⟩
    have hl : (signs z).length = z.cps.size := by simp [signs]
    simp only [hl] at hi ⊢
    refine ⟨fun y => y, fun y => by show z.cps.size ≤ i; omega, fun x H' y w => ?_⟩
    obtain ⟨rfl, c, hc, rfl⟩ := w
    refine ⟨.str ⟨#[c]⟩, ?_, .str _ (okS_sign o ?_), s2, .refl, .refl⟩
    · have : z.cps.toList[i]? = some c := by simpa using hc
      simp [signs, this]
    · have : z.cps.toList[i]? = some c := by simpa using hc
      exact List.mem_of_getElem? this
  · exact q1.elim
theorem jok_ints {lo : Int} {n : Nat} {S : Sto} {H : Hp} : JOk G (Itr lo n) ⟨upto lo n, fun _ => True⟩ S H := by
  intro S2 H2 s2 u2 _ i hi
  have hl : (upto lo n).length = n := by simp [upto]
  simp only [hl] at hi ⊢
  refine ⟨fun y => y, fun y => by show n ≤ i; omega, fun x H' y w => ?_⟩
  obtain ⟨rfl, rfl⟩ := w
  exact ⟨.int (lo + (i : Nat)), by simp [upto, y], .int _, s2, .refl, .refl⟩
theorem si_r1 {tl : TA} {fl : DA} (ha : SA G N tl fl) : SI G N (iRng1 tl) (iR1 fl) := by
  intro σ δ H S Q R r h k
  refine ha σ δ H S _ _ r h fun vs ds H1 S1 i1 r1 u1 q1 => ?_
  split at q1
  · obtain ⟨v, rfl, i⟩ := ia1 i1
    cases im_int i
    exact ⟨_, rfl, q1.1, q1.2.1, k _ _ H1 S1 jok_ints r1 u1 q1.2.2⟩
  · exact q1.elim
theorem si_r2 {tl : TA} {fl : DA} (ha : SA G N tl fl) : SI G N (iRng2 tl) (iR2 fl) := by
  intro σ δ H S Q R r h k
  refine ha σ δ H S _ _ r h fun vs ds H1 S1 i1 r1 u1 q1 => ?_
  split at q1
  · obtain ⟨v, w, rfl, i, j⟩ := ia2 i1
    cases im_int i
    cases im_int j
    exact ⟨_, _, rfl, ⟨q1.1, q1.2.1, q1.2.2.1, q1.2.2.2.1⟩, k _ _ H1 S1 jok_ints r1 u1 q1.2.2.2.2⟩
  · exact q1.elim
end
end Sd

set_option Elab.async false
set_option linter.all false
set_option maxRecDepth 100000
set_option maxHeartbeats 4000000
namespace Sd
open PySem PySem.Spec PyProof.Rows L2 GxR

/-! ### list comprehensions -/
def tYes' : DT := fun _ S Q => Q true S
def lcD (ok : Sto → Prop) (g : DG) (tt : DT) (te : DE) (δ : DV) : List D → List D → Sto → (List D → Sto → Prop) → Prop
  | [], acc, S, Q => ok S ∧ Q acc S
  | x :: xs, acc, S, Q => ok S ∧ g x δ S fun δ2 S2 => tt δ2 S2 fun b S3 => br b (te δ2 S3 fun y S4 => acc.length < 1000000 ∧ lcD ok g tt te δ xs (acc ++ [y]) S4 Q) (lcD ok g tt te δ xs acc S3 Q)
def eLc (wi : DI) (g : DG) (tt : DT) (te : DE) (vs : List Nat) : DE := fun δ S Q => wi δ S fun src S1 => lcD src.ok g tt te (wipeD δ vs) src.items [] S1 fun ys S2 => ∀ p, S2 p = none → Q (.ref p) (sup S2 p (.lst ys))
/-- all(.. for ..) -/
def allD (ok : Sto → Prop) (g : DG) (te : DE) (δ : DV) : List D → Sto → (Bool → Sto → Prop) → Prop
  | [], S, Q => ok S ∧ Q true S
  | x :: xs, S, Q => ok S ∧ g x δ S fun δ2 S2 => te δ2 S2 fun y S3 => asB y fun b => br b (allD ok g te δ xs S3 Q) (Q false S3)
def eAll (wi : DI) (g : DG) (te : DE) (vs : List Nat) : DE := fun δ S Q => wi δ S fun src S1 => allD src.ok g te (wipeD δ vs) src.items S1 fun b S2 => Q (.bl b) S2
section
variable {G : Gm} {N : En}
theorem st_yes : ST G N tYes tYes' := fun σ δ H S Q R r h k => k true H S r .refl h
/-- a list that the store does not name grows -/
theorem Sim.side {S : Sto} {H : Hp} {p : Addr} {acc acc' : List V} (s : Sim G S H) (hp : H p = some (.lst acc)) (hS : S p = none) (hs : G.scr ≠ p ∨ ∀ H1, SqL G.K H1 G.scr (G.ns.map V.int)) : Sim G S (upd H p (.lst acc')) ∧ Tu H (upd H p (.lst acc')) := by
  have t : Tu H (upd H p (.lst acc')) := fun b xs hT h => by rw [upd_ne (fun y => by rw [y, hp] at h; cases h; cases hT)]; exact h
  refine ⟨⟨fun a o h => ?_, fun P hP => ?_, ?_⟩, t⟩
  · have ne : a ≠ p := sne h hS
    exact (s.ob a o h).go (fun _ z _ => by rw [upd_ne ne]; exact z) t fun _ z => z
  · obtain ⟨ps, e, tr⟩ := s.tab P hP
    exact ⟨ps, by rw [upd_ne (fun y => by rw [y, hp] at e; cases e)]; exact e, tr⟩
  · rcases s.scr with ⟨h1, h2⟩ | h
    · rcases hs with np | h
      · refine .inl ⟨h1, ?_⟩
        rcases h2 with h2 | ⟨o, h2⟩
        · exact .inl (by rw [upd_ne np]; exact h2)
        · exact .inr ⟨o, by rw [upd_ne np]; exact h2⟩
      · exact .inr h
    · exact .inr h
theorem Up.side {S S' : Sto} {H H' : Hp} {p : Addr} {o : HO} (u : Up S S' H H') (hp : H p = none) : Up S S' H (upd H' p o) :=
  ⟨fun a v h n z => by rw [upd_ne (ne_of_none h hp)]; exact u.keep a v h n z, u.dom, fun a z => by
    by_cases y : a = p
    · rw [y, upd_same]; simp
    · rw [upd_ne y]; exact u.there a z⟩
/-- a list that stands comes into the store -/
theorem Sim.take {S : Sto} {H : Hp} {p : Addr} {xs : List V} {ds : List D} (s : Sim G S H) (hp : H p = some (.lst xs)) (hS : S p = none) (i : ImAll G H xs ds) (hs : G.scr ≠ p ∨ ∀ H1, SqL G.K H1 G.scr (G.ns.map V.int)) : Sim G (sup S p (.lst ds)) H := by
  refine ⟨fun a o h => ?_, s.tab, ?_⟩
  · by_cases y : a = p
    · subst y
      rw [sup_same] at h
      cases h
      exact ⟨xs, hp, i⟩
    · rw [sup_ne y] at h
      exact (s.ob a o h).go (fun _ z _ => z) (fun _ _ _ z => z) fun c z => by rw [sup_ne (sne z hS)]; exact z
  · rcases s.scr with ⟨h1, h2⟩ | h
    · rcases hs with np | h
      · exact .inl ⟨by rw [sup_ne np]; exact h1, h2⟩
      · exact .inr h
    · exact .inr h
theorem Up.take {S S' : Sto} {H H' : Hp} {p : Addr} {o : O} (u : Up S S' H H') (hp : H p = none) : Up S (sup S' p o) H H' :=
  ⟨u.keep, fun a h z => by rw [sup_ne (fun y => z (by rw [y]; exact hp))]; exact u.dom a h z, u.there⟩
theorem Sim.scrNe {S : Sto} {H : Hp} {p : Addr} (s : Sim G S H) (hp : H p = none) : G.scr ≠ p ∨ ∀ H1, SqL G.K H1 G.scr (G.ns.map V.int) := by
  rcases s.scr with ⟨_, h2⟩ | h
  · refine .inl fun y => ?_
    rcases h2 with h2 | ⟨o, h2⟩ <;> (rw [y, hp] at h2; cases h2)
  · exact .inr h
theorem se_lc {ws vs : List Nat} {twi : TI} {wi : DI} {tg : TG} {g : DG} {tt : TT} {ft : DT} {te : TE} {fe : DE} (hi : SI G N twi wi) (hg : SG G N ws tg g) (ht : ST G N tt ft) (he : SE G N te fe) (hw : ∀ i ∈ ws, i ∈ vs) :
    SE G N (tLc twi tg tt te vs) (eLc wi g ft fe vs) := by
  intro σ δ H S Q R r h k
  refine hi σ δ H S _ _ r h fun J src H1 S1 jk r1 u1 q1 => fun p hp => ?_
  have hsc := r1.sim.scrNe hp
  have e0 := Ext.lay (o := HO.lst []) hp
  have hN : N.H p = none := by
    cases z : N.H p with
    | none => rfl
    | some o => exact absurd hp (r1.up.there p (by rw [z]; simp))
  have hH : H p = none := by
    cases z : H p with
    | none => rfl
    | some o => exact absurd hp (u1.there p (by rw [z]; simp))
  refine ⟨fun i m H' => m = src.items.length - i ∧ i ≤ src.items.length ∧ ∃ S' acc ds, Rel G N σ δ S' H' ∧ Up S1 S' H1 H' ∧ H' p = some (.lst acc) ∧ ImAll G H' acc ds ∧ S' p = none ∧ lcD src.ok g ft fe (wipeD δ vs) (src.items.drop i) ds S' (fun ys S2 => ∀ p, S2 p = none → Q (.ref p) (sup S2 p (.lst ys))),
    ⟨src.items.length, by simp, Nat.zero_le _, S1, [], [], ⟨r1.sl.go e0.tu, r1.sim.ext e0, r1.up.trans (Up.of_ext e0)⟩, Up.of_ext e0, upd_same, .nil, r1.sim.free hp, by simpa using q1⟩, ?_⟩
  rintro i m H' ⟨rfl, hi', S', acc, ds, r', u', hacc, iacc, hS', q'⟩
  by_cases hlt : i < src.items.length
  · rw [List.drop_eq_getElem_cons hlt] at q'
    obtain ⟨a1, _, a3⟩ := jk S' H' r'.sim u' q'.1 i hi'
    refine .inr ⟨a1 hlt, fun H2 => ∃ S2 acc2 ds2, Rel G N σ δ S2 H2 ∧ Up S1 S2 H1 H2 ∧ H2 p = some (.lst acc2) ∧ ImAll G H2 acc2 ds2 ∧ S2 p = none ∧ lcD src.ok g ft fe (wipeD δ vs) (src.items.drop (i + 1)) ds2 S2 (fun ys S2 => ∀ p, S2 p = none → Q (.ref p) (sup S2 p (.lst ys))),
      fun H2 ⟨S2, acc2, ds2, x⟩ => ⟨src.items.length - (i + 1), by omega, rfl, hlt, S2, acc2, ds2, x⟩, fun x H2 y => ?_⟩
    obtain ⟨d, hd, im, s2, u2, e2⟩ := a3 x H2 hlt y
    rw [List.getElem?_eq_getElem hlt] at hd
    cases hd
    have r2 : Rel G N (L2.wipe σ vs) (wipeD δ vs) S' H2 := ⟨(r'.sl.go e2.tu).wipe vs, s2, r'.up.trans u2⟩
    refine hg x _ _ _ H2 S' _ _ r2 im q'.2 fun σ3 δ3 H3 S3 r3 u3 w3 q3 => ⟨by rw [(w3 vs hw).1, wipe_wipe], ?_⟩
    refine ht σ3 δ3 H3 S3 _ _ r3 q3 fun b H4 S4 r4 u4 q4 => ?_
    have up4 := u2.trans (u3.trans u4)
    have hp4 : H4 p = some (.lst acc) := up4.keep p _ hacc rfl hS'
    have hS4 : S4 p = none := up4.dom p hS' (by rw [hacc]; simp)
    have t4 := up4.tu r'.sim
    have rel4 : Rel G N σ δ S4 H4 := ⟨r'.sl.go t4, r4.sim, r4.up⟩
    cases b with
    | true =>
      rw [if_pos rfl]
      refine he σ3 δ3 H4 S4 _ _ r4 (q4.1 rfl) fun v e5 H5 S5 i5 r5 u5 ⟨l5, q5⟩ => ?_
      have up5 := up4.trans u5
      have hp5 : H5 p = some (.lst acc) := up5.keep p _ hacc rfl hS'
      have hS5 : S5 p = none := up5.dom p hS' (by rw [hacc]; simp)
      have t5 := up5.tu r'.sim
      refine ⟨acc, hp5, Nat.lt_of_lt_of_le (by rw [iacc.length]; exact l5) (le_line (Nat.le_refl _)), ?_⟩
      obtain ⟨s6, t6⟩ := r5.sim.side (acc' := acc ++ [v]) hp5 hS5 hsc
      exact ⟨S5, acc ++ [v], ds ++ [e5], ⟨(r'.sl.go t5).go t6, s6, r5.up.side hN⟩, (u'.trans up5).side hp, upd_same, ((iacc.go t5).snoc i5).go t6, hS5, q5⟩
    | false =>
      rw [if_neg Bool.false_ne_true]
      exact ⟨S4, acc, ds, rel4, u'.trans up4, hp4, iacc.go t4, hS4, q4.2 rfl⟩
  · have e : i = src.items.length := by omega
    subst e
    rw [List.drop_length] at q'
    obtain ⟨_, a2, _⟩ := jk S' H' r'.sim u' q'.1 _ (Nat.le_refl _)
    refine .inl ⟨a2 rfl, k _ (.ref p) H' (sup S' p (.lst ds)) (.ref p) ⟨r'.sl, r'.sim.take hacc hS' iacc hsc, r'.up.take hN⟩ ((u1.trans u').take hH) (q'.2 p hS')⟩
theorem se_all {P : Addr} {ws vs : List Nat} {twi : TI} {wi : DI} {tg : TG} {g : DG} {te : TE} {fe : DE} (hP : P ∈ G.tabs) (hi : SI G N twi wi) (hg : SG G N ws tg g) (he : SE G N te fe) (hw : ∀ i ∈ ws, i ∈ vs) :
    SE G N (Ow.tAllG P twi tg te vs) (eAll wi g fe vs) := by
  intro σ δ H S Q R r h k
  refine hi σ δ H S _ _ r h fun J src H1 S1 jk r1 u1 q1 => ⟨r1.sim.tab P hP, fun H2 ht => ?_⟩
  have e0 := Ext.tabbed (r1.sim.tab P hP) ht
  refine ⟨fun i m H' => m = src.items.length - i ∧ i ≤ src.items.length ∧ ∃ S', Rel G N σ δ S' H' ∧ Up S1 S' H1 H' ∧ allD src.ok g fe (wipeD δ vs) (src.items.drop i) S' (fun b S2 => Q (.bl b) S2),
    ⟨src.items.length, by simp, Nat.zero_le _, S1, ⟨r1.sl.go e0.tu, r1.sim.ext e0, r1.up.trans (Up.of_ext e0)⟩, Up.of_ext e0, by simpa using q1⟩, ?_⟩
  rintro i m H' ⟨rfl, hi', S', r', u', q'⟩
  by_cases hlt : i < src.items.length
  · rw [List.drop_eq_getElem_cons hlt] at q'
    obtain ⟨a1, _, a3⟩ := jk S' H' r'.sim u' q'.1 i hi'
    refine .inr ⟨a1 hlt, fun H2 => ∃ S2, Rel G N σ δ S2 H2 ∧ Up S1 S2 H1 H2 ∧ allD src.ok g fe (wipeD δ vs) (src.items.drop (i + 1)) S2 (fun b S2 => Q (.bl b) S2),
      fun H2 ⟨S2, x⟩ => ⟨src.items.length - (i + 1), by omega, rfl, hlt, S2, x⟩, fun x H2 y => ?_⟩
    obtain ⟨d, hd, im, s2, u2, e2⟩ := a3 x H2 hlt y
    rw [List.getElem?_eq_getElem hlt] at hd
    cases hd
    have r2 : Rel G N (L2.wipe σ vs) (wipeD δ vs) S' H2 := ⟨(r'.sl.go e2.tu).wipe vs, s2, r'.up.trans u2⟩
    refine hg x _ _ _ H2 S' _ _ r2 im q'.2 fun σ3 δ3 H3 S3 r3 u3 w3 q3 => ⟨by rw [(w3 vs hw).1, wipe_wipe], ?_⟩
    refine he σ3 δ3 H3 S3 _ _ r3 q3 fun v e5 H5 S5 i5 r5 u5 q5 => ?_
    obtain ⟨b, rfl, q⟩ := asB_of q5
    have up5 := u2.trans (u3.trans u5)
    have rel5 : Rel G N σ δ S5 H5 := ⟨r'.sl.go (up5.tu r'.sim), r5.sim, r5.up⟩
    exact ⟨b, im_bl i5, fun hb => ⟨S5, rel5, u'.trans up5, q.1 hb⟩, fun hb => k _ _ H5 S5 (.bl false) rel5 (u1.trans (u'.trans up5)) (q.2 hb)⟩
  · have e : i = src.items.length := by omega
    subst e
    rw [List.drop_length] at q'
    obtain ⟨_, a2, _⟩ := jk S' H' r'.sim u' q'.1 _ (Nat.le_refl _)
    exact .inl ⟨a2 rfl, k _ _ H' S' (.bl true) r' (u1.trans u') q'.2⟩
end

/-! ### fields -/
def setO (ds : List D) (i : Nat) (d : D) : List D := if i < ds.length then ds.set i d else ds ++ [d]
def sFldD (C : Addr) (nm : List Str) (i : Nat) (fa fv : DE) : DS := fun D δ S => fv δ S fun y S1 => fa δ S1 fun x S2 => asRef x fun a => atO S2 a C nm fun ds => i ≤ ds.length ∧ D.nx δ (sup S2 a (.ins C nm (setO ds i y)))
def sFldAugD (C : Addr) (nm : List Str) (i : Nat) (rd : B2) (fa fv : DE) : DS := fun D δ S => fa δ S fun x S1 => asRef x fun a => atO S1 a C nm fun ds => match ds[i]? with
  | some v => fv δ S1 fun y S2 => rd v y S2 fun z S3 => atO S3 a C nm fun ds' => i ≤ ds'.length ∧ D.nx δ (sup S3 a (.ins C nm (setO ds' i z)))
  | none => False
section
variable {G : Gm} {N : En}
theorem KvAll.putF {H : Hp} {f : Str} {v : V} {d : D} (im : Im G H v d) : ∀ {nm : List Str} {i : Nat} {gs : List (Str × V)} {ds : List D}, FIx nm f i → i ≤ ds.length → KvAll G H gs (nm.zip ds) → KvAll G H (L2.putF f v gs) (nm.zip (setO ds i d))
  | [], _, _, _, x, _, _ => by have := x.at_; simp at this
  | n :: nm, 0, gs, [], x, _, h => by
    have : n = f := by simpa using x.at_
    subst this
    simp only [List.zip_nil_right] at h
    cases h
    show KvAll G H [(n, v)] ((n :: nm).zip [d])
    simp only [List.zip_cons_cons, List.zip_nil_right]
    exact .cons im .nil
  | n :: nm, 0, gs, e :: ds, x, _, h => by
    have : n = f := by simpa using x.at_
    subst this
    rw [List.zip_cons_cons] at h
    cases h with
    | cons h1 h2 =>
      unfold L2.putF
      rw [if_pos rfl]
      show KvAll G H _ ((n :: nm).zip (d :: ds))
      rw [List.zip_cons_cons]
      exact .cons im h2
  | n :: nm, i + 1, gs, [], x, l, h => by simp at l
  | n :: nm, i + 1, gs, e :: ds, x, l, h => by
    have hn : n ≠ f := fun e => x.no (by rw [List.take_succ_cons, e]; exact List.mem_cons_self)
    have x' : FIx nm f i := ⟨by simpa using x.at_, fun z => x.no (by rw [List.take_succ_cons]; exact List.mem_cons_of_mem _ z)⟩
    rw [List.zip_cons_cons] at h
    cases h with
    | cons h1 h2 =>
      unfold L2.putF
      rw [if_neg hn]
      have e : setO (e :: ds) (i + 1) d = e :: setO ds i d := by
        unfold setO
        by_cases z : i < ds.length
        · rw [if_pos z, if_pos (by simpa using z)]; rfl
        · rw [if_neg z, if_neg (by simpa using z)]; rfl
      rw [e, List.zip_cons_cons]
      exact .cons h1 (KvAll.putF im x' (by simpa using l) h2)
theorem setO_len {nm : List Str} {f : Str} {i : Nat} {ds : List D} {d : D} (x : FIx nm f i) (l : i ≤ ds.length) (h : ds.length ≤ nm.length) : (setO ds i d).length ≤ nm.length := by
  have hi := (List.getElem?_eq_some_iff.mp x.at_).1
  unfold setO
  split
  · rw [List.length_set]; exact h
  · rw [List.length_append]; simp; omega
theorem put_ins {S : Sto} {H : Hp} {a C dx : Addr} {gs gs' : List (Str × V)} {nm : List Str} {fs fs' : List D} (s : Sim G S H) (e : S a = some (.ins C nm fs)) (h : H a = some (.ins C dx gs)) (i : KvAll G H gs' (nm.zip fs')) (l : fs'.length ≤ nm.length) (l2 : nm.length ≤ 999) : Sim G (sup S a (.ins C nm fs')) (upd H a (.ins C dx gs')) ∧ Up S (sup S a (.ins C nm fs')) H (upd H a (.ins C dx gs')) := by
  have t : Tu H (upd H a (.ins C dx gs')) := fun b ys hT hb => by rw [upd_ne (fun y => by rw [y, h] at hb; cases hb; cases hT)]; exact hb
  exact s.put e (by simp) rfl ⟨dx, gs', upd_same, i.go t, l, l2⟩
theorem kv_len {H : Hp} {nm : List Str} {gs : List (Str × V)} {ds : List D} (kv : KvAll G H gs (nm.zip ds)) (l : nm.length ≤ 999) : gs.length < 1000 := by
  rw [kv.length, List.length_zip]; omega
theorem ss_fld {C : Addr} {f : Str} {nm : List Str} {i : Nat} {ta tv : TE} {fa fv : DE} (c : Cls G.K C) (n : NoAttr G.K C f) (x : FIx nm f i) (ha : SE G N ta fa) (hv : SE G N tv fv) : SS G N (sFld G.K ta tv f) (sFldD C nm i fa fv) := by
  intro σ δ H S D E r h k
  refine hv σ δ H S _ _ r h fun v d H1 S1 i1 r1 u1 q1 => ?_
  refine ha σ δ H1 S1 _ _ r1 q1 fun x' e H2 S2 i2 r2 u2 q2 => ?_
  obtain ⟨a, rfl, q3⟩ := asRef_of q2
  obtain ⟨fs, e2, l, q⟩ := atO_of q3
  obtain ⟨dx, gs, hg, kv, l1, l2⟩ := r2.sim.ob _ _ e2
  obtain ⟨s3, u3⟩ := put_ins r2.sim e2 hg (KvAll.putF (i1.go (u2.tu r1.sim)) x l kv) (setO_len x l l1) l2
  exact ⟨a, C, dx, gs, im_ref i2, hg, c, n, kv_len kv l2, k.nx σ δ _ _ (r2.go s3 u3) (u1.trans (u2.trans u3)) q⟩
theorem ss_fldaug {C : Addr} {f : Str} {nm : List Str} {i : Nat} {ta tv : TE} {fa fv : DE} {rr : V → V → Hp → VK → Prop} {rd : B2} (c : Cls G.K C) (n : NoAttr G.K C f) (x : FIx nm f i) (ho : S2 G rr rd) (ha : SE G N ta fa) (hv : SE G N tv fv) : SS G N (sFldAug G.K ta tv rr f) (sFldAugD C nm i rd fa fv) := by
  intro σ δ H S D E r h k
  refine ha σ δ H S _ _ r h fun x' e H1 S1 i1 r1 u1 q1 => ?_
  obtain ⟨a, rfl, q2⟩ := asRef_of q1
  obtain ⟨fs, e1, q⟩ := atO_of q2
  obtain ⟨dx, gs, hg, kv, l1, l2⟩ := r1.sim.ob _ _ e1
  split at q
  · rename_i w hw0
    obtain ⟨w', hw, iw⟩ := kv_look kv (f := f) (d := w) (by rw [zip_look x]; exact hw0)
    refine ⟨a, C, dx, gs, w', im_ref i1, hg, c, n, hw, ?_⟩
    refine hv σ δ H1 S1 _ _ r1 q fun v d H2 S2 i2 r2 u2 q2 => ?_
    refine ho w' v w d H2 S2 _ _ (iw.go (u2.tu r1.sim)) i2 r2.sim q2 fun z d3 H3 S3 i3 s3 u3 q3 => ?_
    obtain ⟨fs', e3, l3, q3⟩ := atO_of q3
    obtain ⟨dx', gs', hg', kv', m1, m2⟩ := s3.ob _ _ e3
    obtain ⟨s4, u4⟩ := put_ins s3 e3 hg' (KvAll.putF i3 x l3 kv') (setO_len x l3 m1) m2
    exact ⟨dx', gs', hg', kv_len kv' m2, k.nx σ δ _ _ ((r2.go s3 u3).go s4 u4) (u1.trans (u2.trans (u3.trans u4))) q3⟩
  · exact q.elim
theorem s2_inadd : S2 G rAdd (dI (fun _ _ => True) fun i j => .int (i + j)) := s2_ipadd
theorem s2_insub : S2 G rSub (dI (fun _ _ => True) fun i j => .int (i - j)) := s2_ipsub
end

/-! ### methods of lists -/
def eBM0 (r : D → List D → Sto → DK → Prop) (fo : DE) : DE := fun δ S Q => fo δ S fun x S1 => r x [] S1 Q
def eBM (r : D → List D → Sto → DK → Prop) (fo : DE) (fa : DA) : DE := fun δ S Q => fo δ S fun x S1 => (asRef x fun a => atL S1 a fun _ => True) ∧ fa δ S1 fun xs S2 => r x xs S2 Q
def dAppend : D → List D → Sto → DK → Prop := fun x xs S Q => match x, xs with | .ref a, [y] => atL S a fun ds => ds.length < 1000000 ∧ Q .non (sup S a (.lst (ds ++ [y]))) | _, _ => False
def dPopAt : D → List D → Sto → DK → Prop := fun x xs S Q => match x, xs with | .ref a, [.int i] => atL S a fun ds => -(2 ^ 62) ≤ i ∧ i < 2 ^ 62 ∧ (match ixN ds.length i with | some j => (match ds[j]? with | some d => Q d (sup S a (.lst (ds.eraseIdx j))) | none => False) | none => False) | _, _ => False
def dIndex : D → List D → Sto → DK → Prop := fun x xs S Q => match x, xs with
  | .ref a, [y] => atL S a fun ds => ∃ j, dat 60 y = true ∧ dats 60 ds = true ∧ (∃ z, ds[j]? = some z ∧ eqD z y = true) ∧ (∀ m z, m < j → ds[m]? = some z → eqD z y = false) ∧ Q (.int (j : Nat)) S
  | _, _ => False
section
variable {G : Gm} {N : En}
def SM (G : Gm) (r : V → List V → Hp → VK → Prop) (rd : D → List D → Sto → DK → Prop) : Prop := ∀ x d xs ds H S Q (R : VK), Im G H x d → ImAll G H xs ds → Sim G S H → rd d ds S Q → (∀ v d' H' S', Im G H' v d' → Sim G S' H' → Up S S' H H' → Q d' S' → R v H') → r x xs H R
theorem se_bmL {to : TE} {fo : DE} {tl : TA} {fl : DA} {r : V → List V → Hp → VK → Prop} {rd : D → List D → Sto → DK → Prop} (hm : SM G r rd) (ho : SE G N to fo) (ha : SA G N tl fl) : SE G N (tBM G.K "list" r to tl) (eBM rd fo fl) := by
  intro σ δ H S Q R rl h k
  refine ho σ δ H S _ _ rl h fun x d H1 S1 i1 r1 u1 ⟨q0, q⟩ => ?_
  obtain ⟨a, rfl, q0⟩ := asRef_of q0
  obtain ⟨ds, e1, _⟩ := atL_of q0
  obtain ⟨vs, hv, _⟩ := r1.sim.ob _ _ e1
  cases im_ref i1
  refine ⟨.inl ⟨rfl, vs, SqL.of hv⟩, ha σ δ H1 S1 _ _ r1 q fun xs es H2 S2 i2 r2 u2 q2 => ?_⟩
  exact hm _ _ xs es H2 S2 Q R (.ref a) i2 r2.sim q2 fun v d' H' S' i3 s3 u3 q3 => k v d' H' S' i3 (r2.go s3 u3) (u1.trans (u2.trans u3)) q3
theorem put_lst {S : Sto} {H : Hp} {a : Addr} {xs xs' : List V} {ds ds' : List D} (s : Sim G S H) (e : S a = some (.lst ds)) (h : H a = some (.lst xs)) (i : ImAll G H xs' ds') : Sim G (sup S a (.lst ds')) (upd H a (.lst xs')) ∧ Up S (sup S a (.lst ds')) H (upd H a (.lst xs')) ∧ Tu H (upd H a (.lst xs')) := by
  have t : Tu H (upd H a (.lst xs')) := fun b ys hT hb => by rw [upd_ne (fun y => by rw [y, h] at hb; cases hb; cases hT)]; exact hb
  obtain ⟨s', u⟩ := s.put (o := .lst ds') e (by simp) (ho := .lst xs') rfl ⟨xs', upd_same, i.go t⟩
  exact ⟨s', u, t⟩
theorem sm_append : SM G rAppend dAppend := by
  intro x d xs ds H S Q R hx hxs s h k
  unfold dAppend at h
  split at h
  · obtain ⟨v, rfl, i⟩ := ia1 hxs
    cases im_ref hx
    obtain ⟨es, e1, l, q⟩ := atL_of h
    obtain ⟨vs, hv, iv⟩ := s.ob _ _ e1
    obtain ⟨s3, u3, t3⟩ := put_lst s e1 hv (iv.snoc i)
    exact ⟨_, vs, v, rfl, rfl, hv, Nat.lt_of_lt_of_le (by rw [iv.length]; exact l) (le_line (Nat.le_refl _)), k _ _ _ _ .non s3 u3 q⟩
  · exact h.elim
theorem ImAll.erase {H : Hp} {vs : List V} {ds : List D} (h : ImAll G H vs ds) : ∀ j, ImAll G H (vs.eraseIdx j) (ds.eraseIdx j) := by
  induction vs generalizing ds with
  | nil => intro j; cases h; exact .nil
  | cons v vs ih =>
    intro j
    cases h with
    | cons h1 h2 =>
      cases j with
      | zero => exact h2
      | succ j => exact .cons h1 (ih h2 j)
theorem sm_popAt : SM G rPopAt dPopAt := by
  intro x d xs ds H S Q R hx hxs s h k
  unfold dPopAt at h
  split at h
  · obtain ⟨v, rfl, i⟩ := ia1 hxs
    cases im_ref hx
    cases im_int i
    obtain ⟨es, e1, b1, b2, q⟩ := atL_of h
    obtain ⟨vs, hv, iv⟩ := s.ob _ _ e1
    split at q
    case h_2 => exact q.elim
    rename_i j hj
    split at q
    case h_2 => exact q.elim
    rename_i e he
    obtain ⟨w, hw, iw⟩ := iv.getD he
    obtain ⟨s3, u3, t3⟩ := put_lst s e1 hv (iv.erase j)
    obtain ⟨z1, z2, z3, z4⟩ := ixN_seq hj
    exact ⟨_, vs, _, j, w, rfl, rfl, hv, by omega, by omega, by rw [iv.length]; exact z1, hw, k _ _ _ _ (iw.go t3) s3 u3 q⟩
  · exact h.elim
theorem sm_index : SM G (rIndexD G.K) dIndex := by
  intro x d xs ds H S Q R hx hxs s h k
  unfold dIndex at h
  split at h
  · obtain ⟨v, rfl, i⟩ := ia1 hxs
    cases im_ref hx
    rename_i a y
    obtain ⟨es, e1, j, c1, c2, ⟨z, hz, hzy⟩, hno, q⟩ := atL_of h
    obtain ⟨vs, hv, iv⟩ := s.ob _ _ e1
    obtain ⟨a1, a2, a3⟩ := dp_of 60 y v c1 i
    obtain ⟨b1, b2, b3⟩ := dps_of 60 es vs c2 iv
    refine ⟨a, v, py y, pys es, j, py z, rfl, rfl, .lst (SqL.of hv) b1, a1, shaped_of (by rw [PyData.canLay0]; exact b2) (by rw [PyData.depth]; omega), shaped_of a2 (by omega), ?_, hzy, fun m z' hm hz' => ?_, k _ _ H S (.int _) s .refl q⟩
    · rw [pys_map, List.getElem?_map, hz]; rfl
    · rw [pys_map, List.getElem?_map] at hz'
      cases hq : es[m]? with
      | none => rw [hq] at hz'; cases hz'
      | some w =>
        rw [hq] at hz'
        cases hz'
        exact hno m w hm hq
  · exact h.elim
end
end Sd

set_option Elab.async false
set_option linter.all false
set_option maxRecDepth 100000
set_option maxHeartbeats 4000000
namespace Sd
open PySem PySem.Spec PyProof.Rows L2 GxR

/-! ### dicts -/
def valD {κ : Type} [DecidableEq κ] (kvs : List (κ × D)) (k : κ) : Option D := (kvs.find? fun kv => decide (kv.1 = k)).map (·.2)
def putKD {κ : Type} [DecidableEq κ] (kvs : List (κ × D)) (k : κ) (v : D) : List (κ × D) := if (kvs.any fun kv => decide (kv.1 = k)) = true then kvs.map fun kv => if kv.1 = k then (kv.1, v) else kv else kvs ++ [(k, v)]
def dropKD {κ : Type} [DecidableEq κ] (kvs : List (κ × D)) (k : κ) : List (κ × D) := kvs.filter fun kv => decide (kv.1 ≠ k)
def keyD : D → Option Key
  | .int i => some (.inl i)
  | .str x => some (.inr x)
  | _ => none
def keysD : List D → Option (List Key)
  | [] => some []
  | d :: ds => (keyD d).bind fun k => (keysD ds).map fun ks => k :: ks
def keyT : D → Option (List Key)
  | .tup ds => keysD ds
  | _ => none
/-- what the dict at a has at y -/
def dget (S : Sto) (a : Addr) (y : D) (k : Option D → Prop) : Prop := match S a with
  | some (.dK kvs) => (match keyD y with | some x => k (valD kvs x) | none => False)
  | some (.fK kvs _ _) => (match keyD y with | some x => k (valD kvs x) | none => False)
  | some (.dT kvs) => (match keyT y with | some x => k (valD kvs x) | none => False)
  | some (.fT kvs) => (match keyT y with | some x => k (valD kvs x) | none => False)
  | _ => False
def dput (S : Sto) (a : Addr) (y v : D) (k : Sto → Prop) : Prop := match S a with
  | some (.dK kvs) => (match keyD y with | some x => kvs.length < 1000000 ∧ k (sup S a (.dK (putKD kvs x v))) | none => False)
  | some (.dT kvs) => (match keyT y with | some x => kvs.length < 1000000 ∧ k (sup S a (.dT (putKD kvs x v))) | none => False)
  | _ => False
def eDGet (fd fy : DE) : DE := fun δ S Q => fd δ S fun x S1 => fy δ S1 fun y S2 => asRef x fun a => dget S2 a y fun o => match o with | some v => Q v S2 | none => False
def isDict (S : Sto) (a : Addr) : Bool := match S a with | some (.dK _) => true | some (.fK _ _ _) => true | some (.dT _) => true | some (.fT _) => true | _ => false
def eDGet1 (fd fy : DE) : DE := fun δ S Q => fd δ S fun x S1 => asRef x fun a => isDict S1 a = true ∧ fy δ S1 fun y S2 => dget S2 a y fun o => Q (o.getD .non) S2
def eDGet2 (fd fy fx : DE) : DE := fun δ S Q => fd δ S fun x S1 => asRef x fun a => isDict S1 a = true ∧ fy δ S1 fun y S2 => fx δ S2 fun z S3 => dget S3 a y fun o => Q (o.getD z) S3
def eDIn (fy fd : DE) : DE := fun δ S Q => fy δ S fun y S1 => fd δ S1 fun x S2 => asRef x fun a => dget S2 a y fun o => Q (.bl o.isSome) S2
def eDNotIn (fy fd : DE) : DE := fun δ S Q => fy δ S fun y S1 => fd δ S1 fun x S2 => asRef x fun a => dget S2 a y fun o => Q (.bl (!o.isSome)) S2
def sDPutD (fd fy fv : DE) : DS := fun D δ S => fv δ S fun v S1 => fd δ S1 fun x S2 => fy δ S2 fun y S3 => asRef x fun a => dput S3 a y v fun S4 => D.nx δ S4
def sDDelD (fd fy : DE) : DS := fun D δ S => fd δ S fun x S1 => fy δ S1 fun y S2 => asRef x fun a => match S2 a with
  | some (.dK kvs) => (match keyD y with | some k => (valD kvs k).isSome = true ∧ D.nx δ (sup S2 a (.dK (dropKD kvs k))) | none => False)
  | _ => False
section
variable {G : Gm} {N : En} {H : Hp} {S : Sto}
theorem kv_val {κ : Type} [DecidableEq κ] {r : List (κ × V)} {s : List (κ × D)} (h : KvAll G H r s) (k : κ) : (∃ v d, valV r k = some v ∧ valD s k = some d ∧ Im G H v d) ∨ (valV r k = none ∧ valD s k = none) := by
  induction h with
  | nil => exact .inr ⟨rfl, rfl⟩
  | @cons k' v d r s hi _ ih =>
    unfold valV valD at ih ⊢
    by_cases e : k' = k
    · exact .inl ⟨v, d, by simp [List.find?_cons, e], by simp [List.find?_cons, e], hi⟩
    · simpa [List.find?_cons, e] using ih
theorem kv_any {κ : Type} [DecidableEq κ] {r : List (κ × V)} {s : List (κ × D)} (h : KvAll G H r s) (k : κ) : (r.any fun kv => decide (kv.1 = k)) = s.any fun kv => decide (kv.1 = k) := by
  induction h with
  | nil => rfl
  | cons _ _ ih => simp [ih]
theorem kv_put {κ : Type} [DecidableEq κ] {r : List (κ × V)} {s : List (κ × D)} (h : KvAll G H r s) (k : κ) {v : V} {d : D} (i : Im G H v d) : KvAll G H (putK r k v) (putKD s k d) := by
  unfold putK putKD
  rw [kv_any h k]
  split
  · induction h with
    | nil => exact .nil
    | @cons k' v' d' r s hi _ ih =>
      rename_i hh
      rw [List.map_cons, List.map_cons]
      have rest : KvAll G H (r.map fun kv => if kv.1 = k then (kv.1, v) else kv) (s.map fun kv => if kv.1 = k then (kv.1, d) else kv) := by
        clear ih hh hi
        rename_i t
        induction t with
        | nil => exact .nil
        | @cons k2 v2 d2 r2 s2 h2 _ ih2 =>
          rw [List.map_cons, List.map_cons]
          by_cases e : k2 = k
          · simp only [if_pos e]; exact .cons i ih2
          · simp only [if_neg e]; exact .cons h2 ih2
      by_cases e : k' = k
      · simp only [if_pos e]; exact .cons i rest
      · simp only [if_neg e]; exact .cons hi rest
  · have app : ∀ {r : List (κ × V)} {s : List (κ × D)}, KvAll G H r s → KvAll G H (r ++ [(k, v)]) (s ++ [(k, d)]) := by
      intro r s t
      induction t with
      | nil => exact .cons i .nil
      | cons h2 _ ih2 => exact .cons h2 ih2
    exact app h
theorem kv_drop {κ : Type} [DecidableEq κ] {r : List (κ × V)} {s : List (κ × D)} (h : KvAll G H r s) (k : κ) : KvAll G H (dropK r k) (dropKD s k) := by
  unfold dropK dropKD
  induction h with
  | nil => exact .nil
  | @cons k' v' d' r s hi _ ih =>
    by_cases e : k' = k
    · simpa [List.filter_cons, e] using ih
    · simpa [List.filter_cons, e] using KvAll.cons hi ih
theorem key_im {y : D} {v : V} {k : Key} (h : keyD y = some k) (i : Im G H v y) : v = kV k := by
  cases y <;> simp only [keyD] at h <;> first | cases h | skip
  · cases im_int i; rfl
  · obtain ⟨rfl, _⟩ := im_str i; rfl
theorem keys_im : ∀ {ds : List D} {vs : List V} {ks : List Key}, keysD ds = some ks → ImAll G H vs ds → vs = ks.map kV
  | [], _, _, h, i => by cases i; simp only [keysD] at h; cases h; rfl
  | d :: ds, _, ks, h, i => by
    cases i with
    | cons i1 i2 =>
      simp only [keysD] at h
      cases e : keyD d with
      | none => rw [e] at h; cases h
      | some k =>
        rw [e] at h
        cases e2 : keysD ds with
        | none => rw [e2] at h; cases h
        | some ks' =>
          rw [e2] at h
          cases h
          rw [key_im e i1, keys_im e2 i2]; rfl
theorem keyT_im {y : D} {v : V} {ks : List Key} (h : keyT y = some ks) (i : Im G H v y) : ∃ b, v = .ref b ∧ H b = some (.tup (ks.map kV)) := by
  cases y <;> simp only [keyT] at h <;> first | cases h | skip
  obtain ⟨b, xs, rfl, e, ia⟩ := im_tup i
  exact ⟨b, rfl, by rw [e, keys_im h ia]⟩
/-- a look-up -/
theorem dget_of {a : Addr} {y : D} {v : V} {k : Option D → Prop} (s : Sim G S H) (i : Im G H v y) (h : dget S a y k) : ∃ (ov : Option V) (od : Option D), DGet H a v ov ∧ k od ∧ ((∃ w d, ov = some w ∧ od = some d ∧ Im G H w d) ∨ (ov = none ∧ od = none)) := by
  have fin : ∀ {κ : Type} [DecidableEq κ] {r : List (κ × V)} {s : List (κ × D)} (x : κ), KvAll G H r s → DGet H a v (valV r x) → k (valD s x) → ∃ (ov : Option V) (od : Option D), DGet H a v ov ∧ k od ∧ ((∃ w d, ov = some w ∧ od = some d ∧ Im G H w d) ∨ (ov = none ∧ od = none)) := by
    intro κ _ r s x kv g q
    refine ⟨_, _, g, q, ?_⟩
    rcases kv_val kv x with ⟨w, d, e1, e2, iw⟩ | ⟨e1, e2⟩
    · exact .inl ⟨w, d, e1, e2, iw⟩
    · exact .inr ⟨e1, e2⟩
  unfold dget at h
  split at h
  · rename_i kvs hs
    obtain ⟨ks, hk, kv⟩ := s.ob _ _ hs
    split at h
    · rename_i x hx
      cases key_im hx i
      exact fin x kv (.inl ⟨ks, x, .inl hk, rfl, rfl⟩) h
    · exact h.elim
  · rename_i kvs o ks hs
    obtain ⟨hk, kv⟩ := s.ob _ _ hs
    split at h
    · rename_i x hx
      cases key_im hx i
      exact fin x kv (.inl ⟨ks, x, .inr ⟨o, hk⟩, rfl, rfl⟩) h
    · exact h.elim
  · rename_i kvs hs
    obtain ⟨ks, hk, kv⟩ := s.ob _ _ hs
    split at h
    · rename_i x hx
      obtain ⟨b, rfl, hb⟩ := keyT_im hx i
      exact fin x kv (.inr ⟨ks, x, b, .inl hk, rfl, hb, rfl⟩) h
    · exact h.elim
  · rename_i kvs hs
    obtain ⟨o, ks, hk, kv⟩ := s.ob _ _ hs
    split at h
    · rename_i x hx
      obtain ⟨b, rfl, hb⟩ := keyT_im hx i
      exact fin x kv (.inr ⟨ks, x, b, .inr ⟨o, hk⟩, rfl, hb, rfl⟩) h
    · exact h.elim
  · exact h.elim
theorem isD_of {a : Addr} (s : Sim G S H) (h : isDict S a = true) : IsD H a := by
  unfold isDict at h
  split at h
  · rename_i kvs hs; obtain ⟨ks, hk, _⟩ := s.ob _ _ hs; exact .inl ⟨ks, .inl hk⟩
  · rename_i kvs o ks hs; obtain ⟨hk, _⟩ := s.ob _ _ hs; exact .inl ⟨ks, .inr ⟨o, hk⟩⟩
  · rename_i kvs hs; obtain ⟨ks, hk, _⟩ := s.ob _ _ hs; exact .inr ⟨ks, .inl hk⟩
  · rename_i kvs hs; obtain ⟨o, ks, hk, _⟩ := s.ob _ _ hs; exact .inr ⟨ks, .inr ⟨o, hk⟩⟩
  · cases h
variable {td ty tx : TE} {fd fy fx : DE}
theorem se_dget (hd : SE G N td fd) (hy : SE G N ty fy) : SE G N (tDGet td ty) (eDGet fd fy) := by
  intro σ δ H S Q R rl h k
  refine hd σ δ H S _ _ rl h fun x d H1 S1 i1 r1 u1 q1 => ?_
  refine hy σ δ H1 S1 _ _ r1 q1 fun y e H2 S2 i2 r2 u2 q2 => ?_
  obtain ⟨a, rfl, q2'⟩ := asRef_of q2
  obtain ⟨ov, od, g, q3, ⟨w, d, rfl, rfl, iw⟩ | ⟨rfl, rfl⟩⟩ := dget_of r2.sim i2 q2'
  · exact ⟨a, w, im_ref (i1.go (u2.tu r1.sim)), g, k w d H2 S2 iw r2 (u1.trans u2) q3⟩
  · exact q3.elim
theorem se_dget1 (hd : SE G N td fd) (hy : SE G N ty fy) : SE G N (tDGet1 td ty) (eDGet1 fd fy) := by
  intro σ δ H S Q R rl h k
  refine hd σ δ H S _ _ rl h fun x d H1 S1 i1 r1 u1 q1 => ?_
  obtain ⟨a, rfl, z, q1'⟩ := asRef_of q1
  refine ⟨a, im_ref i1, isD_of r1.sim z, hy σ δ H1 S1 _ _ r1 q1' fun y e H2 S2 i2 r2 u2 q2 => ?_⟩
  obtain ⟨ov, od, g, q3, ⟨w, d, rfl, rfl, iw⟩ | ⟨rfl, rfl⟩⟩ := dget_of r2.sim i2 q2
  · exact ⟨_, g, k w d H2 S2 iw r2 (u1.trans u2) q3⟩
  · exact ⟨_, g, k .non .non H2 S2 .non r2 (u1.trans u2) q3⟩
theorem se_dget2 (hd : SE G N td fd) (hy : SE G N ty fy) (hx : SE G N tx fx) : SE G N (tDGet2 td ty tx) (eDGet2 fd fy fx) := by
  intro σ δ H S Q R rl h k
  refine hd σ δ H S _ _ rl h fun x d H1 S1 i1 r1 u1 q1 => ?_
  obtain ⟨a, rfl, z, q1'⟩ := asRef_of q1
  refine ⟨a, im_ref i1, isD_of r1.sim z, hy σ δ H1 S1 _ _ r1 q1' fun y e H2 S2 i2 r2 u2 q2 => ?_⟩
  refine hx σ δ H2 S2 _ _ r2 q2 fun z' d3 H3 S3 i3 r3 u3 q3 => ?_
  obtain ⟨ov, od, g, q4, ⟨w, d, rfl, rfl, iw⟩ | ⟨rfl, rfl⟩⟩ := dget_of r3.sim (i2.go (u3.tu r2.sim)) q3
  · exact ⟨_, g, k w d H3 S3 iw r3 (u1.trans (u2.trans u3)) q4⟩
  · exact ⟨_, g, k z' d3 H3 S3 i3 r3 (u1.trans (u2.trans u3)) q4⟩
theorem se_din (hy : SE G N ty fy) (hd : SE G N td fd) : SE G N (tDIn ty td) (eDIn fy fd) := by
  intro σ δ H S Q R rl h k
  refine hy σ δ H S _ _ rl h fun y e H1 S1 i1 r1 u1 q1 => ?_
  refine hd σ δ H1 S1 _ _ r1 q1 fun x d H2 S2 i2 r2 u2 q2 => ?_
  obtain ⟨a, rfl, q2'⟩ := asRef_of q2
  obtain ⟨ov, od, g, q3, ⟨w, d, rfl, rfl, iw⟩ | ⟨rfl, rfl⟩⟩ := dget_of r2.sim (i1.go (u2.tu r1.sim)) q2'
  · exact ⟨a, _, im_ref i2, g, k _ _ H2 S2 (.bl _) r2 (u1.trans u2) q3⟩
  · exact ⟨a, _, im_ref i2, g, k _ _ H2 S2 (.bl _) r2 (u1.trans u2) q3⟩
theorem se_dnotin (hy : SE G N ty fy) (hd : SE G N td fd) : SE G N (tDNotIn ty td) (eDNotIn fy fd) := by
  intro σ δ H S Q R rl h k
  refine hy σ δ H S _ _ rl h fun y e H1 S1 i1 r1 u1 q1 => ?_
  refine hd σ δ H1 S1 _ _ r1 q1 fun x d H2 S2 i2 r2 u2 q2 => ?_
  obtain ⟨a, rfl, q2'⟩ := asRef_of q2
  obtain ⟨ov, od, g, q3, ⟨w, d, rfl, rfl, iw⟩ | ⟨rfl, rfl⟩⟩ := dget_of r2.sim (i1.go (u2.tu r1.sim)) q2'
  · exact ⟨a, _, im_ref i2, g, k _ _ H2 S2 (.bl _) r2 (u1.trans u2) q3⟩
  · exact ⟨a, _, im_ref i2, g, k _ _ H2 S2 (.bl _) r2 (u1.trans u2) q3⟩
theorem put_dK {a : Addr} {ks ks' : List (Key × V)} {kvs kvs' : List (Key × D)} (s : Sim G S H) (e : S a = some (.dK kvs)) (h : H a = some (.dK ks)) (i : KvAll G H ks' kvs') : Sim G (sup S a (.dK kvs')) (upd H a (.dK ks')) ∧ Up S (sup S a (.dK kvs')) H (upd H a (.dK ks')) := by
  have t : Tu H (upd H a (.dK ks')) := fun b ys hT hb => by rw [upd_ne (fun y => by rw [y, h] at hb; cases hb; cases hT)]; exact hb
  exact s.put (o := .dK kvs') e (by simp) (ho := .dK ks') rfl ⟨ks', upd_same, i.go t⟩
theorem put_dT {a : Addr} {ks ks' : List (List Key × V)} {kvs kvs' : List (List Key × D)} (s : Sim G S H) (e : S a = some (.dT kvs)) (h : H a = some (.dT ks)) (i : KvAll G H ks' kvs') : Sim G (sup S a (.dT kvs')) (upd H a (.dT ks')) ∧ Up S (sup S a (.dT kvs')) H (upd H a (.dT ks')) := by
  have t : Tu H (upd H a (.dT ks')) := fun b ys hT hb => by rw [upd_ne (fun y => by rw [y, h] at hb; cases hb; cases hT)]; exact hb
  exact s.put (o := .dT kvs') e (by simp) (ho := .dT ks') rfl ⟨ks', upd_same, i.go t⟩
theorem dput_of {a : Addr} {y z : D} {v w : V} {k : Sto → Prop} (s : Sim G S H) (i : Im G H v y) (iw : Im G H w z) (h : dput S a y z k) : ∃ H' S', DPut H a v w H' ∧ Sim G S' H' ∧ Up S S' H H' ∧ k S' := by
  unfold dput at h
  split at h
  · rename_i kvs hs
    obtain ⟨ks, hk, kv⟩ := s.ob _ _ hs
    split at h
    · rename_i x hx
      cases key_im hx i
      obtain ⟨s2, u2⟩ := put_dK s hs hk (kv_put kv x iw)
      exact ⟨_, _, .k hk (by rw [kv.length]; exact Nat.lt_of_lt_of_le h.1 (le_line (Nat.le_refl _))), s2, u2, h.2⟩
    · exact h.elim
  · rename_i kvs hs
    obtain ⟨ks, hk, kv⟩ := s.ob _ _ hs
    split at h
    · rename_i x hx
      obtain ⟨b, rfl, hb⟩ := keyT_im hx i
      obtain ⟨s2, u2⟩ := put_dT s hs hk (kv_put kv x iw)
      exact ⟨_, _, .t hk hb (by rw [kv.length]; exact Nat.lt_of_lt_of_le h.1 (le_line (Nat.le_refl _))), s2, u2, h.2⟩
    · exact h.elim
  · exact h.elim
theorem ss_dput {tv : TE} {fv : DE} (hd : SE G N td fd) (hy : SE G N ty fy) (hv : SE G N tv fv) : SS G N (sDPut td ty tv) (sDPutD fd fy fv) := by
  intro σ δ H S D E r h k
  refine hv σ δ H S _ _ r h fun v z H1 S1 i1 r1 u1 q1 => ?_
  refine hd σ δ H1 S1 _ _ r1 q1 fun x d H2 S2 i2 r2 u2 q2 => ?_
  refine hy σ δ H2 S2 _ _ r2 q2 fun y e H3 S3 i3 r3 u3 q3 => ?_
  obtain ⟨a, rfl, q3'⟩ := asRef_of q3
  obtain ⟨H4, S4, p4, s4, u4, q4⟩ := dput_of r3.sim i3 ((i1.go (u2.tu r1.sim)).go (u3.tu r2.sim)) q3'
  exact ⟨a, H4, im_ref (i2.go (u3.tu r2.sim)), p4, k.nx σ δ H4 S4 (r3.go s4 u4) (u1.trans (u2.trans (u3.trans u4))) q4⟩
theorem ss_ddel (hd : SE G N td fd) (hy : SE G N ty fy) : SS G N (sDDel td ty) (sDDelD fd fy) := by
  intro σ δ H S D E r h k
  refine hd σ δ H S _ _ r h fun x d H1 S1 i1 r1 u1 q1 => ?_
  refine hy σ δ H1 S1 _ _ r1 q1 fun y e H2 S2 i2 r2 u2 q2 => ?_
  obtain ⟨a, rfl, q3⟩ := asRef_of q2
  split at q3
  · rename_i kvs hs
    obtain ⟨ks, hk, kv⟩ := r2.sim.ob _ _ hs
    split at q3
    · rename_i x hx
      cases key_im hx i2
      obtain ⟨s3, u3⟩ := put_dK r2.sim hs hk (kv_drop kv x)
      refine ⟨a, ks, x, im_ref (i1.go (u2.tu r1.sim)), hk, rfl, ?_, k.nx σ δ _ _ (r2.go s3 u3) (u1.trans (u2.trans u3)) q3.2⟩
      rcases kv_val kv x with ⟨w, d, e1, e2, iw⟩ | ⟨e1, e2⟩
      · rw [e1]; rfl
      · rw [e2] at q3; cases q3.1
    · exact q3.elim
  · exact q3.elim
end

/-! ### defs -/
/-- the fields of an error -/
def XR (G : Gm) (H : Hp) : Option Addr → List (Str × D) → Prop
  | none, fs => fs = []
  | some d, fs => fs ≠ [] ∧ ∃ gs, H d = some (.xd gs) ∧ KvAll G H gs fs
/-- what E must hold -/
def XOk (G : Gm) (N : En) (Ed : XD) (E : XK) : Prop := ∀ C od fs H' S', Sim G S' H' → Up N.S S' N.H H' → XR G H' od fs → Ed C fs S' → E (.ref C) od H'
/-- a def's promise, by data -/
def spD (K : PySem.W.Frag) (tabs : List Addr) (F : WF) : Sp := fun vs H Q E => ∃ (scr : Addr) (ns : List Int) (ds : List D) (S : Sto) (Qd : DK) (Ed : XD), ImAll ⟨K, tabs, scr, ns⟩ H vs ds ∧ Sim ⟨K, tabs, scr, ns⟩ S H ∧ F ds S Qd Ed ∧
  (∀ v d H' S', Im ⟨K, tabs, scr, ns⟩ H' v d → Sim ⟨K, tabs, scr, ns⟩ S' H' → Up S S' H H' → Qd d S' → Q v H') ∧ XOk ⟨K, tabs, scr, ns⟩ ⟨S, H⟩ Ed E
def xF : XD := fun _ _ _ => False
def eCa (F : WF) (Ed : XD) (fa : DA) : DE := fun δ S Q => fa δ S fun xs S1 => F xs S1 Q Ed
def eMe (C : Addr) (nm : List Str) (F : WF) (Ed : XD) (fo : DE) (fa : DA) : DE := fun δ S Q => fo δ S fun x S1 => (asRef x fun a => atO S1 a C nm fun _ => True) ∧ fa δ S1 fun xs S2 => F (x :: xs) S2 Q Ed
def eMa (C : Addr) (nm : List Str) (F : WF) (Ed : XD) (fa : DA) : DE := fun δ S Q => fa δ S fun xs S1 => ∀ p, S1 p = none → F (.ref p :: xs) (sup S1 p (.ins C nm [])) (fun v S2 => v = .non ∧ Q (.ref p) S2) Ed
section
variable {K : PySem.W.Frag} {tabs : List Addr} {scr : Addr} {ns : List Int} {N : En} {tl : TA} {fl : DA} {F : WF} {Ed : XD} {E : XK}
theorem xok_F {G : Gm} {E : XK} : XOk G N xF E := fun _ _ _ _ _ _ _ _ z => z.elim
theorem use_sp {vs : List V} {ds : List D} {S : Sto} {H : Hp} {Qd : DK} {Q : VK} (i : ImAll ⟨K, tabs, scr, ns⟩ H vs ds) (s : Sim ⟨K, tabs, scr, ns⟩ S H) (u : Up N.S S N.H H) (h : F ds S Qd Ed)
    (q : ∀ v d H' S', Im ⟨K, tabs, scr, ns⟩ H' v d → Sim ⟨K, tabs, scr, ns⟩ S' H' → Up S S' H H' → Qd d S' → Q v H') (x : XOk ⟨K, tabs, scr, ns⟩ N Ed E) : spD K tabs F vs H Q E :=
  ⟨scr, ns, ds, S, Qd, Ed, i, s, h, q, fun C od fs H' S' s' u' xr e => x C od fs H' S' s' (u.trans u') xr e⟩
theorem se_ca (hx : XOk ⟨K, tabs, scr, ns⟩ N Ed E) (ha : SA ⟨K, tabs, scr, ns⟩ N tl fl) : SE ⟨K, tabs, scr, ns⟩ N (Ow.tCa (spD K tabs F) E tl) (eCa F Ed fl) := by
  intro σ δ H S Q R rl h k
  refine ha σ δ H S _ _ rl h fun vs ds H1 S1 i1 r1 u1 q => ?_
  exact use_sp i1 r1.sim r1.up q (fun v d H' S' i s u q' => k v d H' S' i (r1.go s u) (u1.trans u) q') hx
theorem zip_no {nm : List Str} {m : Str} (h : m ∉ nm) : ∀ {ds : List D}, (nm.zip ds).lookup m = none := by
  intro ds
  induction nm generalizing ds with
  | nil => rfl
  | cons n nm ih =>
    cases ds with
    | nil => rfl
    | cons d ds =>
      rw [List.mem_cons, not_or] at h
      rw [List.zip_cons_cons, List.lookup_cons, beq_eq_false_iff_ne.mpr h.1]
      exact ih h.2
theorem se_me {C : Addr} {m : Str} {nm : List Str} {to : TE} {fo : DE} (hm : m ∉ nm) (hx : XOk ⟨K, tabs, scr, ns⟩ N Ed E) (ho : SE ⟨K, tabs, scr, ns⟩ N to fo) (ha : SA ⟨K, tabs, scr, ns⟩ N tl fl) : SE ⟨K, tabs, scr, ns⟩ N (Ow.tMe C m (spD K tabs F) E to tl) (eMe C nm F Ed fo fl) := by
  intro σ δ H S Q R rl h k
  refine ho σ δ H S _ _ rl h fun x d H1 S1 i1 r1 u1 ⟨q0, q⟩ => ?_
  obtain ⟨a, rfl, q0⟩ := asRef_of q0
  obtain ⟨fs, e1, _⟩ := atO_of q0
  obtain ⟨dx, gs, hg, kv, _⟩ := r1.sim.ob _ _ e1
  refine ⟨a, dx, gs, im_ref i1, hg, kv_none kv (zip_no hm), ha σ δ H1 S1 _ _ r1 q fun vs ds H2 S2 i2 r2 u2 q2 => ?_⟩
  exact use_sp (.cons (i1.go (u2.tu r1.sim)) i2) r2.sim r2.up q2 (fun v d H' S' i s u q' => k v d H' S' i (r2.go s u) (u1.trans (u2.trans u)) q') hx
theorem se_ma {C : Addr} {nm : List Str} (hn : nm.length ≤ 999) (hx : XOk ⟨K, tabs, scr, ns⟩ N Ed E) (ha : SA ⟨K, tabs, scr, ns⟩ N tl fl) : SE ⟨K, tabs, scr, ns⟩ N (Ow.tMa C (spD K tabs F) E tl) (eMa C nm F Ed fl) := by
  intro σ δ H S Q R rl h k
  refine ha σ δ H S _ _ rl h fun vs ds H1 S1 i1 r1 u1 q x dx hx1 hdx hne => ?_
  have e1 := Ext.lay (o := HO.own x) hdx
  have s2 := r1.sim.ext e1
  have hx2 : upd H1 dx (.own x) x = none := by rw [upd_ne (Ne.symm hne)]; exact hx1
  obtain ⟨s3, u3⟩ := s2.lay (p := x) (o := .ins C nm []) (ho := .ins C dx []) hx2 ⟨dx, [], upd_same, by rw [List.zip_nil_right]; exact .nil, Nat.zero_le _, hn⟩
  have u4 := (Up.of_ext (S := S1) e1).trans u3
  refine use_sp (.cons (.ref x) (i1.go (u4.tu r1.sim))) s3 (r1.up.trans u4) (q x (r1.sim.free hx1)) (fun v d H' S' i s u ⟨ed, q'⟩ => ?_) hx
  subst ed
  exact ⟨im_non i, k (.ref x) (.ref x) H' S' (.ref x) ((r1.go s3 u4).go s u) (u1.trans (u4.trans u)) q'⟩
/-- raise of an own error without fields -/
def sRaise (C : Addr) (Ed : XD) : DS := fun _ _ S => Ed C [] S
theorem ss_raise {G : Gm} {C : Addr} (hx : XOk G N Ed E) : SS G N (fun _ _ H => E (.ref C) none H) (sRaise C Ed) := fun σ δ H S D E' r h k => hx C none [] H S r.sim r.up rfl h
end
section
variable {P : Program} {w : World} {K : PySem.W.Frag} {mg : Str → Option Value} {base : Heap} {tabs : List Addr}
def dstart (N : List Str) (ds : List D) : DV := ds.map some ++ List.replicate (N.length - ds.length) none
theorem sl_start {G : Gm} {H : Hp} {N : List Str} {vs : List V} {ds : List D} (i : ImAll G H vs ds) : Sl G H (L2.start N vs) (dstart N ds) := by
  have hl := i.length
  refine ⟨by simp [L2.start, dstart, hl], fun j d hj => ?_⟩
  unfold dstart at hj
  unfold L2.start
  by_cases y : j < ds.length
  · rw [List.getElem?_append_left (by simpa using y)] at hj
    rw [List.getElem?_append_left (by simpa [hl] using y)]
    rw [List.getElem?_map] at hj ⊢
    cases e : ds[j]? with
    | none => rw [e] at hj; cases hj
    | some d' =>
      rw [e] at hj
      cases hj
      obtain ⟨v, hv, iv⟩ := i.getD e
      exact ⟨v, by rw [hv]; rfl, iv⟩
  · rw [List.getElem?_append_right (by simpa using y)] at hj
    rw [List.getElem?_replicate] at hj
    split at hj <;> cases hj
/-- a def by data: its body's word is the promise -/
theorem def_ok {x qual : Str} {st : Stmt} {f : Addr} {fd : FuncData} {N ps : List Str} {k : Nat} {F : WF} (Fm : Fun K x qual st f fd) (S : FnScope N ps (defScope st)) (len : ∀ ds S Q E, F ds S Q E → ds.length = ps.length)
    (body : ∀ (scr : Addr) (ns : List Int) (Ne : En) (Ed : XD) (E : XK) (cdv : Value) (A : Around) (outer : List Env) (s : Shared) (H : Hp), Room k (A.deeper (envOfC qual (defScope st) s.heap.objs.size f cdv)) → XOk ⟨K, tabs, scr, ns⟩ Ne Ed E →
      ∃ t fb, PSs (cxOf (L2.CX P w) P w K mg base N qual (defScope st) f cdv A outer s H E) (defBody st) t ∧ SS ⟨K, tabs, scr, ns⟩ Ne t fb ∧ ∀ ds S Qd, F ds S Qd Ed → fb { nx := fun _ S' => Qd .non S', rt := Qd } (dstart N ds) S) :
    FnOk P w K mg base (L2.CX P w) (k + 1) f fd ps (spD K tabs F) := by
  refine Fm.okX S (fun vs H Q E h => ?_) (fun cdv A outer s H vs Q E hr h => ?_)
  · obtain ⟨scr, ns, ds, S, Qd, Ed, i, _, hF, _⟩ := h
    rw [i.length]; exact len _ _ _ _ hF
  · obtain ⟨scr, ns, ds, S0, Qd, Ed, i, sm, hF, hq, hx⟩ := h
    obtain ⟨t, fb, hp, hs, hf⟩ := body scr ns ⟨S0, H⟩ Ed E cdv A outer s H hr hx
    refine ⟨t, hp, hs _ _ H S0 _ _ ⟨sl_start i, sm, .refl⟩ (hf ds S0 Qd hF) ⟨fun σ δ H' S' r u q => hq .non .non H' S' .non r.sim u q, fun _ _ _ _ _ _ z => z.elim, fun _ _ _ _ _ _ z => z.elim, fun v d H' S' iv s' u q => hq v d H' S' iv s' u q⟩⟩
end
end Sd

set_option Elab.async false
set_option linter.all false
set_option maxRecDepth 100000
set_option maxHeartbeats 4000000
namespace Sd
open PySem PySem.Spec PyProof.Rows L2 GxR
instance {x : Str} : Decidable (okS x) := inferInstanceAs (Decidable (_ ∧ _))
theorem m2_get {X : Cx} {o e f : Expr} {apos cpos : Pos} (base : attributeBase o "get" X.env (eval o X.env) = eval o X.env := by rfl)
    (few : ((backTo cpos (starEach [e, f] X.env)).all (fun x => !x.1) && (backToKw cpos (keywordEach [] X.env)).all (fun x => x.1.isSome)
    && decide (([e, f] : List Expr).length + ([] : List Keyword).length + (if ([] : List Keyword).isEmpty then 0 else 1) < 30)) = true := by rfl)
    (line : (apos.endLine == cpos.line) = true := by rfl) (trees : backTo cpos (starEach [e, f] X.env) = [(false, eval e X.env), (false, eval f X.env)] := by rfl) : M2 X o "get" apos e f cpos := ⟨base, few, line, trees⟩
theorem m1_get {X : Cx} {o e : Expr} {apos cpos : Pos} (base : attributeBase o "get" X.env (eval o X.env) = eval o X.env := by rfl)
    (few : ((backTo cpos (starEach [e] X.env)).all (fun x => !x.1) && (backToKw cpos (keywordEach [] X.env)).all (fun x => x.1.isSome)
    && decide (([e] : List Expr).length + ([] : List Keyword).length + (if ([] : List Keyword).isEmpty then 0 else 1) < 30)) = true := by rfl)
    (line : (apos.endLine == cpos.line) = true := by rfl) (trees : backTo cpos (starEach [e] X.env) = [(false, eval e X.env)] := by rfl) : M1 X o "get" apos e cpos := ⟨base, few, line, trees⟩
def dIAdd : B2 := fun x y S Q => (dI (fun _ _ => True) fun i j => .int (i + j)) x y S Q
def dISub : B2 := fun x y S Q => (dI (fun _ _ => True) fun i j => .int (i - j)) x y S Q
/-- a tuple of scalars of the written part -/
structure CtOk (K : PySem.W.Frag) (c : Addr) (ds : List D) : Prop where
  ex : ∃ (o : Obj) (its : Array Value) (n : Nat), K.lookup c = some o ∧ o.cls = .type "tuple" ∧ o.dict = none ∧ o.data = .seq its n ∧ its.size ≤ sizeLine ∧ Vals (ds.map dV) its.toList
  sc : ds.all scD = true
theorem sc_im {G : Gm} {H : Hp} {d : D} (h : scD d = true) : Im G H (dV d) d := by
  cases d with
  | str x =>
    refine .str x ?_
    have h : (decide (x.length ≤ 1000000) && PyData.strOk x) = true := h
    simpa [okS] using h
  | non => exact .non
  | bl b => exact .bl b
  | int i => exact .int i
  | _ => cases h
theorem scs_im {G : Gm} {H : Hp} : ∀ {ds : List D}, ds.all scD = true → ImAll G H (ds.map dV) ds
  | [], _ => .nil
  | d :: ds, h => by
    rw [List.all_cons, Bool.and_eq_true] at h
    exact .cons (sc_im h.1) (scs_im h.2)
theorem CtOk.im {K : PySem.W.Frag} {c : Addr} {ds : List D} (h : CtOk K c ds) {tabs : List Addr} {scr : Addr} {ns : List Int} {H : Hp} : Im ⟨K, tabs, scr, ns⟩ H (.ref c) (.ctup ds) := by
  obtain ⟨o, its, n, h1, h2, h3, h4, h5, h6⟩ := h.ex
  exact .ctup (fun _ => .inr ⟨o, its, n, h1, h2, h4, h5, h6⟩) h1 h2 h3 (scs_im h.sc)

section
variable {P : Program} {w : World} {K : PySem.W.Frag} {mg : Str → Option Value} {base : Heap}
open Ow in
/-- a def whose code object is known, with its table -/
structure FunT (K : PySem.W.Frag) (base : Heap) (mg : Str → Option Value) (x qual : Str) (st : Stmt) (f : Addr) (fd : FuncData) (P : Addr) : Prop where
  ex : ∃ (oc : Value) (od : Option Addr) (kV doc pm : Value) (an : Option Addr) (c : Addr) (ct : Value) (osl : Array (Option Value)),
    fd = PySem.W.fnOf x qual (defArgs st) (defBody st) (defScope st) .none kV doc pm an (.ref c) ct ∧ K.lookup f = some ⟨oc, od, .func fd, osl⟩ ∧ PySem.W.codeIn K (.ref c) qual = true ∧ TabB base mg c P
  kp : PySem.W.keepIn K (.ref f) = true
open Ow in
theorem FunT.okX {x qual : Str} {st : Stmt} {f : Addr} {fd : FuncData} {N ps : List Str} {k : Nat} {sp : Sp} {Pt : Addr} (F : FunT K base mg x qual st f fd Pt) (S : FnScope N ps (defScope st)) (len : ∀ vs H Q E, sp vs H Q E → vs.length = ps.length)
    (hbody : ∀ (c : Addr) (A : Around) (outer : List Env) (s : Shared) (H : Hp) (vs : List V) (Q : VK) (E : XK), TabB base mg c Pt → Room k (A.deeper (envOfC qual (defScope st) s.heap.objs.size f (.ref c))) → sp vs H Q E →
      ∃ t, PSs (cxOf (L2.CX P w) P w K mg base N qual (defScope st) f (.ref c) A outer s H E) (defBody st) t ∧ t { nx := fun _ H' => Q .non H', rt := Q } (start N vs) H) : FnOk P w K mg base (L2.CX P w) (k + 1) f fd ps sp := by
  obtain ⟨oc, od, kV, doc, pm, an, c, ct, osl, rfl, lk, hcd, tb⟩ := F.ex
  exact fn_of lk hcd S len fun A outer s H vs Q E hr hsp => hbody c A outer s H vs Q E tb hr hsp

end
theorem def_okT {P : Program} {w : World} {K : PySem.W.Frag} {mg : Str → Option Value} {base : Heap} {tabs : List Addr} {x qual : Str} {st : Stmt} {f Pt : Addr} {fd : FuncData} {N ps : List Str} {k : Nat} {F : WF} (Fm : FunT K base mg x qual st f fd Pt) (S : FnScope N ps (defScope st)) (len : ∀ ds S Q E, F ds S Q E → ds.length = ps.length)
    (body : ∀ (scr : Addr) (ns : List Int) (Ne : En) (Ed : XD) (E : XK) (c : Addr) (A : Around) (outer : List Env) (s : Shared) (H : Hp), TabB base mg c Pt → Room k (A.deeper (envOfC qual (defScope st) s.heap.objs.size f (.ref c))) → XOk ⟨K, tabs, scr, ns⟩ Ne Ed E →
      ∃ t fb, PSs (cxOf (L2.CX P w) P w K mg base N qual (defScope st) f (.ref c) A outer s H E) (defBody st) t ∧ SS ⟨K, tabs, scr, ns⟩ Ne t fb ∧ ∀ ds S Qd, F ds S Qd Ed → fb { nx := fun _ S' => Qd .non S', rt := Qd } (dstart N ds) S) :
    FnOk P w K mg base (L2.CX P w) (k + 1) f fd ps (spD K tabs F) := by
  refine Fm.okX S (fun vs H Q E h => ?_) (fun c A outer s H vs Q E TB hr h => ?_)
  · obtain ⟨scr, ns, ds, S, Qd, Ed, i, _, hF, _⟩ := h
    rw [i.length]; exact len _ _ _ _ hF
  · obtain ⟨scr, ns, ds, S0, Qd, Ed, i, sm, hF, hq, hx⟩ := h
    obtain ⟨t, fb, hp, hs, hf⟩ := body scr ns ⟨S0, H⟩ Ed E c A outer s H TB hr hx
    refine ⟨t, hp, hs _ _ H S0 _ _ ⟨sl_start i, sm, .refl⟩ (hf ds S0 Qd hF) ⟨fun σ δ H' S' r u q => hq .non .non H' S' .non r.sim u q, fun _ _ _ _ _ _ z => z.elim, fun _ _ _ _ _ _ z => z.elim, fun v d H' S' iv s' u q => hq v d H' S' iv s' u q⟩⟩
/-! ### join -/
def strsD : List D → Option (List Str)
  | [] => some []
  | .str x :: ds => (strsD ds).map fun xs => x :: xs
  | _ :: _ => none
def dJoin (x y : D) (S : Sto) (Q : DK) : Prop := match x, y with
  | .str a, .ref p => atL S p fun ds => match strsD ds with | none => False | some ys => (ys.map (·.length)).sum + ys.length * a.length ≤ 1000000 ∧ (okS (Txt.join a ys) → Q (.str (Txt.join a ys)) S)
  | _, _ => False
def eJoin (fo fa : DE) : DE := fun δ S Q => fo δ S fun x S1 => (∃ a, x = .str a) ∧ fa δ S1 fun y S2 => dJoin x y S2 Q
theorem strs_of : ∀ {ds : List D} {ys : List Str}, strsD ds = some ys → ds = ys.map D.str
  | [], _, h => by cases h; rfl
  | d :: ds, ys, h => by
    cases d <;> first | (cases h; done) | skip
    rename_i x
    rw [strsD] at h
    cases e : strsD ds with
    | none => rw [e] at h; cases h
    | some zs =>
      rw [e] at h
      cases h
      rw [strs_of e]; rfl
theorem strs_map : ∀ ys : List Str, strsD (ys.map D.str) = some ys
  | [] => rfl
  | y :: ys => by rw [List.map_cons, strsD, strs_map ys]; rfl
theorem im_strs {G : Gm} {H : Hp} : ∀ {ys : List Str} {vs : List V}, ImAll G H vs (ys.map D.str) → vs = ys.map V.str ∧ ∀ y ∈ ys, okS y
  | [], _, h => by cases h; exact ⟨rfl, fun _ z => by cases z⟩
  | y :: ys, _, h => by
    cases h with
    | cons h1 h2 =>
      obtain ⟨rfl, o⟩ := im_str h1
      obtain ⟨rfl, o2⟩ := im_strs h2
      exact ⟨rfl, fun z hz => by
        rcases List.mem_cons.mp hz with rfl | hz
        · exact o
        · exact o2 z hz⟩
theorem okS_join {a : Str} (ha : okS a) : ∀ {ys : List Str}, (∀ y ∈ ys, okS y) → (ys.map (·.length)).sum + ys.length * a.length ≤ 1000000 → okS (Txt.join a ys) := by
  intro ys h l
  have key : ∀ ys : List Str, (∀ y ∈ ys, okS y) → (Str.join a ys).length ≤ (ys.map (·.length)).sum + ys.length * a.length ∧ PyData.strOk (Str.join a ys) = true := by
    intro ys
    induction ys with
    | nil => intro _; rw [Str.join.eq_1]; exact ⟨Nat.zero_le _, by simp [PyData.strOk, Str.empty]⟩
    | cons y ys ih =>
      intro h
      have h1 := h y List.mem_cons_self
      cases ys with
      | nil =>
        rw [Str.join.eq_2]
        exact ⟨by simp, h1.2⟩
      | cons z zs =>
        have h2 := ih fun w hw => h w (List.mem_cons_of_mem _ hw)
        rw [Str.join.eq_3 (a : Str) y (z :: zs) (by intro e; cases e)]
        refine ⟨?_, ?_⟩
        · rw [Ow.len_app, Ow.len_app]
          have e : (y :: z :: zs).length * a.length = (z :: zs).length * a.length + a.length := by rw [List.length_cons, Nat.succ_mul]
          rw [List.map_cons, List.sum_cons, e]
          have := h2.1
          omega
        · have e : ∀ u v : Str, PyData.strOk u = true → PyData.strOk v = true → PyData.strOk (u ++ v) = true := fun u v hu hv => by
            show (u.cps ++ v.cps).all _ = true
            rw [Array.all_append]
            unfold PyData.strOk at hu hv
            simp [hu, hv]
          exact e _ _ (e _ _ h1.2 ha.2) h2.2
  obtain ⟨k1, k2⟩ := key ys h
  rw [show Txt.join a ys = Str.join a ys from TL.join_eq _ _]
  exact ⟨Nat.le_trans k1 l, k2⟩
theorem se_join {G : Gm} {N : En} {to ta : TE} {fo fa : DE} (ho : SE G N to fo) (ha : SE G N ta fa) : SE G N (tM1 (fun x xs H Q => ∃ a p, ∃ ys : List Str, x = .str a ∧ xs = [.ref p] ∧ (SqL G.K H p (ys.map V.str) ∨ SqT G.K H p (ys.map V.str)) ∧ (ys.map (·.length)).sum + ys.length * a.length ≤ 16777216 ∧ Q (.str (Txt.join a ys)) H) to ta) (eJoin fo fa) := by
  intro σ δ H S Q R rl h k
  refine ho σ δ H S _ _ rl h fun x d H1 S1 i1 r1 u1 ⟨⟨s, ex⟩, q1⟩ => ?_
  subst ex
  obtain ⟨rfl, os⟩ := im_str i1
  refine ⟨⟨s, rfl⟩, ha σ δ H1 S1 _ _ r1 q1 fun y e H2 S2 i2 r2 u2 q2 => ?_⟩
  cases e <;> first | exact q2.elim | skip
  rename_i p
  obtain ⟨ds, e1, q⟩ := atL_of (show atL S2 p fun ds => match strsD ds with | none => False | some ys => (ys.map (·.length)).sum + ys.length * s.length ≤ 1000000 ∧ (okS (Txt.join s ys) → Q (.str (Txt.join s ys)) S2) from q2)
  split at q
  case h_1 => exact q.elim
  rename_i ys hys
  cases strs_of hys
  obtain ⟨l, q⟩ := q
  obtain ⟨vs, hv, iv⟩ := r2.sim.ob _ _ e1
  obtain ⟨rfl, oy⟩ := im_strs iv
  cases im_ref i2
  have oj := okS_join os oy l
  exact ⟨s, p, ys, rfl, rfl, .inl (SqL.of hv), Nat.le_trans l (by decide), k _ _ H2 S2 (.str _ oj) r2 (u1.trans u2) (q oj)⟩
/-! ### the box: what it draws is any -/
def wBox : WF := fun ds S Q _ => match ds with | [.scr, .int _] => ∀ b c, S b = none → S c = none → c ≠ b → Q (.ref b) (sup (sup S c .cells) b (.box c)) | _ => False
def wLoad : WF := fun ds S Q _ => match ds with | [.ref b] => (∃ c, S b = some (.box c)) ∧ ∀ i, Q (.int i) S | _ => False
def wDraw : WF := fun ds S Q _ => match ds with | [.ref b, .int m] => (∃ c, S b = some (.box c)) ∧ 0 < m ∧ m < 1000000000000000000 ∧ ∀ i, 0 ≤ i → i < m → Q (.int i) S | _ => False
end Sd

set_option Elab.async false
set_option linter.all false
set_option maxRecDepth 100000
set_option maxHeartbeats 4000000
namespace Sd
open PySem PySem.Spec PyProof.Rows L2 GxR
/-! ### data -/
theorem dat_i {n : Nat} {i : Int} : dat n (.int i) = true := by cases n <;> simp [dat]
theorem dat_s {n : Nat} {x : Str} : dat n (.str x) = true := by cases n <;> simp [dat]
theorem dat_b {n : Nat} {b : Bool} : dat n (.bl b) = true := by cases n <;> simp [dat]
theorem dat_n {n : Nat} : dat n .non = true := by cases n <;> simp [dat]
theorem dats_c {n : Nat} {d : D} {ds : List D} : dats n (d :: ds) = (dat n d && dats n ds) := by rw [dats]
theorem dats_e {n : Nat} : dats n [] = true := by rw [dats]
theorem dat_t {n : Nat} {ds : List D} : dat (n + 1) (.tup ds) = (decide (ds.length ≤ 1000000) && dats n ds) := by rw [dat]
theorem unC_i {i : Int} : unC (.int i) = .int i := rfl
theorem unC_s {i : Str} : unC (.str i) = .str i := rfl
theorem unC_b {i : Bool} : unC (.bl i) = .bl i := rfl
theorem unC_n : unC .non = .non := rfl
theorem unC_t {ds : List D} : unC (.tup ds) = .tup ds := rfl
theorem unC_c {ds : List D} : unC (.ctup ds) = .tup ds := rfl
/-- two ways that go on alike -/
theorem ways {c : Bool} {C : List D → Sto → Prop} {P : List D → Sto → Prop} {ys : List D} {S : Sto} {A : Prop} (h2 : ∀ ds S, C ds S → P ds S) (h1 : (∀ ds S, C ds S → P ds S) → A) (hc : C ys S) : (c = true → A) ∧ (c = false → P ys S) := ⟨fun _ => h1 h2, fun _ => h2 _ _ hc⟩
theorem eqD_ii {i j : Int} : eqD (.int i) (.int j) = decide (i = j) := by
  show (i == j) = _
  by_cases h : i = j <;> simp [h]
theorem eqD_ss {i j : Str} : eqD (.str i) (.str j) = decide (i = j) := by
  show (i == j) = _
  by_cases h : i = j <;> simp [h]
theorem eqD_bb {i j : Bool} : eqD (.bl i) (.bl j) = decide (i = j) := by cases i <;> cases j <;> rfl
theorem eqD_nn : eqD .non .non = true := rfl
theorem eqD_is {i : Int} {j : Str} : eqD (.int i) (.str j) = false := rfl
theorem eqD_si {i : Int} {j : Str} : eqD (.str j) (.int i) = false := rfl
theorem eqD_tt {xs ys : List D} : eqD (.tup xs) (.tup ys) = PyData.eqvAll (pys xs) (pys ys) := rfl
theorem eqvAll_c {x y : D} {xs ys : List D} : PyData.eqvAll (pys (x :: xs)) (pys (y :: ys)) = (eqD x y && PyData.eqvAll (pys xs) (pys ys)) := rfl
theorem eqvAll_n : PyData.eqvAll (pys []) (pys []) = true := rfl
/-! ### look-ups, where it is known what stands -/
theorem atL_eq {S : Sto} {a : Addr} {k : List D → Prop} {ds : List D} (h : S a = some (.lst ds)) : atL S a k = k ds := by unfold atL; rw [h]
theorem atO_eq {S : Sto} {a C : Addr} {nm : List Str} {k : List D → Prop} {ds : List D} (h : S a = some (.ins C nm ds)) : atO S a C nm k = k ds := by unfold atO; rw [h]; simp
theorem dget_T {S : Sto} {a : Addr} {y : D} {k : Option D → Prop} {kvs : List (List Key × D)} {x : List Key} (h : S a = some (.dT kvs)) (e : keyT y = some x) : dget S a y k = k (valD kvs x) := by unfold dget; rw [h]; simp only [e]
theorem dget_K {S : Sto} {a : Addr} {y : D} {k : Option D → Prop} {kvs : List (Key × D)} {x : Key} (h : S a = some (.dK kvs)) (e : keyD y = some x) : dget S a y k = k (valD kvs x) := by unfold dget; rw [h]; simp only [e]
theorem dput_T {S : Sto} {a : Addr} {y v : D} {k : Sto → Prop} {kvs : List (List Key × D)} {x : List Key} (h : S a = some (.dT kvs)) (e : keyT y = some x) (l : kvs.length < 1000000) : dput S a y v k = k (sup S a (.dT (putKD kvs x v))) := by unfold dput; rw [h]; simp only [e, l, true_and]
theorem dput_K {S : Sto} {a : Addr} {y v : D} {k : Sto → Prop} {kvs : List (Key × D)} {x : Key} (h : S a = some (.dK kvs)) (e : keyD y = some x) (l : kvs.length < 1000000) : dput S a y v k = k (sup S a (.dK (putKD kvs x v))) := by unfold dput; rw [h]; simp only [e, l, true_and]
theorem isDict_T {S : Sto} {a : Addr} {kvs : List (List Key × D)} (h : S a = some (.dT kvs)) : (isDict S a = true) = True := by unfold isDict; rw [h]; simp
theorem isDict_K {S : Sto} {a : Addr} {kvs : List (Key × D)} (h : S a = some (.dK kvs)) : (isDict S a = true) = True := by unfold isDict; rw [h]; simp
/-! ### loops by data -/
section
variable {ok : Sto → Prop} {i : Nat} {te : DE} {δ : DV} {S : Sto}
theorem allD_eq {p : D → Bool} {Q : Bool → Sto → Prop} (hok : ok S) : ∀ {items : List D}, (∀ x ∈ items, ∀ R : DK, te (δ.set i (some x)) S R = R (.bl (p x)) S) → allD ok (xName i) te δ items S Q = Q (items.all p) S
  | [], _ => by simp [allD, hok]
  | x :: xs, h => by
    rw [allD]
    simp only [xName]
    rw [h x List.mem_cons_self]
    have ih := allD_eq (Q := Q) hok (items := xs) fun y hy => h y (List.mem_cons_of_mem _ hy)
    simp only [asB, br, hok, true_and, ih, List.all_cons]
    cases p x <;> simp
theorem lcD_map {f : D → D} {Q : List D → Sto → Prop} (hok : ok S) : ∀ {items acc : List D}, acc.length + items.length ≤ 1000000 → (∀ x ∈ items, ∀ R : DK, te (δ.set i (some x)) S R = R (f x) S) → lcD ok (xName i) tYes' te δ items acc S Q = Q (acc ++ items.map f) S
  | [], acc, _, _ => by simp [lcD, hok]
  | x :: xs, acc, l, h => by
    rw [lcD]
    simp only [List.length_cons] at l
    simp only [xName, tYes', br, hok, true_and]
    rw [h x List.mem_cons_self]
    have ih := lcD_map (Q := Q) hok (items := xs) (acc := acc ++ [f x]) (by simp; omega) fun y hy => h y (List.mem_cons_of_mem _ hy)
    rw [ih]
    simp
    omega
theorem lcD_filter {f : D → D} {p : D → Bool} {tt : DT} {Q : List D → Sto → Prop} (hok : ok S) : ∀ {items acc : List D}, acc.length + items.length ≤ 1000000 → (∀ x ∈ items, ∀ R : DK, te (δ.set i (some x)) S R = R (f x) S) → (∀ x ∈ items, ∀ R : Bool → Sto → Prop, tt (δ.set i (some x)) S R = R (p x) S) → lcD ok (xName i) tt te δ items acc S Q = Q (acc ++ (items.filter p).map f) S
  | [], acc, _, _, _ => by simp [lcD, hok]
  | x :: xs, acc, l, h, h2 => by
    rw [lcD]
    simp only [List.length_cons] at l
    simp only [xName, br, hok, true_and]
    rw [h2 x List.mem_cons_self, h x List.mem_cons_self]
    have ih := lcD_filter (Q := Q) hok (items := xs) (acc := acc ++ [f x]) (by simp; omega) (fun y hy => h y (List.mem_cons_of_mem _ hy)) fun y hy => h2 y (List.mem_cons_of_mem _ hy)
    have ih2 := lcD_filter (Q := Q) hok (items := xs) (acc := acc) (by omega) (fun y hy => h y (List.mem_cons_of_mem _ hy)) fun y hy => h2 y (List.mem_cons_of_mem _ hy)
    rw [ih, ih2]
    cases hp : p x
    · simp [hp]
    · simp [hp]; omega
/-- a comprehension with a condition; the store goes on by J -/
theorem lcD_J {f : D → D} {p : D → Bool} {tt : DT} {J : Sto → Prop} {Q : List D → Sto → Prop} {items : List D} (hp : ∀ x ∈ items, ∀ S, J S → ok S ∧ ∀ R : Bool → Sto → Prop, (∀ S', J S' → R (p x) S') → tt (δ.set i (some x)) S R)
    (hf : ∀ x ∈ items, p x = true → ∀ S, J S → ∀ R : DK, (∀ S', J S' → R (f x) S') → te (δ.set i (some x)) S R) (hend : ∀ S, J S → ok S) (hl : items.length ≤ 1000000)
    (q : ∀ S', J S' → Q ((items.filter p).map f) S') (hJ : J S) : lcD ok (xName i) tt te δ items [] S Q := by
  have gen : ∀ (rest done : List D) (S : Sto), items = done ++ rest → J S → lcD ok (xName i) tt te δ rest ((done.filter p).map f) S Q := by
    intro rest
    induction rest with
    | nil =>
      intro done S e hJ
      rw [List.append_nil] at e
      rw [← e]
      exact ⟨hend S hJ, q S hJ⟩
    | cons x xs ih =>
      intro done S e hJ
      have hx : x ∈ items := by rw [e]; simp
      obtain ⟨h1, h2⟩ := hp x hx S hJ
      refine ⟨h1, h2 _ fun S' hJ' => ?_⟩
      have e2 : items = (done ++ [x]) ++ xs := by rw [e]; simp
      refine ⟨fun hb => hf x hx hb S' hJ' _ fun S2 hJ2 => ⟨?_, ?_⟩, fun hb => ?_⟩
      · have h3 : (done.filter p).length ≤ done.length := List.length_filter_le _ _
        have h4 : items.length = done.length + (xs.length + 1) := by rw [e]; simp
        rw [List.length_map]
        omega
      · have := ih (done ++ [x]) S2 e2 hJ2
        rw [List.filter_append, List.map_append] at this
        simpa [List.filter_cons, hb] using this
      · have := ih (done ++ [x]) S' e2 hJ'
        rw [List.filter_append, List.map_append] at this
        simpa [List.filter_cons, hb] using this
  exact gen items [] S rfl hJ
/-- elements that are drawn: any of a kind; the store goes on by J -/
theorem lcD_any {P : D → Prop} {J : Sto → Prop} {Q : List D → Sto → Prop} {items : List D} (h : ∀ x ∈ items, ∀ S, J S → ok S ∧ ∀ R : DK, (∀ y S', J S' → P y → R y S') → te (δ.set i (some x)) S R) (hend : ∀ S, J S → ok S)
    (q : ∀ ys S', ys.length = items.length → (∀ y ∈ ys, P y) → J S' → Q ys S') (hl : items.length ≤ 1000000) (hJ : J S) : lcD ok (xName i) tYes' te δ items [] S Q := by
  have gen : ∀ (rest done acc : List D) (S : Sto), items = done ++ rest → acc.length = done.length → (∀ y ∈ acc, P y) → J S → lcD ok (xName i) tYes' te δ rest acc S Q := by
    intro rest
    induction rest with
    | nil =>
      intro done acc S e l hp hJ
      rw [List.append_nil] at e
      exact ⟨hend S hJ, q acc S (by rw [l, e]) hp hJ⟩
    | cons x xs ih =>
      intro done acc S e l hp hJ
      have hx : x ∈ items := by rw [e]; simp
      obtain ⟨h1, h2⟩ := h x hx S hJ
      refine ⟨h1, ?_⟩
      show (true = true → _) ∧ (true = false → _)
      refine ⟨fun _ => h2 _ fun y S' hJ' hy => ⟨?_, ih (done ++ [x]) (acc ++ [y]) S' (by rw [e]; simp) (by simp [l]) (fun z hz => ?_) hJ'⟩, fun z => by cases z⟩
      · have : items.length = done.length + (xs.length + 1) := by rw [e]; simp
        omega
      · rcases List.mem_append.mp hz with hz | hz
        · exact hp z hz
        · rw [List.mem_singleton.mp hz]; exact hy
  exact gen items [] [] S rfl rfl (fun _ z => by cases z) hJ
/-- .. with a count: elements of a kind, the store by J -/
theorem lcD_ix {P : D → Prop} {J : Nat → Sto → Prop} {Q : List D → Sto → Prop} {items : List D} (h : ∀ (k : Nat) x, items[k]? = some x → ∀ S, J k S → ok S ∧ ∀ R : DK, (∀ y S', J (k + 1) S' → P y → R y S') → te (δ.set i (some x)) S R) (hend : ∀ k S, J k S → ok S)
    (q : ∀ ys S', ys.length = items.length → (∀ y ∈ ys, P y) → J items.length S' → Q ys S') (hl : items.length ≤ 1000000) (hJ : J 0 S) : lcD ok (xName i) tYes' te δ items [] S Q := by
  have gen : ∀ (rest done acc : List D) (S : Sto), items = done ++ rest → acc.length = done.length → (∀ y ∈ acc, P y) → J done.length S → lcD ok (xName i) tYes' te δ rest acc S Q := by
    intro rest
    induction rest with
    | nil =>
      intro done acc S e l hp hJ
      rw [List.append_nil] at e
      subst e
      exact ⟨hend _ S hJ, q acc S l hp hJ⟩
    | cons x xs ih =>
      intro done acc S e l hp hJ
      have hx : items[done.length]? = some x := by rw [e]; simp
      obtain ⟨h1, h2⟩ := h _ x hx S hJ
      refine ⟨h1, ?_⟩
      show (true = true → _) ∧ (true = false → _)
      refine ⟨fun _ => h2 _ fun y S' hJ' hy => ⟨?_, ih (done ++ [x]) (acc ++ [y]) S' (by rw [e]; simp) (by simp [l]) (fun z hz => ?_) (by simpa using hJ')⟩, fun z => by cases z⟩
      · have : items.length = done.length + (xs.length + 1) := by rw [e]; simp
        omega
      · rcases List.mem_append.mp hz with hz | hz
        · exact hp z hz
        · rw [List.mem_singleton.mp hz]; exact hy
  exact gen items [] [] S rfl rfl (fun _ z => by cases z) hJ
end
theorem forD_inv {ok : Sto → Prop} {g : DG} {tb : DS} {D : DN} {items : List Sd.D} (I : DV → Sto → Prop)
    (hs : ∀ x ∈ items, ∀ (Nx : DV → Sto → Prop) δ S, I δ S → (∀ δ' S', I δ' S' → Nx δ' S') → ok S ∧ g x δ S fun δ' S' => tb { D with nx := Nx, ct := Nx, bk := D.nx } δ' S')
    (he : ∀ δ S, I δ S → ok S ∧ D.nx δ S) {δ : DV} {S : Sto} (h : I δ S) : forD ok g tb items D δ S := by
  induction items generalizing δ S with
  | nil => exact he δ S h
  | cons x xs ih =>
    exact hs x List.mem_cons_self _ δ S h fun δ' S' h' => ih (fun y hy => hs y (List.mem_cons_of_mem _ hy)) h'
/-- .. with the items that are past -/
theorem forD_ix {ok : Sto → Prop} {g : DG} {tb : DS} {D : DN} {items : List Sd.D} (I : Nat → DV → Sto → Prop)
    (hs : ∀ (k : Nat) x, items[k]? = some x → ∀ (Nx : DV → Sto → Prop) δ S, I k δ S → (∀ δ' S', I (k + 1) δ' S' → Nx δ' S') → ok S ∧ g x δ S fun δ' S' => tb { D with nx := Nx, ct := Nx, bk := D.nx } δ' S')
    (he : ∀ δ S, I items.length δ S → ok S ∧ D.nx δ S) {δ : DV} {S : Sto} (h : I 0 δ S) : forD ok g tb items D δ S := by
  have gen : ∀ (rest done : List Sd.D) (δ : DV) (S : Sto), items = done ++ rest → I done.length δ S → forD ok g tb rest D δ S := by
    intro rest
    induction rest with
    | nil =>
      intro done δ S e h
      rw [List.append_nil] at e
      rw [← e] at h
      exact he δ S h
    | cons x xs ih =>
      intro done δ S e h
      refine hs done.length x (by rw [e]; simp) _ δ S h fun δ' S' h' => ?_
      exact ih (done ++ [x]) δ' S' (by rw [e]; simp) (by simpa using h')
  exact gen items [] δ S rfl h
/-- a while by a measure -/
theorem whN_by {c : DT} {tb : DS} {D : DN} (I : DV → Sto → Prop) (μ : DV → Sto → Nat)
    (hs : ∀ (Nx : DV → Sto → Prop) δ S, I δ S → (∀ δ' S', I δ' S' → μ δ' S' < μ δ S → Nx δ' S') → c δ S fun b S1 => br b (tb { D with nx := Nx, ct := Nx, bk := D.nx } δ S1) (D.nx δ S1)) {δ : DV} {S : Sto} (h : I δ S) : sWhile c tb D δ S := by
  have gen : ∀ n δ S, I δ S → μ δ S < n → whN c tb n D δ S := by
    intro n
    induction n with
    | zero => intro δ S _ z; exact absurd z (Nat.not_lt_zero _)
    | succ n ih => intro δ S h z; exact hs _ δ S h fun δ' S' h' l => ih δ' S' h' (by omega)
  exact ⟨_, gen (μ δ S + 1) δ S h (Nat.lt_succ_self _)⟩
end Sd

set_option Elab.async false
set_option linter.all false
set_option maxRecDepth 100000
set_option maxHeartbeats 4000000
namespace Sd
open PySem PySem.Spec PyProof.Rows L2 GxR
/-! ### a function that the kernel does not look into -/
noncomputable def shut (F : WF) : WF := Classical.choose (⟨F, rfl⟩ : ∃ G : WF, G = F)
theorem shut_eq (F : WF) : shut F = F := Classical.choose_spec (⟨F, rfl⟩ : ∃ G : WF, G = F)
theorem shut_of {F : WF} {ds : List D} {S : Sto} {Q : DK} {Ed : XD} (h : shut F ds S Q Ed) : F ds S Q Ed := by rw [shut_eq] at h; exact h
/-! ### places and cuts of data -/
theorem atI_c0 {α : Type} {x : α} {xs : List α} : atI (x :: xs) 0 = some x := atI_nat (j := 0) rfl
theorem atI_c1 {α : Type} {x y : α} {xs : List α} : atI (x :: y :: xs) 1 = some y := atI_nat (j := 1) rfl
theorem atI_c2 {α : Type} {x y z : α} {xs : List α} : atI (x :: y :: z :: xs) 2 = some z := atI_nat (j := 2) rfl
theorem atI_c3 {α : Type} {x y z u : α} {xs : List α} : atI (x :: y :: z :: u :: xs) 3 = some u := atI_nat (j := 3) rfl
theorem atI_c4 {α : Type} {x y z u v : α} {xs : List α} : atI (x :: y :: z :: u :: v :: xs) 4 = some v := atI_nat (j := 4) rfl
theorem atI_c5 {α : Type} {x y z u v w : α} {xs : List α} : atI (x :: y :: z :: u :: v :: w :: xs) 5 = some w := atI_nat (j := 5) rfl
theorem cut_take {xs : List D} {k : Nat} : cutD xs none (some (k : Int)) = xs.take k := by
  unfold cutD HT.sIx
  simp only [show ¬ ((k : Int) < 0) by omega, if_false, Int.toNat_natCast, List.drop_zero, Nat.sub_zero]
  by_cases h : k ≤ xs.length
  · rw [Nat.min_eq_left h]
  · rw [Nat.min_eq_right (by omega), List.take_length, List.take_of_length_le (by omega)]
theorem cut_drop {xs : List D} {k : Nat} : cutD xs (some (k : Int)) none = xs.drop k := by
  unfold cutD HT.sIx
  simp only [show ¬ ((k : Int) < 0) by omega, if_false, Int.toNat_natCast]
  by_cases h : k ≤ xs.length
  · rw [Nat.min_eq_left h, List.take_of_length_le (by simp)]
  · rw [Nat.min_eq_right (by omega)]
    simp [List.drop_eq_nil_of_le (show xs.length ≤ k by omega)]
theorem cut_t1 {xs : List D} : cutD xs none (some 1) = xs.take 1 := cut_take (k := 1)
theorem cut_t2 {xs : List D} : cutD xs none (some 2) = xs.take 2 := cut_take (k := 2)
theorem cut_t3 {xs : List D} : cutD xs none (some 3) = xs.take 3 := cut_take (k := 3)
theorem cut_t4 {xs : List D} : cutD xs none (some 4) = xs.take 4 := cut_take (k := 4)
theorem cut_t5 {xs : List D} : cutD xs none (some 5) = xs.take 5 := cut_take (k := 5)
theorem cut_d1 {xs : List D} : cutD xs (some 1) none = xs.drop 1 := cut_drop (k := 1)
theorem cut_d2 {xs : List D} : cutD xs (some 2) none = xs.drop 2 := cut_drop (k := 2)
theorem cut_d3 {xs : List D} : cutD xs (some 3) none = xs.drop 3 := cut_drop (k := 3)
theorem tk1 {α : Type} {x : α} {xs : List α} : (x :: xs).take 1 = [x] := rfl
theorem tk2 {α : Type} {x y : α} {xs : List α} : (x :: y :: xs).take 2 = [x, y] := rfl
theorem tk5 {α : Type} {x y z u v : α} {xs : List α} : (x :: y :: z :: u :: v :: xs).take 5 = [x, y, z, u, v] := rfl
theorem dp1 {α : Type} {x : α} {xs : List α} : (x :: xs).drop 1 = xs := rfl
theorem dp2 {α : Type} {x y : α} {xs : List α} : (x :: y :: xs).drop 2 = xs := rfl
/-- rows of whole numbers -/
def iD (l : List Int) : D := .tup (l.map .int)
theorem atI_ints {l : List Int} {i : Int} (h0 : 0 ≤ i) (h1 : i < l.length) : atI (l.map D.int) i = some (.int (l.getD i.toNat 0)) := by
  have e : i = ((i.toNat : Nat) : Int) := by omega
  have hl : i.toNat < l.length := by omega
  have k : atI (l.map D.int) ((i.toNat : Nat) : Int) = some (.int (l.getD i.toNat 0)) := by
    refine atI_nat ?_
    rw [List.getElem?_map, List.getD_eq_getElem?_getD, List.getElem?_eq_getElem hl]
    rfl
  rw [← e] at k
  exact k
theorem atI_intsN {l : List Int} {i : Nat} (h1 : i < l.length) : atI (l.map D.int) (i : Int) = some (.int (l.getD i 0)) := by
  have := atI_ints (l := l) (i := (i : Int)) (by omega) (by omega)
  simpa using this
theorem dIx_t {ds : List D} {i : Int} {S : Sto} {Q : DK} : dIx (.tup ds) (.int i) S Q = match atI ds i with | some d => Q d S | none => False := rfl
theorem dIx_c {ds : List D} {i : Int} {S : Sto} {Q : DK} : dIx (.ctup ds) (.int i) S Q = match atI ds i with | some d => Q d S | none => False := rfl
theorem dIx_s {z : Str} {i : Int} {S : Sto} {Q : DK} : dIx (.str z) (.int i) S Q = match atI z.cps.toList i with | some c => Q (.str ⟨#[c]⟩) S | none => False := rfl
theorem dIx_r {a : Addr} {i : Int} {S : Sto} {Q : DK} : dIx (.ref a) (.int i) S Q = atL S a fun ds => match atI ds i with | some d => Q d S | none => False := rfl
theorem dIx_iD {l : List Int} {i : Int} {S : Sto} {Q : DK} : dIx (iD l) (.int i) S Q = match atI (l.map D.int) i with | some d => Q d S | none => False := rfl
theorem dLen_s {x : Str} {S : Sto} {Q : DK} : dLen [.str x] S Q = Q (.int x.length) S := rfl
theorem dLen_t {ds : List D} {S : Sto} {Q : DK} : dLen [.tup ds] S Q = Q (.int ds.length) S := rfl
theorem dLen_c {ds : List D} {S : Sto} {Q : DK} : dLen [.ctup ds] S Q = Q (.int ds.length) S := rfl
theorem dLen_r {a : Addr} {S : Sto} {Q : DK} : dLen [.ref a] S Q = atL S a fun ds => Q (.int ds.length) S := rfl
theorem dLen_iD {l : List Int} {S : Sto} {Q : DK} : dLen [iD l] S Q = Q (.int l.length) S := by show Q (.int (l.map D.int).length) S = _; rw [List.length_map]
theorem set_cut {α : Type} {l : List α} {i : Nat} {x : α} (h : i < l.length) : l.take i ++ x :: l.drop (i + 1) = l.set i x := by
  rw [List.set_eq_take_append_cons_drop, if_pos h]
/-! ### is True, is not True, of bools -/
def dIsB (neg : Bool) : B2 := fun x y S Q => match x, y with
  | .bl p, .bl q => Q (.bl (if neg then !decide (p = q) else decide (p = q))) S
  | _, _ => False
theorem s2_isB {G : Gm} : S2 G (fun x y H Q => ∃ a b, x = .bl a ∧ y = .bl b ∧ Q (.bl (decide (a = b))) H) (dIsB false) := by
  intro x y d e H S Q R hx hy s h k
  unfold dIsB at h
  split at h
  · cases im_bl hx; cases im_bl hy
    exact ⟨_, _, rfl, rfl, k _ _ H S (.bl _) s .refl h⟩
  · exact h.elim
theorem s2_notB {G : Gm} : S2 G (fun x y H Q => ∃ a b, x = .bl a ∧ y = .bl b ∧ Q (.bl (!decide (a = b))) H) (dIsB true) := by
  intro x y d e H S Q R hx hy s h k
  unfold dIsB at h
  split at h
  · cases im_bl hx; cases im_bl hy
    exact ⟨_, _, rfl, rfl, k _ _ H S (.bl _) s .refl h⟩
  · exact h.elim
/-! ### written dicts: texts to scalars or defs -/
theorem scR_im {G : Gm} {H : Hp} {d : D} (h : scR d = true) : Im G H (dV2 d) d := by
  cases d with
  | str x =>
    refine .str x ?_
    have h : (decide (x.length ≤ 1000000) && PyData.strOk x) = true := h
    simpa [okS] using h
  | non => exact .non
  | bl b => exact .bl b
  | int i => exact .int i
  | ref a => exact .ref a
  | _ => cases h
structure KdOk (K : PySem.W.Frag) (w : World) (d : Addr) (tb : KTb) : Prop where
  ex : ∃ es n, KDict K w d es n
  row : ∀ p ∈ tb, ∃ r, PySem.W.nsIn K d p.1 = some r ∧ ((p.2 = none ∧ r = none) ∨ ∃ v u, p.2 = some v ∧ r = some u ∧ scR v = true ∧ RelV (dV2 v) u)
def kLook : KTb → Str → Option (Option D)
  | [], _ => none
  | p :: r, z => if decide (p.1 = z) = true then some p.2 else kLook r z
theorem kLook_c {p : Str × Option D} {r : KTb} {z : Str} : kLook (p :: r) z = if decide (p.1 = z) = true then some p.2 else kLook r z := rfl
theorem look_mem {tb : KTb} {z : Str} {o : Option D} (h : kLook tb z = some o) : (z, o) ∈ tb := by
  induction tb with
  | nil => cases h
  | cons p r ih =>
    rw [kLook_c] at h
    split at h
    · rename_i hk
      cases h
      have : p.1 = z := of_decide_eq_true hk
      subst this
      exact List.mem_cons_self
    · exact List.mem_cons_of_mem _ (ih h)
def eKIx (tb : KTb) (fy : DE) : DE := fun δ S Q => fy δ S fun y S1 => match y with
  | .str z => (match kLook tb z with | some (some v) => Q v S1 | _ => False)
  | _ => False
def eKIn (neg : Bool) (tb : KTb) (fy : DE) : DE := fun δ S Q => fy δ S fun y S1 => match y with
  | .str z => (match kLook tb z with | some o => Q (.bl (if neg then !o.isSome else o.isSome)) S1 | _ => False)
  | _ => False
section
variable {G : Gm} {N : En} {w : World} {d : Addr} {tb : KTb} {ty : TE} {fy : DE}
theorem se_kix (k : KdOk G.K w d tb) (hy : SE G N ty fy) : SE G N (tOp (rIxD G.K w) (tC (.ref d)) ty) (eKIx tb fy) := by
  intro σ δ H S Q R rl h kk
  refine hy σ δ H S _ _ rl h fun y e H1 S1 i1 r1 u1 q1 => ?_
  cases e <;> first | exact q1.elim | skip
  rename_i z
  obtain ⟨rfl, _⟩ := im_str i1
  dsimp only at q1
  split at q1
  · rename_i v hv
    obtain ⟨r, h1, h2⟩ := k.row _ (look_mem hv)
    rcases h2 with ⟨h2, _⟩ | ⟨v', u, h2, rfl, h3, h4⟩
    · cases h2
    · cases h2
      obtain ⟨es, n, hd⟩ := k.ex
      exact ⟨d, z, dV2 v, rfl, rfl, ⟨es, n, u, hd.at_, hd.lit, h1, h4⟩, kk _ v H1 S1 (scR_im h3) r1 u1 q1⟩
  · exact q1.elim
theorem se_knotin (k : KdOk G.K w d tb) (hy : SE G N ty fy) : SE G N (tOp (fun x y H Q => ∃ (z : Str) (r : Option Value), x = .str z ∧ y = .ref d ∧ PySem.W.nsIn G.K d z = some r ∧ Q (.bl (!r.isSome)) H) ty (tC (.ref d))) (eKIn true tb fy) := by
  intro σ δ H S Q R rl h kk
  refine hy σ δ H S _ _ rl h fun y e H1 S1 i1 r1 u1 q1 => ?_
  cases e <;> first | exact q1.elim | skip
  rename_i z
  obtain ⟨rfl, _⟩ := im_str i1
  dsimp only at q1
  split at q1
  · rename_i o hv
    obtain ⟨r, h1, h2⟩ := k.row _ (look_mem hv)
    refine ⟨z, r, rfl, rfl, h1, ?_⟩
    rcases h2 with ⟨h2, rfl⟩ | ⟨v', u, h2, rfl, h3, h4⟩
    · cases h2
      exact kk _ _ H1 S1 (.bl _) r1 u1 q1
    · cases h2
      exact kk _ _ H1 S1 (.bl _) r1 u1 q1
  · exact q1.elim
theorem se_kin (k : KdOk G.K w d tb) (hy : SE G N ty fy) : SE G N (tOp (fun x y H Q => ∃ (z : Str) (r : Option Value), x = .str z ∧ y = .ref d ∧ PySem.W.nsIn G.K d z = some r ∧ Q (.bl (r.isSome)) H) ty (tC (.ref d))) (eKIn false tb fy) := by
  intro σ δ H S Q R rl h kk
  refine hy σ δ H S _ _ rl h fun y e H1 S1 i1 r1 u1 q1 => ?_
  cases e <;> first | exact q1.elim | skip
  rename_i z
  obtain ⟨rfl, _⟩ := im_str i1
  dsimp only at q1
  split at q1
  · rename_i o hv
    obtain ⟨r, h1, h2⟩ := k.row _ (look_mem hv)
    refine ⟨z, r, rfl, rfl, h1, ?_⟩
    rcases h2 with ⟨h2, rfl⟩ | ⟨v', u, h2, rfl, h3, h4⟩
    · cases h2
      exact kk _ _ H1 S1 (.bl _) r1 u1 q1
    · cases h2
      exact kk _ _ H1 S1 (.bl _) r1 u1 q1
  · exact q1.elim
end
theorem op_knotin {X : Cx} {d : Addr} {tb : KTb} (k : KdOk X.K X.w d tb) : OpR X (compareOp .NotIn) (fun x y H Q => ∃ (z : Str) (r : Option Value), x = .str z ∧ y = .ref d ∧ PySem.W.nsIn X.K d z = some r ∧ Q (.bl (!r.isSome)) H) := by
  obtain ⟨es, n, h⟩ := k.ex
  exact op_notIn_kd h
theorem op_kin {X : Cx} {d : Addr} {tb : KTb} (k : KdOk X.K X.w d tb) : OpR X (compareOp .In) (fun x y H Q => ∃ (z : Str) (r : Option Value), x = .str z ∧ y = .ref d ∧ PySem.W.nsIn X.K d z = some r ∧ Q (.bl r.isSome) H) := by
  obtain ⟨es, n, h⟩ := k.ex
  exact op_in_kd h
/-! ### a call of a value that is one of some defs -/
structure CvOk (P : Program) (w : World) (K : PySem.W.Frag) (mg : Str → Option Value) (base : Heap) (j : Nat) (f : Addr) (sp : Sp) : Prop where
  ex : ∃ k fd ps, k ≤ j ∧ FnOk P w K mg base (L2.CX P w) k f fd ps sp ∧ PySem.W.keepIn K (.ref f) = true ∧ Binds K fd ps []
theorem CvOk.of {P : Program} {w : World} {K : PySem.W.Frag} {mg : Str → Option Value} {base : Heap} {k j : Nat} {x : Str} {f : Addr} {sp : Sp} (c : Ow.Ca P w K mg base k x sp) (h : mg x = some (.ref f)) (hk : k ≤ j) : CvOk P w K mg base j f sp := by
  obtain ⟨f', fd, ps, F, hm, kp, b⟩ := c.ex
  rw [h] at hm
  cases hm
  exact ⟨k, fd, ps, hk, F, kp, b⟩
def tCV (i : Nat) (fs : List (Addr × Sp)) (t : TA) : TE := fun σ H Q => ∃ f sp, (f, sp) ∈ fs ∧ σ[i]? = some (some (.ref f)) ∧ t σ H fun vs H1 => sp vs H1 Q L2.E0
theorem pe_cvs {X : Cx} {j : Nat} {x : Str} {p pos : Pos} {e : Expr} {es : List Expr} {t : TA} {i : Nat} {fs : List (Addr × Sp)} (h : ∀ p ∈ fs, CvOk X.prog X.w X.K X.mg X.base j p.1 p.2) (hr : Room j X.A) (hN : X.N[i]? = some x) (hv : Vis X.env.scope x) (ha : PA X (e :: es) t)
    (h1 : (x == ("__debug__" : Str)) = false := by decide) (h2 : (x == ("__classdict__" : Str)) = false := by decide) (he : starEach (e :: es) X.env = (false, eval e X.env) :: starEach es X.env := by rfl) (hpl : (backTo pos (starEach es X.env)).any (·.1) = false := by rfl) :
    PE X (.Call (.Name x p) (e :: es) [] pos) (tCV i fs t) := by
  refine ⟨fun pins s σ H Q I ⟨f, sp, hm, hs, q⟩ => ?_⟩
  obtain ⟨k, fd, ps, hk, F, kp, b⟩ := (h _ hm).ex
  have c : C8.CalAt X.prog X.w X.K X.mg X.base k f (fun vs H Q _ => sp vs H Q L2.E0) := by
    refine ⟨fd, ps, ⟨fun vs H Q E z => F.len vs H Q L2.E0 z, fun A outer s H args us vs Q E hr e0 b v z => ?_⟩, kp, b⟩
    refine PySem.codeAny_mono (F.run A outer s H args us vs Q L2.E0 hr e0 b v z) fun r s' y => ?_
    cases r with
    | ok a => cases a <;> exact y
    | error e => obtain ⟨_, _, _, _, _, _, _, _, _, _, _, _, z⟩ := y; exact z
  exact (C8.pe_cv c c hr hk hk hN hv ha h1 h2 he hpl).run pins s σ H Q I (.inl ⟨hs, q⟩)
def eCV (i : Nat) (fs : List (Addr × WF)) (fa : DA) : DE := fun δ S Q => ∃ f F, (f, F) ∈ fs ∧ δ[i]? = some (some (.ref f)) ∧ fa δ S fun xs S1 => F xs S1 Q xF
theorem se_cv {K : PySem.W.Frag} {tabs : List Addr} {scr : Addr} {ns : List Int} {N : En} {i : Nat} {fs : List (Addr × WF)} {tl : TA} {fl : DA} (ha : SA ⟨K, tabs, scr, ns⟩ N tl fl) :
    SE ⟨K, tabs, scr, ns⟩ N (tCV i (fs.map fun p => (p.1, spD K tabs p.2)) tl) (eCV i fs fl) := by
  rintro σ δ H S Q R rl ⟨f, F, hm, hi, h⟩ k
  obtain ⟨v, h1, h2⟩ := rl.sl.at_ i _ hi
  rw [im_ref h2] at h1
  refine ⟨f, spD K tabs F, List.mem_map.mpr ⟨_, hm, rfl⟩, h1, ?_⟩
  refine ha σ δ H S _ _ rl h fun vs ds H1 S1 i1 r1 u1 q => ?_
  exact use_sp i1 r1.sim r1.up q (fun v d H' S' i s u q' => k v d H' S' i (r1.go s u) (u1.trans u) q') xok_F
theorem cv_nil {P : Program} {w : World} {K : PySem.W.Frag} {mg : Str → Option Value} {base : Heap} {j : Nat} {tabs : List Addr} : ∀ p ∈ ([] : List (Addr × WF)).map fun p => (p.1, spD K tabs p.2), CvOk P w K mg base j p.1 p.2 := fun _ h => by cases h
theorem cv_cons {P : Program} {w : World} {K : PySem.W.Frag} {mg : Str → Option Value} {base : Heap} {j : Nat} {tabs : List Addr} {f : Addr} {F : WF} {fs : List (Addr × WF)} (h : CvOk P w K mg base j f (spD K tabs F))
    (r : ∀ p ∈ fs.map fun p => (p.1, spD K tabs p.2), CvOk P w K mg base j p.1 p.2) : ∀ p ∈ ((f, F) :: fs).map fun p => (p.1, spD K tabs p.2), CvOk P w K mg base j p.1 p.2 := by
  intro p hp
  rw [List.map_cons] at hp
  rcases List.mem_cons.mp hp with rfl | hp
  · exact h
  · exact r p hp
/-! ### reversed(range(..)) -/
def downto (lo : Int) (n : Nat) : List D := (List.range n).map fun i => .int (lo + ((n - 1 - i : Nat) : Int))
def iRev1 (a : DE) : DI := fun δ S Q => a δ S fun x S1 => match x with | .int j => -(2 ^ 62) ≤ j ∧ j < 2 ^ 62 ∧ Q ⟨downto 0 j.toNat, fun _ => True⟩ S1 | _ => False
def iRev2 (a b : DE) : DI := fun δ S Q => a δ S fun x S1 => b δ S1 fun y S2 => match x, y with | .int i, .int j => -(2 ^ 62) ≤ i ∧ i < 2 ^ 62 ∧ -(2 ^ 62) ≤ j ∧ j < 2 ^ 62 ∧ Q ⟨downto i (j - i).toNat, fun _ => True⟩ S2 | _, _ => False
section
variable {G : Gm} {N : En} {ta tb : TE} {fa fb : DE}
theorem jok_rev {lo hi : Int} {n : Nat} {S : Sto} {H : Hp} (hh : hi = lo + (n : Int) - 1) : JOk G (Itc hi (-1) n) ⟨downto lo n, fun _ => True⟩ S H := by
  intro S2 H2 s2 u2 _ i hi'
  have hl : (downto lo n).length = n := by simp [downto]
  simp only [hl] at hi' ⊢
  refine ⟨fun y => y, fun y => by show n ≤ i; omega, fun x H' y w => ?_⟩
  obtain ⟨rfl, rfl⟩ := w
  refine ⟨.int (hi + (i : Int) * -1), ?_, .int _, s2, .refl, .refl⟩
  unfold downto
  rw [List.getElem?_map, List.getElem?_range y]
  simp only [Option.map_some]
  congr 2
  omega
theorem si_rev1 (ha : SE G N ta fa) : SI G N (iRevR (tRg1 ta)) (iRev1 fa) := by
  intro σ δ H S Q R r h k
  refine ha σ δ H S _ _ r h fun v d H1 S1 i1 r1 u1 q1 => ?_
  cases d <;> first | exact q1.elim | skip
  rename_i j
  obtain ⟨c1, c2, q⟩ := q1
  cases im_int i1
  refine ⟨j, rfl, by decide, by decide, c1, c2, ?_⟩
  rw [show (j - 0).toNat = j.toNat by rw [Int.sub_zero]]
  exact k _ _ H1 S1 (jok_rev rfl) r1 u1 q
theorem si_rev2 (ha : SE G N ta fa) (hb : SE G N tb fb) : SI G N (iRevR (tRg2 ta tb)) (iRev2 fa fb) := by
  intro σ δ H S Q R r h k
  refine ha σ δ H S _ _ r h fun v d H1 S1 i1 r1 u1 q1 => ?_
  refine hb σ δ H1 S1 _ _ r1 q1 fun v2 d2 H2 S2 i2 r2 u2 q2 => ?_
  cases d <;> first | exact q2.elim | skip
  cases d2 <;> first | exact q2.elim | skip
  rename_i i j
  obtain ⟨c1, c2, c3, c4, q⟩ := q2
  cases im_int i2
  cases im_int (i1.go (u2.tu r1.sim))
  exact ⟨i, j, rfl, rfl, c1, c2, c3, c4, k _ _ H2 S2 (jok_rev rfl) r2 (u1.trans u2) q⟩
end

/-! ### data, stores, picks -/
theorem dats_mem : ∀ {n : Nat} {ds : List D}, dats n ds = true → ∀ d ∈ ds, dat n d = true
  | _, [], _, _, z => by cases z
  | n, d :: ds, h, e, he => by
    rw [dats, Bool.and_eq_true] at h
    rcases List.mem_cons.mp he with rfl | he
    · exact h.1
    · exact dats_mem h.2 e he
theorem dat_up : ∀ {n : Nat} {d : D}, dat n d = true → dat (n + 1) d = true := by
  have key : ∀ (n : Nat), (∀ d, dat n d = true → dat (n + 1) d = true) ∧ ∀ ds, dats n ds = true → dats (n + 1) ds = true := by
    intro n
    induction n with
    | zero =>
      have h1 : ∀ d, dat 0 d = true → dat 1 d = true := fun d h => by cases d <;> simp_all [dat]
      refine ⟨h1, fun ds h => ?_⟩
      induction ds with
      | nil => simp [dats]
      | cons d ds ih =>
        rw [dats, Bool.and_eq_true] at h ⊢
        exact ⟨h1 d h.1, ih h.2⟩
    | succ n ih =>
      have h1 : ∀ d, dat (n + 1) d = true → dat (n + 2) d = true := fun d h => by
        cases d with
        | tup ds => rw [dat, Bool.and_eq_true] at h ⊢; exact ⟨h.1, ih.2 ds h.2⟩
        | _ => simp_all [dat]
      refine ⟨h1, fun ds h => ?_⟩
      induction ds with
      | nil => simp [dats]
      | cons d ds ih =>
        rw [dats, Bool.and_eq_true] at h ⊢
        exact ⟨h1 d h.1, ih h.2⟩
  intro n d h
  exact (key n).1 d h
theorem dat_tup {n : Nat} {ds : List D} (h : dat (n + 1) (.tup ds) = true) : ds.length ≤ 1000000 ∧ ∀ d ∈ ds, dat n d = true := by
  rw [dat, Bool.and_eq_true] at h
  exact ⟨by simpa using h.1, fun d hd => dats_mem h.2 d hd⟩
theorem dat_tup' {n : Nat} {ds : List D} (h1 : ds.length ≤ 1000000) (h2 : ∀ d ∈ ds, dat n d = true) : dat (n + 1) (.tup ds) = true := by
  rw [dat, Bool.and_eq_true]
  refine ⟨by simpa using h1, ?_⟩
  clear h1
  induction ds with
  | nil => simp [dats]
  | cons d ds ih => rw [dats, Bool.and_eq_true]; exact ⟨h2 d List.mem_cons_self, ih fun e he => h2 e (List.mem_cons_of_mem _ he)⟩
theorem atI_getElem {α : Type} {xs : List α} {j : Nat} (h : j < xs.length) : atI xs ((j : Nat) : Int) = some xs[j] := atI_nat (List.getElem?_eq_getElem h)
theorem upto_get {n k : Nat} {x : D} (h : (upto 0 n)[k]? = some x) : k < n ∧ x = .int (k : Nat) := by
  obtain ⟨h1, h2⟩ := List.getElem?_eq_some_iff.mp h
  have hn : k < n := by simpa [upto] using h1
  refine ⟨hn, ?_⟩
  rw [← h2]
  simp [upto]
theorem upto_len {lo : Int} {n : Nat} : (upto lo n).length = n := by simp [upto]
theorem upto_mem {n : Nat} {x : D} (h : x ∈ upto 0 n) : ∃ k : Nat, k < n ∧ x = .int (k : Nat) := by
  obtain ⟨k, hk, rfl⟩ := List.mem_map.mp h
  exact ⟨k, by simpa using hk, by simp⟩
/-- what stood stands as it was -/
def Se (S S' : Sto) : Prop := ∀ x o, S x = some o → S' x = some o
theorem Se.refl {S : Sto} : Se S S := fun _ _ h => h
theorem Se.trans {S S1 S2 : Sto} (h : Se S S1) (k : Se S1 S2) : Se S S2 := fun x o e => k x o (h x o e)
theorem Se.new {S S' : Sto} {p : Addr} {o : O} (h : Se S S') (hp : S' p = none) : Se S (sup S' p o) := fun x u e => by rw [sup_ne (sne (h x u e) hp)]; exact h x u e
theorem pickI {ds : List D} {i : Int} {K : D → Prop} (h0 : 0 ≤ i) (h1 : i < ds.length) (h : ∀ d ∈ ds, K d) : (match atI ds i with | some d => K d | none => False) := by
  have e : i = ((i.toNat : Nat) : Int) := by omega
  have hl : i.toNat < ds.length := by omega
  rw [e, atI_getElem hl]
  exact h _ (List.getElem_mem _)
/-- a display that is read at a place right away -/
theorem pickL {S : Sto} {p : Addr} {ds : List D} {i : Int} {K : D → Prop} (h0 : 0 ≤ i) (h1 : i < ds.length) (h : ∀ d ∈ ds, K d) : atL (sup S p (.lst ds)) p fun ds => (match atI ds i with | some d => K d | none => False) := by
  rw [atL_eq sup_same]
  exact pickI h0 h1 h
theorem pickA {α : Type} {xs : List α} {i : Int} {K : α → Prop} (h0 : 0 ≤ i) (h1 : i < xs.length) (h : ∀ c ∈ xs, K c) : (match atI xs i with | some d => K d | none => False) := by
  have e : i = ((i.toNat : Nat) : Int) := by omega
  have hl : i.toNat < xs.length := by omega
  rw [e, atI_getElem hl]
  exact h _ (List.getElem_mem _)
theorem atI_some {α : Type} {xs : List α} {i : Int} (h0 : 0 ≤ i) (h1 : i < xs.length) : ∃ c, atI xs i = some c ∧ c ∈ xs := by
  have e : i = ((i.toNat : Nat) : Int) := by omega
  have hl : i.toNat < xs.length := by omega
  refine ⟨xs[i.toNat], ?_, List.getElem_mem _⟩
  have := atI_getElem hl
  rw [← e] at this
  exact this
theorem dat_mono {n m : Nat} {d : D} (h : n ≤ m) (hd : dat n d = true) : dat m d = true := by
  induction m with
  | zero =>
    have : n = 0 := by omega
    subst this
    exact hd
  | succ m ih =>
    by_cases e : n = m + 1
    · subst e; exact hd
    · exact dat_up (ih (by omega))

theorem rows_of {P : Int → Prop} {ys : List D} (h : ∀ y ∈ ys, ∃ x, y = .int x ∧ P x) : ∃ l : List Int, ys = l.map .int ∧ ∀ x ∈ l, P x := by
  induction ys with
  | nil => exact ⟨[], rfl, fun _ z => by cases z⟩
  | cons y ys ih =>
    obtain ⟨l, rfl, h1⟩ := ih fun z hz => h z (List.mem_cons_of_mem _ hz)
    obtain ⟨x, rfl, hx⟩ := h y List.mem_cons_self
    exact ⟨x :: l, rfl, fun w hw => by
      rcases List.mem_cons.mp hw with rfl | hw
      · exact hx
      · exact h1 w hw⟩
theorem map_of {α : Type} {f : α → D} {P : α → Prop} {ys : List D} (h : ∀ y ∈ ys, ∃ x, y = f x ∧ P x) : ∃ l : List α, ys = l.map f ∧ ∀ x ∈ l, P x := by
  induction ys with
  | nil => exact ⟨[], rfl, fun _ z => by cases z⟩
  | cons y ys ih =>
    obtain ⟨l, rfl, h1⟩ := ih fun z hz => h z (List.mem_cons_of_mem _ hz)
    obtain ⟨x, rfl, hx⟩ := h y List.mem_cons_self
    exact ⟨x :: l, rfl, fun w hw => by
      rcases List.mem_cons.mp hw with rfl | hw
      · exact hx
      · exact h1 w hw⟩
theorem Se.box {S S' : Sto} {b c : Addr} (h : Se S S') (hb : S b = some (.box c)) : S' b = some (.box c) := h _ _ hb
theorem Se.one {S : Sto} {p : Addr} {o : O} (hp : S p = none) : Se S (sup S p o) := Se.refl.new hp
theorem dat_ints {l : List Int} (h : l.length ≤ 1000000) : dat 1 (iD l) = true := dat_tup' (by simpa using h) fun d hd => by
  obtain ⟨x, _, rfl⟩ := List.mem_map.mp hd
  exact dat_i
end Sd

set_option Elab.async false
set_option linter.all false
set_option maxRecDepth 100000
set_option maxHeartbeats 4000000
namespace Sd
open PySem PySem.Spec PyProof.Rows L2 GxR
/-! ### try .. except -/
def XOkS (G : Gm) (N : En) (Wd : DV → XD) (W : WX) : Prop := ∀ σ δ C od fs H' S', Rel G N σ δ S' H' → XR G H' od fs → Wd δ C fs S' → W (.ref C) od σ H'
def eCaS (F : WF) (Wd : DV → XD) (fa : DA) : DE := fun δ S Q => fa δ S fun xs S1 => F xs S1 Q (Wd δ)
def eMeS (C : Addr) (nm : List Str) (F : WF) (Wd : DV → XD) (fo : DE) (fa : DA) : DE := fun δ S Q => fo δ S fun x S1 => (asRef x fun a => atO S1 a C nm fun _ => True) ∧ fa δ S1 fun xs S2 => F (x :: xs) S2 Q (Wd δ)
section
variable {K : PySem.W.Frag} {tabs : List Addr} {scr : Addr} {ns : List Int} {N : En} {tl : TA} {fl : DA} {F : WF} {Wd : DV → XD} {W : WX}
theorem se_caS (hx : XOkS ⟨K, tabs, scr, ns⟩ N Wd W) (ha : SA ⟨K, tabs, scr, ns⟩ N tl fl) : SE ⟨K, tabs, scr, ns⟩ N (Ow.tCaS (spD K tabs F) (WE W) tl) (eCaS F Wd fl) := by
  intro σ δ H S Q R rl h k
  refine ha σ δ H S _ _ rl h fun vs ds H1 S1 i1 r1 u1 q => ?_
  exact ⟨scr, ns, ds, S1, Q, Wd δ, i1, r1.sim, q, fun v d H' S' i s u q' => k v d H' S' i (r1.go s u) (u1.trans u) q', fun C od fs H' S' s' u' xr e => hx σ δ C od fs H' S' (r1.go s' u') xr e⟩
theorem se_meS {C : Addr} {m : Str} {nm : List Str} {to : TE} {fo : DE} (hm : m ∉ nm) (hx : XOkS ⟨K, tabs, scr, ns⟩ N Wd W) (ho : SE ⟨K, tabs, scr, ns⟩ N to fo) (ha : SA ⟨K, tabs, scr, ns⟩ N tl fl) : SE ⟨K, tabs, scr, ns⟩ N (Ow.tMeS C m (spD K tabs F) (WE W) to tl) (eMeS C nm F Wd fo fl) := by
  intro σ δ H S Q R rl h k
  refine ho σ δ H S _ _ rl h fun x d H1 S1 i1 r1 u1 ⟨q0, q⟩ => ?_
  obtain ⟨a, rfl, q0⟩ := asRef_of q0
  obtain ⟨fs, e1, _⟩ := atO_of q0
  obtain ⟨dx, gs, hg, kv, _⟩ := r1.sim.ob _ _ e1
  refine ⟨a, dx, gs, im_ref i1, hg, kv_none kv (zip_no hm), ha σ δ H1 S1 _ _ r1 q fun vs ds H2 S2 i2 r2 u2 q2 => ?_⟩
  exact ⟨scr, ns, .ref a :: ds, S2, Q, Wd δ, .cons (i1.go (u2.tu r1.sim)) i2, r2.sim, q2, fun v d H' S' i s u q' => k v d H' S' i (r2.go s u) (u1.trans (u2.trans u)) q', fun C od fs H' S' s' u' xr e => hx σ δ C od fs H' S' (r2.go s' u') xr e⟩
end
def sTry (fb : (DV → XD) → DS) (xs : List Addr) (fs : DS) : DS := fun D δ S => fb (fun δ' C gs S' => C ∈ xs ∧ gs = [] ∧ fs D δ' S') D δ S
section
variable {G : Gm} {N : En} {c : Value} {tb : WX → TS} {ts : Addr → Value → Option Addr → TS} {W0 : WX} {fb : (DV → XD) → DS} {fs : DS} {xs : List Addr}
theorem EOk.here {S : Sto} {H : Hp} {D : DN} {E : Ends} {σ : L2.St} {δ : DV} (k : EOk G N S H D E) (r : Rel G N σ δ S H) : EOk G ⟨S, H⟩ S H D E :=
  ⟨fun σ δ H' S' r' u q => k.nx σ δ H' S' ⟨r'.sl, r'.sim, r.up.trans u⟩ u q, fun σ δ H' S' r' u q => k.bk σ δ H' S' ⟨r'.sl, r'.sim, r.up.trans u⟩ u q, fun σ δ H' S' r' u q => k.ct σ δ H' S' ⟨r'.sl, r'.sim, r.up.trans u⟩ u q, fun v d H' S' i s u q => k.rt v d H' S' i s (r.up.trans u) q⟩
theorem ss_try (hb : ∀ N' W Wd, XOkS G N' Wd W → SS G N' (tb W) (fb Wd)) (hs : ∀ N' a0 C, C ∈ xs → SS G N' (ts a0 (.ref C) none) fs) (hex : ∀ C ∈ xs, PySem.W.exmOne G.K (.ref C) c = some true) :
    SS G N (fun D σ H => tb (wOnly G.K c ts W0 D) D σ H) (sTry fb xs fs) := by
  intro σ δ H S D E r h k
  have k2 := k.here r
  refine hb ⟨S, H⟩ _ _ ?_ σ δ H S D E ⟨r.sl, r.sim, .refl⟩ h k2
  intro σ' δ' C od gs H' S' r' xr ⟨hC, hg, hf⟩
  subst hg
  have ho : od = none := by
    cases od with
    | none => rfl
    | some d => exact absurd rfl xr.1
  subst ho
  exact ⟨true, hex C hC, fun _ a0 ha => hs ⟨S, H⟩ a0 C hC σ' δ' H' S' D E r' hf (k2.go r'.up), fun z => by cases z⟩
theorem Rel.unset {σ : L2.St} {δ : DV} {S : Sto} {H : Hp} (r : Rel G N σ δ S H) (i : Nat) : Rel G N (σ.set i none) (δ.set i none) S H := by
  refine ⟨⟨by rw [List.length_set, List.length_set]; exact r.sl.len, fun j e hj => ?_⟩, r.sim, r.up⟩
  rw [List.getElem?_set] at hj ⊢
  by_cases y : i = j
  · rw [if_pos y] at hj
    split at hj <;> cases hj
  · rw [if_neg y] at hj ⊢
    exact r.sl.at_ j e hj
def sTryAs (i : Nat) (fb : (DV → XD) → DS) (xs : List Addr) (fs : Addr → DS) : DS := fun D δ S => fb (fun δ' C gs S' => C ∈ xs ∧ gs = [] ∧ ∀ a0, S' a0 = none → fs a0 { nx := fun δ S => D.nx (δ.set i none) S, rt := D.rt, bk := fun δ S => D.bk (δ.set i none) S, ct := fun δ S => D.ct (δ.set i none) S } (δ'.set i (some (.ref a0))) S') D δ S
theorem ss_tryAs {i : Nat} {fs : Addr → DS} (hb : ∀ N' W Wd, XOkS G N' Wd W → SS G N' (tb W) (fb Wd)) (hs : ∀ N' a0 C, C ∈ xs → SS G N' (ts a0 (.ref C) none) (fs a0)) (hex : ∀ C ∈ xs, PySem.W.exmOne G.K (.ref C) c = some true) :
    SS G N (fun D σ H => tb (wAs G.K c i ts W0 D) D σ H) (sTryAs i fb xs fs) := by
  intro σ δ H S D E r h k
  have k2 := k.here r
  refine hb ⟨S, H⟩ _ _ ?_ σ δ H S D E ⟨r.sl, r.sim, .refl⟩ h k2
  intro σ' δ' C od gs H' S' r' xr ⟨hC, hg, hf⟩
  subst hg
  have ho : od = none := by
    cases od with
    | none => rfl
    | some d => exact absurd rfl xr.1
  subst ho
  refine ⟨true, hex C hC, fun _ a0 ha => ?_, fun z => by cases z⟩
  have k3 := k2.go r'.up
  exact hs ⟨S, H⟩ a0 C hC _ _ H' S' _ _ (r'.set i (.ref a0)) (hf a0 (r'.sim.free ha)) ⟨fun σ δ H2 S2 r2 u q => k3.nx _ _ H2 S2 (r2.unset i) u q, fun σ δ H2 S2 r2 u q => k3.bk _ _ H2 S2 (r2.unset i) u q, fun σ δ H2 S2 r2 u q => k3.ct _ _ H2 S2 (r2.unset i) u q, k3.rt⟩
def rIsA (K : PySem.W.Frag) (cls : Value) (d : Option Addr) (a : Addr) : List V → Hp → VK → Prop := fun xs H Q => ∃ D, cls = .ref D ∧ d = none ∧ ExcC K D ∧ rIsE K D a xs H Q
theorem call_isA {X : Cx} {a : Addr} {oe : Obj} {cls : Value} {d : Option Addr} {pn : List (Addr × Obj)} (hz : Zc cls d oe) (hf : ∃ vs, oe.data = .fields vs) : CallR (X.suite a ((a, oe) :: pn)) (.builtin "isinstance") (rIsA X.K cls d a) := by
  intro pins s σ H xs us Q I r h
  obtain ⟨D, rfl, rfl, C, h⟩ := h
  exact call_isE C hz hf pins s σ H xs us Q I r h
/-- isinstance(e, w) of the error that is handled -/
def eIsE (i : Nat) (a0 : Addr) : DE := fun δ S Q => δ[i]? = some (some (.ref a0)) ∧ Q (.bl true) S
theorem se_isE {i : Nat} {a0 C w : Addr} (hc : ExcC G.K C) (hk : PySem.W.kitOne G.K (.ref C) (.ref w) = some true) : SE G N (tCB (rIsA G.K (.ref C) none a0) (tCons (tVar i) (tCons (tC (.ref w)) tNil))) (eIsE i a0) := by
  rintro σ δ H S Q R rl ⟨h, q⟩ k
  obtain ⟨v, h1, h2⟩ := rl.sl.at_ i _ h
  rw [im_ref h2] at h1
  exact ⟨_, h1, C, rfl, rfl, hc, .ref w, .ref w, true, rfl, fun u z => z, hk, k _ _ H S (.bl true) rl .refl q⟩
end
end Sd

set_option Elab.async false
set_option linter.all false
set_option maxRecDepth 100000
set_option maxHeartbeats 4000000
namespace Ow
open PySem PySem.Spec PyProof.Rows L2
/-! ### a list's index that is a truth -/
def bI (b : Bool) : Int := if b then 1 else 0
theorem bI0 (b : Bool) : 0 ≤ bI b := by cases b <;> decide
theorem bI2 (b : Bool) : bI b < 2 := by cases b <;> decide
theorem sub_truth {M : Model} {A : Around} {E : Value → Shared → Prop} {s : Shared} {b : Bool} {Q : Option Int → Shared → Prop} (q : Q (some (bI b)) s) : wpAny M A (Builtin.List.listSubscript? (.bool b)) Q E s := by
  have hf : Builtin.List.listFitsIndex (bI b) = true := by cases b <;> decide
  have hn : ∀ α (x y : Sem α), (if (!Builtin.List.listFitsIndex (bI b)) = true then x else y) = y := by intro α x y; rw [hf]; rfl
  unfold Builtin.List.listSubscript?
  refine wpAny_bind (wpAny_specialOf (T := "bool") rfl PySem.F.slot_bool_index.lookup ?_)
  show wpAny M A (asIndex (.bool b) >>= _) Q E s
  refine wpAny_bind (wpAny_of_eq (a := bI b) (by unfold bI; rfl) ?_)
  show wpAny M A (if (!Builtin.List.listFitsIndex (bI b)) = true then _ else _) Q E s
  rw [hn]
  exact wpAny_pure q
theorem item_truth {prog : Program} {w : World} {A : Around} {E : Value → Shared → Prop} {s : Shared} {l : Addr} {its : Array Value} {b : Bool} {v : Value} {Q : Value → Shared → Prop} (hl : s.heap.IsList l its) (hv : its[(bI b).toNat]? = some v) (q : Q v s) :
    wpAny (model prog w) A (getItem (.ref l) (.bool b)) Q E s := by
  obtain ⟨o, ho, hc, ne, hd⟩ := id hl
  have hj : (bI b).toNat < its.size := by
    by_cases z : (bI b).toNat < its.size
    · exact z
    · rw [Array.getElem?_eq_none (by omega)] at hv
      cases hv
  unfold getItem
  try with_reducible refine wpAny_holding ?_
  first | refine wpAny_bind (wpAny_pure ?_) | skip
  refine wpAny_bind (wpAny_sequenceKey hl.typeIs (by decide) (wpAny_bind (wpAny_callSpecial?_slot (name := Str.ofString "__getitem__") hl.typeIs slot_list_getitem (wpAny_call_entry slot_list_getitem hl.typeIs entry_list_getitem ?_ (args_list_getitem _ _)))))
  show wpAny _ _ (Builtin.List.listSubscript? (.bool b) >>= _) _ _ s
  refine wpAny_bind (sub_truth ?_)
  obtain ⟨j, e⟩ := Int.eq_ofNat_of_zero_le (bI0 b)
  rw [e] at hv ⊢
  have hw : its[j]? = some v := hv
  show wpAny _ _ ((seqItemAt l j >>= fun r => pure (r.map (j, ·))) >>= _) _ _ s
  refine wpAny_bind (wpAny_bind (wpAny_seqItemAt ho hd (wpAny_pure ?_)))
  rw [hw]
  first | exact wpAny_bind (wpAny_pure (wpAny_pure ⟨v, rfl, wpAny_pure q⟩)) | exact wpAny_pure ⟨v, rfl, wpAny_pure q⟩
def rIxB (K : PySem.W.Frag) : R2 := fun x y H Q => ∃ p xs b v, x = .ref p ∧ y = .bl b ∧ SqL K H p xs ∧ atI xs (bI b) = some v ∧ Q v H
theorem ix_truth {X : Cx} : IxR X (rIxB X.K) := by
  intro value slice pins s σ H x y v u Q I rx ry ⟨p, xs, b, z, hx, hy, hq, he, q⟩ hs
  subst hx hy
  cases rx
  obtain rfl : u = Value.bool b := ry
  obtain ⟨its, r, pl, _⟩ := I.list hq
  obtain ⟨j, h1, h2, h3, h4, h5⟩ := atI_get he
  rw [seqIndex_of (bI0 b) h5] at h1
  obtain ⟨w, ew, rw'⟩ := r.get h2
  rw [← Option.some.inj h1] at ew
  exact subscriptTail_builtinR (x := w) pl.isList.typeIs slot_list_getitem.lookup (item_truth (Q := fun r s' => r = w ∧ EP X pins σ Q r s') pl.isList (by simpa using ew) ⟨rfl, z, H, I, rw', q⟩) hs
/-! ### a class that is called within a try -/
def tMaS (C : Addr) (sp : Sp) (E : L2.St → XK) (t : TA) : TE := fun σ H Q => t σ H fun vs H1 => ∀ x dx, H1 x = none → H1 dx = none → dx ≠ x → sp (.ref x :: vs) (upd (upd H1 dx (.own x)) x (.ins C dx [])) (fun v H2 => v = .non ∧ Q (.ref x) H2) (E σ)
section
variable {X : Cx} {k j : Nat} {x : Str} {C f : Addr} {fd : FuncData} {ps : List Str} {sp : Sp} {p pos : Pos} {e : Expr} {es : List Expr} {t : TA} {E : L2.St → XK}
theorem make_at {pins : List (Addr × Obj)} {σ : L2.St} {H : Hp} {s : Shared} {Q : VK} {us : List Value} {vs : List V} (M : Mk X.K C f) (F : FnOk X.prog X.w X.K X.mg X.base (L2.CX X.prog X.w) k f fd ps sp) (hr : Room (k + 1) X.A) (hb : Binds X.K fd ps []) (hx : PassesAt (L2.CX X.prog X.w) X σ (E σ)) (I : Inv X pins σ H s) (r : Vals vs us)
    (h : ∀ x dx, H x = none → H dx = none → dx ≠ x → sp (.ref x :: vs) (upd (upd H dx (.own x)) x (.ins C dx [])) (fun v H2 => v = .non ∧ Q (.ref x) H2) (E σ)) : wpAny (model X.prog X.w) X.A (call (.ref C) us) (EP X pins σ Q) X.xe s := by
  have hq := h (s.heap.objs.size + 1) s.heap.objs.size (I.hok.fresh (by omega)) (I.hok.fresh (by omega)) (Nat.ne_of_lt (Nat.lt_succ_self _))
  have J := Inv.made (C := C) I
  have rr : Vals (V.ref (s.heap.objs.size + 1) :: vs) (Value.ref (s.heap.objs.size + 1) :: us) := .cons rfl r
  have hl : (Value.ref (s.heap.objs.size + 1) :: us).length = ps.length := rr.length.symm.trans (F.len _ _ _ _ hq)
  have b := hb _ (Value.ref (s.heap.objs.size + 1) :: us) J.kIn (by rw [List.append_nil]; exact hl)
  rw [List.append_nil] at b
  refine wpAny_call (make_map (f := f) I.kIn M.makes M.init (beq_iff_eq.mp M.fn) (codeAny_mono (F.run _ X.stack _ _ ⟨Value.ref (s.heap.objs.size + 1) :: us, []⟩ (Value.ref (s.heap.objs.size + 1) :: us) _ _ (E σ) (hr.make C us []) (J.env0.make C us []) b rr hq) ?_))
  rintro (er | fl) s' hh
  · exact hx pins _ _ er s' J hh
  · cases fl with
    | ret u =>
      obtain ⟨v, H', I3, rv, ev, q3⟩ := J.after hh
      subst ev
      exact ⟨rv, V.ref (s.heap.objs.size + 1), H', I3, rfl, q3⟩
    | next => exact False.elim hh
    | brk => exact False.elim hh
    | cont => exact False.elim hh
theorem pe_maS (c : Ma X.prog X.w X.K X.mg X.base k x C sp) (hr : Room j X.A) (hk : k + 1 ≤ j) (hg : Gl X x) (hx : ∀ σ, PassesAt (L2.CX X.prog X.w) X σ (E σ)) (ha : PA X (e :: es) t) (hdb : (x == ("__debug__" : Str)) = false := by decide)
    (he : starEach (e :: es) X.env = (false, eval e X.env) :: starEach es X.env := by rfl) (hpl : (backTo pos (starEach es X.env)).any (·.1) = false := by rfl) : PE X (.Call (.Name x p) (e :: es) [] pos) (tMaS C sp E t) := by
  obtain ⟨f, fd, ps, M, F, hm, b⟩ := c.ex
  exact ⟨fun pins s σ H Q I h => wpAny_Call_Name_kw (ld_glob I hg hm (PySem.W.callWith_K (h₀ := X.base) I.ok.mod.kin M.kp (thn (ha.run pos pins s σ H _ I h) fun us s1 ⟨vs, H1, I1, r, q⟩ => ⟨I1.kIn, make_at M F (hr.mono hk) b (hx σ) I1 r q⟩) he hpl) hdb)⟩
theorem pe_maX {E : XK} (c : Ma X.prog X.w X.K X.mg X.base k x C sp) (hr : Room j X.A) (hk : k + 1 ≤ j) (hg : Gl X x) (hx : Passes (L2.CX X.prog X.w) X E) (ha : PA X (e :: es) t) (hdb : (x == ("__debug__" : Str)) = false := by decide)
    (he : starEach (e :: es) X.env = (false, eval e X.env) :: starEach es X.env := by rfl) (hpl : (backTo pos (starEach es X.env)).any (·.1) = false := by rfl) : PE X (.Call (.Name x p) (e :: es) [] pos) (tMa C sp E t) := by
  obtain ⟨f, fd, ps, M, F, hm, b⟩ := c.ex
  refine ⟨fun pins s σ H Q I h => (pe_make M F (hr.mono hk) hg hm b .nil hx ha hdb he hpl).run pins s σ H Q I ?_⟩
  have z : tMake C sp [] E t σ H Q = tMa C sp E t σ H Q := by unfold tMake tMa; simp only [List.append_nil]
  exact z ▸ h
end
end Ow
namespace Sd
open PySem PySem.Spec PyProof.Rows L2 GxR
def eMaS (C : Addr) (nm : List Str) (F : WF) (Wd : DV → XD) (fa : DA) : DE := fun δ S Q => fa δ S fun xs S1 => ∀ p, S1 p = none → F (.ref p :: xs) (sup S1 p (.ins C nm [])) (fun v S2 => v = .non ∧ Q (.ref p) S2) (Wd δ)
section
variable {K : PySem.W.Frag} {tabs : List Addr} {scr : Addr} {ns : List Int} {N : En} {tl : TA} {fl : DA} {F : WF} {Wd : DV → XD} {W : WX}
theorem se_maS {C : Addr} {nm : List Str} (hn : nm.length ≤ 999) (hx : XOkS ⟨K, tabs, scr, ns⟩ N Wd W) (ha : SA ⟨K, tabs, scr, ns⟩ N tl fl) : SE ⟨K, tabs, scr, ns⟩ N (Ow.tMaS C (spD K tabs F) (WE W) tl) (eMaS C nm F Wd fl) := by
  intro σ δ H S Q R rl h k
  refine ha σ δ H S _ _ rl h fun vs ds H1 S1 i1 r1 u1 q x dx hx1 hdx hne => ?_
  have e1 := Ext.lay (o := HO.own x) hdx
  have s2 := r1.sim.ext e1
  have hx2 : upd H1 dx (.own x) x = none := by rw [upd_ne (Ne.symm hne)]; exact hx1
  obtain ⟨s3, u3⟩ := s2.lay (p := x) (o := .ins C nm []) (ho := .ins C dx []) hx2 ⟨dx, [], upd_same, by rw [List.zip_nil_right]; exact .nil, Nat.zero_le _, hn⟩
  have u4 := (Up.of_ext (S := S1) e1).trans u3
  have r4 := r1.go s3 u4
  refine ⟨scr, ns, .ref x :: ds, _, _, Wd δ, .cons (.ref x) (i1.go (u4.tu r1.sim)), s3, q x (r1.sim.free hx1), fun v d H' S' i s u ⟨ed, q'⟩ => ?_, fun C od fs H' S' s' u' xr e => hx σ δ C od fs H' S' (r4.go s' u') xr e⟩
  subst ed
  exact ⟨im_non i, k (.ref x) (.ref x) H' S' (.ref x) (r4.go s u) (u1.trans (u4.trans u)) q'⟩
end
def dIxB : B2 := fun x y S Q => match y with
  | .bl b => (match x with
    | .ref a => atL S a fun ds => (match atI ds (Ow.bI b) with | some d => Q d S | none => False)
    | _ => False)
  | _ => False
theorem dIxB_r {a : Addr} {b : Bool} {S : Sto} {Q : DK} : dIxB (.ref a) (.bl b) S Q = atL S a fun ds => match atI ds (Ow.bI b) with | some d => Q d S | none => False := rfl
theorem s2_ixB {G : Gm} : S2 G (Ow.rIxB G.K) dIxB := by
  intro x y d e H S Q R hx hy s h k
  unfold dIxB at h
  split at h
  · cases im_bl hy
    split at h
    · cases im_ref hx
      obtain ⟨ds, e1, q⟩ := atL_of h
      obtain ⟨vs, hv, i1⟩ := s.ob _ _ e1
      split at q
      · rename_i c hc
        obtain ⟨v, hv2, iv⟩ := at_im i1 hc
        exact ⟨_, vs, _, v, rfl, rfl, SqL.of hv, hv2, k v c H S iv s .refl q⟩
      · exact q.elim
    · exact h.elim
  · exact h.elim
end Sd

set_option Elab.async false
set_option linter.all false
set_option maxRecDepth 100000
set_option maxHeartbeats 4000000
namespace Ow
open PySem PySem.Spec PyProof.Rows L2
/-! ### zip of a text and a tuple -/
def ItzX (K : PySem.W.Frag) (x : Str) (b : Addr) : It :=
  ⟨fun i H => i < x.cps.size ∧ ∃ ys, SqT K H b ys ∧ i < ys.length,
    fun i H v H' => ∃ T c y, v = .ref T ∧ H T = none ∧ H' = upd H T (.tup [.str ⟨#[c]⟩, y]) ∧ x.cps[i]? = some c ∧ ∀ ys, SqT K H b ys → ys[i]? = some y,
    fun i H => ∃ ys, SqT K H b ys ∧ i = min x.cps.size ys.length⟩
/-- the cells of the zip at its turn i -/
def zxSt (z TI TO i1 i2 b : Addr) (x : Str) (t : Tok) (i : Nat) (h : Heap) : Prop := IsZip h z TI TO .none ∧ IsTupOf2 h TI (.ref i1) (.ref i2) ∧ (∃ a1 a2, IsTupOf2 h TO a1 a2) ∧ h.IsStrIter i1 (strIterType x) x t i ∧ h.IsTupleIter i2 b i
theorem turn_zipX {P : Program} {w : World} {K : PySem.W.Frag} {elts : List Expr} {kk : Nat} {tpos : Pos} {z TI TO i1 i2 b : Addr} {x : Str} {t : Tok} (Sp : ZipSep2 z TI TO i1 i2 [i1] [i2, b]) (hb2 : b ≠ i2) :
    Turn P w K (.Tuple elts kk tpos) (ItzX K x b) [z, TI, TO, i1, i2] z (zxSt z TI TO i1 i2 b x t) where
  mem := by simp
  obj := fun i h ⟨hz, hTI, ⟨_, _, hTO⟩, ⟨o1, e1, _, d1⟩, ⟨o2, e2, _, d2⟩⟩ c hc => by
    simp only [List.mem_cons, List.not_mem_nil, or_false] at hc
    rcases hc with q | q | q | q | q <;> rw [q]
    · exact ⟨_, hz, fun v q => nomatch q⟩
    · exact ⟨_, hTI, fun v q => nomatch q⟩
    · exact ⟨_, hTO, fun v q => nomatch q⟩
    · exact ⟨o1, e1, fun v q => by rw [d1] at q; cases q⟩
    · exact ⟨o2, e2, fun v q => by rw [d2] at q; cases q⟩
  keep := fun i h h' ⟨hz, hTI, ⟨u, v, hTO⟩, ⟨o1, e1, r1⟩, h2⟩ k => ⟨k z (by simp) _ hz, k TI (by simp) _ hTI, ⟨u, v, k TO (by simp) _ hTO⟩, ⟨o1, k i1 (by simp) o1 e1, r1⟩, h2.at fun o q => k i2 (by simp) o q⟩
  item := by
    rintro X rfl rfl rfl hc i pins s σ H E I hf ⟨hz, hTI, hTO, h1, h2⟩ ⟨hi, ys, hq, hi2⟩
    obtain ⟨its, rv, p, _⟩ := I.tuple hq
    have hh : X.A.in1.handled = none := I.ok.hd hc
    have hs : its.toArray.size = ys.length := by rw [List.size_toArray, rv.length]
    have G := GoesN.zip2 (elts := elts) (x1 := kk) (pos := tpos) Sp (Draws.text (prog := X.prog) (w := X.w) (A := X.A.in1) hh i1 x t) (Draws.tuple (prog := X.prog) (w := X.w) (A := X.A.in1) hh i2 b hb2 its.toArray)
    refine G.goes i s _ E (by omega) ⟨hz, hTI, hTO, h1, h2, p⟩ fun v h' tk ⟨T, x0, y0, ev, hT, ⟨c, u, hcx, ex⟩, hy, hTt⟩ st hk htk => ?_
    subst ev ex
    obtain ⟨y, hy2, ry⟩ : ∃ y, ys[i]? = some y ∧ L2.RelV y y0 := by
      obtain ⟨y, hy2⟩ : ∃ y, ys[i]? = some y := ⟨ys[i], List.getElem?_eq_getElem hi2⟩
      obtain ⟨u2, hu2, ru2⟩ := rv.get hy2
      have : its[i]? = some y0 := by simpa using hy
      rw [this] at hu2
      cases hu2
      exact ⟨y, hy2, ru2⟩
    obtain ⟨oT, eT, cT, nT, dT⟩ := id hTt
    have new : ObjOk X.prog X.w (upd H T (.tup [.str ⟨#[c]⟩, y])) h' T (.tup [.str ⟨#[c]⟩, y]) := ⟨by show 2 ≤ sizeLine; decide, [.str ⟨#[c]⟩ u, y0], .cons ⟨u, rfl⟩ (.cons ry .nil), hTt⟩
    have I1 : Inv X pins σ (upd H T (.tup [.str ⟨#[c]⟩, y])) { s with heap := h', toks := tk } :=
      I.turnedNew (t' := tk) (ch := [z, TI, TO, i1, i2]) (fun a o hb q => hk a o (fun m => hb (by simp only [List.mem_cons, List.not_mem_nil, or_false] at m ⊢; rcases m with m | m | m | m <;> simp [m])) q) hf hT new
    refine ⟨.ref T, _, I1, rfl, ⟨T, c, y, rfl, I.hok.fresh hT, rfl, hcx, fun l hl => by rw [I.tuple_inj hl hq]; exact hy2⟩, ⟨st.1, st.2.1, st.2.2.1, st.2.2.2.1, st.2.2.2.2.1⟩, fun a ha => ?_⟩
    obtain ⟨o1, e1, _⟩ := h1
    obtain ⟨o2, e2, _⟩ := h2
    obtain ⟨_, _, hTO'⟩ := hTO
    have hlt : a < s.heap.objs.size := by
      have ha' := ha
      simp only [List.mem_cons, List.not_mem_nil, or_false] at ha'
      rcases ha' with q | q | q | q | q <;> rw [q]
      · exact Heap.lt_size hz
      · exact Heap.lt_size hTI
      · exact Heap.lt_size hTO'
      · exact Heap.lt_size e1
      · exact Heap.lt_size e2
    rw [upd_ne (Nat.ne_of_lt (Nat.lt_of_lt_of_le hlt hT))]
    exact (hf a ha).1
  done := by
    rintro X rfl rfl rfl hc i pins s σ H E I hf ⟨hz, hTI, hTO, h1, h2⟩ ⟨ys, hq, hi⟩
    obtain ⟨its, rv, p, _⟩ := I.tuple hq
    have hh : X.A.in1.handled = none := I.ok.hd hc
    have hs : its.toArray.size = ys.length := by rw [List.size_toArray, rv.length]
    have G := GoesN.zip2 (elts := elts) (x1 := kk) (pos := tpos) Sp (Draws.text (prog := X.prog) (w := X.w) (A := X.A.in1) hh i1 x t) (Draws.tuple (prog := X.prog) (w := X.w) (A := X.A.in1) hh i2 b hb2 its.toArray)
    have hi : i = min x.cps.size its.toArray.size := by omega
    rw [hi] at h1 h2
    exact G.stops s _ E ⟨hz, hTI, hTO, h1, h2, p⟩ fun h' tk hk htk => I.turnedL (t' := tk) (ch := [z, TI, TO, i1, i2]) (fun a o hb q => hk a o (fun m => hb (by simp only [List.mem_cons, List.not_mem_nil, or_false] at m ⊢; rcases m with m | m | m | m <;> simp [m])) q) hf
  self := fun A i s Q E st h => wpAny_pyIter_zip st.1 h
def iZipX (K : PySem.W.Frag) (ta : TA) : TI := fun σ H R => ta σ H fun vs H1 => ∃ x b ys, vs = [.str x, .ref b] ∧ SqT K H1 b ys ∧ R (ItzX K x b) H1
theorem pi_zipX {X : Cx} {e e2 : Expr} {ta : TA} {p pos tpos : Pos} {elts : List Expr} {kk : Nat} (hg : Gl X "zip") (hm : X.mg "zip" = none) (ha : PA X [e, e2] ta) (hs : starEach [e, e2] X.env = (false, eval e X.env) :: starEach [e2] X.env := by rfl) (hpl : (backTo pos (starEach [e2] X.env)).any (·.1) = false := by rfl) :
    PI X (.Tuple elts kk tpos) (.Call (.Name "zip" p) [e, e2] [] pos) (iZipX X.K ta) := by
  refine ⟨fun pins s σ H R I h => Call_ (ld_blt I hg hm PyProof.Rows.boot_zip (PyProof.Rows.callWith_type1 (thn (ha.run pos pins s σ H _ I h) fun us s1 ⟨vs, H1, I1, r1, x, b, ys, ex, hq, q⟩ => ?_) hs hpl))⟩
  subst ex
  cases r1 with
  | cons r rr =>
    cases rr with
    | cons r' rr =>
      cases rr
      obtain ⟨t, rfl⟩ := r
      cases r'
      obtain ⟨its, rv, p1, _⟩ := I1.tuple hq
      obtain ⟨ob, eb, _⟩ := id p1
      have hlt := Heap.lt_size eb
      refine zip_begins2 (begins_text x t) (begins_tuple b its.toArray) trivial p1 fun h' hz hTI hTO h1 h2 hsz hk => wpAny_pyIter_zip hz ?_
      have I2 : Inv X pins σ H1 { s1 with heap := h' } := I1.kept (t' := s1.toks) hk
      refine ⟨s1.heap.objs.size + 4, [s1.heap.objs.size + 4, s1.heap.objs.size + 2, s1.heap.objs.size + 3, s1.heap.objs.size, s1.heap.objs.size + 1], _, ItzX X.K x b, H1, rfl, I2, turn_zipX (x := x) (t := t) (zip_sep2 (fp1 := []) (fp2 := [b]) (by simp) (by simpa using hlt)) (Nat.ne_of_lt (Nat.lt_succ_of_lt hlt)), ⟨hz, hTI, ⟨_, _, hTO⟩, ⟨_, h1, rfl, rfl⟩, ⟨_, h2, rfl, rfl⟩⟩, fun c hcm => ?_, q⟩
      have hle : s1.heap.objs.size ≤ c := by
        simp only [List.mem_cons, List.not_mem_nil, or_false] at hcm
        rcases hcm with m | m | m | m | m <;> rw [m] <;> first | exact Nat.le_refl _ | exact Nat.le_add_right _ _
      exact I1.fpOk hle (I1.hok.fresh hle)
end Ow
namespace Sd
open PySem PySem.Spec PyProof.Rows L2 GxR
def zipX (z : Str) (ds : List D) : List D := List.zipWith (fun a b => D.tup [a, b]) (signs z) ds
def iZX (fa : DA) : DI := fun δ S Q => fa δ S fun xs S1 => match xs with | [.str z, .tup ds] => Q ⟨zipX z ds, fun _ => True⟩ S1 | _ => False
section
variable {G : Gm} {N : En}
theorem jok_zipX {z : Str} {b : Addr} {ys : List V} {ds : List D} {S : Sto} {H : Hp} (s : Sim G S H) (o : okS z) (e1 : H b = some (.tup ys)) (i1 : ImAll G H ys ds) : JOk G (Ow.ItzX G.K z b) ⟨zipX z ds, fun _ => True⟩ S H := by
  intro S2 H2 s2 u2 _ i hi
  have hl := i1.length
  have t := u2.tu s
  have e2 : SqT G.K H2 b ys := SqT.of (t _ _ rfl e1)
  have hz : (zipX z ds).length = min z.cps.size ds.length := by simp [zipX, signs]
  have hsz : z.cps.size = z.cps.toList.length := by simp
  simp only [hz] at hi ⊢
  refine ⟨fun y => ⟨by omega, ys, e2, by omega⟩, fun y => ⟨ys, e2, by rw [hl]; exact y⟩, fun x H' y w => ?_⟩
  obtain ⟨T, c, v, rfl, hT, rfl, hc, hv⟩ := w
  obtain ⟨d, hd, id⟩ := i1.get (hv ys e2)
  have hc' : z.cps.toList[i]? = some c := by simpa using hc
  have im1 : ImAll G H2 [.str ⟨#[c]⟩, v] [.str ⟨#[c]⟩, d] := .cons (.str _ (okS_sign o (List.mem_of_getElem? hc'))) (.cons (id.go t) .nil)
  obtain ⟨a1, a2, a3⟩ := new_tup s2 hT im1
  refine ⟨.tup [.str ⟨#[c]⟩, d], ?_, a1, a2, a3, Ext.lay hT⟩
  have hs : (signs z)[i]? = some (.str ⟨#[c]⟩) := by simp [signs, hc']
  simp only [zipX, List.getElem?_zipWith, hs, hd]
theorem si_zipX {tl : TA} {fl : DA} (ha : SA G N tl fl) : SI G N (Ow.iZipX G.K tl) (iZX fl) := by
  intro σ δ H S Q R r h k
  refine ha σ δ H S _ _ r h fun vs ds H1 S1 i1 r1 u1 q1 => ?_
  split at q1
  · rename_i z es
    match i1 with
    | .cons ix (.cons iy .nil) =>
      obtain ⟨rfl, o⟩ := im_str ix
      obtain ⟨b, ys, rfl, e1, j1⟩ := im_tup iy
      exact ⟨z, b, ys, rfl, SqT.of e1, k _ _ H1 S1 (jok_zipX r1.sim o e1 j1) r1 u1 q1⟩
  · exact q1.elim
end
end Sd
namespace Sd
open PySem PySem.Spec PyProof.Rows L2 GxR
/-- a written text, split at another -/
def eSplit (ps : List Str) : DE := fun _ S Q => ∀ p, S p = none → Q (.ref p) (sup S p (.lst (ps.map D.str)))
theorem se_split {G : Gm} {N : En} {a b : Str} {ps : List Str} (h : Txt.split a b = ps) (hb : (b.length == 0) = false) (ha : a.length ≤ 1000000) (ho : (ps.all fun x => decide (x.length ≤ 1000000) && PyData.strOk x) = true) :
    SE G N (tM1 (fun x xs H Q => ∃ a b, x = .str a ∧ xs = [.str b] ∧ (b.length == 0) = false ∧ a.length + 2 ≤ sizeLine ∧ rNewStrs (Txt.split a b) H Q) (tC (.str a)) (tC (.str b))) (eSplit ps) := by
  intro σ δ H S Q R rl q k
  refine ⟨⟨a, rfl⟩, a, b, rfl, rfl, hb, Nat.le_trans (Nat.add_le_add_right ha 2) (by decide), fun p hp => ?_⟩
  rw [h]
  have im : ∀ l : List Str, (l.all fun x => decide (x.length ≤ 1000000) && PyData.strOk x) = true → ImAll G H (l.map V.str) (l.map D.str) := by
    intro l
    induction l with
    | nil => intro _; exact .nil
    | cons x l ih =>
      intro hl
      rw [List.all_cons, Bool.and_eq_true, Bool.and_eq_true] at hl
      exact .cons (.str x ⟨of_decide_eq_true hl.1.1, hl.1.2⟩) (ih hl.2)
  obtain ⟨a1, a2, a3⟩ := new_lst rl.sim hp (im ps ho)
  exact k _ _ _ _ (.ref p) (rl.go a2 a3) a3 (q p a1)
end Sd

set_option Elab.async false
set_option linter.all false
set_option maxRecDepth 100000
set_option maxHeartbeats 4000000
namespace Sd
open PySem PySem.Spec PyProof.Rows L2 GxR
/-! ### cuts -/
theorem cut_m1 {x : D} {xs : List D} : cutD (x :: xs) none (some (-1)) = (x :: xs).take xs.length := by
  unfold cutD HT.sIx
  simp only [show ((-1 : Int) < 0) by decide, if_true, List.length_cons, List.drop_zero, Nat.sub_zero]
  congr 1
  omega
theorem cut_repl {xs : List D} {k : Nat} {v : D} (h : k < xs.length) : cutD xs none (some (k : Int)) ++ [v] ++ cutD xs (some ((k : Int) + 1)) none = xs.set k v := by
  rw [show ((k : Nat) : Int) + 1 = ((k + 1 : Nat) : Int) by omega, cut_take, cut_drop, List.set_eq_take_append_cons_drop, if_pos h]
  simp
theorem cut_len1 {xs : List D} {k : Nat} : (cutD xs none (some (k : Int))).length ≤ xs.length := by
  rw [cut_take, List.length_take]
  omega
theorem cut_len2 {xs : List D} {k : Nat} : (cutD xs (some ((k : Int) + 1)) none).length ≤ xs.length := by
  rw [show ((k : Nat) : Int) + 1 = ((k + 1 : Nat) : Int) by omega, cut_drop, List.length_drop]
  omega
/-- a tuple of data times a number, folded -/
theorem dMul_t {xs : List D} {k : Int} {S : Sto} {Q : DK} : dMul (.tup xs) (.int k) S Q = (xs ≠ [] ∧ -(2 ^ 62) ≤ k ∧ k ≤ 4000 ∧ xs.length ≤ 200 ∧ Q (.tup (List.replicate k.toNat xs).flatten) S) := rfl
theorem rep1 {x : D} {n : Nat} : (List.replicate n [x]).flatten = List.replicate n x := by
  induction n with
  | zero => rfl
  | succ n ih => rw [List.replicate_succ, List.flatten_cons, ih]; rfl
theorem seq_go {t u : DS} {D : DN} {δ : DV} {S : Sto} (h : t { D with nx := NX u D } δ S) : sSeq t u D δ S := h
theorem asg_go {e : DE} {g : DG} {D : DN} {δ : DV} {S : Sto} (h : e δ S fun x S1 => g x δ S1 D.nx) : sAsg e g D δ S := h
/-! ### what an expression gives, the store grows -/
def Gv (e : DE) (δ : DV) (S : Sto) (P : D → Prop) : Prop := ∀ S1, Se S S1 → ∀ R : DK, (∀ d S2, Se S S2 → P d → R d S2) → e δ S1 R
def GvA (a : DA) (δ : DV) (S : Sto) (P : List D → Prop) : Prop := ∀ S1, Se S S1 → ∀ R : List D → Sto → Prop, (∀ ds S2, Se S S2 → P ds → R ds S2) → a δ S1 R
section
variable {e : DE} {al : DA} {δ : DV} {S : Sto} {P : D → Prop} {Ps : List D → Prop}
theorem gv_nil : GvA aNil δ S (· = []) := fun S1 h R k => k [] S1 h rfl
theorem gv_cons (h : Gv e δ S P) (k : GvA al δ S Ps) : GvA (aCons e al) δ S fun l => ∃ d ds, l = d :: ds ∧ P d ∧ Ps ds := fun S1 h1 R q =>
  h S1 h1 _ fun d S2 h2 hp => k S2 h2 _ fun ds S3 h3 hps => q _ S3 h3 ⟨d, ds, rfl, hp, hps⟩
theorem eLst_gv {Q : DK} (h : GvA al δ S Ps) (l : ∀ ds, Ps ds → ds.length ≤ 1000000) (q : ∀ ds S1 p, Se S S1 → S1 p = none → Ps ds → Q (.ref p) (sup S1 p (.lst ds))) : eLst al δ S Q :=
  h S .refl _ fun ds S1 h1 hp => ⟨l ds hp, fun p hn => q ds S1 p h1 hn hp⟩
/-- a written list at a place that is drawn -/
theorem gv_pick {ds : List D} {i : DE} {m : Int} (h : GvA al δ S (· = ds)) (l : ds.length ≤ 1000000) (hi : ∀ S1, Se S S1 → ∀ R : DK, (∀ j : Int, 0 ≤ j → j < m → R (.int j) S1) → i δ S1 R) (hm : m ≤ ds.length) (hp : ∀ d ∈ ds, P d) : Gv (eOp dIx (eLst al) i) δ S P := by
  intro S1 h1 R q
  refine h S1 h1 _ fun es S2 h2 he => ⟨by rw [he]; exact l, fun p hn => ?_⟩
  subst he
  have h3 := h2.new (o := .lst es) hn
  refine hi _ h3 _ fun j j0 j1 => ?_
  exact pickL j0 (by omega) fun d hd => q d _ h3 (hp d hd)
theorem ixLst_gv {Q : DK} {i : DE} {k : Int} (h : GvA al δ S Ps) (l : ∀ ds, Ps ds → ds.length ≤ 1000000) (hi : ∀ S1, Se S S1 → ∀ R : DK, R (.int k) S1 → i δ S1 R)
    (q : ∀ ds S1, Se S S1 → Ps ds → ∃ d, atI ds k = some d ∧ Q d S1) : eOp dIx (eLst al) i δ S Q := by
  refine eLst_gv h l fun ds S1 p h1 hn hp => ?_
  have h3 := h1.new (o := .lst ds) hn
  refine hi _ h3 _ ?_
  obtain ⟨d, hd, qd⟩ := q ds _ h3 hp
  show atL _ _ _
  rw [atL_eq sup_same, hd]
  exact qd
end
end Sd

set_option Elab.async false
set_option linter.all false
set_option maxRecDepth 100000
set_option maxHeartbeats 4000000
namespace Sd
open PySem PySem.Spec PyProof.Rows L2 GxR
/-! ### tuple(.. for ..) -/
def eTupG (wi : DI) (g : DG) (tt : DT) (te : DE) (vs : List Nat) : DE := fun δ S Q => wi δ S fun src S1 => lcD src.ok g tt te (wipeD δ vs) src.items [] S1 fun ys S2 => Q (.tup ys) S2
section
variable {G : Gm} {N : En}
theorem se_tupG {P : Addr} {ws vs : List Nat} {twi : TI} {wi : DI} {tg : TG} {g : DG} {tt : TT} {ft : DT} {te : TE} {fe : DE} (hP : P ∈ G.tabs) (hi : SI G N twi wi) (hg : SG G N ws tg g) (ht : ST G N tt ft) (he : SE G N te fe) (hw : ∀ i ∈ ws, i ∈ vs) :
    SE G N (Ow.tTupG P twi tg tt te vs) (eTupG wi g ft fe vs) := by
  intro σ δ H S Q R r h k
  refine hi σ δ H S _ _ r h fun J src H1 S1 jk r1 u1 q1 => ⟨r1.sim.tab P hP, fun H2 htb p hp => ?_⟩
  have ea := Ext.tabbed (r1.sim.tab P hP) htb
  have ra : Rel G N σ δ S1 H2 := ⟨r1.sl.go ea.tu, r1.sim.ext ea, r1.up.trans (Up.of_ext ea)⟩
  have ua : Up S1 S1 H1 H2 := Up.of_ext ea
  have hsc := ra.sim.scrNe hp
  have e0 := Ext.lay (o := HO.lst []) hp
  have hN : N.H p = none := by
    cases z : N.H p with
    | none => rfl
    | some o => exact absurd hp (ra.up.there p (by rw [z]; simp))
  refine ⟨fun i m H' => m = src.items.length - i ∧ i ≤ src.items.length ∧ ∃ S' acc ds, Rel G N σ δ S' H' ∧ Up S1 S' H1 H' ∧ H' p = some (.lst acc) ∧ ImAll G H' acc ds ∧ ds.length ≤ 1000000 ∧ S' p = none ∧ lcD src.ok g ft fe (wipeD δ vs) (src.items.drop i) ds S' (fun ys S2 => Q (.tup ys) S2),
    ⟨src.items.length, by simp, Nat.zero_le _, S1, [], [], ⟨ra.sl.go e0.tu, ra.sim.ext e0, ra.up.trans (Up.of_ext e0)⟩, ua.trans (Up.of_ext e0), upd_same, .nil, Nat.zero_le _, ra.sim.free hp, by simpa using q1⟩, ?_⟩
  have hH1 : H1 p = none := by
    cases z : H1 p with
    | none => rfl
    | some o => exact absurd hp (ua.there p (by rw [z]; simp))
  rintro i m H' ⟨rfl, hi', S', acc, ds, r', u', hacc, iacc, lacc, hS', q'⟩
  by_cases hlt : i < src.items.length
  · rw [List.drop_eq_getElem_cons hlt] at q'
    obtain ⟨a1, _, a3⟩ := jk S' H' r'.sim u' q'.1 i hi'
    refine .inr ⟨a1 hlt, fun H2 => ∃ S2 acc2 ds2, Rel G N σ δ S2 H2 ∧ Up S1 S2 H1 H2 ∧ H2 p = some (.lst acc2) ∧ ImAll G H2 acc2 ds2 ∧ ds2.length ≤ 1000000 ∧ S2 p = none ∧ lcD src.ok g ft fe (wipeD δ vs) (src.items.drop (i + 1)) ds2 S2 (fun ys S2 => Q (.tup ys) S2),
      fun H2 ⟨S2, acc2, ds2, x⟩ => ⟨src.items.length - (i + 1), by omega, rfl, hlt, S2, acc2, ds2, x⟩, fun x H2 y => ?_⟩
    obtain ⟨d, hd, im, s2, u2, e2⟩ := a3 x H2 hlt y
    rw [List.getElem?_eq_getElem hlt] at hd
    cases hd
    have r2 : Rel G N (L2.wipe σ vs) (wipeD δ vs) S' H2 := ⟨(r'.sl.go e2.tu).wipe vs, s2, r'.up.trans u2⟩
    refine hg x _ _ _ H2 S' _ _ r2 im q'.2 fun σ3 δ3 H3 S3 r3 u3 w3 q3 => ⟨by rw [(w3 vs hw).1, wipe_wipe], ?_⟩
    refine ht σ3 δ3 H3 S3 _ _ r3 q3 fun b H4 S4 r4 u4 q4 => ?_
    have up4 := u2.trans (u3.trans u4)
    have hp4 : H4 p = some (.lst acc) := up4.keep p _ hacc rfl hS'
    have hS4 : S4 p = none := up4.dom p hS' (by rw [hacc]; simp)
    have t4 := up4.tu r'.sim
    have rel4 : Rel G N σ δ S4 H4 := ⟨r'.sl.go t4, r4.sim, r4.up⟩
    cases b with
    | true =>
      rw [if_pos rfl]
      refine he σ3 δ3 H4 S4 _ _ r4 (q4.1 rfl) fun v e5 H5 S5 i5 r5 u5 ⟨l5, q5⟩ => ?_
      have up5 := up4.trans u5
      have hp5 : H5 p = some (.lst acc) := up5.keep p _ hacc rfl hS'
      have hS5 : S5 p = none := up5.dom p hS' (by rw [hacc]; simp)
      have t5 := up5.tu r'.sim
      refine ⟨acc, hp5, Nat.lt_of_lt_of_le (by rw [iacc.length]; exact l5) (le_line (Nat.le_refl _)), ?_⟩
      obtain ⟨s6, t6⟩ := r5.sim.side (acc' := acc ++ [v]) hp5 hS5 hsc
      exact ⟨S5, acc ++ [v], ds ++ [e5], ⟨(r'.sl.go t5).go t6, s6, r5.up.side hN⟩, (u'.trans up5).side hH1, upd_same, ((iacc.go t5).snoc i5).go t6, by rw [List.length_append, List.length_singleton]; omega, hS5, q5⟩
    | false =>
      rw [if_neg Bool.false_ne_true]
      exact ⟨S4, acc, ds, rel4, u'.trans up4, hp4, iacc.go t4, lacc, hS4, q4.2 rfl⟩
  · have e : i = src.items.length := by omega
    subst e
    rw [List.drop_length] at q'
    obtain ⟨_, a2, _⟩ := jk S' H' r'.sim u' q'.1 _ (Nat.le_refl _)
    refine .inl ⟨a2 rfl, acc, hacc, by rw [iacc.length]; exact le_line lacc, fun T hT => ?_⟩
    obtain ⟨b1, b2, b3⟩ := new_tup r'.sim hT iacc
    exact k _ (.tup ds) _ S' b1 (r'.go b2 b3) (u1.trans (u'.trans b3)) q'.2
end
end Sd
namespace Ow
open PySem PySem.Spec PyProof.Rows L2
/-! ### d.get(k, x) of a written dict -/
def tKGet2 (K : PySem.W.Frag) (d : Addr) (td ty tx : TE) : TE := fun σ H Q => td σ H fun x H1 => x = .ref d ∧ ty σ H1 fun y H2 => tx σ H2 fun z H3 => ∃ (zz : Str) (r : Option Value), y = .str zz ∧ PySem.W.nsIn K d zz = some r ∧ ((r = none ∧ Q z H3) ∨ ∃ v u, r = some u ∧ RelV v u ∧ Q v H3)
theorem pe_kget2 {X : Cx} {o e f : Expr} {apos cpos : Pos} {td ty tx : TE} {d : Addr} {tb : Sd.KTb} (kd : Sd.KdOk X.K X.w d tb) (ho : PE X o td) (he : PE X e ty) (hf : PE X f tx) (m : M2 X o "get" apos e f cpos) : PE X (.Call (.Attribute o "get" apos) [e, f] [] cpos) (tKGet2 X.K d td ty tx) := by
  obtain ⟨es, n, D⟩ := kd.ex
  refine ⟨fun pins s σ H Q I h => ?_⟩
  refine wpAny_Call_method m.base m.few m.line PySem.F.plainAttrs_dict PySem.F.slot_dict_get PySem.F.type_dict_get (thn (ho.run pins s σ H _ I h) fun u s1 ⟨x, H1, I1, rx, ex, q1⟩ => ?_)
  subst ex
  obtain rfl : u = Value.ref d := rx
  have mm := fun (s2 : Shared) (H2 : Hp) (I2 : Inv X pins σ H2 s2) => PySem.W.mapOf_K (prog := X.prog) (w := X.w) I2.kIn D.at_ D.lit
  refine ⟨(mm _ _ I1).typeIs, fun b q => by cases q; exact ⟨_, I1.kIn _ _ D.at_, rfl⟩, ?_⟩
  rw [m.trees]
  refine Calls.callWith_builtin rfl (Calls.evalArgs_plain (Calls.spliced_cons (thn (he.run pins s1 σ H1 _ I1 q1) fun iv s2 ⟨y, H2, I2, ry, q2⟩ =>
    Calls.spliced_cons (thn (hf.run pins s2 σ H2 _ I2 q2) fun fv s3 ⟨z, H3, I3, rz, zz, r, ey, en, q3⟩ => Calls.spliced_nil ?_))))
  subst ey
  obtain ⟨t, rfl⟩ := ry
  refine call_meetsIn PySem.F.slot_dict_get (mm _ _ I3).typeIs PySem.F.entry_dict_get (PySem.F.args_dict_get_3 _ _ _) (meets_dict_get_default (PySem.strKind X.prog X.w) d (PySem.strKind_is X.prog X.w zz t) D.low fv) ⟨_, mm _ _ I3, ?_⟩
  rw [PySem.W.find_K D.at_ en]
  rcases q3 with ⟨rfl, q3⟩ | ⟨v, u, rfl, rv, q3⟩
  · exact ⟨z, H3, I3.tok _, rz, q3⟩
  · exact ⟨v, H3, I3.tok _, rv, q3⟩
end Ow
namespace Sd
open PySem PySem.Spec PyProof.Rows L2 GxR
def eKGet2 (tb : KTb) (fy fx : DE) : DE := fun δ S Q => fy δ S fun y S1 => fx δ S1 fun z S2 => match y with
  | .str s => (match kLook tb s with | some o => Q (o.getD z) S2 | _ => False)
  | _ => False
theorem se_kget2 {G : Gm} {N : En} {w : World} {d : Addr} {tb : KTb} {ty tx : TE} {fy fx : DE} (k : KdOk G.K w d tb) (hy : SE G N ty fy) (hx : SE G N tx fx) : SE G N (Ow.tKGet2 G.K d (tC (.ref d)) ty tx) (eKGet2 tb fy fx) := by
  intro σ δ H S Q R rl h kk
  refine ⟨rfl, hy σ δ H S _ _ rl h fun y e H1 S1 i1 r1 u1 q1 => ?_⟩
  refine hx σ δ H1 S1 _ _ r1 q1 fun z f H2 S2 i2 r2 u2 q2 => ?_
  cases e <;> first | exact q2.elim | skip
  rename_i s
  obtain ⟨rfl, _⟩ := im_str i1
  dsimp only at q2
  split at q2
  · rename_i o hv
    obtain ⟨r, h1, h2⟩ := k.row _ (look_mem hv)
    refine ⟨s, r, rfl, h1, ?_⟩
    rcases h2 with ⟨h2, rfl⟩ | ⟨v', u, h2, rfl, h3, h4⟩
    · cases h2
      exact .inl ⟨rfl, kk z f H2 S2 i2 r2 (u1.trans u2) q2⟩
    · cases h2
      exact .inr ⟨_, u, rfl, h4, kk _ v' H2 S2 (scR_im h3) r2 (u1.trans u2) q2⟩
  · exact q2.elim
end Sd

set_option Elab.async false
set_option linter.all false
set_option maxRecDepth 100000
set_option maxHeartbeats 4000000
namespace Ow
open PySem PySem.Spec PyProof.Rows L2
/-! ### every second element from a place on: xs[k::2] of a list -/
def evry {α : Type} : List α → List α
  | [] => []
  | [x] => [x]
  | x :: _ :: xs => x :: evry xs
theorem evry_map {α β : Type} (f : α → β) : ∀ l : List α, evry (l.map f) = (evry l).map f
  | [] => rfl
  | [_] => rfl
  | _ :: _ :: xs => by simp only [List.map_cons, evry, evry_map f xs]
theorem evry_len {α : Type} : ∀ l : List α, (evry l).length = (l.length + 1) / 2
  | [] => by simp [evry]
  | [_] => by simp [evry]
  | _ :: _ :: xs => by simp only [evry, List.length_cons, evry_len xs]; omega
theorem evry_get {α : Type} : ∀ (l : List α) (i : Nat), (evry l)[i]? = l[2 * i]?
  | [], i => by simp [evry]
  | [x], 0 => rfl
  | [x], i + 1 => by simp [evry, show 2 * (i + 1) = (2 * i + 1) + 1 by omega]
  | x :: y :: xs, 0 => rfl
  | x :: y :: xs, i + 1 => by
    rw [show 2 * (i + 1) = 2 * i + 2 by omega]
    simp only [evry, List.getElem?_cons_succ]
    exact evry_get xs i
theorem vals_evry : ∀ {xs : List V} {us : List Value}, Vals xs us → Vals (evry xs) (evry us)
  | _, _, .nil => .nil
  | _, _, .cons h .nil => .cons h .nil
  | _, _, .cons h (.cons _ k) => .cons h (vals_evry k)
theorem range_evry {α : Type} : ∀ l : List α, (List.range ((l.length + 1) / 2)).filterMap (fun i => l[2 * i]?) = evry l
  | [] => by simp [evry]
  | [x] => by simp [evry, List.range_succ]
  | x :: y :: xs => by
    have e : (((x :: y :: xs).length + 1) / 2) = (xs.length + 1) / 2 + 1 := by simp only [List.length_cons]; omega
    rw [e, List.range_succ_eq_map, List.filterMap_cons]
    simp only [Nat.mul_zero, List.getElem?_cons_zero]
    rw [List.filterMap_map]
    show x :: _ = x :: _
    rw [← range_evry xs]
    congr 1
theorem pick_evry {its : List Value} {k : Nat} : slicePick its.toArray (some (k : Int)) none (some 2) = (evry (its.drop k)).toArray := by
  have hb : sliceBounds (some (k : Int)) none (some 2) its.toArray.size = (((min k its.length : Nat) : Int), (its.length : Int), 2) := by
    unfold sliceBounds
    have h1 : ¬ ((k : Int) < 0) := by omega
    simp only [Option.getD_some, show ((2 : Int) > 0) by decide, if_true, h1, if_false, List.size_toArray]
    congr 1
    omega
  unfold slicePick
  rw [hb]
  show ((sliceRange ((min k its.length : Nat) : Int) (its.length : Int) 2).filterMap _).toArray = _
  congr 1
  unfold sliceRange
  simp only [show ((2 : Int) > 0) by decide, if_true]
  by_cases hk : k < its.length
  · rw [Nat.min_eq_left (Nat.le_of_lt hk), if_pos (by omega)]
    rw [List.filterMap_map, ← range_evry (its.drop k)]
    have en : (((its.length : Int) - (k : Int) + 2 - 1) / 2).toNat = ((its.drop k).length + 1) / 2 := by
      rw [List.length_drop]
      omega
    rw [en]
    congr 1
    funext i
    show its.toArray[((k : Int) + 2 * (i : Int)).toNat]? = (its.drop k)[2 * i]?
    rw [List.getElem?_drop, show ((k : Int) + 2 * (i : Int)).toNat = k + 2 * i by omega]
    simp
  · rw [Nat.min_eq_right (by omega), if_neg (by omega), List.drop_eq_nil_of_le (by omega)]
    rfl
def tEvry (K : PySem.W.Frag) (te : TE) (tl : TO) (k : Nat) : TE := fun σ H Q => te σ H fun x H1 => tl σ H1 fun l H2 => l = some (k : Int) ∧ ∃ a xs, x = .ref a ∧ SqL K H2 a xs ∧ ∀ p, H2 p = none → Q (.ref p) (upd H2 p (.lst (evry (xs.drop k))))
theorem pe_evry {X : Cx} {e lo st : Expr} {p2 pos : Pos} {te : TE} {tl : TO} {k : Nat} (he : PE X e te) (hl : PO X (some lo) tl) (hst : PE X st (tC (.int 2))) : PE X (.Subscript e (.Slice (some lo) none (some st) p2) pos) (tEvry X.K te tl k) := by
  refine ⟨fun pins s σ H Q I h => ?_⟩
  refine Subscript_ (thn (he.run pins s σ H _ I h) fun v s1 ⟨x, H1, I1, r1, q1⟩ => ?_)
  refine wpAny_Slice (thn (hl.run pins s1 σ H1 _ I1 q1) fun vl s2 ⟨l, H2, I2, pl, el, a, xs, ex, hx, q⟩ => ?_)
  subst el ex
  rw [evalPart_none]
  refine wpAny_pure ?_
  rw [evalPart_some]
  refine thn (hst.run pins s2 σ H2 (fun y H3 => y = .int 2 ∧ H3 = H2) I2 ⟨rfl, rfl⟩) fun vs s3 ⟨y, H3, I3, r3, e3, e4⟩ => ?_
  subst e3 e4
  cases r1
  obtain ⟨t3, rfl⟩ := r3
  have I4 : Inv X pins σ H3 { s3 with heap := s3.heap.push { cls := .type "slice", data := .fields #[vl, .none, .int 2 t3] } } := I3.kept (t' := s3.toks) fun b ob z => Heap.get?_push_of_some _ z
  obtain ⟨its, r, ht, hz⟩ := I4.list hx
  have hlen := r.length
  refine tail_any (ops := [.ref a, .ref s3.heap.objs.size]) ht.isList.typeIs slot_list_getitem.lookup ?_ (by with_unfolding_all rfl)
  refine wpAny_getItem_list_slice ht.isList (Heap.IsSliceOf.new ..) pl .none (IsPart.int 2 t3) (by decide) ?_ (by rw [List.size_toArray]; omega)
  rw [pick_evry]
  refine ⟨.ref _, _, I4.laid (t' := s3.toks) (o := .lst (evry (xs.drop k))) (fun b ob z => Heap.get?_push_of_some _ z) (Nat.le_refl _) ?_, rfl, q _ (I4.hok.fresh (Nat.le_refl _))⟩
  refine ⟨?_, _, 0, vals_evry (r.drop k), Heap.get?_push_size _ rfl⟩
  rw [evry_len, List.length_drop]
  omega
end Ow
namespace Sd
open PySem PySem.Spec PyProof.Rows L2 GxR
theorem ImAll.evry {G : Gm} {H : Hp} : ∀ {vs : List V} {ds : List D}, ImAll G H vs ds → ImAll G H (Ow.evry vs) (Ow.evry ds)
  | _, _, .nil => .nil
  | _, _, .cons h .nil => .cons h .nil
  | _, _, .cons h (.cons _ k) => .cons h (ImAll.evry k)
def eEvry (k : Nat) (fa : DE) : DE := fun δ S Q => fa δ S fun x S1 => match x with
  | .ref a => atL S1 a fun ds => ∀ p, S1 p = none → Q (.ref p) (sup S1 p (.lst (Ow.evry (ds.drop k))))
  | _ => False
theorem se_evry {G : Gm} {N : En} {k : Nat} {ta : TE} {fa : DE} (ha : SE G N ta fa) : SE G N (Ow.tEvry G.K ta (tPart (tC (.int (k : Int)))) k) (eEvry k fa) := by
  intro σ δ H S Q R rl h kk
  refine ha σ δ H S _ _ rl h fun x d H1 S1 i1 r1 u1 q1 => ?_
  cases d <;> first | exact q1.elim | skip
  rename_i a
  cases im_ref i1
  obtain ⟨ds, e1, q⟩ := atL_of q1
  obtain ⟨vs, hv, iv⟩ := r1.sim.ob _ _ e1
  refine ⟨(k : Int), rfl, rfl, a, vs, rfl, SqL.of hv, fun p hp => ?_⟩
  obtain ⟨a1, a2, a3⟩ := new_lst r1.sim hp ((iv.drop k).evry)
  exact kk _ _ _ _ (.ref p) (r1.go a2 a3) (u1.trans a3) (q p a1)
end Sd
namespace Ow
open PySem PySem.Spec PyProof.Rows L2
/-! ### zip of three lists -/
def Itz3 (K : PySem.W.Frag) (l1 l2 l3 : Addr) : It :=
  ⟨fun i H => ∃ xs ys zs, SqL K H l1 xs ∧ SqL K H l2 ys ∧ SqL K H l3 zs ∧ i < xs.length ∧ i < ys.length ∧ i < zs.length,
    fun i H v H' => ∃ T a b c, v = .ref T ∧ H T = none ∧ H' = upd H T (.tup [a, b, c]) ∧ (∀ xs, SqL K H l1 xs → xs[i]? = some a) ∧ (∀ ys, SqL K H l2 ys → ys[i]? = some b) ∧ ∀ zs, SqL K H l3 zs → zs[i]? = some c,
    fun i H => ∃ xs ys zs, SqL K H l1 xs ∧ SqL K H l2 ys ∧ SqL K H l3 zs ∧ i = min (min xs.length ys.length) zs.length⟩
def z3St (z TI TO i1 i2 i3 l1 l2 l3 : Addr) (i : Nat) (h : Heap) : Prop := IsZip h z TI TO .none ∧ IsTupOf3 h TI (.ref i1) (.ref i2) (.ref i3) ∧ (∃ a1 a2 a3, IsTupOf3 h TO a1 a2 a3) ∧ h.IsListIter i1 l1 i ∧ h.IsListIter i2 l2 i ∧ h.IsListIter i3 l3 i
theorem item_of {xs : List V} {its : List Value} {i : Nat} {v : Value} (r : Vals xs its) (hi : i < xs.length) (hv : its.toArray[i]? = some v) : ∃ y, xs[i]? = some y ∧ L2.RelV y v := by
  have hy : xs[i]? = some xs[i] := List.getElem?_eq_getElem hi
  obtain ⟨u, hu, ru⟩ := r.get hy
  have e : its[i]? = some v := by simpa using hv
  rw [e] at hu
  cases hu
  exact ⟨_, hy, ru⟩
theorem turn_zip3 {P : Program} {w : World} {K : PySem.W.Frag} {elts : List Expr} {kk : Nat} {tpos : Pos} {z TI TO i1 i2 i3 l1 l2 l3 : Addr} (Sp : ZipSep3 z TI TO i1 i2 i3 [i1, l1] [i2, l2] [i3, l3]) (h11 : l1 ≠ i1) (h22 : l2 ≠ i2) (h33 : l3 ≠ i3) :
    Turn P w K (.Tuple elts kk tpos) (Itz3 K l1 l2 l3) [z, TI, TO, i1, i2, i3] z (z3St z TI TO i1 i2 i3 l1 l2 l3) where
  mem := by simp
  obj := fun i h ⟨hz, hTI, ⟨_, _, _, hTO⟩, ⟨o1, e1, _, d1⟩, ⟨o2, e2, _, d2⟩, ⟨o3, e3, _, d3⟩⟩ c hc => by
    simp only [List.mem_cons, List.not_mem_nil, or_false] at hc
    rcases hc with q | q | q | q | q | q <;> rw [q]
    · exact ⟨_, hz, fun v q => nomatch q⟩
    · exact ⟨_, hTI, fun v q => nomatch q⟩
    · exact ⟨_, hTO, fun v q => nomatch q⟩
    · exact ⟨o1, e1, fun v q => by rw [d1] at q; cases q⟩
    · exact ⟨o2, e2, fun v q => by rw [d2] at q; cases q⟩
    · exact ⟨o3, e3, fun v q => by rw [d3] at q; cases q⟩
  keep := fun i h h' ⟨hz, hTI, ⟨u, v, w', hTO⟩, h1, h2, h3⟩ k => ⟨k z (by simp) _ hz, k TI (by simp) _ hTI, ⟨u, v, w', k TO (by simp) _ hTO⟩, h1.at fun o q => k i1 (by simp) o q, h2.at fun o q => k i2 (by simp) o q, h3.at fun o q => k i3 (by simp) o q⟩
  item := by
    rintro X rfl rfl rfl hc i pins s σ H E I hf ⟨hz, hTI, hTO, h1, h2, h3⟩ ⟨xs, ys, zs, q1, q2, q3, n1, n2, n3⟩
    obtain ⟨t1, r1, p1, _⟩ := I.list q1
    obtain ⟨t2, r2, p2, _⟩ := I.list q2
    obtain ⟨t3, r3, p3, _⟩ := I.list q3
    have hh : X.A.in1.handled = none := I.ok.hd hc
    have s1 : t1.toArray.size = xs.length := by rw [List.size_toArray, r1.length]
    have s2 : t2.toArray.size = ys.length := by rw [List.size_toArray, r2.length]
    have s3 : t3.toArray.size = zs.length := by rw [List.size_toArray, r3.length]
    have G := GoesN.zip3 (elts := elts) (x1 := kk) (pos := tpos) Sp (Draws.list (prog := X.prog) (w := X.w) (A := X.A.in1) hh i1 l1 h11 t1.toArray) (Draws.list (prog := X.prog) (w := X.w) (A := X.A.in1) hh i2 l2 h22 t2.toArray) (Draws.list (prog := X.prog) (w := X.w) (A := X.A.in1) hh i3 l3 h33 t3.toArray)
    refine G.goes i s _ E (by omega) ⟨hz, hTI, hTO, ⟨h1, p1.isList⟩, ⟨h2, p2.isList⟩, ⟨h3, p3.isList⟩⟩ fun v h' tk ⟨T, x0, y0, z0, ev, hT, hx, hy, hzz, hTt⟩ st hk htk => ?_
    subst ev
    obtain ⟨x, hx2, rx⟩ := item_of r1 n1 hx
    obtain ⟨y, hy2, ry⟩ := item_of r2 n2 hy
    obtain ⟨zv, hz2, rz⟩ := item_of r3 n3 hzz
    have new : ObjOk X.prog X.w (upd H T (.tup [x, y, zv])) h' T (.tup [x, y, zv]) := ⟨by show 3 ≤ sizeLine; decide, [x0, y0, z0], .cons rx (.cons ry (.cons rz .nil)), hTt⟩
    have I1 : Inv X pins σ (upd H T (.tup [x, y, zv])) { s with heap := h', toks := tk } :=
      I.turnedNew (t' := tk) (ch := [z, TI, TO, i1, i2, i3]) (fun a o hb q => hk a o (fun m => hb (by simp only [List.mem_cons, List.not_mem_nil, or_false] at m ⊢; rcases m with m | m | m | m | m <;> simp [m])) q) hf hT new
    refine ⟨.ref T, _, I1, rfl, ⟨T, x, y, zv, rfl, I.hok.fresh hT, rfl, fun l hl => by rw [I.list_inj hl q1]; exact hx2, fun l hl => by rw [I.list_inj hl q2]; exact hy2, fun l hl => by rw [I.list_inj hl q3]; exact hz2⟩, ⟨st.1, st.2.1, st.2.2.1, st.2.2.2.1.1, st.2.2.2.2.1.1, st.2.2.2.2.2.1⟩, fun a ha => ?_⟩
    obtain ⟨o1, e1, _⟩ := h1
    obtain ⟨o2, e2, _⟩ := h2
    obtain ⟨o3, e3, _⟩ := h3
    obtain ⟨_, _, _, hTO'⟩ := hTO
    have hlt : a < s.heap.objs.size := by
      have ha' := ha
      simp only [List.mem_cons, List.not_mem_nil, or_false] at ha'
      rcases ha' with q | q | q | q | q | q <;> rw [q]
      · exact Heap.lt_size hz
      · exact Heap.lt_size hTI
      · exact Heap.lt_size hTO'
      · exact Heap.lt_size e1
      · exact Heap.lt_size e2
      · exact Heap.lt_size e3
    rw [upd_ne (Nat.ne_of_lt (Nat.lt_of_lt_of_le hlt hT))]
    exact (hf a ha).1
  done := by
    rintro X rfl rfl rfl hc i pins s σ H E I hf ⟨hz, hTI, hTO, h1, h2, h3⟩ ⟨xs, ys, zs, q1, q2, q3, hi⟩
    obtain ⟨t1, r1, p1, _⟩ := I.list q1
    obtain ⟨t2, r2, p2, _⟩ := I.list q2
    obtain ⟨t3, r3, p3, _⟩ := I.list q3
    have hh : X.A.in1.handled = none := I.ok.hd hc
    have s1 : t1.toArray.size = xs.length := by rw [List.size_toArray, r1.length]
    have s2 : t2.toArray.size = ys.length := by rw [List.size_toArray, r2.length]
    have s3 : t3.toArray.size = zs.length := by rw [List.size_toArray, r3.length]
    have G := GoesN.zip3 (elts := elts) (x1 := kk) (pos := tpos) Sp (Draws.list (prog := X.prog) (w := X.w) (A := X.A.in1) hh i1 l1 h11 t1.toArray) (Draws.list (prog := X.prog) (w := X.w) (A := X.A.in1) hh i2 l2 h22 t2.toArray) (Draws.list (prog := X.prog) (w := X.w) (A := X.A.in1) hh i3 l3 h33 t3.toArray)
    have hi : i = min (min t1.toArray.size t2.toArray.size) t3.toArray.size := by omega
    rw [hi] at h1 h2 h3
    exact G.stops s _ E ⟨hz, hTI, hTO, ⟨h1, p1.isList⟩, ⟨h2, p2.isList⟩, ⟨h3, p3.isList⟩⟩ fun h' tk hk htk => I.turnedL (t' := tk) (ch := [z, TI, TO, i1, i2, i3]) (fun a o hb q => hk a o (fun m => hb (by simp only [List.mem_cons, List.not_mem_nil, or_false] at m ⊢; rcases m with m | m | m | m | m <;> simp [m])) q) hf
  self := fun A i s Q E st h => wpAny_pyIter_zip st.1 h
def iZip3 (K : PySem.W.Frag) (ta : TA) : TI := fun σ H R => ta σ H fun vs H1 => ∃ l1 l2 l3 xs ys zs, vs = [.ref l1, .ref l2, .ref l3] ∧ SqL K H1 l1 xs ∧ SqL K H1 l2 ys ∧ SqL K H1 l3 zs ∧ R (Itz3 K l1 l2 l3) H1
theorem pi_zip3 {X : Cx} {e e2 e3 : Expr} {ta : TA} {p pos tpos : Pos} {elts : List Expr} {kk : Nat} (hg : Gl X "zip") (hm : X.mg "zip" = none) (ha : PA X [e, e2, e3] ta) (hs : starEach [e, e2, e3] X.env = (false, eval e X.env) :: starEach [e2, e3] X.env := by rfl) (hpl : (backTo pos (starEach [e2, e3] X.env)).any (·.1) = false := by rfl) :
    PI X (.Tuple elts kk tpos) (.Call (.Name "zip" p) [e, e2, e3] [] pos) (iZip3 X.K ta) := by
  refine ⟨fun pins s σ H R I h => Call_ (ld_blt I hg hm PyProof.Rows.boot_zip (PyProof.Rows.callWith_type1 (thn (ha.run pos pins s σ H _ I h) fun us s1 ⟨vs, H1, I1, rr, l1, l2, l3, xs, ys, zs, ex, q1, q2, q3, q⟩ => ?_) hs hpl))⟩
  subst ex
  cases rr with
  | cons ra rr => cases rr with
    | cons rb rr => cases rr with
      | cons rc rr =>
    cases rr
    cases ra
    cases rb
    cases rc
    obtain ⟨t1, r1, p1, _⟩ := I1.list q1
    obtain ⟨t2, r2, p2, _⟩ := I1.list q2
    obtain ⟨t3, r3, p3, _⟩ := I1.list q3
    obtain ⟨ob1, eb1, _⟩ := id p1.isList
    obtain ⟨ob2, eb2, _⟩ := id p2.isList
    obtain ⟨ob3, eb3, _⟩ := id p3.isList
    have lt1 := Heap.lt_size eb1
    have lt2 := Heap.lt_size eb2
    have lt3 := Heap.lt_size eb3
    refine zip_begins3 (begins_list l1 t1.toArray) (begins_list l2 t2.toArray) (begins_list l3 t3.toArray) p1.isList p2.isList p3.isList fun h' hz hTI hTO h1 h2 h3 hsz hk => wpAny_pyIter_zip hz ?_
    have I2 : Inv X pins σ H1 { s1 with heap := h' } := I1.kept (t' := s1.toks) hk
    refine ⟨s1.heap.objs.size + 5, [s1.heap.objs.size + 5, s1.heap.objs.size + 3, s1.heap.objs.size + 4, s1.heap.objs.size, s1.heap.objs.size + 1, s1.heap.objs.size + 2], _, Itz3 X.K l1 l2 l3, H1, rfl, I2,
      turn_zip3 (zip_sep3 (fp1 := [l1]) (fp2 := [l2]) (fp3 := [l3]) (by simpa using lt1) (by simpa using lt2) (by simpa using lt3)) (Nat.ne_of_lt lt1) (Nat.ne_of_lt (Nat.lt_succ_of_lt lt2)) (Nat.ne_of_lt (Nat.lt_succ_of_lt (Nat.lt_succ_of_lt lt3))), ⟨hz, hTI, ⟨_, _, _, hTO⟩, ⟨_, h1, rfl, rfl⟩, ⟨_, h2, rfl, rfl⟩, ⟨_, h3, rfl, rfl⟩⟩, fun c hcm => ?_, q⟩
    have hle : s1.heap.objs.size ≤ c := by
      simp only [List.mem_cons, List.not_mem_nil, or_false] at hcm
      rcases hcm with m | m | m | m | m | m <;> rw [m] <;> first | exact Nat.le_refl _ | exact Nat.le_add_right _ _
    exact I1.fpOk hle (I1.hok.fresh hle)
end Ow
namespace Sd
open PySem PySem.Spec PyProof.Rows L2 GxR
def zip3D : List D → List D → List D → List D
  | x :: xs, y :: ys, z :: zs => .tup [x, y, z] :: zip3D xs ys zs
  | _, _, _ => []
theorem zip3D_len : ∀ {xs ys zs : List D}, (zip3D xs ys zs).length = min (min xs.length ys.length) zs.length
  | [], _, _ => by simp [zip3D]
  | _ :: _, [], _ => by simp [zip3D]
  | _ :: _, _ :: _, [] => by simp [zip3D]
  | x :: xs, y :: ys, z :: zs => by simp only [zip3D, List.length_cons, zip3D_len (xs := xs) (ys := ys) (zs := zs)]; omega
theorem zip3D_get : ∀ {xs ys zs : List D} {i : Nat} {x y z : D}, xs[i]? = some x → ys[i]? = some y → zs[i]? = some z → (zip3D xs ys zs)[i]? = some (.tup [x, y, z])
  | [], _, _, i, _, _, _, h, _, _ => by simp at h
  | _ :: _, [], _, i, _, _, _, _, h, _ => by simp at h
  | _ :: _, _ :: _, [], i, _, _, _, _, _, h => by simp at h
  | x :: xs, y :: ys, z :: zs, 0, _, _, _, h1, h2, h3 => by cases h1; cases h2; cases h3; rfl
  | x :: xs, y :: ys, z :: zs, i + 1, _, _, _, h1, h2, h3 => by
    simp only [zip3D, List.getElem?_cons_succ] at *
    exact zip3D_get h1 h2 h3
def iZip3D (fa : DA) : DI := fun δ S Q => fa δ S fun xs S1 => match xs with
  | [.ref a, .ref b, .ref c] => atL S1 a fun x => atL S1 b fun y => atL S1 c fun z => Q ⟨zip3D x y z, fun S2 => S2 a = some (.lst x) ∧ S2 b = some (.lst y) ∧ S2 c = some (.lst z)⟩ S1
  | _ => False
theorem si_zip3 {G : Gm} {N : En} {tl : TA} {fl : DA} (ha : SA G N tl fl) : SI G N (Ow.iZip3 G.K tl) (iZip3D fl) := by
  intro σ δ H S Q R r h k
  refine ha σ δ H S _ _ r h fun vs ds H1 S1 i1 r1 u1 q1 => ?_
  split at q1
  · rename_i a b c
    match i1 with
    | .cons ix (.cons iy (.cons iz .nil)) =>
      cases im_ref ix
      cases im_ref iy
      cases im_ref iz
      obtain ⟨x, e1, q1⟩ := atL_of q1
      obtain ⟨y, e2, q1⟩ := atL_of q1
      obtain ⟨z, e3, q1⟩ := atL_of q1
      obtain ⟨xs, hx, jx⟩ := r1.sim.ob _ _ e1
      obtain ⟨ys, hy, jy⟩ := r1.sim.ob _ _ e2
      obtain ⟨zs, hz, jz⟩ := r1.sim.ob _ _ e3
      refine ⟨a, b, c, xs, ys, zs, rfl, SqL.of hx, SqL.of hy, SqL.of hz, k _ _ H1 S1 ?_ r1 u1 q1⟩
      rintro S2 H2 s2 u2 ⟨o1, o2, o3⟩ i hi
      obtain ⟨xs, hx, jx⟩ := s2.ob _ _ o1
      obtain ⟨ys, hy, jy⟩ := s2.ob _ _ o2
      obtain ⟨zs, hz, jz⟩ := s2.ob _ _ o3
      have n1 := jx.length
      have n2 := jy.length
      have n3 := jz.length
      simp only [zip3D_len] at hi ⊢
      refine ⟨fun g => ⟨xs, ys, zs, SqL.of hx, SqL.of hy, SqL.of hz, by omega, by omega, by omega⟩, fun g => ⟨xs, ys, zs, SqL.of hx, SqL.of hy, SqL.of hz, by omega⟩, fun v H' g w => ?_⟩
      obtain ⟨T, va, vb, vc, rfl, hT, rfl, g1, g2, g3⟩ := w
      obtain ⟨da, hda, ia⟩ := jx.get (g1 xs (SqL.of hx))
      obtain ⟨db, hdb, ib⟩ := jy.get (g2 ys (SqL.of hy))
      obtain ⟨dc, hdc, ic⟩ := jz.get (g3 zs (SqL.of hz))
      obtain ⟨a1, a2, a3⟩ := new_tup s2 hT (.cons ia (.cons ib (.cons ic .nil)))
      exact ⟨.tup [da, db, dc], zip3D_get hda hdb hdc, a1, a2, a3, Ext.lay hT⟩
  · exact q1.elim
end Sd

set_option Elab.async false
set_option linter.all false
set_option maxRecDepth 100000
set_option maxHeartbeats 4000000
namespace Sd
open PySem PySem.Spec PyProof.Rows L2 GxR
/-! ### loops by what is made so far -/
section
variable {ok : Sto → Prop} {g : DG} {te : DE} {δ : DV}
/-- a comprehension: J by the elements that are made -/
theorem lcD_acc {J : List D → Sto → Prop} {Q : List D → Sto → Prop} {items : List D} (h : ∀ acc x, items[acc.length]? = some x → ∀ S, J acc S → ok S ∧ ∀ R : DK, (∀ y S', J (acc ++ [y]) S' → R y S') → g x δ S fun δ2 S2 => te δ2 S2 R) (hend : ∀ acc S, acc.length = items.length → J acc S → ok S)
    (q : ∀ ys S', ys.length = items.length → J ys S' → Q ys S') (hl : items.length ≤ 1000000) {S : Sto} (hJ : J [] S) : lcD ok g tYes' te δ items [] S Q := by
  have gen : ∀ (rest done acc : List D) (S : Sto), items = done ++ rest → acc.length = done.length → J acc S → lcD ok g tYes' te δ rest acc S Q := by
    intro rest
    induction rest with
    | nil =>
      intro done acc S e l hJ
      rw [List.append_nil] at e
      subst e
      exact ⟨hend acc S l hJ, q acc S l hJ⟩
    | cons x xs ih =>
      intro done acc S e l hJ
      have hx : items[acc.length]? = some x := by rw [e, l]; simp
      obtain ⟨h1, h2⟩ := h acc x hx S hJ
      refine ⟨h1, ?_⟩
      have e1 : (fun δ2 S2 => tYes' δ2 S2 fun b S3 => br b (te δ2 S3 fun y S4 => acc.length < 1000000 ∧ lcD ok g tYes' te δ xs (acc ++ [y]) S4 Q) (lcD ok g tYes' te δ xs acc S3 Q)) = fun δ2 S2 => te δ2 S2 fun y S4 => acc.length < 1000000 ∧ lcD ok g tYes' te δ xs (acc ++ [y]) S4 Q := by
        funext δ2 S2
        simp [tYes', br]
      rw [e1]
      refine h2 _ fun y S' hJ' => ⟨?_, ih (done ++ [x]) (acc ++ [y]) S' (by rw [e]; simp) (by simp [l]) hJ'⟩
      have : items.length = done.length + (xs.length + 1) := by rw [e]; simp
      omega
  exact gen items [] [] S rfl rfl hJ
/-- all(..) whose element leaves the store: p by the element -/
theorem allD_st {p : D → Bool} {S : Sto} {Q : Bool → Sto → Prop} (hok : ok S) {items : List D} (h : ∀ x ∈ items, ∀ R : DK, R (.bl (p x)) S → g x δ S fun δ2 S2 => te δ2 S2 R) (q : Q (items.all p) S) : allD ok g te δ items S Q := by
  induction items with
  | nil => exact ⟨hok, q⟩
  | cons x xs ih =>
    rw [allD]
    refine ⟨hok, h x List.mem_cons_self _ ?_⟩
    show br (p x) _ _
    rw [List.all_cons] at q
    cases hp : p x with
    | true =>
      rw [hp, Bool.true_and] at q
      exact ⟨fun _ => ih (fun y hy => h y (List.mem_cons_of_mem _ hy)) q, fun z => (by cases z)⟩
    | false =>
      rw [hp, Bool.false_and] at q
      exact ⟨fun z => (by cases z), fun _ => q⟩
end
/-- how long the list of a slot is -/
def lenAt (i : Nat) (δ : DV) (S : Sto) : Nat := match δ[i]? with
  | some (some (.ref p)) => (match S p with | some (.lst ds) => ds.length | _ => 0)
  | _ => 0
theorem lenAt_eq {i : Nat} {δ : DV} {S : Sto} {p : Addr} {ds : List D} (h : δ[i]? = some (some (.ref p))) (hs : S p = some (.lst ds)) : lenAt i δ S = ds.length := by
  unfold lenAt
  rw [h]
  dsimp only
  rw [hs]
end Sd

set_option Elab.async false
set_option linter.all false
set_option maxRecDepth 100000
set_option maxHeartbeats 4000000
namespace Sd
open PySem PySem.Spec PyProof.Rows L2 GxR
/-! ### two lists are compared -/
def dEqL : B2 := fun x y S Q => match x with
  | .ref p => match y with
    | .ref q => atL S p fun ds => atL S q fun es => dats 60 ds = true ∧ dats 60 es = true ∧ Q (.bl (PyData.eqvAll (pys ds) (pys es))) S
    | _ => False
  | _ => False
theorem dEqL_r {p q : Addr} {S : Sto} {Q : DK} : dEqL (.ref p) (.ref q) S Q = atL S p fun ds => atL S q fun es => dats 60 ds = true ∧ dats 60 es = true ∧ Q (.bl (PyData.eqvAll (pys ds) (pys es))) S := rfl
section
variable {G : Gm}
theorem s2_eqL : S2 G (Ow.rEqU G.K) dEqL := by
  intro x y d e H S Q R hx hy s h k
  unfold dEqL at h
  split at h
  · split at h
    · cases im_ref hx
      cases im_ref hy
      obtain ⟨ds, e1, h⟩ := atL_of h
      obtain ⟨es, e2, c1, c2, q⟩ := atL_of h
      obtain ⟨vs, hv, i1⟩ := s.ob _ _ e1
      obtain ⟨ws, hw, i2⟩ := s.ob _ _ e2
      obtain ⟨a1, a2, a3⟩ := dps_of 60 ds vs c1 i1
      obtain ⟨b1, b2, b3⟩ := dps_of 60 es ws c2 i2
      refine .inr ⟨_, _, .lst (SqL.of hv) a1, .lst (SqL.of hw) b1, shaped_of (by rw [PyData.canLay0]; exact a2) (by rw [PyData.depth]; omega), shaped_of (by rw [PyData.canLay0]; exact b2) (by rw [PyData.depth]; omega), ?_⟩
      exact k _ _ H S (.bl _) s .refl q
    · exact h.elim
  · exact h.elim
end
theorem pys_ints : ∀ {xs ys : List Int}, PyData.eqvAll (pys (xs.map D.int)) (pys (ys.map D.int)) = decide (xs = ys)
  | [], [] => rfl
  | [], _ :: _ => rfl
  | _ :: _, [] => rfl
  | x :: xs, y :: ys => by
    have e : PyData.eqvAll (pys ((x :: xs).map D.int)) (pys ((y :: ys).map D.int)) = (eqD (.int x) (.int y) && PyData.eqvAll (pys (xs.map D.int)) (pys (ys.map D.int))) := rfl
    rw [e, pys_ints, eqD_ii]
    by_cases h1 : x = y <;> by_cases h2 : xs = ys <;> simp [h1, h2]
theorem dats_ints {n : Nat} : ∀ {xs : List Int}, dats (n + 1) (xs.map D.int) = true
  | [] => rfl
  | x :: xs => by
    show (dat (n + 1) (.int x) && dats (n + 1) (xs.map D.int)) = true
    rw [dats_ints]; rfl
/-! ### range(i, j, -1) -/
def iR3 (a : DA) : DI := fun δ S Q => a δ S fun xs S1 => match xs with | [.int i, .int j, .int (-1)] => -(2 ^ 62) ≤ i ∧ i < 2 ^ 62 ∧ -(2 ^ 62) ≤ j ∧ j < 2 ^ 62 ∧ Q ⟨downto (i + 1 - ((i - j).toNat : Int)) (i - j).toNat, fun _ => True⟩ S1 | _ => False
section
variable {G : Gm} {N : En} {tl : TA} {fl : DA}
theorem si_r3 (ha : SA G N tl fl) : SI G N (iRng3 tl) (iR3 fl) := by
  intro σ δ H S Q R r h k
  refine ha σ δ H S _ _ r h fun vs ds H1 S1 i1 r1 u1 q1 => ?_
  split at q1
  · cases i1 with
    | cons iv i2 =>
      obtain ⟨w, z, rfl, iw, iz⟩ := ia2 i2
      cases im_int iv
      cases im_int iw
      cases im_int iz
      obtain ⟨c1, c2, c3, c4, q⟩ := q1
      exact ⟨_, _, _, _, rfl, RgC.neg c1 c2 c3 c4, k _ _ H1 S1 (jok_rev (by omega)) r1 u1 q⟩
  · exact q1.elim
end
end Sd

set_option Elab.async false
set_option linter.all false
set_option maxRecDepth 100000
set_option maxHeartbeats 4000000
namespace Sd
open PySem PySem.Spec PyProof.Rows L2 GxR
/-! ### the smaller, the greater of two numbers -/
def rMnI : List V → Hp → VK → Prop := fun xs H Q => ∃ i j, xs = [.int i, .int j] ∧ Q (.int (if j < i then j else i)) H
def rMxI : List V → Hp → VK → Prop := fun xs H Q => ∃ i j, xs = [.int i, .int j] ∧ Q (.int (if j > i then j else i)) H
def dMin (xs : List D) (S : Sto) (Q : DK) : Prop := match xs with | [.int i, .int j] => Q (.int (if j < i then j else i)) S | _ => False
def dMax (xs : List D) (S : Sto) (Q : DK) : Prop := match xs with | [.int i, .int j] => Q (.int (if j > i then j else i)) S | _ => False
section
variable {G : Gm}
theorem sl_min : SL G rMnI dMin := by
  intro xs ds H S Q R hx s h k
  unfold dMin at h
  split at h
  · obtain ⟨v, w, rfl, i, j⟩ := ia2 hx
    cases im_int i
    cases im_int j
    exact ⟨_, _, rfl, k _ _ H S (.int _) s .refl h⟩
  · exact h.elim
theorem sl_max : SL G rMxI dMax := by
  intro xs ds H S Q R hx s h k
  unfold dMax at h
  split at h
  · obtain ⟨v, w, rfl, i, j⟩ := ia2 hx
    cases im_int i
    cases im_int j
    exact ⟨_, _, rfl, k _ _ H S (.int _) s .refl h⟩
  · exact h.elim
end
end Sd

set_option Elab.async false
set_option linter.all false
set_option maxRecDepth 100000
set_option maxHeartbeats 4000000
namespace Sd
open PySem PySem.Spec PyProof.Rows L2 GxR
/-! ### several names at once, from a written tuple -/
def sPar2 (i j : Nat) (a : DA) : DS := fun D δ S => a δ S fun xs S1 => match xs with | [x, y] => D.nx ((δ.set i (some x)).set j (some y)) S1 | _ => False
def sPar3 (i j l : Nat) (a : DA) : DS := fun D δ S => a δ S fun xs S1 => match xs with | [x, y, z] => D.nx (((δ.set i (some x)).set j (some y)).set l (some z)) S1 | _ => False
section
variable {G : Gm} {N : En} {ta : TA} {fa : DA}
theorem ss_par2 {i j : Nat} (ha : SA G N ta fa) : SS G N (tPar i j ta) (sPar2 i j fa) := by
  intro σ δ H S D E r h k
  refine ha σ δ H S _ _ r h fun vs ds H1 S1 i1 r1 u1 q1 => ?_
  split at q1
  · obtain ⟨v, w, rfl, iv, iw⟩ := ia2 i1
    exact ⟨v, w, rfl, k.nx _ _ H1 S1 ((r1.set i iv).set j iw) u1 q1⟩
  · exact q1.elim
theorem ss_par3 {i j l : Nat} (ha : SA G N ta fa) : SS G N (tPar3 i j l ta) (sPar3 i j l fa) := by
  intro σ δ H S D E r h k
  refine ha σ δ H S _ _ r h fun vs ds H1 S1 i1 r1 u1 q1 => ?_
  split at q1
  · cases i1 with
    | cons iu i2 =>
      obtain ⟨v, w, rfl, iv, iw⟩ := ia2 i2
      exact ⟨_, v, w, rfl, k.nx _ _ H1 S1 (((r1.set i iu).set j iv).set l iw) u1 q1⟩
  · exact q1.elim
end
end Sd

set_option Elab.async false
set_option linter.all false
set_option maxRecDepth 100000
set_option maxHeartbeats 4000000
namespace Sd
open PySem PySem.Spec PyProof.Rows L2 GxR
/-! ### a truth and a number: added, taken away -/
def rBI (f : Bool → Int → V) : R2 := fun x y H Q => ∃ b j, x = .bl b ∧ y = .int j ∧ Q (f b j) H
theorem op_addB {X : Cx} : OpR X (binaryOp .Add) (rBI fun b j => .int ((if b = true then 1 else 0) + j)) := by
  intro pins s σ H x y v u Q I rx ry h
  obtain ⟨b, j, rfl, rfl, q⟩ := h
  cases rx
  obtain ⟨t', rfl⟩ := ry
  exact PySem.IntBool.add_bool_int ⟨.int _, H, I.tok _, ⟨_, rfl⟩, q⟩
theorem op_subB {X : Cx} : OpR X (binaryOp .Sub) (rBI fun b j => .int ((if b = true then 1 else 0) - j)) := by
  intro pins s σ H x y v u Q I rx ry h
  obtain ⟨b, j, rfl, rfl, q⟩ := h
  cases rx
  obtain ⟨t', rfl⟩ := ry
  exact PySem.IntBool.sub_bool_int ⟨.int _, H, I.tok _, ⟨_, rfl⟩, q⟩
def rAddB (K : PySem.W.Frag) : R2 := fun x y H Q => Ow.rAddU K x y H Q ∨ rBI (fun b j => .int ((if b = true then 1 else 0) + j)) x y H Q
def rSubB : R2 := fun x y H Q => rI0 (fun i j => .int (i - j)) x y H Q ∨ rBI (fun b j => .int ((if b = true then 1 else 0) - j)) x y H Q
theorem opB_add {X : Cx} : OpR X (binaryOp .Add) (rAddB X.K) := Ow.opU_add.or op_addB
theorem opB_sub {X : Cx} : OpR X (binaryOp .Sub) rSubB := op_sub.or op_subB
/-- added: a truth counts as 0 or 1 -/
def dAddB : B2 := fun x y S Q => match x with
  | .bl b => (match y with | .int j => Q (.int ((if b = true then 1 else 0) + j)) S | _ => False)
  | _ => dAdd x y S Q
def dSubB : B2 := fun x y S Q => match x with
  | .bl b => (match y with | .int j => Q (.int ((if b = true then 1 else 0) - j)) S | _ => False)
  | _ => dSub x y S Q
section
variable {G : Gm}
theorem s2_addB : S2 G (rAddB G.K) dAddB := by
  intro x y d e H S Q R hx hy s h k
  unfold dAddB at h
  split at h
  · split at h
    · cases im_bl hx; cases im_int hy
      exact .inr ⟨_, _, rfl, rfl, k _ _ H S (.int _) s .refl h⟩
    · exact h.elim
  · exact .inl (s2_add x y d e H S Q R hx hy s h k)
theorem s2_subB : S2 G rSubB dSubB := by
  intro x y d e H S Q R hx hy s h k
  unfold dSubB at h
  split at h
  · split at h
    · cases im_bl hx; cases im_int hy
      exact .inr ⟨_, _, rfl, rfl, k _ _ H S (.int _) s .refl h⟩
    · exact h.elim
  · exact .inl (s2_sub x y d e H S Q R hx hy s h k)
end
end Sd

set_option Elab.async false
set_option linter.all false
set_option maxRecDepth 100000
set_option maxHeartbeats 4000000
namespace Sd
open PySem PySem.Spec PyProof.Rows L2 GxR
/-! ### a written dict whose values are written tuples -/
structure KdT (K : PySem.W.Frag) (w : World) (d : Addr) (tb : KTb) : Prop where
  ex : ∃ es n, KDict K w d es n
  row : ∀ p ∈ tb, ∃ r, PySem.W.nsIn K d p.1 = some r ∧ ((p.2 = none ∧ r = none) ∨ ∃ ds c, p.2 = some (.ctup ds) ∧ r = some (.ref c) ∧ CtOk K c ds)
theorem KdT.kd {K : PySem.W.Frag} {w : World} {d : Addr} {tb : KTb} (h : KdT K w d tb) : KdOk K w d [] := ⟨h.ex, fun _ hp => by cases hp⟩
theorem se_kgetT {G : Gm} {N : En} {w : World} {d : Addr} {tb : KTb} {ty tx : TE} {fy fx : DE} (k : KdT G.K w d tb) (hy : SE G N ty fy) (hx : SE G N tx fx) : SE G N (Ow.tKGet2 G.K d (tC (.ref d)) ty tx) (eKGet2 tb fy fx) := by
  intro σ δ H S Q R rl h kk
  refine ⟨rfl, hy σ δ H S _ _ rl h fun y e H1 S1 i1 r1 u1 q1 => ?_⟩
  refine hx σ δ H1 S1 _ _ r1 q1 fun z f H2 S2 i2 r2 u2 q2 => ?_
  cases e <;> first | exact q2.elim | skip
  rename_i s
  obtain ⟨rfl, _⟩ := im_str i1
  dsimp only at q2
  split at q2
  · rename_i o hv
    obtain ⟨r, h1, h2⟩ := k.row _ (look_mem hv)
    refine ⟨s, r, rfl, h1, ?_⟩
    rcases h2 with ⟨h2, rfl⟩ | ⟨ds, c, h2, rfl, h3⟩
    · cases h2
      exact .inl ⟨rfl, kk z f H2 S2 i2 r2 (u1.trans u2) q2⟩
    · cases h2
      exact .inr ⟨.ref c, .ref c, rfl, rfl, kk _ (.ctup ds) H2 S2 h3.im r2 (u1.trans u2) q2⟩
  · exact q2.elim
end Sd

set_option Elab.async false
set_option linter.all false
set_option maxRecDepth 100000
set_option maxHeartbeats 4000000
namespace Sd
open PySem PySem.Spec PyProof.Rows L2 GxR
/-! ### sum(.. for ..) -/
def intOf : D → Int | .int i => i | _ => 0
def sumI (ds : List D) : Int := (ds.map intOf).sum
theorem sumI_snoc (ds : List D) (i : Int) : sumI (ds ++ [.int i]) = sumI ds + i := by
  unfold sumI; rw [List.map_append, List.sum_append]; simp [intOf]
theorem sumI_ints (ns : List Int) : sumI (ns.map D.int) = ns.sum := by
  unfold sumI; rw [List.map_map]; congr 1; simp [Function.comp_def, intOf]
def eInt (te : DE) : DE := fun δ S Q => te δ S fun y S1 => match y with | .int i => Q (.int i) S1 | _ => False
def eSumG (wi : DI) (g : DG) (tt : DT) (te : DE) (vs : List Nat) : DE := fun δ S Q => wi δ S fun src S1 => lcD src.ok g tt (eInt te) (wipeD δ vs) src.items [] S1 fun ys S2 => Q (.int (sumI ys)) S2
section
variable {G : Gm} {N : En}
theorem se_sumG {P : Addr} {ws vs : List Nat} {twi : TI} {wi : DI} {tg : TG} {g : DG} {tt : TT} {ft : DT} {te : TE} {fe : DE} (hP : P ∈ G.tabs) (hi : SI G N twi wi) (hg : SG G N ws tg g) (ht : ST G N tt ft) (he : SE G N te fe) (hw : ∀ i ∈ ws, i ∈ vs) :
    SE G N (Ow.tSumG P twi tg tt te vs) (eSumG wi g ft fe vs) := by
  intro σ δ H S Q R r h k
  refine hi σ δ H S _ _ r h fun J src H1 S1 jk r1 u1 q1 => ⟨r1.sim.tab P hP, fun H2 htb p hp => ?_⟩
  have ea := Ext.tabbed (r1.sim.tab P hP) htb
  have ra : Rel G N σ δ S1 H2 := ⟨r1.sl.go ea.tu, r1.sim.ext ea, r1.up.trans (Up.of_ext ea)⟩
  have ua : Up S1 S1 H1 H2 := Up.of_ext ea
  have hsc := ra.sim.scrNe hp
  have e0 := Ext.lay (o := HO.lst [.int 0]) hp
  have hN : N.H p = none := by
    cases z : N.H p with
    | none => rfl
    | some o => exact absurd hp (ra.up.there p (by rw [z]; simp))
  refine ⟨fun i m H' => m = src.items.length - i ∧ i ≤ src.items.length ∧ ∃ S' ds, Rel G N σ δ S' H' ∧ Up S1 S' H1 H' ∧ H' p = some (.lst [.int (sumI ds)]) ∧ ds.length ≤ 1000000 ∧ S' p = none ∧ lcD src.ok g ft (eInt fe) (wipeD δ vs) (src.items.drop i) ds S' (fun ys S2 => Q (.int (sumI ys)) S2),
    ⟨src.items.length, by simp, Nat.zero_le _, S1, [], ⟨ra.sl.go e0.tu, ra.sim.ext e0, ra.up.trans (Up.of_ext e0)⟩, ua.trans (Up.of_ext e0), upd_same, Nat.zero_le _, ra.sim.free hp, by simpa using q1⟩, ?_⟩
  have hH1 : H1 p = none := by
    cases z : H1 p with
    | none => rfl
    | some o => exact absurd hp (ua.there p (by rw [z]; simp))
  rintro i m H' ⟨rfl, hi', S', ds, r', u', hacc, lacc, hS', q'⟩
  refine ⟨_, hacc, ?_⟩
  by_cases hlt : i < src.items.length
  · rw [List.drop_eq_getElem_cons hlt] at q'
    obtain ⟨a1, _, a3⟩ := jk S' H' r'.sim u' q'.1 i hi'
    refine .inr ⟨a1 hlt, fun H2 => ∃ S2 ds2, Rel G N σ δ S2 H2 ∧ Up S1 S2 H1 H2 ∧ H2 p = some (.lst [.int (sumI ds2)]) ∧ ds2.length ≤ 1000000 ∧ S2 p = none ∧ lcD src.ok g ft (eInt fe) (wipeD δ vs) (src.items.drop (i + 1)) ds2 S2 (fun ys S2 => Q (.int (sumI ys)) S2),
      fun H2 ⟨S2, ds2, x⟩ => ⟨src.items.length - (i + 1), by omega, rfl, hlt, S2, ds2, x⟩, fun x H2 y => ?_⟩
    obtain ⟨d, hd, im, s2, u2, e2⟩ := a3 x H2 hlt y
    rw [List.getElem?_eq_getElem hlt] at hd
    cases hd
    have r2 : Rel G N (L2.wipe σ vs) (wipeD δ vs) S' H2 := ⟨(r'.sl.go e2.tu).wipe vs, s2, r'.up.trans u2⟩
    refine hg x _ _ _ H2 S' _ _ r2 im q'.2 fun σ3 δ3 H3 S3 r3 u3 w3 q3 => ⟨by rw [(w3 vs hw).1, wipe_wipe], ?_⟩
    refine ht σ3 δ3 H3 S3 _ _ r3 q3 fun b H4 S4 r4 u4 q4 => ?_
    have up4 := u2.trans (u3.trans u4)
    have hp4 : H4 p = some (.lst [.int (sumI ds)]) := up4.keep p _ hacc rfl hS'
    have hS4 : S4 p = none := up4.dom p hS' (by rw [hacc]; simp)
    have t4 := up4.tu r'.sim
    have rel4 : Rel G N σ δ S4 H4 := ⟨r'.sl.go t4, r4.sim, r4.up⟩
    cases b with
    | true =>
      rw [if_pos rfl]
      refine he σ3 δ3 H4 S4 _ _ r4 (q4.1 rfl) fun v e5 H5 S5 i5 r5 u5 q5 => ?_
      cases e5 <;> first | exact q5.elim | skip
      rename_i n
      obtain ⟨l5, q5⟩ := q5
      cases im_int i5
      have up5 := up4.trans u5
      have hp5 : H5 p = some (.lst [.int (sumI ds)]) := up5.keep p _ hacc rfl hS'
      have hS5 : S5 p = none := up5.dom p hS' (by rw [hacc]; simp)
      have t5 := up5.tu r'.sim
      refine ⟨[.int (sumI ds + n)], hp5, ⟨sumI ds, n, rfl, rfl, rfl⟩, ?_⟩
      obtain ⟨s6, t6⟩ := r5.sim.side (acc' := [.int (sumI ds + n)]) hp5 hS5 hsc
      exact ⟨S5, ds ++ [.int n], ⟨(r'.sl.go t5).go t6, s6, r5.up.side hN⟩, (u'.trans up5).side hH1, by rw [sumI_snoc]; exact upd_same, by rw [List.length_append, List.length_singleton]; omega, hS5, q5⟩
    | false =>
      rw [if_neg Bool.false_ne_true]
      exact ⟨hp4, S4, ds, rel4, u'.trans up4, hp4, lacc, hS4, q4.2 rfl⟩
  · have e : i = src.items.length := by omega
    subst e
    rw [List.drop_length] at q'
    obtain ⟨_, a2, _⟩ := jk S' H' r'.sim u' q'.1 _ (Nat.le_refl _)
    refine .inl ⟨a2 rfl, fun t hT => ?_⟩
    rw [hacc] at hT
    cases hT
    exact k _ (.int (sumI ds)) _ S' (.int _) r' (u1.trans u') q'.2

/-! ### sum(xs), abs, **, str(n) -/
theorem im_ints : ∀ {ns : List Int} {vs : List V} {H : Hp}, ImAll G H vs (ns.map D.int) → vs = ns.map V.int
  | [], _, _, h => by cases h; rfl
  | n :: ns, _, _, h => by
    cases h with
    | cons h1 h2 => cases im_int h1; rw [im_ints h2]; rfl
def dSum : BL := fun xs S Q => match xs with
  | [.ref a] => atL S a fun ds => ∃ ns : List Int, ds = ns.map D.int ∧ Q (.int ns.sum) S
  | _ => False
theorem sl_sum : SL G (rSum G.K) dSum := by
  intro xs ds H S Q R hx s h k
  unfold dSum at h
  split at h
  · obtain ⟨v, rfl, i⟩ := ia1 hx
    cases im_ref i
    obtain ⟨ds, e1, ns, rfl, q⟩ := atL_of h
    obtain ⟨vs, hv, i1⟩ := s.ob _ _ e1
    cases im_ints i1
    exact ⟨_, ns, rfl, SqL.of hv, k _ _ H S (.int _) s .refl q⟩
  · exact h.elim
def rAbs : List V → Hp → VK → Prop := fun xs H Q => ∃ i, xs = [.int i] ∧ Q (.int (if i < 0 then -i else i)) H
def dAbs : BL := fun xs S Q => match xs with | [.int i] => Q (.int (if i < 0 then -i else i)) S | _ => False
theorem sl_abs : SL G rAbs dAbs := by
  intro xs ds H S Q R hx s h k
  unfold dAbs at h
  split at h
  · obtain ⟨v, rfl, i⟩ := ia1 hx
    cases im_int i
    exact ⟨_, rfl, k _ _ H S (.int _) s .refl h⟩
  · exact h.elim
def dPow : B2 := fun x y S Q => (dI CPow fun i j => .int (i ^ j.toNat)) x y S Q
theorem s2_pow : S2 G (rI CPow fun i j => .int (i ^ j.toNat)) dPow := s2_I fun _ _ _ => .int _
def rStrN : List V → Hp → VK → Prop := fun xs H Q => ∃ i, xs = [.int i] ∧ i.natAbs.log2 < 1920 ∧ Q (.str (toString i)) H
def numS (i : Int) : Str := toString i
theorem okS_num : ∀ n : Fin 100, okS (numS n.val) ∧ (numS n.val).length ≤ 2 := by decide +kernel
def dStrN : BL := fun xs S Q => match xs with | [.int i] => 0 ≤ i ∧ i < 100 ∧ Q (.str (numS i)) S | _ => False
theorem num_ok {i : Int} (h1 : 0 ≤ i) (h2 : i < 100) : okS (numS i) ∧ (numS i).length ≤ 2 := by
  have := okS_num ⟨i.toNat, by omega⟩
  have e : ((i.toNat : Nat) : Int) = i := by omega
  simp only [e] at this
  exact this
theorem sl_strN : SL G rStrN dStrN := by
  intro xs ds H S Q R hx s h k
  unfold dStrN at h
  split at h
  · obtain ⟨v, rfl, i⟩ := ia1 hx
    obtain ⟨h1, h2, h⟩ := h
    cases im_int i
    rename_i n
    refine ⟨_, rfl, ?_, k _ _ H S (.str _ (num_ok h1 h2).1) s .refl h⟩
    have : n.natAbs < 2 ^ 7 := by omega
    have : n.natAbs.log2 < 7 ∨ n.natAbs = 0 := by
      by_cases z : n.natAbs = 0
      · exact .inr z
      · exact .inl ((Nat.log2_lt z).mpr this)
    rcases this with z | z
    · omega
    · rw [z]; decide
  · exact h.elim
/-! ### slices of texts and of the script -/
theorem okS_cut {z : Str} (h : okS z) (lo hi : Option Int) : okS (cutS z lo hi) := by
  refine ⟨Nat.le_trans (cutS_length z lo hi) h.1, ?_⟩
  have h2 := h.2
  unfold PyData.strOk at h2 ⊢
  rw [Array.all_eq_true'] at h2 ⊢
  intro c hc
  refine h2 c ?_
  unfold cutS at hc
  have hc' := List.mem_toArray.mp hc
  exact Array.mem_toList_iff.mp (List.mem_of_mem_drop (List.mem_of_mem_take hc'))
def dSlX (x : D) (lo hi : Option Int) : Sto → DK → Prop := fun S Q => match x with
  | .str z => Q (.str (cutS z lo hi)) S
  | .scr => (match hi with | some h => 0 ≤ h ∧ ∀ ns : List Int, ns.length ≤ h.toNat → ∀ p, S p = none → Q (.ref p) (sup S p (.lst (ns.map D.int))) | none => False)
  | _ => False
def eSlX (a : DE) (l u : DO) : DE := fun δ S Q => a δ S fun x S1 => l δ S1 fun lo S2 => u δ S2 fun hi S3 => dSlX x lo hi S3 Q
theorem cutV_ints (ns : List Int) (lo hi : Option Int) : cutV (ns.map V.int) lo hi = (((ns.drop (HT.sIx ns.length 0 lo)).take (HT.sIx ns.length ns.length hi - HT.sIx ns.length 0 lo)).map V.int) := by
  unfold cutV
  rw [List.length_map, List.map_take, List.map_drop]
theorem se_slX {ta : TE} {fa : DE} {tl tu : TO} {fl fu : DO} (ha : SE G N ta fa) (hl : SO G N tl fl) (hu : SO G N tu fu) : SE G N (tSl (Ow.rSlU G.K) ta tl tu) (eSlX fa fl fu) := by
  intro σ δ H S Q R rl h k
  refine ha σ δ H S _ _ rl h fun x d H1 S1 i1 r1 u1 q1 => ?_
  refine hl σ δ H1 S1 _ _ r1 q1 fun lo H2 S2 r2 u2 q2 => ?_
  refine hu σ δ H2 S2 _ _ r2 q2 fun hi H3 S3 r3 u3 q3 => ?_
  have i3 := (i1.go (u2.tu r1.sim)).go (u3.tu r2.sim)
  have uu := u1.trans (u2.trans u3)
  unfold dSlX at q3
  split at q3
  · obtain ⟨rfl, o⟩ := im_str i3
    exact .inr (.inr ⟨_, rfl, Nat.le_trans o.1 (le_line (Nat.le_refl _)), k _ _ H3 S3 (.str _ (okS_cut o lo hi)) r3 uu q3⟩)
  · split at q3
    · rename_i h'
      obtain ⟨h0, q⟩ := q3
      cases i3
      have hs : SqL G.K H3 G.scr (G.ns.map V.int) := by
        rcases r3.sim.scr with ⟨_, hr⟩ | hr
        · rcases hr with hr | ⟨o, hr⟩
          · exact SqL.of hr
          · exact .inl (.inr ⟨o, hr⟩)
        · exact hr H3
      refine .inl ⟨_, _, rfl, hs, fun p hp => ?_⟩
      rw [cutV_ints]
      obtain ⟨a1, a2, a3⟩ := new_lst r3.sim hp (ImAll.ints ((G.ns.drop (HT.sIx G.ns.length 0 lo)).take (HT.sIx G.ns.length G.ns.length (some h') - HT.sIx G.ns.length 0 lo)))
      refine k _ _ _ _ (.ref p) (r3.go a2 a3) (uu.trans a3) (q _ ?_ p a1)
      rw [List.length_take, List.length_drop]
      have : HT.sIx G.ns.length G.ns.length (some h') ≤ h'.toNat := by
        unfold HT.sIx
        simp only
        split <;> omega
      omega
    · exact q3.elim
  · exact q3.elim
/-! what is never reached -/
def eNo : DE := fun _ _ _ => False
theorem se_no {t : TE} : SE G N t eNo := fun σ δ H S Q R rl h k => h.elim
end
end Sd

set_option Elab.async false
set_option linter.all false
set_option maxRecDepth 100000
set_option maxHeartbeats 4000000
namespace Ow
open PySem PySem.Spec PyProof.Rows L2
/-! ### xs.extend(t) of a tuple t -/
section
open PySem.AutoSeq1
set_option maxRecDepth 8000 in
theorem ext_tup (l : Addr) (items : Array Value) (n : Nat) (b : Addr) (items2 : Array Value) (n2 : Nat) (dct : Option Addr) (sl : Array (Option Value)) (hs0 : ¬(!items.isEmpty && Builtin.List.listTooLong (items.size + items2.size)) = true) (hs1 : items.size ≤ sizeLine) (hs2 : items.size + items2.size ≤ sizeLine + 1) :
    Meets (Builtin.«list.extend» ⟨[.ref l, .ref b], []⟩) (fun _ R s => s.heap.get? l = some { cls := .type "list", dict := none, data := .seq items n, slots := #[] } ∧ s.heap.get? b = some { cls := .type "tuple", dict := dct, data := .seq items2 n2, slots := sl } ∧ R (.ok (.ret Value.none)) { s with heap := s.heap.update l (Obj.mapSeq fun x => x ++ items2), toks := s.toks }) :=
  .of_wp fun prog w A R s h => by
    obtain ⟨hp, g, d, tk, os⟩ := s; obtain ⟨hl, hb, h⟩ := h; have f1 := idx_int; have f2 := AutoSeq1.sub_tuple_tuple; have f3 := AutoSeq1.sub_list_list; have f4 := AutoSeq1.sub_tuple_list; have f5 := AutoSeq1.sub_list_tuple;
    have hz' : (items ++ items2).size ≤ sizeLine + 1 := by rw [Array.size_append]; exact hs2
    wp_walk using (wpAny_updateSeq hl rfl (hz := hs1) (_hz' := hz')), wpAny_loadPart' hl, wpAny_loadPart' hb; exact ⟨_, rfl, h⟩
end
def rExtT (K : PySem.W.Frag) : V → List V → Hp → VK → Prop := fun x vs H Q => ∃ l b xs zs, x = .ref l ∧ vs = [.ref b] ∧ H l = some (.lst xs) ∧ SqT K H b zs ∧ xs.length + zs.length ≤ sizeLine ∧ Q .non (upd H l (.lst (xs ++ zs)))
theorem mt_extT {X : Cx} : MtM X "list.extend" (rExtT X.K) := by
  intro pins s σ H x vs v us Q I rx rv h
  obtain ⟨l, b, xs, zs, rfl, rfl, hH, hB, hz, q⟩ := h
  cases rx
  obtain ⟨u, rfl, ru⟩ := rv.one
  cases ru
  obtain ⟨z, its, n, r, hl, e⟩ := I.lstM hH
  obtain ⟨its2, r2, ht2, z2⟩ := I.tuple hB
  obtain ⟨⟨c2, dct, dt2, sl2⟩, e2, hc2, n2, hd2⟩ := id ht2
  cases hc2
  cases hd2
  have hl2 := r2.length
  have hsz : its.toArray.size + its2.toArray.size ≤ sizeLine := by rw [List.size_toArray, List.size_toArray]; omega
  have hlong : ¬ (!its.toArray.isEmpty && Builtin.List.listTooLong (its.toArray.size + its2.toArray.size)) = true := by
    rw [notLongL hsz, Bool.and_false]
    exact Bool.false_ne_true
  refine call_meets PySem.F.slot_list_extend ⟨_, e, rfl⟩ PySem.F.entry_list_extend (PySem.F.args_list_extend_2 _ _)
    (ext_tup l its.toArray n b its2.toArray n2 dct sl2 hlong (by rw [List.size_toArray]; omega) (by omega)) ⟨e, e2, ?_⟩
  refine ⟨.non, _, I.lset (its' := its ++ its2) hH e (by simp) (r.append r2) ?_, rfl, q⟩
  rw [List.length_append]
  omega
/-! ### t[k::2] of a tuple -/
def tEvryT (K : PySem.W.Frag) (te : TE) (tl : TO) (k : Nat) : TE := fun σ H Q => te σ H fun x H1 => tl σ H1 fun l H2 => l = some (k : Int) ∧ ∃ a xs, x = .ref a ∧ SqT K H2 a xs ∧ ∀ p, H2 p = none → Q (.ref p) (upd H2 p (.tup (evry (xs.drop k))))
section
variable {prog : Program} {w : World} {A : Around} {E : Value → Shared → Prop} {s : Shared}
theorem sliceApplied_evry {sl : Addr} {vl vs : Value} {k n : Nat} {Q : Int × Int × Nat → Shared → Prop} (hs : s.heap.IsSliceOf sl vl .none vs) (pl : IsPart vl (some (k : Int))) (ps : IsPart vs (some 2))
    (h : Q (((min k n : Nat) : Int), 2, (n - min k n + 1) / 2) s) : wpAny (model prog w) A (Builtin.Slice.sliceApplied (.ref sl) (pure (n : Int))) Q E s := by
  obtain ⟨os, hos, hcs, hds⟩ := id hs
  unfold Builtin.Slice.sliceApplied Builtin.Slice.sliceFields
  refine wpAny_bind (wpAny_bind (wpAny_field hos hds (x := vl) rfl (wpAny_bind (wpAny_field hos hds (x := .none) rfl (wpAny_bind (wpAny_field hos hds (x := vs) rfl (wpAny_pure ?_)))))))
  refine wpAny_bind (HT.slicePart_ ps ?_)
  show wpAny _ _ (if ((2 : Int) == 0) = true then _ else _) _ _ s
  rw [if_neg (by decide)]
  refine wpAny_bind (HT.slicePart_ pl (wpAny_bind (HT.slicePart_ .none (wpAny_bind (wpAny_pure ?_)))))
  show wpAny _ _ (match Builtin.Slice.sliceAdjust (some (k : Int)) none 2 (n : Int) with | (lo, hi) => pure (lo, (2 : Int), Builtin.Slice.slicePlaces lo hi 2)) _ _ s
  have e1 : Builtin.Slice.sliceAdjust (some (k : Int)) none 2 (n : Int) = (((min k n : Nat) : Int), (n : Int)) := by
    unfold Builtin.Slice.sliceAdjust
    have h1 : ¬ ((2 : Int) < 0) := by decide
    have h2 : ¬ ((k : Int) < 0) := by omega
    simp only [h1, h2, if_false]
    congr 1
    omega
  rw [e1]
  have e2 : Builtin.Slice.slicePlaces ((min k n : Nat) : Int) (n : Int) 2 = (n - min k n + 1) / 2 := by
    unfold Builtin.Slice.slicePlaces
    have h1 : ((2 : Int) > 0) := by decide
    simp only [h1, if_true]
    split <;> omega
  show wpAny _ _ (pure (((min k n : Nat) : Int), (2 : Int), Builtin.Slice.slicePlaces ((min k n : Nat) : Int) (n : Int) 2)) _ _ s
  rw [e2]
  exact wpAny_pure h
theorem pick_evryT (its : List Value) (k : Nat) : ((List.range ((its.length - min k its.length + 1) / 2)).filterMap fun (m : Nat) => its.toArray[(((min k its.length : Nat) : Int) + (m : Int) * 2).toNat]?).toArray = (evry (its.drop k)).toArray := by
  congr 1
  rw [← range_evry (its.drop k)]
  have e1 : ((its.drop k).length + 1) / 2 = (its.length - min k its.length + 1) / 2 := by rw [List.length_drop]; omega
  rw [e1]
  by_cases hk : k ≤ its.length
  · congr 1
    funext m
    rw [List.getElem?_drop, Nat.min_eq_left hk, show ((k : Int) + (m : Int) * 2).toNat = k + 2 * m by omega]
    simp
  · have : (its.length - min k its.length + 1) / 2 = 0 := by omega
    rw [this]
    rfl
theorem getItem_tuple_evry {t sl : Addr} {its : List Value} {vl vs : Value} {k : Nat} {Q : Value → Shared → Prop} (ht : IsTup s.heap t its.toArray) (hs : s.heap.IsSliceOf sl vl .none vs) (pl : IsPart vl (some (k : Int))) (ps : IsPart vs (some 2))
    (h : Q (.ref s.heap.objs.size) { s with heap := s.heap.push { cls := .type "tuple", data := .seq (evry (its.drop k)).toArray } })
    (hsz : its.length ≤ sizeLine) : wpAny (model prog w) A (getItem (.ref t) (.ref sl)) Q E s := by
  have htake : sizeOk (.seq (evry (its.drop k)).toArray) := by
    show (evry (its.drop k)).toArray.size ≤ sizeLine
    rw [List.size_toArray, evry_len, List.length_drop]
    omega
  obtain ⟨os, hos, hcs, hds⟩ := id hs
  have hTs : s.TypeIs (.ref sl) "slice" := ⟨os, hos, hcs⟩
  unfold getItem
  try with_reducible refine wpAny_holding ?_
  first | refine wpAny_bind (wpAny_pure ?_) | skip
  refine wpAny_bind (wpAny_sequenceKey ht.typeIs (by decide) ?_)
  refine wpAny_bind (wpAny_callSpecial?_slot (name := Str.ofString "__getitem__") ht.typeIs PyProof.Rows.slot_tuple_getitem
    (wpAny_call_entry PyProof.Rows.slot_tuple_getitem ht.typeIs entry_tuple_getitem ?_ (args_tuple_getitem _ _)))
  show wpAny _ _ (Builtin.Tuple.tupleItemsOf (.ref t) >>= _) _ _ s
  refine wpAny_bind (tupleItemsOf_ ht ?_)
  refine wpAny_bind (wpAny_typeOf hTs ?_)
  rw [if_pos (by decide)]
  refine wpAny_bind (sliceApplied_evry (k := k) hs pl ps ?_)
  show wpAny _ _ (if ((((min k its.toArray.size : Nat) : Int) == 0 && (2 : Int) == 1 && (its.toArray.size - min k its.toArray.size + 1) / 2 == its.toArray.size) = true) then _ else _) _ _ s
  have hno : ¬ (((((min k its.toArray.size : Nat) : Int) == 0 && (2 : Int) == 1 && (its.toArray.size - min k its.toArray.size + 1) / 2 == its.toArray.size) = true)) := by
    rw [show ((2 : Int) == 1) = false from rfl, Bool.and_false, Bool.false_and]
    exact Bool.false_ne_true
  rw [if_neg hno, List.size_toArray, pick_evryT]
  first
    | exact wpAny_bind (m := Builtin.Tuple.tupleExact _) (wpAny_newObj_type (wpAny_pure ⟨_, rfl, wpAny_pure h⟩) htake)
    | exact wpAny_bind (m := Builtin.Tuple.tupleExact _) (wpAny_newObj_type (wpAny_bind (wpAny_pure (wpAny_pure ⟨_, rfl, wpAny_pure h⟩))) htake)
    | exact wpAny_bind (wpAny_bind (m := Builtin.Tuple.tupleExact _) (wpAny_newObj_type (wpAny_pure (wpAny_pure ⟨_, rfl, wpAny_pure h⟩)) htake))
    | exact wpAny_bind (wpAny_bind (m := Builtin.Tuple.tupleExact _) (wpAny_newObj_type (wpAny_pure ⟨_, rfl, wpAny_pure h⟩) htake))
end
theorem pe_evryT {X : Cx} {e lo st : Expr} {p2 pos : Pos} {te : TE} {tl : TO} {k : Nat} (he : PE X e te) (hl : PO X (some lo) tl) (hst : PE X st (tC (.int 2))) : PE X (.Subscript e (.Slice (some lo) none (some st) p2) pos) (tEvryT X.K te tl k) := by
  refine ⟨fun pins s σ H Q I h => ?_⟩
  refine Subscript_ (thn (he.run pins s σ H _ I h) fun v s1 ⟨x, H1, I1, r1, q1⟩ => ?_)
  refine wpAny_Slice (thn (hl.run pins s1 σ H1 _ I1 q1) fun vl s2 ⟨l, H2, I2, pl, el, a, xs, ex, hx, q⟩ => ?_)
  subst el ex
  rw [evalPart_none]
  refine wpAny_pure ?_
  rw [evalPart_some]
  refine thn (hst.run pins s2 σ H2 (fun y H3 => y = .int 2 ∧ H3 = H2) I2 ⟨rfl, rfl⟩) fun vs s3 ⟨y, H3, I3, r3, e3, e4⟩ => ?_
  subst e3 e4
  cases r1
  obtain ⟨t3, rfl⟩ := r3
  have I4 : Inv X pins σ H3 { s3 with heap := s3.heap.push { cls := .type "slice", data := .fields #[vl, .none, .int 2 t3] } } := I3.kept (t' := s3.toks) fun b ob z => Heap.get?_push_of_some _ z
  obtain ⟨its, r, ht, hz⟩ := I4.tuple hx
  have hlen := r.length
  refine tail_any (ops := [.ref a, .ref s3.heap.objs.size]) ht.typeIs PyProof.Rows.slot_tuple_getitem.lookup ?_ (by with_unfolding_all rfl)
  refine getItem_tuple_evry (k := k) ht (Heap.IsSliceOf.new ..) pl (IsPart.int 2 t3) ?_ (by omega)
  refine ⟨.ref _, _, I4.laid (t' := s3.toks) (o := .tup (evry (xs.drop k))) (fun b ob z => Heap.get?_push_of_some _ z) (Nat.le_refl _) ?_, rfl, q _ (I4.hok.fresh (Nat.le_refl _))⟩
  refine ⟨?_, _, vals_evry (r.drop k), IsTup.new _ _⟩
  rw [evry_len, List.length_drop]
  omega
end Ow
namespace Sd
open PySem PySem.Spec PyProof.Rows L2 GxR
def dExtT : D → List D → Sto → DK → Prop := fun x xs S Q => match x, xs with
  | .ref a, [.tup es] => atL S a fun ds => ds.length + es.length ≤ 1000000 ∧ Q .non (sup S a (.lst (ds ++ es)))
  | _, _ => False
section
variable {G : Gm} {N : En}
theorem sm_extT : SM G (Ow.rExtT G.K) dExtT := by
  intro x d xs ds H S Q R hx hxs s h k
  unfold dExtT at h
  split at h
  · obtain ⟨v, rfl, i⟩ := ia1 hxs
    cases im_ref hx
    obtain ⟨es, e1, l, q⟩ := atL_of h
    obtain ⟨vs, hv, iv⟩ := s.ob _ _ e1
    obtain ⟨b, zs, rfl, e2, j2⟩ := im_tup i
    obtain ⟨s3, u3, t3⟩ := put_lst s e1 hv (iv.append j2)
    exact ⟨_, b, vs, zs, rfl, rfl, hv, SqT.of e2, by rw [iv.length, j2.length]; exact le_line l, k _ _ _ _ .non s3 u3 q⟩
  · exact h.elim
def eEvryT (k : Nat) (fa : DE) : DE := fun δ S Q => fa δ S fun x S1 => match x with
  | .tup ds => Q (.tup (Ow.evry (ds.drop k))) S1
  | _ => False
theorem se_evryT {k : Nat} {ta : TE} {fa : DE} (ha : SE G N ta fa) : SE G N (Ow.tEvryT G.K ta (tPart (tC (.int (k : Int)))) k) (eEvryT k fa) := by
  intro σ δ H S Q R rl h kk
  refine ha σ δ H S _ _ rl h fun x d H1 S1 i1 r1 u1 q1 => ?_
  cases d <;> first | exact q1.elim | skip
  obtain ⟨a, vs, rfl, e1, iv⟩ := im_tup i1
  refine ⟨(k : Int), rfl, rfl, a, vs, rfl, SqT.of e1, fun p hp => ?_⟩
  obtain ⟨a1, a2, a3⟩ := new_tup r1.sim hp ((iv.drop k).evry)
  exact kk _ _ _ S1 a1 (r1.go a2 a3) (u1.trans a3) q1
/-! ### zip of two tuples -/
def zipT (xs ys : List D) : List D := List.zipWith (fun a b => D.tup [a, b]) xs ys
def iZT (fa : DA) : DI := fun δ S Q => fa δ S fun xs S1 => match xs with | [.tup ds, .tup es] => Q ⟨zipT ds es, fun _ => True⟩ S1 | _ => False
theorem jok_zipT {a b : Addr} {xs ys : List V} {ds es : List D} {S : Sto} {H : Hp} (s : Sim G S H) (e1 : H a = some (.tup xs)) (i1 : ImAll G H xs ds) (e2 : H b = some (.tup ys)) (i2 : ImAll G H ys es) : JOk G (RZ.ItzT G.K a b) ⟨zipT ds es, fun _ => True⟩ S H := by
  intro S2 H2 s2 u2 _ i hi
  have hl := i1.length
  have hl2 := i2.length
  have t := u2.tu s
  have q1 : SqT G.K H2 a xs := SqT.of (t _ _ rfl e1)
  have q2 : SqT G.K H2 b ys := SqT.of (t _ _ rfl e2)
  have hz : (zipT ds es).length = min ds.length es.length := by simp [zipT]
  simp only [hz] at hi ⊢
  refine ⟨fun y => ⟨xs, ys, xs[i]'(by omega), ys[i]'(by omega), q1, q2, List.getElem?_eq_getElem _, List.getElem?_eq_getElem _⟩, fun y => ⟨xs, ys, q1, q2, by omega⟩, fun x H' y w => ?_⟩
  obtain ⟨T, c, v, rfl, hT, rfl, hc, hv⟩ := w
  obtain ⟨d, hd, id⟩ := i1.get (hc xs q1)
  obtain ⟨e, he, ie⟩ := i2.get (hv ys q2)
  obtain ⟨a1, a2, a3⟩ := new_tup s2 hT (.cons (id.go t) (.cons (ie.go t) .nil))
  refine ⟨.tup [d, e], ?_, a1, a2, a3, Ext.lay hT⟩
  simp only [zipT, List.getElem?_zipWith, hd, he]
theorem si_zipT {tl : TA} {fl : DA} (ha : SA G N tl fl) : SI G N (RZ.iZipA G.K tl) (iZT fl) := by
  intro σ δ H S Q R r h k
  refine ha σ δ H S _ _ r h fun vs ds H1 S1 i1 r1 u1 q1 => ?_
  split at q1
  · match i1 with
    | .cons ix (.cons iy .nil) =>
      obtain ⟨a, xs, rfl, e1, j1⟩ := im_tup ix
      obtain ⟨b, ys, rfl, e2, j2⟩ := im_tup iy
      exact ⟨a, b, xs, ys, rfl, .inr ⟨SqT.of e1, SqT.of e2, k _ _ H1 S1 (jok_zipT r1.sim e1 j1 e2 j2) r1 u1 q1⟩⟩
  · exact q1.elim
/-! ### a written dict {k: v, ..} with written keys -/
def pairsD : List (Key × DE) → DV → Sto → (List (Key × D) → Sto → Prop) → Prop
  | [], _, S, Q => Q [] S
  | (k, f) :: r, δ, S, Q => f δ S fun v S1 => pairsD r δ S1 fun kvs S2 => Q ((k, v) :: kvs) S2
def eDisp (ps : List (Key × DE)) : DE := fun δ S Q => pairsD ps δ S fun kvs S1 => ∀ p, S1 p = none → Q (.ref p) (sup S1 p (.dK kvs))
variable (G N) in
inductive PS : List (TE × TE) → List (Key × DE) → Prop
  | nil : PS [] []
  | cons {k : Key} {tv : TE} {fv : DE} {trs : List (TE × TE)} {ps : List (Key × DE)} : SE G N tv fv → PS trs ps → PS ((tC (kV k), tv) :: trs) ((k, fv) :: ps)
theorem pairs_ok {trs : List (TE × TE)} {ps : List (Key × DE)} (h : PS G N trs ps) : ∀ (σ : L2.St) (δ : DV) (H : Hp) (S : Sto) (Q : List (Key × D) → Sto → Prop) (R : List (V × V) → Hp → Prop), Rel G N σ δ S H → pairsD ps δ S Q →
    (∀ (ks : List (Key × V)) (kd : List (Key × D)) H' S', KvAll G H' ks kd → ks.map (·.1) = ps.map (·.1) → Rel G N σ δ S' H' → Up S S' H H' → Q kd S' → R (ks.map fun kv => (kV kv.1, kv.2)) H') → tPairs trs σ H R := by
  induction h with
  | nil => intro σ δ H S Q R rl h k; exact k [] [] H S .nil rfl rl .refl h
  | @cons ky tv fv trs ps he _ ih =>
    intro σ δ H S Q R rl h k
    show tv σ H _
    refine he σ δ H S _ _ rl h fun v d H1 S1 i1 r1 u1 q1 => ?_
    refine ih σ δ H1 S1 _ _ r1 q1 fun ks kd H2 S2 kv e r2 u2 q2 => ?_
    exact k ((ky, v) :: ks) ((ky, d) :: kd) H2 S2 (.cons (i1.go (u2.tu r1.sim)) kv) (by rw [List.map_cons, List.map_cons, e]) r2 (u1.trans u2) q2
theorem merge_app : ∀ (more acc : List (Key × V)), ((acc ++ more).map (·.1)).Nodup → mergeK acc more = acc ++ more
  | [], acc, _ => by rw [List.append_nil]; rfl
  | kv :: more, acc, h => by
    show mergeK (putK acc kv.1 kv.2) more = _
    have e : putK acc kv.1 kv.2 = acc ++ [kv] := by
      unfold putK
      rw [if_neg]
      intro z
      obtain ⟨x, hx, hk⟩ := List.any_eq_true.mp z
      rw [List.map_append, List.nodup_append] at h
      exact h.2.2 _ (List.mem_map_of_mem hx) _ (List.mem_map_of_mem (List.mem_cons_self)) (of_decide_eq_true hk)
    rw [e, merge_app more (acc ++ [kv]) (by rw [List.append_assoc]; exact h), List.append_assoc]
    rfl
theorem Sim.adopt {S : Sto} {H : Hp} {p : Addr} {ks0 ks : List (Key × V)} {kd : List (Key × D)} (s : Sim G S H) (hp : H p = some (.dK ks0)) (hS : S p = none) (hs : G.scr ≠ p ∨ ∀ H1, SqL G.K H1 G.scr (G.ns.map V.int)) (i : KvAll G H ks kd) :
    Sim G (sup S p (.dK kd)) (upd H p (.dK ks)) ∧ Tu H (upd H p (.dK ks)) := by
  have t : Tu H (upd H p (.dK ks)) := fun b xs hT h => by rw [upd_ne (fun y => by rw [y, hp] at h; cases h; cases hT)]; exact h
  have hc : ∀ c, S c = some .cells → (sup S p (.dK kd)) c = some .cells := fun c z => by rw [sup_ne (sne z hS)]; exact z
  refine ⟨⟨fun a o h => ?_, fun P hP => ?_, ?_⟩, t⟩
  · by_cases y : a = p
    · subst y
      rw [sup_same] at h
      cases h
      exact ⟨ks, upd_same, i.go t⟩
    · rw [sup_ne y] at h
      exact (s.ob a o h).go (fun _ z _ => by rw [upd_ne y]; exact z) t hc
  · obtain ⟨ps, e, tr⟩ := s.tab P hP
    exact ⟨ps, by rw [upd_ne (fun y => by rw [y, hp] at e; cases e)]; exact e, tr⟩
  · rcases s.scr with ⟨h1, h2⟩ | h
    · rcases hs with np | h
      · refine .inl ⟨by rw [sup_ne np]; exact h1, ?_⟩
        rcases h2 with h2 | ⟨o, h2⟩
        · exact .inl (by rw [upd_ne np]; exact h2)
        · exact .inr ⟨o, by rw [upd_ne np]; exact h2⟩
      · exact .inr h
    · exact .inr h
theorem se_disp {trs : List (TE × TE)} {ps : List (Key × DE)} (h : PS G N trs ps) (hn : (ps.map (·.1)).Nodup) (hl : ps.length ≤ 15) : SE G N (tDisp trs) (eDisp ps) := by
  intro σ δ H S Q R rl q k p hp
  have e0 := Ext.lay (o := HO.dK []) hp
  have hN : N.H p = none := by
    cases z : N.H p with
    | none => rfl
    | some o => exact absurd hp (rl.up.there p (by rw [z]; simp))
  have hS := rl.sim.free hp
  have hsc := rl.sim.scrNe hp
  refine pairs_ok h σ δ _ S _ _ ⟨rl.sl.go e0.tu, rl.sim.ext e0, rl.up.trans (Up.of_ext e0)⟩ q fun ks kd H2 S2 kv ek r2 u2 q2 => ?_
  have hp2 : H2 p = some (.dK []) := u2.keep p _ upd_same rfl hS
  have hS2 : S2 p = none := u2.dom p hS (by rw [upd_same]; simp)
  have e3 : mergeK [] ks = ks := merge_app ks [] (by rw [List.nil_append, ek]; exact hn)
  obtain ⟨s3, t3⟩ := r2.sim.adopt (ks := ks) hp2 hS2 hsc kv
  refine ⟨hp2, ks, rfl, ?_, ?_⟩
  · have := congrArg List.length ek
    rw [List.length_map, List.length_map] at this
    omega
  · rw [e3]
    exact k _ _ _ _ (.ref p) ⟨r2.sl.go t3, s3, (r2.up.side hN).take hN⟩ ((((Up.of_ext e0).trans u2).side hp).take hp) (q2 p hS2)
def dLenS : BL := fun xs S Q => match xs with | [.scr] => ∀ n : Nat, Q (.int n) S | _ => False
theorem sl_lenS : SL G (Ow.rLenU G.K) dLenS := by
  intro xs ds H S Q R hx s h k
  unfold dLenS at h
  split at h
  · obtain ⟨v, rfl, i⟩ := ia1 hx
    cases i
    have hs : SqL G.K H G.scr (G.ns.map V.int) := by
      rcases s.scr with ⟨_, hr⟩ | hr
      · rcases hr with hr | ⟨o, hr⟩
        · exact SqL.of hr
        · exact .inl (.inr ⟨o, hr⟩)
      · exact hr H
    exact ⟨_, (G.ns.map V.int).length, rfl, .inl ⟨_, hs, rfl⟩, k _ _ H S (.int _) s .refl (h _)⟩
  · exact h.elim
end
end Sd

set_option Elab.async false
set_option linter.all false
set_option maxRecDepth 100000
set_option maxHeartbeats 4000000
namespace Sd
open PySem PySem.Spec PyProof.Rows L2 GxR
section
variable {G : Gm} {N : En}
/-! ### != of lists -/
def dNeL : B2 := fun x y S Q => match x with
  | .ref p => match y with
    | .ref q => atL S p fun ds => atL S q fun es => dats 60 ds = true ∧ dats 60 es = true ∧ Q (.bl (!PyData.eqvAll (pys ds) (pys es))) S
    | _ => False
  | _ => False
theorem dNeL_r {p q : Addr} {S : Sto} {Q : DK} : dNeL (.ref p) (.ref q) S Q = atL S p fun ds => atL S q fun es => dats 60 ds = true ∧ dats 60 es = true ∧ Q (.bl (!PyData.eqvAll (pys ds) (pys es))) S := rfl
theorem s2_neL : S2 G (Ow.rNeU G.K) dNeL := by
  intro x y d e H S Q R hx hy s h k
  unfold dNeL at h
  split at h
  · split at h
    · cases im_ref hx
      cases im_ref hy
      obtain ⟨ds, e1, h⟩ := atL_of h
      obtain ⟨es, e2, c1, c2, q⟩ := atL_of h
      obtain ⟨vs, hv, i1⟩ := s.ob _ _ e1
      obtain ⟨ws, hw, i2⟩ := s.ob _ _ e2
      obtain ⟨a1, a2, a3⟩ := dps_of 60 ds vs c1 i1
      obtain ⟨b1, b2, b3⟩ := dps_of 60 es ws c2 i2
      refine .inr ⟨_, _, .lst (SqL.of hv) a1, .lst (SqL.of hw) b1, shaped_of (by rw [PyData.canLay0]; exact a2) (by rw [PyData.depth]; omega), shaped_of (by rw [PyData.canLay0]; exact b2) (by rw [PyData.depth]; omega), ?_⟩
      exact k _ _ H S (.bl _) s .refl q
    · exact h.elim
  · exact h.elim
/-! ### dict(d): a copy -/
def rDictC : List V → Hp → VK → Prop := fun xs H Q => ∃ (a : Addr) (kvs : List (Key × V)), xs = [.ref a] ∧ Rd H a (.dK kvs) ∧ ∀ p, H p = none → Q (.ref p) (upd H p (.dK kvs))
def dDictC : BL := fun xs S Q => match xs with
  | [.ref a] => (match S a with | some (.dK kvs) => ∀ p, S p = none → Q (.ref p) (sup S p (.dK kvs)) | _ => False)
  | _ => False
theorem dDictC_eq {a : Addr} {kvs : List (Key × D)} {S : Sto} {Q : DK} (h : S a = some (.dK kvs)) : dDictC [.ref a] S Q = ∀ p, S p = none → Q (.ref p) (sup S p (.dK kvs)) := by unfold dDictC; dsimp only; rw [h]
theorem sl_dictC : SL G rDictC dDictC := by
  intro xs ds H S Q R hx s h k
  unfold dDictC at h
  split at h
  · obtain ⟨v, rfl, i⟩ := ia1 hx
    cases im_ref i
    split at h
    · rename_i kvs hs
      obtain ⟨ks, hk, kv⟩ := s.ob _ _ hs
      refine ⟨_, ks, rfl, .inl hk, fun p hp => ?_⟩
      have hl := s.lay (o := .dK kvs) (ho := .dK ks) hp ⟨ks, upd_same, kv.go (Ext.lay hp).tu⟩
      exact k _ _ _ _ (.ref p) hl.1 hl.2 (h p (s.free hp))
    · exact h.elim
  · exact h.elim
/-! ### sorted of texts -/
def srtQ (xs : List Str) (S : Sto) (Q : DK) : Prop := xs.length < 64 ∧ ∀ (zs : List Str) (p : Addr), zs.Perm xs → sortedS zs = true → S p = none → Q (.ref p) (sup S p (.lst (zs.map D.str)))
theorem im_strsN {H : Hp} : ∀ {ys : List Str}, (∀ y ∈ ys, okS y) → ImAll G H (ys.map V.str) (ys.map D.str)
  | [], _ => .nil
  | y :: ys, h => .cons (.str _ (h y List.mem_cons_self)) (im_strsN fun z hz => h z (List.mem_cons_of_mem _ hz))
def dSortS : BL := fun xs S Q => match xs with
  | [.ref a] => atL S a fun ds => ∃ xs : List Str, ds = xs.map D.str ∧ srtQ xs S Q
  | _ => False
theorem sl_sortS : SL G (rSortedS G.K) dSortS := by
  intro xs ds H S Q R hx s h k
  unfold dSortS at h
  split at h
  · obtain ⟨v, rfl, i⟩ := ia1 hx
    cases im_ref i
    obtain ⟨ds, e1, xs, rfl, h64, q⟩ := atL_of h
    obtain ⟨vs, hv, i1⟩ := s.ob _ _ e1
    obtain ⟨rfl, ok⟩ := im_strs i1
    refine ⟨_, xs, rfl, SqL.of hv, h64, fun zs p hz hs hp => ?_⟩
    obtain ⟨a1, a2, a3⟩ := new_lst s hp (im_strsN fun y hy => ok y (hz.mem_iff.mp hy))
    exact k _ _ _ _ (.ref p) a2 a3 (q zs p hz hs a1)
  · exact h.elim
def eSortG (wi : DI) (g : DG) (tt : DT) (te : DE) (vs : List Nat) : DE := fun δ S Q => wi δ S fun src S1 => lcD src.ok g tt te (wipeD δ vs) src.items [] S1 fun ys S2 => ∃ xs : List Str, ys = xs.map D.str ∧ srtQ xs S2 Q
theorem se_sortG {P : Addr} {ws vs : List Nat} {twi : TI} {wi : DI} {tg : TG} {g : DG} {tt : TT} {ft : DT} {te : TE} {fe : DE} (hP : P ∈ G.tabs) (hi : SI G N twi wi) (hg : SG G N ws tg g) (ht : ST G N tt ft) (he : SE G N te fe) (hw : ∀ i ∈ ws, i ∈ vs) :
    SE G N (Ow.tSortG P twi tg tt te vs) (eSortG wi g ft fe vs) := by
  intro σ δ H S Q R r h k
  refine hi σ δ H S _ _ r h fun J src H1 S1 jk r1 u1 q1 => ⟨r1.sim.tab P hP, fun H2 htb p hp => ?_⟩
  have ea := Ext.tabbed (r1.sim.tab P hP) htb
  have ra : Rel G N σ δ S1 H2 := ⟨r1.sl.go ea.tu, r1.sim.ext ea, r1.up.trans (Up.of_ext ea)⟩
  have ua : Up S1 S1 H1 H2 := Up.of_ext ea
  have hsc := ra.sim.scrNe hp
  have e0 := Ext.lay (o := HO.lst []) hp
  have hN : N.H p = none := by
    cases z : N.H p with
    | none => rfl
    | some o => exact absurd hp (ra.up.there p (by rw [z]; simp))
  refine ⟨fun i m H' => m = src.items.length - i ∧ i ≤ src.items.length ∧ ∃ S' acc ds, Rel G N σ δ S' H' ∧ Up S1 S' H1 H' ∧ H' p = some (.lst acc) ∧ ImAll G H' acc ds ∧ ds.length ≤ 1000000 ∧ S' p = none ∧ lcD src.ok g ft fe (wipeD δ vs) (src.items.drop i) ds S' (fun ys S2 => ∃ xs : List Str, ys = xs.map D.str ∧ srtQ xs S2 Q),
    ⟨src.items.length, by simp, Nat.zero_le _, S1, [], [], ⟨ra.sl.go e0.tu, ra.sim.ext e0, ra.up.trans (Up.of_ext e0)⟩, ua.trans (Up.of_ext e0), upd_same, .nil, Nat.zero_le _, ra.sim.free hp, by simpa using q1⟩, ?_⟩
  have hH1 : H1 p = none := by
    cases z : H1 p with
    | none => rfl
    | some o => exact absurd hp (ua.there p (by rw [z]; simp))
  rintro i m H' ⟨rfl, hi', S', acc, ds, r', u', hacc, iacc, lacc, hS', q'⟩
  by_cases hlt : i < src.items.length
  · rw [List.drop_eq_getElem_cons hlt] at q'
    obtain ⟨a1, _, a3⟩ := jk S' H' r'.sim u' q'.1 i hi'
    refine .inr ⟨a1 hlt, fun H2 => ∃ S2 acc2 ds2, Rel G N σ δ S2 H2 ∧ Up S1 S2 H1 H2 ∧ H2 p = some (.lst acc2) ∧ ImAll G H2 acc2 ds2 ∧ ds2.length ≤ 1000000 ∧ S2 p = none ∧ lcD src.ok g ft fe (wipeD δ vs) (src.items.drop (i + 1)) ds2 S2 (fun ys S2 => ∃ xs : List Str, ys = xs.map D.str ∧ srtQ xs S2 Q),
      fun H2 ⟨S2, acc2, ds2, x⟩ => ⟨src.items.length - (i + 1), by omega, rfl, hlt, S2, acc2, ds2, x⟩, fun x H2 y => ?_⟩
    obtain ⟨d, hd, im, s2, u2, e2⟩ := a3 x H2 hlt y
    rw [List.getElem?_eq_getElem hlt] at hd
    cases hd
    have r2 : Rel G N (L2.wipe σ vs) (wipeD δ vs) S' H2 := ⟨(r'.sl.go e2.tu).wipe vs, s2, r'.up.trans u2⟩
    refine hg x _ _ _ H2 S' _ _ r2 im q'.2 fun σ3 δ3 H3 S3 r3 u3 w3 q3 => ⟨by rw [(w3 vs hw).1, wipe_wipe], ?_⟩
    refine ht σ3 δ3 H3 S3 _ _ r3 q3 fun b H4 S4 r4 u4 q4 => ?_
    have up4 := u2.trans (u3.trans u4)
    have hp4 : H4 p = some (.lst acc) := up4.keep p _ hacc rfl hS'
    have hS4 : S4 p = none := up4.dom p hS' (by rw [hacc]; simp)
    have t4 := up4.tu r'.sim
    have rel4 : Rel G N σ δ S4 H4 := ⟨r'.sl.go t4, r4.sim, r4.up⟩
    cases b with
    | true =>
      rw [if_pos rfl]
      refine he σ3 δ3 H4 S4 _ _ r4 (q4.1 rfl) fun v e5 H5 S5 i5 r5 u5 ⟨l5, q5⟩ => ?_
      have up5 := up4.trans u5
      have hp5 : H5 p = some (.lst acc) := up5.keep p _ hacc rfl hS'
      have hS5 : S5 p = none := up5.dom p hS' (by rw [hacc]; simp)
      have t5 := up5.tu r'.sim
      refine ⟨acc, hp5, Nat.lt_of_lt_of_le (by rw [iacc.length]; exact l5) (le_line (Nat.le_refl _)), ?_⟩
      obtain ⟨s6, t6⟩ := r5.sim.side (acc' := acc ++ [v]) hp5 hS5 hsc
      exact ⟨S5, acc ++ [v], ds ++ [e5], ⟨(r'.sl.go t5).go t6, s6, r5.up.side hN⟩, (u'.trans up5).side hH1, upd_same, ((iacc.go t5).snoc i5).go t6, by rw [List.length_append, List.length_singleton]; omega, hS5, q5⟩
    | false =>
      rw [if_neg Bool.false_ne_true]
      exact ⟨S4, acc, ds, rel4, u'.trans up4, hp4, iacc.go t4, lacc, hS4, q4.2 rfl⟩
  · have e : i = src.items.length := by omega
    subst e
    rw [List.drop_length] at q'
    obtain ⟨_, a2, _⟩ := jk S' H' r'.sim u' q'.1 _ (Nat.le_refl _)
    obtain ⟨xs, rfl, h64, q⟩ := q'.2
    obtain ⟨rfl, ok⟩ := im_strs iacc
    refine .inl ⟨a2 rfl, xs, hacc, h64, fun zs T hz hs hT => ?_⟩
    obtain ⟨b1, b2, b3⟩ := new_lst r'.sim hT (im_strsN fun y hy => ok y (hz.mem_iff.mp hy))
    exact k _ _ _ _ (.ref T) (r'.go b2 b3) (u1.trans (u'.trans b3)) (q zs T hz hs b1)
/-! ### sum(d.values()) -/
def eSumV (fd : DE) : DE := fun δ S Q => fd δ S fun x S1 => match x with
  | .ref d => (match S1 d with | some (.dK kvs) => ∃ ns : List Int, kvs.map (·.2) = ns.map D.int ∧ Q (.int ns.sum) S1 | _ => False)
  | _ => False
theorem kv_ints {κ : Type} {H : Hp} : ∀ {r : List (κ × V)} {s : List (κ × D)} {ns : List Int}, KvAll G H r s → s.map (·.2) = ns.map D.int → r.map (·.2) = ns.map V.int
  | _, _, [], .nil, _ => rfl
  | _, _, n :: ns, .nil, h => by cases h
  | _, _, [], .cons _ _, h => by cases h
  | _, _, n :: ns, .cons (d := d) i t, h => by
    rw [List.map_cons, List.map_cons] at h
    obtain ⟨h1, h2⟩ := List.cons_eq_cons.mp h
    have h1 : d = D.int n := h1
    rw [h1] at i
    rw [List.map_cons, List.map_cons, kv_ints t h2, im_int i]
theorem se_sumV {td : TE} {fd : DE} (hd : SE G N td fd) : SE G N (Ow.tSumVals td) (eSumV fd) := by
  intro σ δ H S Q R rl h k
  refine hd σ δ H S _ _ rl h fun x e H1 S1 i1 r1 u1 q1 => ?_
  cases e <;> first | exact q1.elim | skip
  rename_i d
  dsimp only at q1
  split at q1
  · rename_i kvs hs
    obtain ⟨ks, hk, kv⟩ := r1.sim.ob _ _ hs
    obtain ⟨ns, hn, q⟩ := q1
    cases im_ref i1
    exact ⟨d, ks, rfl, .inl hk, ns, kv_ints kv hn, k _ _ H1 S1 (.int _) r1 u1 q⟩
  · exact q1.elim
/-! ### a dict that is locked while it is read -/
def lkVar (i : Nat) : DV → Sto → Option Addr := fun δ _ => match δ[i]? with | some (some (.ref d)) => some d | _ => none
def lkFld (i j : Nat) : DV → Sto → Option Addr := fun δ S => match δ[i]? with
  | some (some (.ref a)) => (match S a with | some (.ins _ _ ds) => (match ds[j]? with | some (.ref d) => some d | _ => none) | _ => none)
  | _ => none
def eLockE (lk : DV → Sto → Option Addr) (f : DE) : DE := fun δ S Q => match lk δ S with
  | some d => (match S d with | some (.dK kvs) => ∀ o ks, f δ (sup S d (.fK kvs o ks)) fun v S' => S' d = some (.fK kvs o ks) ∧ Q v (sup S' d (.dK kvs)) | _ => False)
  | none => False
theorem eLockE_eq {lk : DV → Sto → Option Addr} {f : DE} {δ : DV} {S : Sto} {Q : DK} {d : Addr} {kvs : List (Key × D)} (h : lk δ S = some d) (h2 : S d = some (.dK kvs)) :
    eLockE lk f δ S Q = ∀ o ks, f δ (sup S d (.fK kvs o ks)) fun v S' => S' d = some (.fK kvs o ks) ∧ Q v (sup S' d (.dK kvs)) := by unfold eLockE; rw [h]; dsimp only; rw [h2]
theorem se_lock {lk : DV → Sto → Option Addr} {t : TE} {f : DE} (hf : SE G N t f) : SE G N (tLockE t) (eLockE lk f) := by
  intro σ δ H S Q R rl h k
  unfold eLockE at h
  split at h
  · rename_i d hd
    split at h
    · rename_i kvs hs
      obtain ⟨ks, hk, kv⟩ := rl.sim.ob _ _ hs
      refine ⟨d, .dK ks, hk, trivial, fun od => ?_⟩
      have t1 : Tu H (upd H d (.frz od (.dK ks))) := fun b xs hT e => by rw [upd_ne (fun y => by rw [y, hk] at e; cases e; cases hT)]; exact e
      obtain ⟨s1, u1⟩ := rl.sim.put (o := .fK kvs od ks) (ho := .frz od (.dK ks)) hs (by simp) rfl ⟨upd_same, kv.go t1⟩
      refine hf σ δ _ _ _ _ ⟨rl.sl.go t1, s1, rl.up.trans u1⟩ (h od ks) fun v e H2 S2 i2 r2 u2 q2 => ?_
      obtain ⟨e2, q2⟩ := q2
      obtain ⟨hk2, kv2⟩ := r2.sim.ob _ _ e2
      refine ⟨hk2, ?_⟩
      have t2 : Tu H2 (upd H2 d (.dK ks)) := fun b xs hT e => by rw [upd_ne (fun y => by rw [y, hk2] at e; cases e; cases hT)]; exact e
      obtain ⟨s3, u3⟩ := r2.sim.put (o := .dK kvs) (ho := .dK ks) e2 (by simp) rfl ⟨ks, upd_same, kv2.go t2⟩
      exact k v e _ _ (i2.go t2) ⟨r2.sl.go t2, s3, r2.up.trans u3⟩ (u1.trans (u2.trans u3)) q2
    · exact h.elim
  · exact h.elim
def keyOfD : Key → D
  | .inl i => .int i
  | .inr x => .str x
def okKey : Key → Prop
  | .inl _ => True
  | .inr x => okS x
theorem im_key {H : Hp} {k : Key} (h : okKey k) : Im G H (kV k) (keyOfD k) := by
  cases k with
  | inl i => exact .int i
  | inr x => exact .str x h
def iK (e : DE) : DI := fun δ S Q => e δ S fun x S1 => match x with
  | .ref d => (match S1 d with | some (.fK kvs o ks) => (∀ kv ∈ kvs, okKey kv.1) ∧ Q ⟨kvs.map fun kv => keyOfD kv.1, fun S2 => S2 d = some (.fK kvs o ks)⟩ S1 | _ => False)
  | _ => False
def iKV (e : DE) : DI := fun δ S Q => e δ S fun x S1 => match x with
  | .ref d => (match S1 d with | some (.fK kvs o ks) => (∀ kv ∈ kvs, okKey kv.1) ∧ Q ⟨kvs.map fun kv => D.tup [keyOfD kv.1, kv.2], fun S2 => S2 d = some (.fK kvs o ks)⟩ S1 | _ => False)
  | _ => False
theorem kv_get {κ : Type} {H : Hp} : ∀ {r : List (κ × V)} {s : List (κ × D)}, KvAll G H r s → ∀ {i : Nat} {k : κ} {v : V}, r[i]? = some (k, v) → ∃ d, s[i]? = some (k, d) ∧ Im G H v d
  | _, _, .nil, _, _, _, e => by simp at e
  | _, _, .cons h _, 0, _, _, e => by simp at e; obtain ⟨rfl, rfl⟩ := e; exact ⟨_, rfl, h⟩
  | _, _, .cons _ t, i + 1, k, v, e => by
    obtain ⟨d, h1, h2⟩ := kv_get t (i := i) (k := k) (v := v) (by simpa using e)
    exact ⟨d, by simpa using h1, h2⟩
theorem si_keys {td : TE} {fd : DE} (hd : SE G N td fd) : SI G N (iKeys td) (iK fd) := by
  intro σ δ H S Q R rl h k
  refine hd σ δ H S _ _ rl h fun x e H1 S1 i1 r1 u1 q1 => ?_
  cases e <;> first | exact q1.elim | skip
  rename_i d
  dsimp only at q1
  split at q1
  · rename_i kvs o ks hs
    obtain ⟨ok, q⟩ := q1
    obtain ⟨hk, kv⟩ := r1.sim.ob _ _ hs
    cases im_ref i1
    refine ⟨d, o, rfl, .inl ⟨ks, hk, k _ _ H1 S1 ?_ r1 u1 q⟩⟩
    intro S2 H2 s2 u2 ok2 i hi
    obtain ⟨hk2, kv2⟩ := s2.ob _ _ ok2
    have hl := kv2.length
    simp only [List.length_map] at hi ⊢
    refine ⟨fun z => ⟨hk2, by omega⟩, fun z => ⟨hk2, by omega⟩, fun x H' z y => ?_⟩
    obtain ⟨rfl, k', v, e1, rfl⟩ := y
    obtain ⟨d', e2, _⟩ := kv_get kv2 e1
    exact ⟨keyOfD k', by rw [List.getElem?_map, e2]; rfl, im_key (ok _ (List.mem_of_getElem? e2)), s2, .refl, .refl⟩
  · exact q1.elim
theorem si_items {td : TE} {fd : DE} (hd : SE G N td fd) : SI G N (iItems td) (iKV fd) := by
  intro σ δ H S Q R rl h k
  refine hd σ δ H S _ _ rl h fun x e H1 S1 i1 r1 u1 q1 => ?_
  cases e <;> first | exact q1.elim | skip
  rename_i d
  dsimp only at q1
  split at q1
  · rename_i kvs o ks hs
    obtain ⟨ok, q⟩ := q1
    obtain ⟨hk, kv⟩ := r1.sim.ob _ _ hs
    cases im_ref i1
    refine ⟨d, o, ks, rfl, hk, k _ _ H1 S1 ?_ r1 u1 q⟩
    intro S2 H2 s2 u2 ok2 i hi
    obtain ⟨hk2, kv2⟩ := s2.ob _ _ ok2
    have hl := kv2.length
    simp only [List.length_map] at hi ⊢
    refine ⟨fun z => ⟨hk2, by omega⟩, fun z => ⟨hk2, by omega⟩, fun x H' z y => ?_⟩
    obtain ⟨T, k', v, e1, rfl, hT, rfl⟩ := y
    obtain ⟨d', e2, im⟩ := kv_get kv2 e1
    obtain ⟨a1, a2, a3⟩ := new_tup s2 hT (.cons (im_key (ok _ (List.mem_of_getElem? e2))) (.cons im .nil))
    exact ⟨.tup [keyOfD k', d'], by rw [List.getElem?_map, e2]; rfl, a1, a2, a3, Ext.lay hT⟩
  · exact q1.elim
end
end Sd

set_option Elab.async false
set_option linter.all false
set_option maxRecDepth 100000
set_option maxHeartbeats 4000000
namespace Sd
open PySem PySem.Spec PyProof.Rows L2 GxR
/-! ### a written dict, asked for any text -/
def KeysAre : List DictEntry → List Str → Prop
  | [], [] => True
  | e :: es, k :: ks => (∃ t, e.key = .str k t) ∧ KeysAre es ks
  | _, _ => False
structure KdAll (K : PySem.W.Frag) (w : World) (d : Addr) (tb : KTb) : Prop where
  ok : KdOk K w d tb
  out : ∀ z, kLook tb z = none → PySem.W.nsIn K d z = some none
theorem look_none {tb : KTb} {z : Str} (h : kLook tb z = none) : ∀ p ∈ tb, p.1 ≠ z := by
  induction tb with
  | nil => intro p hp; cases hp
  | cons q r ih =>
    rw [kLook_c] at h
    split at h
    · cases h
    · rename_i hk
      intro p hp
      rcases List.mem_cons.mp hp with rfl | hp
      · intro e; exact hk (decide_eq_true e)
      · exact ih h p hp
theorem keys_find : ∀ {es : List DictEntry} {ks : List Str} {z : Str}, KeysAre es ks → (∀ k ∈ ks, k ≠ z) → es.find? (·.key.isStr z) = none ∧ es.any (·.refKey) = false
  | [], [], _, _, _ => ⟨rfl, rfl⟩
  | [], _ :: _, _, h, _ => h.elim
  | _ :: _, [], _, h, _ => h.elim
  | e :: es, k :: ks, z, h, hz => by
    obtain ⟨⟨t, ht⟩, h2⟩ := h
    obtain ⟨f1, f2⟩ := keys_find h2 fun k hk => hz k (List.mem_cons_of_mem _ hk)
    have n1 : e.key.isStr z = false := by
      rw [ht]
      have := hz k List.mem_cons_self
      simpa [Value.isStr] using this
    have n2 : e.refKey = false := by
      unfold DictEntry.refKey
      rw [ht]
    refine ⟨?_, ?_⟩
    · rw [List.find?_cons, n1]
      exact f1
    · rw [List.any_cons, n2, f2]
      rfl
theorem nsIn_out {K : PySem.W.Frag} {c : Addr} {es : Array DictEntry} {n : Nat} {tb : KTb} {z : Str} (l : K.lookup c = some { cls := .type "dict", data := .dict es n }) (h : KeysAre es.toList (tb.map (·.1))) (hz : kLook tb z = none) : PySem.W.nsIn K c z = some none := by
  have hn := look_none hz
  obtain ⟨f1, f2⟩ := keys_find h (z := z) fun k hk => by
    obtain ⟨p, hp, rfl⟩ := List.mem_map.mp hk
    exact hn p hp
  unfold PySem.W.nsIn
  rw [l]
  dsimp only
  rw [f1]
  dsimp only
  rw [f2]
  rfl
def kGet (tb : KTb) (z : Str) : Option D := match kLook tb z with | some o => o | none => none
def eKInA (neg : Bool) (tb : KTb) (fy : DE) : DE := fun δ S Q => fy δ S fun y S1 => match y with
  | .str z => Q (.bl (if neg then !(kGet tb z).isSome else (kGet tb z).isSome)) S1
  | _ => False
section
variable {G : Gm} {N : En} {w : World} {d : Addr} {tb : KTb} {ty : TE} {fy : DE}
theorem KdAll.has (k : KdAll G.K w d tb) (z : Str) : ∃ r, PySem.W.nsIn G.K d z = some r ∧ r.isSome = (kGet tb z).isSome := by
  unfold kGet
  cases e : kLook tb z with
  | none => exact ⟨none, k.out z e, rfl⟩
  | some o =>
    obtain ⟨r, h1, h2⟩ := k.ok.row _ (look_mem e)
    refine ⟨r, h1, ?_⟩
    rcases h2 with ⟨h2, rfl⟩ | ⟨v', u, h2, rfl, h3, h4⟩
    · cases h2; rfl
    · cases h2; rfl
theorem se_kinA (k : KdAll G.K w d tb) (hy : SE G N ty fy) : SE G N (tOp (fun x y H Q => ∃ (z : Str) (r : Option Value), x = .str z ∧ y = .ref d ∧ PySem.W.nsIn G.K d z = some r ∧ Q (.bl (r.isSome)) H) ty (tC (.ref d))) (eKInA false tb fy) := by
  intro σ δ H S Q R rl h kk
  refine hy σ δ H S _ _ rl h fun y e H1 S1 i1 r1 u1 q1 => ?_
  cases e <;> first | exact q1.elim | skip
  rename_i z
  obtain ⟨rfl, _⟩ := im_str i1
  obtain ⟨r, h1, h2⟩ := k.has z
  refine ⟨z, r, rfl, rfl, h1, ?_⟩
  rw [h2]
  exact kk _ _ H1 S1 (.bl _) r1 u1 q1
theorem se_knotinA (k : KdAll G.K w d tb) (hy : SE G N ty fy) : SE G N (tOp (fun x y H Q => ∃ (z : Str) (r : Option Value), x = .str z ∧ y = .ref d ∧ PySem.W.nsIn G.K d z = some r ∧ Q (.bl (!r.isSome)) H) ty (tC (.ref d))) (eKInA true tb fy) := by
  intro σ δ H S Q R rl h kk
  refine hy σ δ H S _ _ rl h fun y e H1 S1 i1 r1 u1 q1 => ?_
  cases e <;> first | exact q1.elim | skip
  rename_i z
  obtain ⟨rfl, _⟩ := im_str i1
  obtain ⟨r, h1, h2⟩ := k.has z
  refine ⟨z, r, rfl, rfl, h1, ?_⟩
  rw [h2]
  exact kk _ _ H1 S1 (.bl _) r1 u1 q1
end
def eKGet2A (tb : KTb) (fy fx : DE) : DE := fun δ S Q => fy δ S fun y S1 => fx δ S1 fun z S2 => match y with
  | .str s => Q ((kGet tb s).getD z) S2
  | _ => False
theorem se_kget2A {G : Gm} {N : En} {w : World} {d : Addr} {tb : KTb} {ty tx : TE} {fy fx : DE} (k : KdAll G.K w d tb) (hy : SE G N ty fy) (hx : SE G N tx fx) : SE G N (Ow.tKGet2 G.K d (tC (.ref d)) ty tx) (eKGet2A tb fy fx) := by
  intro σ δ H S Q R rl h kk
  refine ⟨rfl, hy σ δ H S _ _ rl h fun y e H1 S1 i1 r1 u1 q1 => ?_⟩
  refine hx σ δ H1 S1 _ _ r1 q1 fun z f H2 S2 i2 r2 u2 q2 => ?_
  cases e <;> first | exact q2.elim | skip
  rename_i s
  obtain ⟨rfl, _⟩ := im_str i1
  have q2 : Q ((kGet tb s).getD f) S2 := q2
  unfold kGet at q2
  cases hv : kLook tb s with
  | none =>
    rw [hv] at q2
    exact ⟨s, none, rfl, k.out s hv, .inl ⟨rfl, kk z f H2 S2 i2 r2 (u1.trans u2) q2⟩⟩
  | some o =>
    rw [hv] at q2
    obtain ⟨r, h1, h2⟩ := k.ok.row _ (look_mem hv)
    refine ⟨s, r, rfl, h1, ?_⟩
    rcases h2 with ⟨h2, rfl⟩ | ⟨v', u, h2, rfl, h3, h4⟩
    · cases h2
      exact .inl ⟨rfl, kk z f H2 S2 i2 r2 (u1.trans u2) q2⟩
    · cases h2
      exact .inr ⟨_, u, rfl, h4, kk _ v' H2 S2 (scR_im h3) r2 (u1.trans u2) q2⟩
/-- .. whose values are written tuples -/
structure KdTAll (K : PySem.W.Frag) (w : World) (d : Addr) (tb : KTb) : Prop where
  ok : KdT K w d tb
  out : ∀ z, kLook tb z = none → PySem.W.nsIn K d z = some none
theorem se_kgetTA {G : Gm} {N : En} {w : World} {d : Addr} {tb : KTb} {ty tx : TE} {fy fx : DE} (k : KdTAll G.K w d tb) (hy : SE G N ty fy) (hx : SE G N tx fx) : SE G N (Ow.tKGet2 G.K d (tC (.ref d)) ty tx) (eKGet2A tb fy fx) := by
  intro σ δ H S Q R rl h kk
  refine ⟨rfl, hy σ δ H S _ _ rl h fun y e H1 S1 i1 r1 u1 q1 => ?_⟩
  refine hx σ δ H1 S1 _ _ r1 q1 fun z f H2 S2 i2 r2 u2 q2 => ?_
  cases e <;> first | exact q2.elim | skip
  rename_i s
  obtain ⟨rfl, _⟩ := im_str i1
  have q2 : Q ((kGet tb s).getD f) S2 := q2
  unfold kGet at q2
  cases hv : kLook tb s with
  | none =>
    rw [hv] at q2
    exact ⟨s, none, rfl, k.out s hv, .inl ⟨rfl, kk z f H2 S2 i2 r2 (u1.trans u2) q2⟩⟩
  | some o =>
    rw [hv] at q2
    obtain ⟨r, h1, h2⟩ := k.ok.row _ (look_mem hv)
    refine ⟨s, r, rfl, h1, ?_⟩
    rcases h2 with ⟨h2, rfl⟩ | ⟨ds, c, h2, rfl, h3⟩
    · cases h2
      exact .inl ⟨rfl, kk z f H2 S2 i2 r2 (u1.trans u2) q2⟩
    · cases h2
      exact .inr ⟨.ref c, .ref c, rfl, rfl, kk _ (.ctup ds) H2 S2 h3.im r2 (u1.trans u2) q2⟩
end Sd

set_option Elab.async false
set_option linter.all false
set_option maxRecDepth 100000
set_option maxHeartbeats 4000000
/-! list(reversed(x)), x a list -/
namespace Ow
open PySem PySem.Spec PyProof.Rows L2 GxR RT
section
variable {prog : Program} {w : World} {A : Around} {E : Value → Shared → Prop} {s : Shared}
theorem list_init_rev {R : Result → Shared → Prop} {it l : Addr} {items : Array Value} (hh : A.handled = none) (hit : s.heap.IsRevIter it l ((items.size : Int) - 1)) (hl : s.heap.IsList l items) (hne : l ≠ it) (hn : items.size ≤ sizeLine) (S : Addr) (hS : s.heap.get? S = some { cls := .type "list", data := .seq #[] }) (hSi : S ≠ it) (hSl : S ≠ l)
    (hR : ∀ h' tk acc' c', (∀ b o, b ≠ S → b ≠ it → s.heap.get? b = some o → h'.get? b = some o) → h'.get? S = some { cls := .type "list", dict := none, data := .seq acc' c', slots := #[] } →
      ItemsOf (fun i v => items[items.size - 1 - i]? = some v) acc' items.size → R (.ok (.ret .none)) { s with heap := h', toks := tk }) :
    wpAny (model prog w) A.in1 (Builtin.«list.__init__» ⟨[.ref S, .ref it], []⟩)
      (fun fin s' => match fin with | .done f => R (.ok f) s' | .again c' => c'.quiet = true ∧ codeAny (model prog w) A c' R s') (fun e s' => R (.error e) s') s := by
  show wpAny _ _ (do let old ← Builtin.List.listItems (.ref S); Builtin.List.listUpdate (.ref S) (fun _ => #[]); letGo old.toList.reverse; Builtin.List.listExtendWith (.ref S) (.ref it) .none) _ _ s
  refine wpAny_bind ?_
  unfold Builtin.List.listItems
  refine wpAny_bind (wpAny_seqItems hS rfl (wpAny_pure ?_))
  show wpAny _ _ (updateSeq S (fun _ => #[]) >>= fun _ => letGo (#[] : Array Value).toList.reverse >>= fun _ => Builtin.List.listExtendWith (.ref S) (.ref it) .none) _ _ s
  refine wpAny_bind (wpAny_updateSeq hS rfl ?_)
  have hS₂ := Heap.get?_update_self (Obj.mapSeq (fun _ => (#[] : Array Value))) hS rfl
  have oth : ∀ b o, b ≠ S → s.heap.get? b = some o → (s.heap.update S (Obj.mapSeq (fun _ => (#[] : Array Value)))).get? b = some o :=
    fun b o hb e => (Heap.get?_update_other _ _ (Ne.symm hb)).trans e
  refine wpAny_bind (wpAny_letGo ?_)
  generalize hG : s.heap.update S (Obj.mapSeq (fun _ => (#[] : Array Value))) = G at hS₂ oth ⊢
  have hit1 : G.IsRevIter it l ((items.size : Int) - 1) := by
    obtain ⟨o, ho, r⟩ := hit
    exact ⟨o, oth it o (Ne.symm hSi) ho, r⟩
  have hl1 : G.IsList l items := by
    obtain ⟨o, ho, r⟩ := hl
    exact ⟨o, oth l o (Ne.symm hSl) ho, r⟩
  have W := (Walks.listRev (prog := prog) (w := w) (A := A.in1) hh it l hne items).toS
  have hSf : S ∉ [it, l] := by simp only [List.mem_cons, List.not_mem_nil, or_false, not_or]; exact ⟨hSi, hSl⟩
  have hT : ({ s with heap := G } : Shared).TypeIs (.ref it) "list_reverseiterator" := Heap.IsRevIter.typeIs (s := { s with heap := G }) hit1
  have h1 : Builtin.List.listSameRef (.ref S) (.ref it) = false := by simp [Builtin.List.listSameRef, hSi]
  unfold Builtin.List.listExtendWith
  refine wpAny_bind (wpAny_typeOf hT ?_)
  rw [if_neg (by rw [h1]; decide)]
  refine wpAny_bind (wpAny_pyIter_revIter (s := { s with heap := G }) hit1 ?_)
  refine wpAny_bind (wpAny_holding ?_)
  unfold Builtin.List.listLengthHint
  refine wpAny_bind (wpAny_specialOf hT nolen_lri ?_)
  show wpAny _ A.in1 (specialOf (Value.ref it) (Str.ofString "__length_hint__") >>= _) _ _ _
  refine wpAny_bind (wpAny_specialOf hT hint_lri ?_)
  generalize hid : ("list_reverseiterator.__length_hint__" : String) = id0
  wp_delta
  rw [show splitId id0 = some ("list_reverseiterator", "__length_hint__") from by subst hid; decide +kernel]
  subst hid
  refine wpAny_bind (wpAny_isInstance (b := true) hT (by rw [isSubtype_type]; kernel_rfl) ?_)
  refine wpAny_pure ?_
  rw [if_neg (by decide)]
  have e0 : ((items.size : Nat) : Int) - 1 - ((0 : Nat) : Int) = (items.size : Int) - 1 := by omega
  refine wpAny_pure ⟨plainId_quiet F.plain_extend_loop _, codeAny_extend_loopS W hn _ hSf _ items.size 0 _ _ _ rfl (Nat.zero_le _) ⟨Nat.zero_le _, by rw [e0]; exact hit1, hl1⟩ hS₂ (ItemsOf.nil _) fun s' acc' c' hm hS' hacc => ?_⟩
  rw [Moved.eq_with hm]
  refine hR s'.heap s'.toks acc' c' (fun b o hb hbi e => hm.heap b o (fun hmem => ?_) (oth b o hb e)) hS' hacc
  rcases List.mem_cons.mp hmem with e' | hmem
  · exact hb e'
  · exact hbi (List.mem_singleton.mp hmem)
theorem call_list_rev {it l : Addr} {items : Array Value} {Q : Value → Shared → Prop} (hh : A.handled = none) (hit : s.heap.IsRevIter it l ((items.size : Int) - 1)) (hl : s.heap.IsList l items) (hne : l ≠ it) (hn : items.size ≤ sizeLine)
    (hQ : ∀ h' tk acc' c', (∀ b o, b ≠ it → s.heap.get? b = some o → h'.get? b = some o) →
      h'.get? s.heap.objs.size = some { cls := .type "list", dict := none, data := .seq acc' c', slots := #[] } → ItemsOf (fun i v => items[items.size - 1 - i]? = some v) acc' items.size → Q (.ref s.heap.objs.size) { s with heap := h', toks := tk }) :
    wpAny (model prog w) A (call (.type "list") [.ref it]) Q E s := by
  obtain ⟨oi, hoi, _⟩ := id hit
  obtain ⟨ol, hol, _⟩ := id hl
  refine callType_codes (Q₁ := fun obj s₁ => obj = .ref s.heap.objs.size ∧ s₁ = { s with heap := s.heap.push { cls := .type "list", data := .seq #[] } }) F.called_list (F.typeCall_list_1 _) F.entry_list_init
    (code_list_new _ ⟨rfl, rfl⟩) fun obj s₁ h₁ => ?_
  obtain ⟨rfl, rfl⟩ := h₁
  have hS : (s.heap.push { cls := .type "list", data := .seq #[] }).get? s.heap.objs.size = some { cls := .type "list", data := .seq #[] } := Heap.get?_push_size _ rfl
  refine ⟨⟨_, hS, rfl⟩, F.args_list_init_2 _ _, list_init_rev (s := { s with heap := s.heap.push { cls := .type "list", data := .seq #[] } }) (A := A.in1) hh (hit.at fun o e => Heap.get?_push_of_some _ e) (hl.push _) hne hn _ hS (Nat.ne_of_gt (Heap.lt_size hoi)) (Nat.ne_of_gt (Heap.lt_size hol)) fun h' tk acc' c' hk hS' hacc => ?_⟩
  exact ⟨rfl, hQ h' tk acc' c' (fun b o hb e => hk b o (Nat.ne_of_lt (Heap.lt_size e)) hb (Heap.get?_push_of_some _ e)) hS' hacc⟩
end
/-- list(reversed(x)), x a list: a new list -/
def tLstRev (K : PySem.W.Frag) (te : TE) : TE := fun σ H Q => te σ H fun v H1 => ∃ (a : Addr) (xs : List V), v = .ref a ∧ SqL K H1 a xs ∧ ∀ q, H1 q = none → Q (.ref q) (upd H1 q (.lst xs.reverse))
section
variable {X : Cx}
theorem pe_lstRev {e : Expr} {te : TE} {p p2 pos pos2 : Pos} (hc : X.calm = true) (hg : Gl X "list") (hm : X.mg "list" = none) (hg2 : Gl X "reversed") (hm2 : X.mg "reversed" = none) (he : PE X e te)
    (hs : starEach [e] X.env = (false, eval e X.env) :: starEach [] X.env := by rfl)
    (hs2 : starEach [.Call (.Name "reversed" p2) [e] [] pos2] X.env = (false, eval (.Call (.Name "reversed" p2) [e] [] pos2) X.env) :: starEach [] X.env := by rfl) :
    PE X (.Call (.Name "list" p) [.Call (.Name "reversed" p2) [e] [] pos2] [] pos) (tLstRev X.K te) := by
  refine ⟨fun pins s σ H Q I h => ?_⟩
  refine Call_ (ld_blt I hg hm boot_list (PyProof.Rows.callWith_type1 (args_cons (Call_ (ld_blt I hg2 hm2 PyProof.Rows.boot_reversed (PyProof.Rows.callWith_type1 (args_cons (thn (he.run pins s σ H _ I h) fun u s1 ⟨v, H1, I1, r1, q1⟩ => args_nil ?_) hs) hs rfl))) hs2) hs2 rfl))
  obtain ⟨a, xs, ev, hq, q⟩ := q1
  subst ev
  obtain rfl : u = Value.ref a := r1
  obtain ⟨its, rv, p', hz⟩ := I1.list hq
  refine call_reversed_list p'.isList (args_nil ?_)
  have k0 : ∀ b o, s1.heap.get? b = some o → (s1.heap.push (revObj a ((its.toArray.size : Int) - 1))).get? b = some o := fun b o e => Heap.get?_push_of_some _ e
  have I2 : Inv X pins σ H1 { s1 with heap := s1.heap.push (revObj a ((its.toArray.size : Int) - 1)) } := I1.kept (t' := s1.toks) k0
  obtain ⟨f0, f1, f2, f3, f4, f5⟩ := I1.fpOk (H' := H1) (b := s1.heap.objs.size) (Nat.le_refl _) (I1.hok.fresh (Nat.le_refl _))
  have hl := p'.isList
  obtain ⟨ol, hol, _⟩ := id hl
  have hne : a ≠ s1.heap.objs.size := Nat.ne_of_lt (Heap.lt_size hol)
  have hn : its.toArray.size ≤ sizeLine := by rw [List.size_toArray, ← rv.length]; exact hz
  refine call_list_rev (s := { s1 with heap := s1.heap.push (revObj a ((its.toArray.size : Int) - 1)) }) (I1.ok.hd hc) ⟨_, Heap.get?_push_size _ rfl, rfl, rfl⟩ (hl.push _) hne hn fun h' tk acc c' hk hS hi => ?_
  have hT : H1 (s1.heap.push (revObj a ((its.toArray.size : Int) - 1))).objs.size = none := I2.hok.fresh (Nat.le_refl _)
  refine ⟨.ref (s1.heap.push (revObj a ((its.toArray.size : Int) - 1))).objs.size, upd H1 (s1.heap.push (revObj a ((its.toArray.size : Int) - 1))).objs.size (.lst xs.reverse), I2.turnedNew (t' := tk) (ch := [s1.heap.objs.size]) (fun b o hb e => hk b o (fun z => hb (by rw [z]; exact List.mem_singleton.mpr rfl)) e) (fun b hb => ?_) (Nat.le_refl _) ?_, rfl, q _ hT⟩
  · rw [List.mem_singleton.mp hb]
    exact ⟨f0, f1, f2, f3, f4, f5⟩
  · exact (show ObjOk X.prog X.w _ _ _ (.lst xs.reverse) from ⟨by rw [List.length_reverse]; exact hz, acc.toList, c', vals_rev rv hi, by rw [Array.toArray_toList]; exact hS⟩)
end
end Ow

set_option Elab.async false
set_option linter.all false
set_option maxRecDepth 100000
set_option maxHeartbeats 4000000
namespace Sd
open PySem PySem.Spec PyProof.Rows L2 GxR
/-! ### list(reversed(x)), tuple(reversed(x)), x a list -/
def dLstRev : B1 := fun x S Q => match x with
  | .ref a => atL S a fun ds => ∀ p, S p = none → Q (.ref p) (sup S p (.lst ds.reverse))
  | _ => False
def dTupRev : B1 := fun x S Q => match x with
  | .ref a => atL S a fun ds => Q (.tup ds.reverse) S
  | _ => False
def rLstRev (K : PySem.W.Frag) : V → Hp → VK → Prop := fun v H1 Q => ∃ (a : Addr) (xs : List V), v = .ref a ∧ SqL K H1 a xs ∧ ∀ q, H1 q = none → Q (.ref q) (upd H1 q (.lst xs.reverse))
def rTupRev (K : PySem.W.Frag) : V → Hp → VK → Prop := fun v H1 Q => ∃ (a : Addr) (xs : List V), v = .ref a ∧ SqL K H1 a xs ∧ ∀ q, H1 q = none → Q (.ref q) (upd H1 q (.tup xs.reverse))
section
variable {G : Gm} {N : En} {te : TE} {fe : DE}
theorem s1_lstRev : S1 G (rLstRev G.K) dLstRev := by
  intro x d H S Q R im s h k
  unfold dLstRev at h
  split at h
  · cases im_ref im
    obtain ⟨ds, e1, q⟩ := atL_of h
    obtain ⟨vs, hv, i1⟩ := s.ob _ _ e1
    refine ⟨_, vs, rfl, SqL.of hv, fun l hl => ?_⟩
    obtain ⟨a1, a2, a3⟩ := new_lst s hl i1.reverse
    exact k _ _ _ _ (.ref l) a2 a3 (q l a1)
  · exact h.elim
theorem s1_tupRev : S1 G (rTupRev G.K) dTupRev := by
  intro x d H S Q R im s h k
  unfold dTupRev at h
  split at h
  · cases im_ref im
    obtain ⟨ds, e1, q⟩ := atL_of h
    obtain ⟨vs, hv, i1⟩ := s.ob _ _ e1
    refine ⟨_, vs, rfl, SqL.of hv, fun l hl => ?_⟩
    obtain ⟨a1, a2, a3⟩ := new_tup s hl i1.reverse
    exact k _ _ _ S a1 a2 a3 q
  · exact h.elim
theorem se_lstRev (he : SE G N te fe) : SE G N (Ow.tLstRev G.K te) (eUn dLstRev fe) := se_un (r1 := rLstRev G.K) s1_lstRev he
theorem se_tupRev (he : SE G N te fe) : SE G N (RT.tTupRev G.K te) (eUn dTupRev fe) := se_un (r1 := rTupRev G.K) s1_tupRev he
end
end Sd

set_option Elab.async false
set_option linter.all false
set_option maxRecDepth 100000
set_option maxHeartbeats 4000000
namespace Sd
open PySem PySem.Spec PyProof.Rows L2 GxR
/-! ### the head by one run: what the heap tells, as one Bool -/
section
open He
section
variable {fa : List Fa} {fn : List FnD} {ts : List Tab} {tf : List Defn} {ex : PySem.W.Frag → List Bool} {w : World} {h : Heap} {K : PySem.W.Frag}
theorem SaysM.bit (c : SaysM fa fn ts tf ex w h K) (i : Nat) {b : Bool} (hb : (ex K)[i]? = some b := by rfl) : b = true := List.all_eq_true.mp c.b b (List.mem_of_getElem? hb)
theorem SaysM.fun_ (c : SaysM fa fn ts tf ex w h K) (i : Nat) {at_ : Str × Option Str} {name qual : Str} {st : Stmt} (k : PySem.W.keepIn K (.ref (fAd K at_)) = true) (hi : fn[i]? = some (fnDs at_ name qual st) := by rfl) : ∃ fd, Fun K name qual st (fAd K at_) fd := by
  obtain ⟨oc, od, osl, kV, doc, pm, an, cdv, ct, l, cc⟩ := c.e.def_ i hi
  exact ⟨_, fun_mk l cc k⟩
theorem SaysM.gen_ (c : SaysM fa fn ts tf ex w h K) (X : K.In h) (i : Nat) {at_ : Str × Option Str} {name qual : Str} {st : Stmt} (ht : at_ ∈ tf) (hi : fn[i]? = some (fnDs at_ name qual st) := by rfl) :
    ∃ oc od osl kV doc pm an ct, K.lookup (fAd K at_) = some ⟨oc, od, .func (PySem.W.fnOf name qual (defArgs st) (defBody st) (defScope st) .none kV doc pm an (.ref (codeOf K at_)) ct), osl⟩ ∧ PySem.W.codeIn K (.ref (codeOf K at_)) qual = true ∧
      K.lookup (tabOf K (codeOf K at_)) = none ∧ h.get? (tabOf K (codeOf K at_)) = some { cls := .none, data := .fields #[] } ∧ PySem.W.CodeHd h (codeOf K at_) (tabOf K (codeOf K at_)) := by
  obtain ⟨oc, od, osl, kV, doc, pm, an, cdv, ct, l, cc⟩ := c.e.def_ i hi
  obtain ⟨cd, rfl⟩ := codeIn_ref cc
  have e := codeOf_eq (p := at_) l rfl
  rw [← e] at l cc
  exact ⟨oc, od, osl, kV, doc, pm, an, ct, l, cc, c.out _ ht, c.empty _ ht, PySem.W.codeHd_of_K X (c.hd _ ht)⟩
theorem keysAre_of {P : Params} : ∀ {l : List DictEntry} {ks : List Str}, l.map He.keyOf = keysIn P ks → KeysAre l ks
  | [], [], _ => trivial
  | [], _ :: _, h => by cases h
  | _ :: _, [], h => by cases h
  | e :: r, k :: ks, h => by
    have h1 : He.keyOf e :: r.map He.keyOf = some (k, PyData.keyHash P k) :: keysIn P ks := h
    injection h1 with h2 h3
    refine ⟨?_, keysAre_of h3⟩
    unfold He.keyOf at h2
    split at h2
    · rename_i x t q
      obtain ⟨h5, _⟩ := Prod.mk.inj (Option.some.inj h2)
      exact ⟨t, by rw [q, h5]⟩
    · cases h2
theorem SaysM.tab (c : SaysM fa fn ts tf ex w h K) (i : Nat) {t : Tab} (hi : ts[i]? = some t := by rfl) : ∃ es n, KDict K w (t.1 K) es n ∧ KeysAre es.toList t.2 := by
  have e2 : (ts.map fun t => dicW K (t.1 K))[i]? = (ts.map fun t => some (keysIn w.params t.2))[i]? := by rw [c.t]
  rw [List.getElem?_map, List.getElem?_map, hi] at e2
  have e3 : dicW K (t.1 K) = some (keysIn w.params t.2) := Option.some.inj e2
  obtain ⟨es, n, kd⟩ := dicW_ok e3
  refine ⟨es, n, kd, ?_⟩
  unfold dicW at e3
  rw [kd.at_] at e3
  have e4 : (match decide (("dict" : String) = "dict") && ((#[] : Array (Option Value)).isEmpty && !(t.1 K == sysModules)) with | true => some (es.toList.map He.keyOf) | false => none) = some (keysIn w.params t.2) := e3
  rw [kd.low] at e4
  exact keysAre_of (Option.some.inj e4)
end
theorem ctB_ok {K : PySem.W.Frag} {a : Addr} {ds : List D} (h : ctB K a ds = true) : CtOk K a ds := by
  obtain ⟨h1, h2⟩ := ba h
  cases q : K.lookup a with
  | none => rw [q] at h1; cases h1
  | some o =>
    obtain ⟨oc, od, dt, osl⟩ := o
    rw [q] at h1
    cases oc with
    | type c =>
      cases od with
      | none =>
        cases dt with
        | seq its n =>
          obtain ⟨h3, h4⟩ := ba h1
          obtain ⟨h5, h6⟩ := ba h4
          have e := of_decide_eq_true h3
          subst e
          refine ⟨⟨_, its, n, q, rfl, rfl, rfl, ?_, relAll_ok h6⟩, h2⟩
          have := Nat.le_of_ble_eq_true h5
          rw [sizeLine_eq]
          omega
        | _ => cases h1
      | some d => cases dt <;> cases h1
    | _ => cases od <;> cases dt <;> cases h1
theorem kdB_ok {K : PySem.W.Frag} {a : Addr} {tb : KTb} (h : kdB K a tb = true) : ∀ p ∈ tb, ∃ r, PySem.W.nsIn K a p.1 = some r ∧ ((p.2 = none ∧ r = none) ∨ ∃ v u, p.2 = some v ∧ r = some u ∧ scR v = true ∧ RelV (dV2 v) u) := fun p hp => by
  have hb := List.all_eq_true.mp h p hp
  obtain ⟨z, o⟩ := p
  dsimp only at hb ⊢
  cases q : PySem.W.nsIn K a z with
  | none => rw [q] at hb; cases hb
  | some r =>
    rw [q] at hb
    cases r with
    | none =>
      cases o with
      | none => exact ⟨none, rfl, .inl ⟨rfl, rfl⟩⟩
      | some v => cases hb
    | some u =>
      cases o with
      | none => cases hb
      | some v =>
        obtain ⟨h1, h2⟩ := ba hb
        exact ⟨some u, rfl, .inr ⟨v, u, rfl, rfl, h1, relB_ok h2⟩⟩
end
end Sd

set_option Elab.async false
set_option linter.all false
set_option maxRecDepth 100000
set_option maxHeartbeats 4000000
namespace Ow
open PySem PySem.Spec PyProof.Rows L2 GxR
/-- a tuple without a dict of its own -/
def NoD (K : PySem.W.Frag) (x : V) (H : Hp) : Prop := ∃ p, x = .ref p ∧ ((∃ o, K.lookup p = some o ∧ o.cls = .type "tuple" ∧ o.dict = none) ∨ ∃ o xs, H p = some (.frz o (.tup xs)) ∧ o.cls = .type "tuple" ∧ o.dict = none)
def rTIx (K : PySem.W.Frag) : V → List V → Hp → VK → Prop := fun x xs H Q => ∃ p, ∃ ys : List Str, ∃ z j, x = .ref p ∧ xs = [.str z] ∧ SqT K H p (ys.map V.str) ∧ ys[j]? = some z ∧ (∀ m, m < j → ys[m]? ≠ some z) ∧ Q (.int (j : Nat)) H
def tTIx (K : PySem.W.Frag) (to : TE) (t : TA) : TE := fun σ H Q => to σ H fun x H1 => NoD K x H1 ∧ t σ H1 fun xs H2 => rTIx K x xs H2 Q
def tTupF (t : TA) : TE := fun σ H Q => t σ H fun xs H1 => xs.length ≤ sizeLine ∧ ∀ p (o : Obj), H1 p = none → o.cls = .type "tuple" → o.dict = none → Q (.ref p) (upd H1 p (.frz o (.tup xs)))
section
variable {X : Cx} {o e : Expr} {es : List Expr} {to : TE} {t : TA} {apos cpos pos : Pos}
theorem pe_tix (ho : PE X o to) (ha : PA X (e :: es) t)
    (hbase : attributeBase o "index" X.env (eval o X.env) = eval o X.env := by rfl)
    (hfew : ((backTo cpos (starEach (e :: es) X.env)).all (fun x => !x.1) && (backToKw cpos (keywordEach [] X.env)).all (fun x => x.1.isSome)
      && decide ((e :: es).length + ([] : List Keyword).length + (if ([] : List Keyword).isEmpty then 0 else 1) < 30)) = true := by rfl)
    (hline : (apos.endLine == cpos.line) = true := by rfl) (hs : starEach (e :: es) X.env = (false, eval e X.env) :: starEach es X.env := by rfl) (hplain : (backTo cpos (starEach es X.env)).any (·.1) = false := by rfl) :
    PE X (.Call (.Attribute o "index" apos) (e :: es) [] cpos) (tTIx X.K to t) := by
  refine ⟨fun pins s σ H Q I h => ?_⟩
  refine wpAny_Call_method_late hbase hfew hline rfl (thn (ho.run pins s σ H _ I h) fun v s1 ⟨x, H1, I1, r1, ty, q1⟩ => ?_)
  have hty : s1.TypeIs v "tuple" ∧ ∀ a, v = .ref a → ∃ ob, s1.heap.get? a = some ob ∧ ob.dict = none := by
    obtain ⟨p, rfl, ⟨ob, hk, hc, hd⟩ | ⟨ob, xs, hk, hc, hd⟩⟩ := ty
    · cases r1
      refine ⟨⟨ob, I1.kIn p ob hk, hc⟩, fun a e => ?_⟩
      cases e
      exact ⟨ob, I1.kIn _ ob hk, hd⟩
    · cases r1
      obtain ⟨e0, _⟩ := I1.hok p _ hk
      refine ⟨⟨ob, e0, hc⟩, fun a e => ?_⟩
      cases e
      exact ⟨ob, e0, hd⟩
  refine ⟨"tuple", "tuple.index", PySem.F.plainAttrs_tuple, PySem.F.slot_tuple_index, PySem.F.type_tuple_index, hty.1, hty.2, ?_⟩
  have hA := ha.run cpos pins s1 σ H1 _ I1 q1
  rw [hs] at hA ⊢
  refine Calls.callWith_builtin (by show (false || (backTo cpos (starEach es X.env)).any (·.1)) = false; rw [hplain] <;> rfl) (Calls.evalArgs_plain ?_)
  exact thn hA fun us s2 ⟨vs, H2, I2, r2, q2⟩ => (show MtR X "tuple.index" (rTIx X.K) from mt_tup_index) pins s2 σ H2 x vs v us Q I2 r1 r2 q2
theorem pe_tupF {x1} (h : PA X es t) : PE X (.Tuple es x1 pos) (tTupF t) := by
  refine ⟨fun pins s σ H Q I hq => ?_⟩
  refine wpAny_Tuple_spliced (thn (h.run pos pins s σ H _ I hq) fun us s1 ⟨xs, H1, I1, r, z, q⟩ => ⟨by rw [← r.length]; exact z, ?_⟩)
  have hf : H1 s1.heap.objs.size = none := I1.hok.fresh (Nat.le_refl _)
  refine ⟨.ref s1.heap.objs.size, upd H1 s1.heap.objs.size (.frz { cls := .type "tuple", data := .seq us.toArray } (.tup xs)), I1.laid (t' := s1.toks) (fun b u e => Heap.get?_push_of_some _ e) (Nat.le_refl _) ?_, rfl, q _ _ hf rfl rfl⟩
  exact ⟨Heap.get?_push_size _ rfl, z, us, r, ⟨_, Heap.get?_push_size _ rfl, rfl, _, rfl⟩⟩
end
end Ow
namespace Sd
open PySem PySem.Spec PyProof.Rows L2 GxR
/-! ### zip of a tuple that stands and a tuple -/
def iZC (fa : DA) : DI := fun δ S Q => fa δ S fun xs S1 => match xs with | [.ctup ds, .tup es] => Q ⟨zipT ds es, fun _ => True⟩ S1 | _ => False
section
variable {G : Gm} {N : En}
theorem jok_zipC {a b : Addr} {xs ys : List V} {ds es : List D} {S : Sto} {H : Hp} (s : Sim G S H) (e1 : ∀ H2, Tu H H2 → SqT G.K H2 a xs) (i1 : ImAll G H xs ds) (e2 : H b = some (.tup ys)) (i2 : ImAll G H ys es) : JOk G (RZ.ItzT G.K a b) ⟨zipT ds es, fun _ => True⟩ S H := by
  intro S2 H2 s2 u2 _ i hi
  have hl := i1.length
  have hl2 := i2.length
  have t := u2.tu s
  have q1 : SqT G.K H2 a xs := e1 H2 t
  have q2 : SqT G.K H2 b ys := SqT.of (t _ _ rfl e2)
  have hz : (zipT ds es).length = min ds.length es.length := by simp [zipT]
  simp only [hz] at hi ⊢
  refine ⟨fun y => ⟨xs, ys, xs[i]'(by omega), ys[i]'(by omega), q1, q2, List.getElem?_eq_getElem _, List.getElem?_eq_getElem _⟩, fun y => ⟨xs, ys, q1, q2, by omega⟩, fun x H' y w => ?_⟩
  obtain ⟨T, c, v, rfl, hT, rfl, hc, hv⟩ := w
  obtain ⟨d, hd, id⟩ := i1.get (hc xs q1)
  obtain ⟨e, he, ie⟩ := i2.get (hv ys q2)
  obtain ⟨a1, a2, a3⟩ := new_tup s2 hT (.cons (id.go t) (.cons (ie.go t) .nil))
  refine ⟨.tup [d, e], ?_, a1, a2, a3, Ext.lay hT⟩
  simp only [zipT, List.getElem?_zipWith, hd, he]
theorem si_zipC {tl : TA} {fl : DA} (ha : SA G N tl fl) : SI G N (RZ.iZipA G.K tl) (iZC fl) := by
  intro σ δ H S Q R r h k
  refine ha σ δ H S _ _ r h fun vs ds H1 S1 i1 r1 u1 q1 => ?_
  split at q1
  · match i1 with
    | .cons ix (.cons iy .nil) =>
      obtain ⟨b, ys, rfl, e2, j2⟩ := im_tup iy
      match ix with
      | .ctup h1 _ _ _ h2 => exact ⟨_, b, _, ys, rfl, .inr ⟨h1 H1, SqT.of e2, k _ _ H1 S1 (jok_zipC r1.sim (fun H2 _ => h1 H2) h2 e2 j2) r1 u1 q1⟩⟩
      | .ftup h1 _ _ h2 => exact ⟨_, b, _, ys, rfl, .inr ⟨.inl (.inr ⟨_, h1⟩), SqT.of e2, k _ _ H1 S1 (jok_zipC r1.sim (fun _ t => .inl (.inr ⟨_, t _ _ rfl h1⟩)) h2 e2 j2) r1 u1 q1⟩⟩
  · exact q1.elim
end
/-! ### t.index(x), t a written tuple of texts -/
def eTupF (fl : DA) : DE := fun δ S Q => fl δ S fun ds S1 => ds.length ≤ 1000000 ∧ Q (.ctup ds) S1
def isCt : D → Prop | .ctup _ => True | _ => False
def dTIx : D → List D → Sto → DK → Prop := fun x xs S Q => match x, xs with
  | .ctup ds, [.str z] => ∃ (ys : List Str) (j : Nat), ds = ys.map D.str ∧ ys[j]? = some z ∧ (∀ m, m < j → ys[m]? ≠ some z) ∧ Q (.int (j : Nat)) S
  | _, _ => False
def eTIx (fo : DE) (fa : DA) : DE := fun δ S Q => fo δ S fun x S1 => isCt x ∧ fa δ S1 fun xs S2 => dTIx x xs S2 Q
/-! ### d.pop(k) -/
def eDPop (fd fy : DE) : DE := fun δ S Q => fd δ S fun x S1 => asRef x fun a => isDict S1 a = true ∧ fy δ S1 fun y S2 => match S2 a with
  | some (.dK kvs) => (match keyD y with | some k => (match valD kvs k with | some v => Q v (sup S2 a (.dK (dropKD kvs k))) | none => False) | none => False)
  | _ => False
/-! ### list(d), sorted(d), sorted(xs) of numbers -/
def rListDK : List V → Hp → VK → Prop := fun xs H Q => ∃ (a : Addr) (kvs : List (Key × V)), xs = [.ref a] ∧ Rd H a (.dK kvs) ∧ ∀ p, H p = none → Q (.ref p) (upd H p (.lst (kvs.map fun kv => kV kv.1)))
def dListDK : BL := fun xs S Q => match xs with
  | [.ref a] => (match S a with | some (.dK kvs) => (∀ kv ∈ kvs, okKey kv.1) ∧ ∀ p, S p = none → Q (.ref p) (sup S p (.lst (kvs.map fun kv => keyOfD kv.1))) | _ => False)
  | _ => False
def rSortDI : List V → Hp → VK → Prop := fun xs H Q => ∃ (a : Addr) (kvs : List (Key × V)) (ks : List Int), xs = [.ref a] ∧ Rd H a (.dK kvs) ∧ kvs.map (·.1) = ks.map Sum.inl ∧ ks.length < 64 ∧
    ∀ (ys : List Int) (p : Addr), ys.Perm ks → ys.Pairwise (· ≤ ·) → H p = none → Q (.ref p) (upd H p (.lst (ys.map V.int)))
def dSortDI : BL := fun xs S Q => match xs with
  | [.ref a] => (match S a with | some (.dK kvs) => ∃ ks : List Int, kvs.map (·.1) = ks.map Sum.inl ∧ ks.length < 64 ∧ ∀ (ys : List Int) (p : Addr), ys.Perm ks → ys.Pairwise (· ≤ ·) → S p = none → Q (.ref p) (sup S p (.lst (ys.map D.int))) | _ => False)
  | _ => False
def dSortI : BL := fun xs S Q => match xs with
  | [.ref a] => atL S a fun ds => ∃ ks : List Int, ds = ks.map D.int ∧ ∀ (ys : List Int) (p : Addr), ys.Perm ks → ys.Pairwise (· ≤ ·) → S p = none → Q (.ref p) (sup S p (.lst (ys.map D.int)))
  | _ => False
def dAny : BL := fun xs S Q => match xs with
  | [.ref a] => atL S a fun ds => ∃ bs : List Bool, ds = bs.map D.bl ∧ Q (.bl (bs.any id)) S
  | _ => False
/-! ### the dict that a dict has -/
def lkSub (i : Nat) (k : Key) : DV → Sto → Option Addr := fun δ S => match δ[i]? with
  | some (some (.ref d)) => (match S d with | some (.dK kvs) => (match valD kvs k with | some (.ref e) => some e | _ => none) | _ => none)
  | _ => none
theorem m1_pop {X : Cx} {o e : Expr} {apos cpos : Pos} (base : attributeBase o "pop" X.env (eval o X.env) = eval o X.env := by rfl)
    (few : ((backTo cpos (starEach [e] X.env)).all (fun x => !x.1) && (backToKw cpos (keywordEach [] X.env)).all (fun x => x.1.isSome)
    && decide (([e] : List Expr).length + ([] : List Keyword).length + (if ([] : List Keyword).isEmpty then 0 else 1) < 30)) = true := by rfl)
    (line : (apos.endLine == cpos.line) = true := by rfl) (trees : backTo cpos (starEach [e] X.env) = [(false, eval e X.env)] := by rfl) : M1 X o "pop" apos e cpos := ⟨base, few, line, trees⟩
/-! ### a written dict of written tuples, told as one truth -/
theorem kdTB_ok {K : PySem.W.Frag} {a : Addr} {tb : KTb} (h : kdTB K a tb = true) : ∀ p ∈ tb, ∃ r, PySem.W.nsIn K a p.1 = some r ∧ ((p.2 = none ∧ r = none) ∨ ∃ ds c, p.2 = some (.ctup ds) ∧ r = some (.ref c) ∧ CtOk K c ds) := fun p hp => by
  have hb := List.all_eq_true.mp h p hp
  obtain ⟨z, o⟩ := p
  dsimp only at hb ⊢
  cases q : PySem.W.nsIn K a z with
  | none => rw [q] at hb; cases hb
  | some r =>
    rw [q] at hb
    cases r with
    | none =>
      cases o with
      | none => exact ⟨none, rfl, .inl ⟨rfl, rfl⟩⟩
      | some v => cases hb
    | some u =>
      cases u with
      | ref c =>
        cases o with
        | none => cases hb
        | some v =>
          cases v with
          | ctup ds => exact ⟨_, rfl, .inr ⟨ds, c, rfl, rfl, ctB_ok hb⟩⟩
          | _ => cases hb
      | _ => cases o <;> cases hb
section
variable {G : Gm} {N : En} {to td ty : TE} {fo fd fy : DE} {tl : TA} {fl : DA}
theorem se_tupF (hl : SA G N tl fl) : SE G N (Ow.tTupF tl) (eTupF fl) := by
  intro σ δ H S Q R rl h k
  refine hl σ δ H S _ _ rl h fun vs ds H1 S1 i1 r1 u1 ⟨z, q⟩ => ⟨by rw [i1.length]; exact le_line z, fun p o hp hc hd => ?_⟩
  have e := Ext.lay (o := .frz o (.tup vs)) hp
  exact k _ _ _ S1 (.ftup upd_same hc hd (i1.go e.tu)) (r1.go (r1.sim.ext e) (Up.of_ext e)) (u1.trans (Up.of_ext e)) q
theorem se_tix (ho : SE G N to fo) (ha : SA G N tl fl) : SE G N (Ow.tTIx G.K to tl) (eTIx fo fl) := by
  intro σ δ H S Q R rl h k
  refine ho σ δ H S _ _ rl h fun x d H1 S1 i1 r1 u1 ⟨q0, q⟩ => ?_
  cases d <;> first | exact q0.elim | skip
  rename_i ds
  have i1' := i1
  cases i1 with
  | ctup e k1 k2 k3 ia =>
    refine ⟨⟨_, rfl, .inl ⟨_, k1, k2, k3⟩⟩, ha σ δ H1 S1 _ _ r1 q fun xs es H2 S2 i2 r2 u2 q2 => ?_⟩
    unfold dTIx at q2
    split at q2
    · rename_i ds' z e1
      cases e1
      obtain ⟨v, rfl, iv⟩ := ia1 i2
      obtain ⟨rfl, _⟩ := im_str iv
      obtain ⟨ys, j, rfl, hy, hno, q3⟩ := q2
      obtain ⟨rfl, _⟩ := im_strs ia
      exact ⟨_, ys, z, j, rfl, rfl, e H2, hy, hno, k _ _ H2 S2 (.int _) r2 (u1.trans u2) q3⟩
    · exact q2.elim
  | ftup e k2 k3 ia =>
    refine ⟨⟨_, rfl, .inr ⟨_, _, e, k2, k3⟩⟩, ha σ δ H1 S1 _ _ r1 q fun xs es H2 S2 i2 r2 u2 q2 => ?_⟩
    unfold dTIx at q2
    split at q2
    · rename_i ds' z e1
      cases e1
      obtain ⟨v, rfl, iv⟩ := ia1 i2
      obtain ⟨rfl, _⟩ := im_str iv
      obtain ⟨ys, j, rfl, hy, hno, q3⟩ := q2
      obtain ⟨rfl, _⟩ := im_strs ia
      exact ⟨_, ys, z, j, rfl, rfl, .inl (.inr ⟨_, (u2.tu r1.sim) _ _ rfl e⟩), hy, hno, k _ _ H2 S2 (.int _) r2 (u1.trans u2) q3⟩
    · exact q2.elim
theorem se_dpop (hd : SE G N td fd) (hy : SE G N ty fy) : SE G N (tDPop1 td ty) (eDPop fd fy) := by
  intro σ δ H S Q R rl h k
  refine hd σ δ H S _ _ rl h fun x d H1 S1 i1 r1 u1 q1 => ?_
  obtain ⟨a, rfl, z, q1'⟩ := asRef_of q1
  refine ⟨a, im_ref i1, isD_of r1.sim z, hy σ δ H1 S1 _ _ r1 q1' fun y e H2 S2 i2 r2 u2 q2 => ?_⟩
  split at q2
  · rename_i kvs hs
    obtain ⟨ks, hk, kv⟩ := r2.sim.ob _ _ hs
    split at q2
    · rename_i x hx
      cases key_im hx i2
      split at q2
      · rename_i d hd
        obtain ⟨s3, u3⟩ := put_dK r2.sim hs hk (kv_drop kv x)
        rcases kv_val kv x with ⟨w, d', e1, e2, iw⟩ | ⟨e1, e2⟩
        · rw [hd] at e2
          cases e2
          have t3 : Tu H2 (upd H2 a (.dK (dropK ks x))) := fun b xs hT e => by rw [upd_ne (fun y => by rw [y, hk] at e; cases e; cases hT)]; exact e
          exact ⟨ks, x, w, hk, rfl, e1, k w d _ _ (iw.go t3) (r2.go s3 u3) (u1.trans (u2.trans u3)) q2⟩
        · rw [hd] at e2; cases e2
      · exact q2.elim
    · exact q2.elim
  · exact q2.elim
theorem kv_keysV {H : Hp} {ks : List (Key × V)} {kvs : List (Key × D)} (h : KvAll G H ks kvs) (ok : ∀ kv ∈ kvs, okKey kv.1) {H' : Hp} : ImAll G H' (ks.map fun kv => kV kv.1) (kvs.map fun kv => keyOfD kv.1) := by
  induction h with
  | nil => exact .nil
  | cons i _ ih => exact .cons (im_key (ok _ List.mem_cons_self)) (ih fun kv m => ok kv (List.mem_cons_of_mem _ m))
theorem sl_listDK : SL G rListDK dListDK := by
  intro xs ds H S Q R hx s h k
  unfold dListDK at h
  split at h
  · obtain ⟨v, rfl, i⟩ := ia1 hx
    cases im_ref i
    split at h
    · rename_i kvs hs
      obtain ⟨ks, hk, kv⟩ := s.ob _ _ hs
      refine ⟨_, ks, rfl, .inl hk, fun p hp => ?_⟩
      obtain ⟨a1, a2, a3⟩ := new_lst s hp (kv_keysV kv h.1)
      exact k _ _ _ _ (.ref p) a2 a3 (h.2 p a1)
    · exact h.elim
  · exact h.elim
theorem im_intsN {H : Hp} : ∀ (ys : List Int), ImAll G H (ys.map V.int) (ys.map D.int) := fun ys => ImAll.ints ys
theorem sl_sortDI : SL G rSortDI dSortDI := by
  intro xs ds H S Q R hx s h k
  unfold dSortDI at h
  split at h
  · obtain ⟨v, rfl, i⟩ := ia1 hx
    cases im_ref i
    split at h
    · rename_i kvs hs
      obtain ⟨ks, hk, kv⟩ := s.ob _ _ hs
      obtain ⟨ns, e1, e2, q⟩ := h
      refine ⟨_, ks, ns, rfl, .inl hk, by rw [kv.keys]; exact e1, e2, fun ys p hp ho hn => ?_⟩
      obtain ⟨a1, a2, a3⟩ := new_lst s hn (im_intsN ys)
      exact k _ _ _ _ (.ref p) a2 a3 (q ys p hp ho a1)
    · exact h.elim
  · exact h.elim
theorem sl_any : SL G (rAny G.K) dAny := by
  intro xs ds H S Q R hx s h k
  unfold dAny at h
  split at h
  · obtain ⟨v, rfl, i⟩ := ia1 hx
    cases im_ref i
    obtain ⟨ds, e1, bs, rfl, q⟩ := atL_of h
    obtain ⟨vs, hv, i1⟩ := s.ob _ _ e1
    cases im_bls i1
    exact ⟨_, bs, rfl, SqL.of hv, k _ _ H S (.bl _) s .refl q⟩
  · exact h.elim
theorem sl_sortI : SL G (rSortedI G.K) dSortI := by
  intro xs ds H S Q R hx s h k
  unfold dSortI at h
  split at h
  · obtain ⟨v, rfl, i⟩ := ia1 hx
    cases im_ref i
    obtain ⟨ds, e1, ns, rfl, q⟩ := atL_of h
    obtain ⟨vs, hv, i1⟩ := s.ob _ _ e1
    cases im_ints i1
    refine ⟨_, ns, rfl, SqL.of hv, fun ys p hp ho hn => ?_⟩
    obtain ⟨a1, a2, a3⟩ := new_lst s hn (im_intsN ys)
    exact k _ _ _ _ (.ref p) a2 a3 (q ys p hp ho a1)
  · exact h.elim
end
end Sd

set_option Elab.async false
set_option linter.all false
set_option maxRecDepth 100000
set_option maxHeartbeats 4000000
namespace Sd
open PySem PySem.Spec PyProof.Rows L2 GxR
/-! ### list(d), d a dict with tuple keys -/
def rListDT : List V → Hp → VK → Prop := fun xs H Q => ∃ d kvs, xs = [V.ref d] ∧ Rd H d (.dT kvs) ∧ ∀ p bs, H p = none → IsKeys H kvs bs → Q (.ref p) (upd H p (.lst (bs.map V.ref)))
def dListDT : BL := fun xs S Q => match xs with
  | [.ref a] => (match S a with | some (.dT kvs) => (∀ kv ∈ kvs, ∀ k ∈ kv.1, okKey k) ∧ ∀ p, S p = none → Q (.ref p) (sup S p (.lst (kvs.map fun kv => .tup (kv.1.map keyOfD)))) | _ => False)
  | _ => False
section
variable {G : Gm} {N : En}
theorem im_keys {H : Hp} : ∀ {ks : List Key}, (∀ k ∈ ks, okKey k) → ImAll G H (ks.map kV) (ks.map keyOfD)
  | [], _ => .nil
  | k :: ks, h => .cons (im_key (h k List.mem_cons_self)) (im_keys fun x m => h x (List.mem_cons_of_mem _ m))
theorem kv_tups {H : Hp} {ks : List (List Key × V)} {kvs : List (List Key × D)} (h : KvAll G H ks kvs) : (∀ kv ∈ kvs, ∀ k ∈ kv.1, okKey k) → ∀ {bs : List Addr}, IsKeys H ks bs → ImAll G H (bs.map V.ref) (kvs.map fun kv => .tup (kv.1.map keyOfD)) := by
  induction h with
  | nil => intro _ bs hb; cases hb; exact .nil
  | cons i _ ih =>
    intro ok bs hb
    cases hb with
    | cons e r => exact .cons (.tup e (im_keys (ok _ List.mem_cons_self))) (ih (fun kv m => ok kv (List.mem_cons_of_mem _ m)) r)
theorem sl_listDT : SL G rListDT dListDT := by
  intro xs ds H S Q R hx s h k
  unfold dListDT at h
  split at h
  · obtain ⟨v, rfl, i⟩ := ia1 hx
    cases im_ref i
    split at h
    · rename_i kvs hs
      obtain ⟨ks, hk, kv⟩ := s.ob _ _ hs
      refine ⟨_, ks, rfl, .inl hk, fun p bs hp hb => ?_⟩
      obtain ⟨a1, a2, a3⟩ := new_lst s hp (kv_tups kv h.1 hb)
      exact k _ _ _ _ (.ref p) a2 a3 (h.2 p a1)
    · exact h.elim
  · exact h.elim
theorem dListDT_eq {S : Sto} {a : Addr} {kvs : List (List Key × D)} {Q : DK} (h : S a = some (.dT kvs)) (ok : ∀ kv ∈ kvs, ∀ k ∈ kv.1, okKey k) : dListDT [.ref a] S Q = ∀ p, S p = none → Q (.ref p) (sup S p (.lst (kvs.map fun kv => .tup (kv.1.map keyOfD)))) := by
  unfold dListDT
  dsimp only
  rw [h]
  exact propext ⟨fun q => q.2, fun q => ⟨ok, q⟩⟩
end
end Sd

set_option Elab.async false
set_option linter.all false
set_option maxRecDepth 100000
set_option maxHeartbeats 4000000
/-! enumerate(x, start=1), x a list -/
namespace Ow
open PySem PySem.Spec PyProof.Rows L2 GxR RT
/-- the list at a as it stands at each turn, each item in a new pair with its place from 1 on -/
def Ite1 (K : PySem.W.Frag) (a : Addr) : It :=
  ⟨fun i H => ∃ (xs : List V) (x : V), SqL K H a xs ∧ xs[i]? = some x, fun i H v H' => ∃ T x, v = .ref T ∧ H T = none ∧ H' = upd H T (.tup [.int (1 + (i : Nat)), x]) ∧ ∀ xs, SqL K H a xs → xs[i]? = some x, fun i H => ∃ xs : List V, SqL K H a xs ∧ xs.length ≤ i⟩
theorem pyNext_enum_end1 {prog : Program} {w : World} {A : Around} {E : Value → Shared → Prop} {s : Shared} {e it l : Addr} {items : Array Value} {j : Nat} {i : Int} {old : Value} {Q : Option Value → Shared → Prop} (hh : A.handled = none)
    (he : IsEnum s.heap e it i old) (hit : s.heap.IsListIter it l j) (hl : s.heap.IsList l items) (hj : items[j]? = none)
    (hQ : ∀ h', Heap.ExtBut it s.heap h' → Q none { s with heap := h' }) : wpAny (model prog w) A (pyNext (.ref e)) Q E s := by
  have hT : s.TypeIs (.ref e) "enumerate" := ⟨_, he, rfl⟩
  unfold pyNext
  refine wpAny_bind (wpAny_attempt (wpAny_callSpecial?_slot (name := Str.ofString "__next__") hT F.slot_enumerate_next
    (wpAny_call_entry F.slot_enumerate_next hT F.entry_enumerate_next ?_ (F.args_enumerate_next_1 _))))
  show wpAny _ _ (field (.ref e) 2 >>= _) _ _ _
  refine wpAny_bind (wpAny_field he rfl (x := .ref it) rfl ?_)
  refine wpAny_bind (wpAny_nextOf_list_end hh hit hl hj fun h' x he' hx' => ?_)
  obtain ⟨o, ho, hc⟩ := hx'
  refine wpAny_bind (wpAny_isInstance (T := "StopIteration") (b := true) ⟨o, ho, hc⟩ isSubtype_stop ?_)
  exact wpAny_pure (hQ _ he')
theorem turn_enum1 {P : Program} {w : World} {K : PySem.W.Frag} {elts : List Expr} {kk : Nat} {tpos : Pos} (a e it : Addr) :
    Turn P w K (.Tuple elts kk tpos) (Ite1 K a) [e, it] e (fun i h => (∃ old, IsEnum h e it (1 + ((i : Nat) : Int)) old) ∧ h.IsListIter it a i ∧ e ≠ it) where
  mem := by simp
  obj := fun i h st b hb => by
    obtain ⟨⟨old, he⟩, ⟨o, ho, hc, hd⟩, _⟩ := st
    have e' : b = e ∨ b = it := by simpa using hb
    rcases e' with z | z
    · rw [z]; exact ⟨_, he, fun v q => nomatch q⟩
    · rw [z]; exact ⟨o, ho, fun v q => by rw [hd] at q; cases q⟩
  keep := fun i h h' st k => let ⟨⟨old, he⟩, hi, hne⟩ := st; ⟨⟨old, k e (by simp) _ he⟩, hi.at fun o q => k it (by simp) o q, hne⟩
  item := by
    intro X hP hw hK hc i pins s σ H E I hf st hg
    subst hP hw hK
    obtain ⟨⟨old, he⟩, hit, hne⟩ := st
    obtain ⟨xs, x, hq, hx⟩ := hg
    obtain ⟨its, rv, p, hz⟩ := I.list hq
    obtain ⟨u, hu, ru⟩ := rv.get hx
    have hel : e < s.heap.objs.size := Heap.lt_size he
    have hil : it < s.heap.objs.size := by obtain ⟨_, q, _⟩ := hit; exact Heap.lt_size q
    have hla : a ≠ it := fun z => by
      obtain ⟨o, ho, hc1, hd1⟩ := hit
      obtain ⟨o2, ho2, hc2, n2, hd2⟩ := p.isList
      rw [z, ho] at ho2
      cases ho2
      rw [hd1] at hd2
      cases hd2
    have hea : e ≠ a := fun z => by
      obtain ⟨o2, ho2, hc2, n2, hd2⟩ := p.isList
      rw [← z, he] at ho2
      cases ho2
      cases hd2
    have D := Draws.list (prog := X.prog) (w := X.w) (A := X.A.in1) (by exact I.ok.hd hc) it a hla its.toArray
    have hlen : i < its.toArray.size := by
      have := (List.getElem?_eq_some_iff.mp hu).1
      simpa using this
    refine wpAny_pyNext_enum_itemC D he ⟨hit, p.isList⟩ hlen hne (by simp [hea, hne]) fun x' h' tk hP ho hst' hT hsz hk => ?_
    obtain ⟨hit', hli'⟩ := hst'
    have ex : x' = u := by
      have hP : its.toArray[i]? = some x' := hP
      have hu2 : its.toArray[i]? = some u := by simpa using hu
      rw [hu2] at hP
      exact (Option.some.inj hP).symm
    subst ex
    refine ⟨_, rfl, wpAny_letOwnedTupleGo_enum (s := { s with heap := h', toks := tk + 1 }) ho fun h'' he' sb => ?_⟩
    have hT2 : h''.get? s.heap.objs.size = some { cls := .type "tuple", data := .seq #[.int (1 + (i : Nat)) tk, x'] } := (sb.2 _ (Nat.ne_of_gt hel)).trans hT
    have new : ObjOk X.prog X.w (upd H s.heap.objs.size (.tup [.int (1 + (i : Nat)), x])) h'' s.heap.objs.size (.tup [.int (1 + (i : Nat)), x]) :=
      ⟨by show 2 ≤ sizeLine; decide, [.int (1 + (i : Nat)) tk, x'], .cons ⟨_, rfl⟩ (.cons ru .nil), ⟨_, hT2, rfl, _, rfl⟩⟩
    have I1 : Inv X pins σ (upd H s.heap.objs.size (.tup [.int (1 + (i : Nat)), x])) { s with heap := h'', toks := tk + 1 } :=
      I.turnedNew (ch := [e, it]) (fun b ob hb q => (sb.2 b (fun z => hb (by simp [z]))).trans (hk b ob (fun z => hb (by simp [z])) (fun z => hb (by simp [z])) q)) hf (Nat.le_refl _) new
    refine ⟨.ref s.heap.objs.size, _, I1, rfl, ⟨_, x, rfl, I.hok.fresh (Nat.le_refl _), rfl, fun ys hy => by rw [I.list_inj hy hq]; exact hx⟩, ⟨⟨x', ?_⟩, hit'.at fun o q => (sb.2 it (Ne.symm hne)).trans q, hne⟩, fun b hb => ?_⟩
    · have e1 : 1 + ((i + 1 : Nat) : Int) = 1 + (i : Int) + 1 := by omega
      rw [e1]; exact he'
    · have hb' : b < s.heap.objs.size := by
        have e' : b = e ∨ b = it := by simpa using hb
        rcases e' with z | z
        · rw [z]; exact hel
        · rw [z]; exact hil
      rw [upd_ne (Nat.ne_of_lt hb')]
      exact (hf b hb).1
  done := by
    intro X hP hw hK hc i pins s σ H E I hf st hg
    subst hP hw hK
    obtain ⟨⟨old, he⟩, hit, hne⟩ := st
    obtain ⟨xs, hq, hx⟩ := hg
    obtain ⟨its, rv, p, hz⟩ := I.list hq
    obtain ⟨f0, f1, f2, f3, f4, f5⟩ := hf it (by simp)
    have hl := rv.length
    exact pyNext_enum_end1 (I.ok.hd hc) he hit p.isList (by simp; omega) fun h' eb => ⟨rfl, I.turned (t' := s.toks) (fun b o hb q => eb b o hb q) f0 f1 f3 f4 f5⟩
  self := fun A i s Q E st h => let ⟨⟨_, he⟩, _⟩ := st; wpAny_pyIter_enum he h
theorem callWith_typeKw {M : Model} {A : Around} {E : Value → Shared → Prop} {s : Shared} {env : Env} {pos : Pos} {T : String} {e : Expr} {rest : List Expr} {kws : List Keyword} {Q : Value → Shared → Prop}
    (h : wpAny M A (spliced (backTo pos (starEach (e :: rest) env))) (fun vs s₁ => wpAny M A (evalAll ((backToKw pos (keywordEach kws env)).map (·.2)))
      (fun kvs s₂ => wpAny M A (call (.type T) vs (((backToKw pos (keywordEach kws env)).filterMap (·.1)).zip kvs)) Q E s₂) E s₁) E s)
    (he : backTo pos (starEach (e :: rest) env) = (false, eval e env) :: backTo pos (starEach rest env))
    (hplain : (backTo pos (starEach (e :: rest) env)).any (·.1) = false)
    (hall : (backToKw pos (keywordEach kws env)).all (·.1.isSome) = true)
    (hkw : (backToKw pos (keywordEach kws env)).any (·.1.isNone) = false) :
    wpAny M A (callWith pos (.type T) [] (backTo pos (starEach (e :: rest) env)) (backToKw pos (keywordEach kws env))) Q E s := by
  unfold callWith
  refine wpAny_bind (wpAny_holding (wpAny_mono (Q := fun a s₁ => wpAny M A (call (.type T) ([] ++ a.pos) a.kw) Q E s₁) ?_ (fun a s₁ h₁ => wpAny_bind (wpAny_standAt ?_)) fun _ _ x => x))
  · rw [he] at h ⊢
    exact evalArgs_kwB hall h
  simp only [hplain, hkw, Bool.or_false]
  refine wpAny_bind (wpAny_pure ?_)
  exact wpAny_bind (wpAny_mono h₁ (fun r s₂ hr => wpAny_bind (wpAny_holding (wpAny_point (wpAny_pure hr)))) fun _ _ x => x)
def iEnum1 (K : PySem.W.Frag) (ta : TA) : TI := fun σ H R => ta σ H fun vs H1 => ∃ a xs, vs = [.ref a] ∧ SqL K H1 a xs ∧ R (Ite1 K a) H1
theorem pi_enum1 {X : Cx} {e : Expr} {ta : TA} {p pos tpos kp : Pos} {elts : List Expr} {kk : Nat} {y : Expr} (hg : Gl X "enumerate") (hm : X.mg "enumerate" = none) (ha : PA X [e] ta) (hy : PE X y (tC (.int 1)))
    (hs : starEach [e] X.env = [(false, eval e X.env)] := by rfl) :
    PI X (.Tuple elts kk tpos) (.Call (.Name "enumerate" p) [e] [⟨some "start", y, kp⟩] pos) (iEnum1 X.K ta) := by
  refine ⟨fun pins s σ H R I h => ?_⟩
  refine wpAny_Call_Name_kw (ld_blt I hg hm boot_enumerate ?_)
  have hsp : backTo pos (starEach [e] X.env) = (false, eval e X.env) :: backTo pos (starEach [] X.env) := by rw [hs]; rfl
  refine callWith_typeKw (thn (ha.run pos pins s σ H _ I h) fun us s1 ⟨vs, H1, I1, r1, q1⟩ => ?_) hsp (by rw [hsp]; rfl) rfl rfl
  obtain ⟨a, xs, ex, hq, q⟩ := q1
  subst ex
  refine kws_cons (thn (hy.run pins s1 σ H1 (fun v H' => v = .int 1 ∧ H' = H1) I1 ⟨rfl, rfl⟩) fun v s2 ⟨y, H2, I2, ry, ey, eH⟩ => kws_nil ?_)
  subst ey eH
  obtain ⟨tk, rfl⟩ := (show ∃ t, v = Value.int 1 t from ry)
  cases r1 with
  | cons r rr =>
    cases rr
    cases r
    obtain ⟨its, rv, p', hz⟩ := I2.list hq
    show wpAny _ _ (call (.type "enumerate") [.ref a] [(Str.ofString "start", .int 1 tk)]) _ _ s2
    refine enum_begins_start (begins_list a its.toArray) p'.isList (by decide) (by decide) fun h' he hit hsz hk => wpAny_pyIter_enum he ?_
    have I3 : Inv X pins σ H2 { s2 with heap := h' } := I2.kept (t' := s2.toks) hk
    refine ⟨s2.heap.objs.size + 1, [s2.heap.objs.size + 1, s2.heap.objs.size], _, _, H2, rfl, I3, turn_enum1 a (s2.heap.objs.size + 1) s2.heap.objs.size, ⟨⟨.none, he⟩, ⟨_, hit, rfl, rfl⟩, Nat.succ_ne_self _⟩, fun b hb => ?_, q⟩
    have e' : b = s2.heap.objs.size + 1 ∨ b = s2.heap.objs.size := by simpa using hb
    have hle : s2.heap.objs.size ≤ b := by
      rcases e' with z | z
      · rw [z]; exact Nat.le_add_right _ _
      · rw [z]; exact Nat.le_refl _
    exact I2.fpOk hle (I2.hok.fresh hle)
end Ow

set_option Elab.async false
set_option linter.all false
set_option maxRecDepth 100000
set_option maxHeartbeats 4000000
namespace Sd
open PySem PySem.Spec PyProof.Rows L2 GxR
section
variable {G : Gm} {N : En} {to ta : TE} {fo fa : DE}
/-! ### enumerate(x, start=1) -/
def enu1 (ds : List D) : List D := ds.mapIdx fun i d => D.tup [.int (1 + (i : Nat)), d]
def iEn1 (fa : DA) : DI := fun δ S Q => fa δ S fun xs S1 => match xs with
  | [.ref a] => atL S1 a fun ds => Q ⟨enu1 ds, fun S2 => S2 a = some (.lst ds)⟩ S1
  | _ => False
theorem si_enum1 {tl : TA} {fl : DA} (ha : SA G N tl fl) : SI G N (Ow.iEnum1 G.K tl) (iEn1 fl) := by
  intro σ δ H S Q R r h k
  refine ha σ δ H S _ _ r h fun vs ds H1 S1 i1 r1 u1 q1 => ?_
  split at q1
  · rename_i a
    match i1 with
    | .cons ix .nil =>
      cases im_ref ix
      obtain ⟨ds, e1, q⟩ := atL_of q1
      obtain ⟨xs, hx, iv⟩ := r1.sim.ob _ _ e1
      refine ⟨a, xs, rfl, SqL.of hx, k _ ⟨enu1 ds, fun S2 => S2 a = some (.lst ds)⟩ H1 S1 (fun S2 H2 s2 u2 ok i hi => ?_) r1 u1 q⟩
      obtain ⟨ys, hy, iy⟩ := s2.ob _ _ ok
      have hl := iy.length
      have he : (enu1 ds).length = ds.length := by unfold enu1; rw [List.length_mapIdx]
      simp only [he] at hi ⊢
      refine ⟨fun z => ⟨ys, ys[i], SqL.of hy, List.getElem?_eq_getElem (by show i < ys.length; rw [hl]; exact z)⟩, fun z => ⟨ys, SqL.of hy, by rw [hl]; exact Nat.le_of_eq z.symm⟩, fun x H' z y => ?_⟩
      obtain ⟨T, v, rfl, hT, rfl, hv⟩ := y
      obtain ⟨d, hd, id⟩ := iy.get (hv ys (SqL.of hy))
      obtain ⟨a1, a2, a3⟩ := new_tup s2 hT (.cons (.int (1 + (i : Nat))) (.cons id .nil))
      refine ⟨.tup [.int (1 + (i : Nat)), d], ?_, a1, a2, a3, Ext.lay hT⟩
      show (enu1 ds)[i]? = _
      unfold enu1
      rw [List.getElem?_mapIdx, hd]
      rfl
  · exact q1.elim
/-! ### methods of texts -/
def dM1 (f : Str → Str → Sto → DK → Prop) (fo fa : DE) : DE := fun δ S Q => fo δ S fun x S1 => (∃ a, x = .str a) ∧ fa δ S1 fun y S2 => match x, y with
  | .str a, .str b => f a b S2 Q
  | _, _ => False
theorem se_m1 {r : V → List V → Hp → VK → Prop} {f : Str → Str → Sto → DK → Prop} (ho : SE G N to fo) (ha : SE G N ta fa)
    (hf : ∀ (a b : Str) H S (Q : DK) (R : VK) , okS a → okS b → Sim G S H → f a b S Q → (∀ v d H' S', Im G H' v d → Sim G S' H' → Up S S' H H' → Q d S' → R v H') → r (.str a) [.str b] H R) : SE G N (tM1 r to ta) (dM1 f fo fa) := by
  intro σ δ H S Q R rl h k
  refine ho σ δ H S _ _ rl h fun x d H1 S1 i1 r1 u1 ⟨⟨s, ex⟩, q1⟩ => ?_
  subst ex
  obtain ⟨rfl, os⟩ := im_str i1
  refine ⟨⟨s, rfl⟩, ha σ δ H1 S1 _ _ r1 q1 fun y e H2 S2 i2 r2 u2 q2 => ?_⟩
  cases e <;> first | exact q2.elim | skip
  rename_i b
  obtain ⟨rfl, ob⟩ := im_str i2
  exact hf s b H2 S2 Q _ os ob r2.sim q2 fun v d H' S' i s u q => k v d H' S' i (r2.go s u) (u1.trans (u2.trans u)) q
def dSplitV (a b : Str) (S : Sto) (Q : DK) : Prop := (b.length == 0) = false ∧ a.length ≤ 1000000 ∧ (∀ z ∈ Txt.split a b, okS z) ∧ ∀ p, S p = none → Q (.ref p) (sup S p (.lst ((Txt.split a b).map D.str)))
theorem se_splitV (ho : SE G N to fo) (ha : SE G N ta fa) : SE G N (tM1 (fun x xs H Q => ∃ a b, x = .str a ∧ xs = [.str b] ∧ (b.length == 0) = false ∧ a.length + 2 ≤ sizeLine ∧ rNewStrs (Txt.split a b) H Q) to ta) (dM1 dSplitV fo fa) :=
  se_m1 ho ha fun a b H S Q R _ _ s ⟨h1, h2, h3, q⟩ k => ⟨a, b, rfl, rfl, h1, Nat.le_trans (Nat.add_le_add_right h2 2) (by decide), fun p hp => by
    obtain ⟨a1, a2, a3⟩ := new_lst s hp (im_strsN (H := H) h3)
    exact k _ _ _ _ (.ref p) a2 a3 (q p a1)⟩
def dPart (a b : Str) (S : Sto) (Q : DK) : Prop := (b.length == 0) = false ∧ a.length ≤ 1000000 ∧ okS (Txt.partition a b).1 ∧ okS (Txt.partition a b).2.1 ∧ okS (Txt.partition a b).2.2 ∧ Q (.tup [.str (Txt.partition a b).1, .str (Txt.partition a b).2.1, .str (Txt.partition a b).2.2]) S
theorem se_part (ho : SE G N to fo) (ha : SE G N ta fa) : SE G N (tM1 (fun x xs H Q => ∃ a b, x = .str a ∧ xs = [.str b] ∧ (b.length == 0) = false ∧ a.length ≤ sizeLine ∧
      ∀ p, H p = none → Q (.ref p) (upd H p (.tup [.str (Txt.partition a b).1, .str (Txt.partition a b).2.1, .str (Txt.partition a b).2.2]))) to ta) (dM1 dPart fo fa) :=
  se_m1 ho ha fun a b H S Q R _ _ s ⟨h1, h2, o1, o2, o3, q⟩ k => ⟨a, b, rfl, rfl, h1, Nat.le_trans h2 (by decide), fun p hp => by
    obtain ⟨a1, a2, a3⟩ := new_tup s hp (.cons (.str _ o1) (.cons (.str _ o2) (.cons (.str _ o3) .nil)))
    exact k _ _ _ _ a1 a2 a3 q⟩
def dStripC (a b : Str) (S : Sto) (Q : DK) : Prop := a.length ≤ 1000000 ∧ okS (Txt.stripChars a b) ∧ Q (.str (Txt.stripChars a b)) S
theorem se_stripC (ho : SE G N to fo) (ha : SE G N ta fa) : SE G N (tM1 (fun x xs H Q => ∃ a b, x = .str a ∧ xs = [.str b] ∧ a.length ≤ sizeLine ∧ Q (.str (Txt.stripChars a b)) H) to ta) (dM1 dStripC fo fa) :=
  se_m1 ho ha fun a b H S Q R _ _ s ⟨h1, o1, q⟩ k => ⟨a, b, rfl, rfl, Nat.le_trans h1 (by decide), k _ _ _ _ (.str _ o1) s .refl q⟩
/-! ### int and str -/
def rIntT : List V → Hp → VK → Prop := fun xs H Q => ∃ a n, xs = [.str a] ∧ PySem.intText? a = some n ∧ a.length ≤ 640 ∧ Q (.int n) H
def dIntT : BL := fun xs S Q => match xs with | [.str a] => ∃ n, PySem.intText? a = some n ∧ a.length ≤ 640 ∧ Q (.int n) S | _ => False
theorem sl_intT : SL G rIntT dIntT := by
  intro xs ds H S Q R hx s h k
  unfold dIntT at h
  split at h
  · obtain ⟨v, rfl, i⟩ := ia1 hx
    obtain ⟨rfl, o⟩ := im_str i
    obtain ⟨n, h1, h2, h3⟩ := h
    exact ⟨_, n, rfl, h1, h2, k _ _ H S (.int n) s .refl h3⟩
  · exact h.elim
def rStrU : List V → Hp → VK → Prop := fun xs H Q => rStrN xs H Q ∨ ∃ a, xs = [.str a] ∧ Q (.str a) H
def txtI (i : Int) : Str := toString i
def dStrU : BL := fun xs S Q => match xs with
  | [.int i] => i.natAbs.log2 < 1920 ∧ okS (txtI i) ∧ Q (.str (txtI i)) S
  | [.str a] => Q (.str a) S
  | _ => False
theorem sl_strU : SL G rStrU dStrU := by
  intro xs ds H S Q R hx s h k
  unfold dStrU at h
  split at h
  · obtain ⟨v, rfl, i⟩ := ia1 hx
    cases im_int i
    obtain ⟨h1, h2, h3⟩ := h
    exact .inl ⟨_, rfl, h1, k _ _ H S (.str _ h2) s .refl h3⟩
  · obtain ⟨v, rfl, i⟩ := ia1 hx
    obtain ⟨rfl, o⟩ := im_str i
    exact .inr ⟨_, rfl, k _ _ H S (.str _ o) s .refl h⟩
  · exact h.elim
/-! ### *e in a display -/
def aStar (fe : DE) (fl : DA) : DA := fun δ S Q => fe δ S fun x S1 => match x with
  | .tup xs => fl δ S1 fun ys S2 => Q (xs ++ ys) S2
  | .ref a => atL S1 a fun xs => fl δ S1 fun ys S2 => Q (xs ++ ys) S2
  | _ => False
theorem sa_star {te : TE} {fe : DE} {tl : TA} {fl : DA} (he : SE G N te fe) (hl : SA G N tl fl) : SA G N (StX.tStar G.K te tl) (aStar fe fl) := by
  intro σ δ H S Q R rl h k
  refine he σ δ H S _ _ rl h fun x d H1 S1 i1 r1 u1 q1 => ?_
  split at q1
  · rename_i es
    obtain ⟨a, xs, rfl, e1, j1⟩ := im_tup i1
    refine ⟨a, xs, rfl, .inl (SqT.of e1), hl σ δ H1 S1 _ _ r1 q1 fun vs ds H2 S2 i2 r2 u2 q2 => ?_⟩
    exact k _ _ H2 S2 ((j1.go (u2.tu r1.sim)).append i2) r2 (u1.trans u2) q2
  · rename_i a
    cases im_ref i1
    obtain ⟨es, e1, q⟩ := atL_of q1
    obtain ⟨xs, hx, iv⟩ := r1.sim.ob _ _ e1
    refine ⟨a, xs, rfl, .inr (SqL.of hx), hl σ δ H1 S1 _ _ r1 q fun vs ds H2 S2 i2 r2 u2 q2 => ?_⟩
    exact k _ _ H2 S2 ((iv.go (u2.tu r1.sim)).append i2) r2 (u1.trans u2) q2
  · exact q1.elim
end
end Sd

set_option Elab.async false
set_option linter.all false
set_option maxRecDepth 100000
set_option maxHeartbeats 4000000
/-! all(.. for .. if ..) -/
namespace Ow
open PySem PySem.Spec PyProof.Rows L2 GxR
def gxTurnsI (J : It) (g : TG) (tt : TT) (te : TE) (σ0 : L2.St) (vs : List Nat) (Qt Qf : Hp → Prop) (W : Nat → Nat → Hp → Prop) : Prop := ∀ i m H, W i m H →
  (J.stop i H ∧ Qt H) ∨ (J.go i H ∧ ∃ Nx : Hp → Prop, (∀ H', Nx H' → ∃ m', m' < m ∧ W (i + 1) m' H') ∧ ∀ x H', J.yld i H x H' → g x σ0 H' fun σ2 H2 => wipe σ2 vs = σ0 ∧ tt σ2 H2 fun ok H3 => if ok = true then te σ2 H3 fun y H4 => ∃ b, y = .bl b ∧ (b = true → Nx H4) ∧ (b = false → Qf H4) else Nx H3)
section
variable {X' : Cx} {A : Around} {elt tg iter : Expr} {ifs : List Expr} {scope : Scope} {pos : Pos} {it : Addr} {J : It} {fp : List Addr} {tn : Nat → Heap → Prop} {σ0 : L2.St} {vs : List Nat} {g : TG} {tt : TT} {te : TE} {Qt Qf : Hp → Prop} {W : Nat → Nat → Hp → Prop}

theorem seg_gxI (hA : X'.A = A.over (.compLoop (.GeneratorExp elt [⟨tg, iter, ifs, 0⟩] scope pos) 0 (.ref it) .none X'.env) []) (hc : X'.calm = true) (hco : X'.env.scope.isCoroutine = false) (hxe : X'.xe = fun _ _ => False) (hex : X'.ex = fp)
    (T : Turn X'.prog X'.w X'.K tg J fp it tn) (hg : PG X' tg g) (he : PE X' elt te) (hpn : ∀ b ∈ fp, ∀ p ∈ X'.pn, p.1 ≠ b) (hw : ∀ σ2 : L2.St, wipe σ2 vs = σ0 → ∀ (j : Nat) v, σ0[j]? = some (some v) → σ2[j]? = some (some v))
    (hts : PTs X' ifs tt) (turn : gxTurnsI J g tt te σ0 vs Qt Qf W) :
    ∀ (m n i : Nat) (s₀ s : Shared) (H : Hp), m < n → Inv X' [] σ0 H s → tn i s.heap → (∀ b ∈ fp, H b = none) → W i m H →
      Seg (model X'.prog X'.w) A (gxEnd X' σ0 Qt) (gxOut X' σ0 Qf) n s₀ (.compLoop (.GeneratorExp elt [⟨tg, iter, ifs, 0⟩] scope pos) 0 (.ref it) .none X'.env)
        ((model X'.prog X'.w).den (.compLoop (.GeneratorExp elt [⟨tg, iter, ifs, 0⟩] scope pos) 0 (.ref it) .none X'.env)) [] s := by
  have stat : ∀ {σ' : L2.St} {H' : Hp} {s' : Shared}, Inv X' [] σ' H' s' → (∀ b ∈ fp, H' b = none) → ∀ b ∈ fp, FpOk X' [] H' b := fun {σ' H' s'} I' hn b hb =>
    ⟨hn b hb, (I'.ok.exf b (by rw [hex]; exact hb)).1, I'.ok.exfs b (by rw [hex]; exact hb), .inl (by rw [hex]; exact hb), fun x c e => (I'.ok.exf b (by rw [hex]; exact hb)).2 x c e, fun p hp => hpn b hb p (by simpa using hp)⟩
  intro m
  induction m using Nat.strongRecOn with
  | ind m ih =>
    intro n i s₀ s H hmn I st nf w
    show Seg _ A _ _ _ s₀ _ ((compTurn (.GeneratorExp elt [⟨tg, iter, ifs, 0⟩] scope pos) 0 (.ref it) .none X'.env).onRaise (leaving X'.env)) [] s
    rw [compTurn_gen, Sem.onRaise_eq_wrap]
    refine seg_bind_wrap (wpAny_standAt ?_)
    rcases turn i m H w with ⟨stop, qt⟩ | ⟨go, Nx, hNx, step⟩
    · refine seg_bind_wrap ?_
      rw [← hA]
      refine thnF (T.done X' rfl rfl rfl hc i [] s _ H (fun _ _ => False) I (stat I nf) st stop) fun r s1 ⟨hr, I1⟩ => ?_
      subst hr
      exact seg_end (.ok .next) ⟨rfl, H, I1, qt⟩
    · refine seg_bind_wrap ?_
      rw [← hA]
      refine thnF (T.item X' rfl rfl rfl hc i [] s _ H (fun _ _ => False) I (stat I nf) st go) fun r s1 ⟨u, hr, h1⟩ => ?_
      subst hr
      refine seg_bind_wrap ?_
      rw [← hA]
      refine thnF h1 fun _ s2 ⟨x, H2, I2, r2, y2, st2, nf2⟩ => ?_
      have I2' := I2.pinned (stat I2 nf2) (T.obj _ _ st2)
      refine seg_bind_wrap ?_
      rw [← hA]
      have pgr := hg.run _ s2 _ H2 x u _ I2' r2 (step x H2 y2)
      rw [hxe] at pgr
      refine thnF pgr fun _ s3 ⟨σ3, H3, I3, hw3, q3⟩ => ?_
      refine seg_bind_wrap ?_
      rw [← hA]
      have ptr := hts.run _ s3 σ3 H3 _ I3 q3
      rw [hxe] at ptr
      have hl : σ0.length = σ3.length := by rw [← hw3, wipe_length]
      have pin2 : ∀ {H4 : Hp} {s4 : Shared}, Inv X' ([] ++ pinsAt fp s2.heap) σ3 H4 s4 → ∀ c ∈ fp, ∀ o, s2.heap.get? c = some o → s4.heap.get? c = some o ∧ H4 c = none := fun I4 c hb o e =>
        let z := I4.pin (c, o) (List.mem_append_right _ (List.mem_append_right _ (mem_pinsAt hb e)))
        ⟨z.1, z.2.1⟩
      have goes : ∀ {H4 : Hp} {s4 : Shared}, Inv X' ([] ++ pinsAt fp s2.heap) σ3 H4 s4 → Inv X' [] σ0 H4 s4 ∧ tn (i + 1) s4.heap ∧ ∀ c ∈ fp, H4 c = none := fun I4 =>
        ⟨(I4.unpinned (pins := [])).weak hl (hw σ3 hw3), T.keep _ _ _ st2 fun c hb o e => (pin2 I4 c hb o e).1, fun c hb => by
          obtain ⟨o, e, _⟩ := T.obj _ _ st2 c hb
          exact (pin2 I4 c hb o e).2⟩
      refine thnF ptr fun ok s4 ⟨H4, I4, hk⟩ => ?_
      cases ok with
      | false =>
        rw [if_neg Bool.false_ne_true] at hk
        simp only [Bool.false_eq_true, if_false]
        obtain ⟨I5, st5, nf5⟩ := goes I4
        obtain ⟨m', hm', w'⟩ := hNx H4 hk
        first
          | exact seg_again rfl (ih m' hm' n (i + 1) s₀ s4 H4 (by omega) I5 st5 nf5 w')
          | exact seg_wrap (wpAny_pure (seg_again rfl (ih m' hm' n (i + 1) s₀ s4 H4 (by omega) I5 st5 nf5 w')))
          | (refine seg_bind_wrap (wpAny_pure ?_); exact seg_again rfl (ih m' hm' n (i + 1) s₀ s4 H4 (by omega) I5 st5 nf5 w'))
      | true =>
        rw [if_pos rfl] at hk
        simp only [if_true]
        have hy : ∀ v, yieldOut X'.env v = yieldValue v := fun v => by simp only [yieldOut, hco, Bool.false_eq_true, if_false]
        simp only [hy]
        rw [Sem.bind_eq_wrap', Sem.bind_eq_wrap', Sem.wrap_wrap, Sem.wrap_wrap]
        refine seg_wrap ?_
        rw [← hA]
        have per := he.run _ s4 σ3 H4 _ I4 hk
        rw [hxe] at per
        refine thnF per fun v s5 ⟨y, H5, I5, r5, b, hb, hT, hF⟩ => ?_
        subst hb
        have hv : v = .bool b := r5
        subst hv
        obtain ⟨I6, st6, nf6⟩ := goes I5
        have hn : ∃ n', n = n' + 1 := ⟨n - 1, by omega⟩
        obtain ⟨n', rfl⟩ := hn
        refine seg_at (seg_yield rfl rfl rfl ⟨b, H5, rfl, I6, hF, fun hb s' z => ?_⟩)
        obtain ⟨m', hm', w'⟩ := hNx H5 (hT hb)
        refine seg_again rfl (ih m' hm' n' (i + 1) s' s' H5 (by omega) (inv_woke I6 z) ?_ nf6 w')
        rw [z.heap]; exact st6

theorem seg_gxIStart (hA : X'.A = A.over (.compLoop (.GeneratorExp elt [⟨tg, iter, ifs, 0⟩] scope pos) 0 (.ref it) .none X'.env) []) (hc : X'.calm = true) (hco : X'.env.scope.isCoroutine = false) (hxe : X'.xe = fun _ _ => False) (hex : X'.ex = fp)
    (T : Turn X'.prog X'.w X'.K tg J fp it tn) (hg : PG X' tg g) (he : PE X' elt te) (hpn : ∀ b ∈ fp, ∀ p ∈ X'.pn, p.1 ≠ b) (hw : ∀ σ2 : L2.St, wipe σ2 vs = σ0 → ∀ (j : Nat) v, σ0[j]? = some (some v) → σ2[j]? = some (some v))
    (hts : PTs X' ifs tt) (turn : gxTurnsI J g tt te σ0 vs Qt Qf W) (m n : Nat) (s₀ s : Shared) (H : Hp) (hmn : m < n) (I : Inv X' [] σ0 H s) (st : tn 0 s.heap) (nf : ∀ b ∈ fp, H b = none) (w : W 0 m H) :
    Seg (model X'.prog X'.w) A (gxEnd X' σ0 Qt) (gxOut X' σ0 Qf) n s₀ (.compStart (.GeneratorExp elt [⟨tg, iter, ifs, 0⟩] scope pos) 0 (.ref it) .none X'.env)
        ((model X'.prog X'.w).den (.compStart (.GeneratorExp elt [⟨tg, iter, ifs, 0⟩] scope pos) 0 (.ref it) .none X'.env)) [] s := by
  have loop := seg_gxI (A := A) (iter := iter) (scope := scope) (pos := pos) hA hc hco hxe hex T hg he hpn hw hts turn m n 0 s₀ s H hmn I st nf w
  show Seg _ A _ _ _ s₀ _ ((compStart (.GeneratorExp elt [⟨tg, iter, ifs, 0⟩] scope pos) 0 (.ref it) .none X'.env).onRaise (leaving X'.env)) [] s
  unfold compStart
  rw [Sem.onRaise_eq_wrap]
  show Seg _ A _ _ _ s₀ _ ((ask >>= _).wrap _ _ _ _) [] s
  refine seg_bind_wrap (wpAny_askSetting ?_)
  split
  · exact seg_again rfl loop
  · first
      | exact seg_bind_wrap (wpAny_rule (seg_bind_wrap (wpAny_standAt (seg_bind_wrap (T.self _ 0 s _ _ st (seg_again rfl loop))))))
      | (refine seg_bind_wrap (wpAny_rule ?_); show Seg _ A _ _ _ s₀ _ ((standAt iter.pos >>= _).wrap _ _ _ _) [] s; exact seg_bind_wrap (wpAny_standAt (seg_bind_wrap (T.self _ 0 s _ _ st (seg_again rfl loop)))))
end
def tAllGI (P : Addr) (wi : TI) (g : TG) (tt : TT) (te : TE) (vs : List Nat) : TE := fun σ H Q => wi σ H fun J H1 => TabG H1 P ∧ ∀ H2, Tabbed P H1 H2 → ∃ W : Nat → Nat → Hp → Prop, (∃ m, W 0 m H2) ∧ gxTurnsI J g tt te (wipe σ vs) vs (Q (.bl true)) (Q (.bl false)) W
section
variable {X : Cx} {pins : List (Addr × Obj)} {σ : L2.St} {H : Hp} {s : Shared}
theorem gx_genI {c P : Addr} {elt tg iter : Expr} {ifs : List Expr} {gpos : Pos} {scope : Scope} {own : List (Str × Nat)} {wi : TI} {g : TG} {tt : TT} {te : TE} {k : Nat} {Q' : Value → Shared → Prop} {Q : VK}
    (hr : Room (k + 1) X.A) (TB : TabB X.base X.mg c P) (hcode : X.env.code = .ref c) (hN : X.N.Nodup) (ok : BlkOk X.N X.env.scope scope own) (gk : GxOk scope) (hi : PI X tg iter wi)
    (hgt : ∀ (s : Shared) (H : Hp) (cl : List (Str × Addr)) (C : Addr) (code : Value) (A' : Around) (fp : List Addr) (pn : List (Addr × Obj)), Room k A' → PG (gxCx X s H scope (genEnv scope cl C code builtinsNs X.env) A' fp pn) tg g)
    (hts : ∀ (s : Shared) (H : Hp) (cl : List (Str × Addr)) (C : Addr) (code : Value) (A' : Around) (fp : List Addr) (pn : List (Addr × Obj)), Room k A' → PTs (gxCx X s H scope (genEnv scope cl C code builtinsNs X.env) A' fp pn) ifs tt)
    (he : ∀ (s : Shared) (H : Hp) (cl : List (Str × Addr)) (C : Addr) (code : Value) (A' : Around) (fp : List Addr) (pn : List (Addr × Obj)), Room k A' → PE (gxCx X s H scope (genEnv scope cl C code builtinsNs X.env) A' fp pn) elt te)
    (hs : ∀ v, genFold iter X.env v = pure v) (I : Inv X pins σ H s) (h : tAllGI P wi g tt te (own.map (·.2)) σ H Q)
    (hQ : ∀ (X' : Cx) (a : Addr) (gi n : Nat) (s5 : Shared), X'.prog = X.prog → X'.w = X.w → AllBare s5.gens → s5.heap.IsGen a gi → (∀ σ H s, Inv X' [] σ H s → s.heap.IsGen a gi) →
      GxAt X'.prog X'.w X.A.in1.in1 (gxEnd X' (wipe σ (own.map (·.2))) (Q (.bl true))) (gxOut X' (wipe σ (own.map (·.2))) (Q (.bl false))) a gi n s5 →
      (∀ σ' H' s', Inv X' [] σ' H' s' → Inv X pins σ H' s') → Q' (.ref a) s5) :
    wpAny (model X.prog X.w) X.A (eval (.GeneratorExp elt [⟨tg, iter, ifs, 0⟩] scope gpos) X.env) Q' X.xe s := by
  have hfree : ∀ y ∈ scope.names, y.2 = .free → ∃ c, X.env.cells.lookup y.1 = some c := fun y hy e => by
    rcases ok.free y hy e with k | k
    · exact I.ok.has _ (.inl k)
    · exact I.ok.has _ (.inr k)
  refine wpAny_GeneratorExp_make gk.co (closure_ok hfree) gk.cell gk.dot ok.kind (by have := hr.dp; omega) ?_ hs
  refine thn (hi.run pins s σ H _ I h) fun xv s1 hx => thn hx fun itv s2 ⟨it, fp, tn, J, H2, e, I2, T, st2, f2, ⟨ps, hP, ht⟩, q⟩ => ?_
  subst e
  have hPs : s2.heap.get? P = some { cls := .none, data := .fields ps } := I2.hok P _ hP
  have cd : PySem.W.CodeHd s2.heap c P := TB.code.keeps fun b u e => I2.bk b u e
  have szf : ∀ b ∈ fp, b < s2.heap.objs.size := fun b hb => by
    obtain ⟨o, e, _⟩ := T.obj _ _ st2 b hb
    exact Heap.lt_size e
  have cont : ∀ (code : Value) (h3 : Heap) (tk : Nat) (ps' : Array Value), Heap.ExtBut P s2.heap h3 → s2.heap.objs.size ≤ h3.objs.size → h3.get? P = some { cls := .none, data := .fields ps' } → (∃ more, ps' = ps ++ more) → TriplesOk ps'.toList →
      wpAny (model X.prog X.w) X.A (builtinsFor X.env.globals X.env.builtins) (fun bi s₄ =>
        ∀ h', h'.Ns s₄.heap.objs.size (fun y => if y = ".0" then some (.ref it) else none) → Heap.SameBut s₄.heap.objs.size (s₄.heap.push { cls := .type "frame", data := .dict #[] }) h' →
          Q' (.ref h'.objs.size) { s₄ with
            gens := s₄.gens.push (.fresh (.compStart (.GeneratorExp elt [⟨tg, iter, ifs, 0⟩] scope gpos) 0 (.ref it) .none (genEnv scope (cloFrom X.env.cells scope.names []) s₄.heap.objs.size code bi X.env))),
            toks := s₄.toks + 1 + 1 + 1,
            heap := h'.push { cls := .type "generator", data := .fields #[.int s₄.gens.size 0, .str "<genexpr>" (s₄.toks + 1), .str (X.env.qual ++ "<genexpr>") (s₄.toks + 1 + 1)] } }) X.xe { s2 with heap := h3, toks := tk } := by
    intro code h3 tk ps' hx hsz hP3 hmore ht3
    obtain ⟨more, em⟩ := hmore
    obtain ⟨bm, ob, e1, e2, e3, e4, e5, e6, e7, e8⟩ := TB.bm
    have I3 : Inv X pins σ (upd H2 P (.tbl (ps ++ more))) { s2 with heap := h3, toks := tk } :=
      inv_tab (more := more) (h' := h3) (g' := s2.gens) (d' := s2.drawn) (t' := tk) I2 hP (fun b u hb e => hx b u hb e) (by rw [← em]; exact hP3) I2.bare
    have hT : Tabbed P H2 (upd H2 P (.tbl (ps ++ more))) := ⟨⟨ps ++ more, upd_same, by rw [← em]; exact ht3⟩, fun b hb => upd_ne hb⟩
    generalize hH3 : upd H2 P (.tbl (ps ++ more)) = H3 at I3 hT
    obtain ⟨W, ⟨m0, w0⟩, turn⟩ := q H3 hT
    have fP : ∀ b ∈ fp, b ≠ P := fun b hb z => by
      have := (f2 b hb).1
      rw [z, hP] at this
      cases this
    have f3 : ∀ b ∈ fp, FpOk X pins H3 b ∧ b < h3.objs.size := fun b hb => ⟨⟨by rw [hT.2 b (fP b hb)]; exact (f2 b hb).1, (f2 b hb).2⟩, Nat.lt_of_lt_of_le (szf b hb) hsz⟩
    have st3 : tn 0 h3 := T.keep _ _ _ st2 fun b hb o e => hx b o (fP b hb) e
    refine wpAny_builtinsFor (m := X.mg) (by rw [I3.ok.glob]; exact I3.mod.glob.keeps I3.bk) e1 e2 (I3.bk _ _ e5) e6 e7 e8 ?_
    intro h' hns hsb
    generalize hs3 : ({ s2 with heap := h3, toks := tk } : Shared) = s3 at I3 hns hsb ⊢
    have hh3 : s3.heap = h3 := by rw [← hs3]
    have hsz' : h'.objs.size = s3.heap.objs.size + 1 := by rw [hsb.1, Heap.size_push]
    have keep' : ∀ b o, s3.heap.get? b = some o → h'.get? b = some o := fun b o e => hsb.extBut b o (Nat.ne_of_lt (Heap.lt_size e)) (Heap.get?_push_of_some _ e)
    generalize hgo : ({ cls := .type "generator", data := .fields #[.int s3.gens.size 0, .str "<genexpr>" (s3.toks + 1), .str (X.env.qual ++ "<genexpr>") (s3.toks + 1 + 1)] } : Obj) = go
    have hpushed : (h'.push go).get? h'.objs.size = some go := by
      rw [← hgo]
      exact Heap.get?_push_size _ rfl
    have hgen : ∀ h : Heap, h.get? h'.objs.size = some go → h.IsGen h'.objs.size s3.gens.size := fun h e => ⟨go, _, _, e, by rw [← hgo], by rw [← hgo], by rw [← hgo]⟩
    have kp : ∀ b o, s3.heap.get? b = some o → (h'.push go).get? b = some o := fun b o e => Heap.get?_push_of_some _ (keep' b o e)
    generalize hce : genEnv scope (cloFrom X.env.cells scope.names []) s3.heap.objs.size code builtinsNs X.env = ce
    have room' : Room k (X.A.in1.in1.over (.compLoop (.GeneratorExp elt [⟨tg, iter, ifs, 0⟩] scope gpos) 0 (.ref it) .none ce) []) :=
      ⟨hr.hd, by have := hr.dp; show X.A.depth + 0 + 1 + 3 * k + 5 < _; omega, by have := hr.un; show X.A.units + 1 + 1 + 0 + 3 + 16 * k + 200 < _; omega⟩
    have hbare : AllBare (s3.gens.push (.fresh (.compStart (.GeneratorExp elt [⟨tg, iter, ifs, 0⟩] scope gpos) 0 (.ref it) .none ce))) := I3.bare.push rfl
    have I5 : Inv (gxCx X s3 H3 scope ce (X.A.in1.in1.over (.compLoop (.GeneratorExp elt [⟨tg, iter, ifs, 0⟩] scope gpos) 0 (.ref it) .none ce) []) fp [(h'.objs.size, go)]) [] (wipe σ (own.map (·.2))) H3
        { s3 with heap := h'.push go, gens := s3.gens.push (.fresh (.compStart (.GeneratorExp elt [⟨tg, iter, ifs, 0⟩] scope gpos) 0 (.ref it) .none ce)), toks := s3.toks + 1 + 1 + 1 } := by
      rw [← hce]
      refine gx_start I3 ok gk.cell hN (fun b hb => by rw [hh3]; exact f3 b hb) (Nat.le_refl _) (hns.push _) kp (by rw [hce]; exact hbare) hr.hd ?_ fun p hp => ?_
      · rw [hce]
        show pushEnvs [ce] (pushEnvs [] X.A.frames) = _
        rw [I3.ok.frames]
        rfl
      · rw [List.mem_singleton.mp hp]
        refine ⟨hpushed, by show _ ≤ h'.objs.size; omega, by show h'.objs.size ≠ _; omega, fun v => by rw [← hgo]; intro z; cases z⟩
    have hA5 : ∀ b ∈ fp, ∀ p ∈ [(h'.objs.size, go)], p.1 ≠ b := fun b hb p hp => by
      rw [List.mem_singleton.mp hp]
      have h1 := (f3 b hb).2
      have h2 : s3.heap.objs.size = h3.objs.size := by rw [hh3]
      have h4 : s3.heap.objs.size ≤ h'.objs.size := by omega
      exact Nat.ne_of_gt (Nat.lt_of_lt_of_le h1 (by rw [← h2]; exact h4))
    have back : ∀ σ' H' s', Inv (gxCx X s3 H3 scope ce (X.A.in1.in1.over (.compLoop (.GeneratorExp elt [⟨tg, iter, ifs, 0⟩] scope gpos) 0 (.ref it) .none ce) []) fp [(h'.objs.size, go)]) [] σ' H' s' → Inv X pins σ H' s' := fun σ' H' s' I6 =>
      I3.call' (ch := fp) I6.os I6.base I6.hok I6.bare fun b hb => ⟨(f3 b hb).1.2.2.2.1, (f3 b hb).1.2.1, (f3 b hb).1.2.2.2.2.1, (f3 b hb).1.2.2.2.2.2⟩
    have genAt : ∀ σ H s, Inv (gxCx X s3 H3 scope ce (X.A.in1.in1.over (.compLoop (.GeneratorExp elt [⟨tg, iter, ifs, 0⟩] scope gpos) 0 (.ref it) .none ce) []) fp [(h'.objs.size, go)]) [] σ H s → s.heap.IsGen h'.objs.size s3.gens.size := fun σ H s I6 =>
      hgen _ (I6.pin (h'.objs.size, go) (by simp)).1
    refine hQ (gxCx X s3 H3 scope ce (X.A.in1.in1.over (.compLoop (.GeneratorExp elt [⟨tg, iter, ifs, 0⟩] scope gpos) 0 (.ref it) .none ce) []) fp [(h'.objs.size, go)]) h'.objs.size s3.gens.size (m0 + 1) _ rfl rfl hbare (hgen _ hpushed) genAt ⟨hgen _ hpushed, I5.nolimit, _, Array.getElem?_push_size .., rfl, ?_⟩ back
    refine seg_gxIStart (X' := gxCx X s3 H3 scope ce (X.A.in1.in1.over (.compLoop (.GeneratorExp elt [⟨tg, iter, ifs, 0⟩] scope gpos) 0 (.ref it) .none ce) []) fp [(h'.objs.size, go)]) (vs := own.map (·.2)) (g := g) (te := te) (W := W) rfl rfl (by rw [← hce]; exact gk.co) rfl rfl T ?_ ?_ hA5
      (fun σ2 e j v z => by rw [← e] at z; exact (wipe_some z).1) ?_ turn m0 (m0 + 1) _ _ H3 (Nat.lt_succ_self _) (inv_woke I5 ⟨rfl, rfl, bare_set hbare rfl⟩) ?_ (fun b hb => (f3 b hb).1.1) w0
    · rw [← hce]
      exact hgt _ _ _ _ _ _ _ _ (by rw [hce]; exact room')
    · rw [← hce]
      exact he _ _ _ _ _ _ _ _ (by rw [hce]; exact room')
    · rw [← hce]
      exact hts _ _ _ _ _ _ _ _ (by rw [hce]; exact room')
    · exact T.keep _ _ _ st3 fun b _ o e => kp b o (by rw [hh3]; exact e)
  refine ⟨I2.nolimit, ?_⟩
  cases hf : codeAmong gpos ps.toList with
  | none =>
    refine wpAny_genexprCodeX hcode (cd.code hPs ht) (cd.tab hPs) hf fun c' h' tk hx hge hlt hco' _ htab' _ => ?_
    obtain ⟨o1, vs, f1, tf, fl, tg, inF, tx, tt, op, _, _, _, _, _, _, _, _, _, htr, _⟩ := hco'
    exact cont _ h' tk _ hx (Nat.le_trans hge (Nat.le_of_lt hlt)) htab'.2 ⟨_, rfl⟩ htr
  | some cv =>
    refine wpAny_genexprCode_hit hcode (cd.code hPs ht) hf ?_
    exact cont cv s2.heap s2.toks ps (Heap.ExtBut.refl _ _) (Nat.le_refl _) hPs ⟨#[], by simp⟩ ht

theorem pe_allGI {c P : Addr} {elt tg iter : Expr} {ifs : List Expr} {p pos gpos : Pos} {scope : Scope} {own : List (Str × Nat)} {wi : TI} {g : TG} {tt : TT} {te : TE} {k : Nat}
    (hr : Room (k + 1) X.A) (hg : Gl X "all") (hm : X.mg "all" = none) (hb : bootBuiltins "all" = some (.builtin "all")) (TB : TabB X.base X.mg c P) (hcode : X.env.code = .ref c) (hN : X.N.Nodup) (ok : BlkOk X.N X.env.scope scope own) (gk : GxOk scope) (hi : PI X tg iter wi)
    (hgt : ∀ (s : Shared) (H : Hp) (cl : List (Str × Addr)) (C : Addr) (code : Value) (A' : Around) (fp : List Addr) (pn : List (Addr × Obj)), Room k A' → PG (gxCx X s H scope (genEnv scope cl C code builtinsNs X.env) A' fp pn) tg g)
    (hts : ∀ (s : Shared) (H : Hp) (cl : List (Str × Addr)) (C : Addr) (code : Value) (A' : Around) (fp : List Addr) (pn : List (Addr × Obj)), Room k A' → PTs (gxCx X s H scope (genEnv scope cl C code builtinsNs X.env) A' fp pn) ifs tt)
    (he : ∀ (s : Shared) (H : Hp) (cl : List (Str × Addr)) (C : Addr) (code : Value) (A' : Around) (fp : List Addr) (pn : List (Addr × Obj)), Room k A' → PE (gxCx X s H scope (genEnv scope cl C code builtinsNs X.env) A' fp pn) elt te)
    (hs : ∀ v, genFold iter X.env v = pure v)
    (hse : starEach [.GeneratorExp elt [⟨tg, iter, ifs, 0⟩] scope gpos] X.env = (false, eval (.GeneratorExp elt [⟨tg, iter, ifs, 0⟩] scope gpos) X.env) :: starEach [] X.env := by rfl) :
    PE X (.Call (.Name "all" p) [.GeneratorExp elt [⟨tg, iter, ifs, 0⟩] scope gpos] [] pos) (tAllGI P wi g tt te (own.map (·.2))) := by
  refine ⟨fun pins s σ H Q I h => ?_⟩
  refine wpAny_Call_Name_kw (ld_blt I hg hm hb ?_)
  refine PyProof.Rows.callWith_builtin1 ?_ hse (by rfl)
  rw [hse]
  show wpAny _ _ (spliced ((false, eval (.GeneratorExp elt [⟨tg, iter, ifs, 0⟩] scope gpos) X.env) :: backTo pos (starEach [] X.env))) _ _ s
  refine Calls.spliced_cons (gx_genI (Q := Q) hr TB hcode hN ok gk hi hgt hts he hs I h fun X' a gi n s5 hp hw hb5 hgi hgen hat back => ?_)
  refine Calls.spliced_nil ?_
  refine call_function_tree F.kind_all F.plain_all F.entry_all (F.args_all1 _) ?_
  unfold Builtin.«all»
  refine wpAny_bind (m := oneArg "all" _) (wpAny_pure ?_)
  refine wpAny_bind (wpAny_pyIter_gen hgi ?_)
  rw [← hp, ← hw]
  exact wpAny_pure ⟨plainId_quiet F.plain_all_loop _, codeAny_all_gx hr.hd (by have := hr.dp; omega) hgen (fun b H' s' I' hT hF => ⟨.bl b, H', back _ _ _ I', rfl, by cases b; exact hF rfl; exact hT rfl⟩) n s5 hb5 hat⟩
end
end Ow

set_option Elab.async false
set_option linter.all false
set_option maxRecDepth 100000
set_option maxHeartbeats 4000000
/-! sep.join(.. for .. if ..) -/
namespace Ow
open PySem PySem.Spec PyProof.Rows L2 GxR
section
variable {X : Cx} {pins : List (Addr × Obj)} {σ : L2.St} {elt tg iter : Expr} {ifs : List Expr} {scope : Scope} {pos : Pos} {own : List (Str × Nat)} {g : TG} {tt : TT} {te : TE} {J : It} {H3 : Hp} {s5 : Shared} {X' : Cx} {it : Addr} {fp : List Addr} {tn : Nat → Heap → Prop} {a : Addr} {gi : Nat} {A : Around} {E : Value → Shared → Prop}
theorem vals_strs : ∀ {ys : List Str} {us : List Value}, Vals (ys.map V.str) us → ∃ l : List (Str × Tok), strValues l = us ∧ l.map (·.1) = ys
  | [], _, h => by cases h; exact ⟨[], rfl, rfl⟩
  | y :: ys, _, h => by
    cases h with
    | cons h1 h2 =>
      obtain ⟨t, rfl⟩ := h1
      obtain ⟨l, rfl, rfl⟩ := vals_strs h2
      exact ⟨(y, t) :: l, rfl, rfl⟩
theorem call_join_gx {sep : Str} {t : Tok} {Q : Value → Shared → Prop} (M : GxMade X A.in1.in1.in1 pins σ elt tg iter ifs scope pos own g tt te J H3 s5 X' it fp tn a gi) (hh : A.handled = none) (hroom : A.depth < recursionLimit)
    (hf : GlFill X' (wipe σ (own.map (·.2))) (own.map (·.2)) J g tt te H3 fun items s' => ∃ l : List (Str × Tok), strValues l = items ∧ ((l.map (·.1)).map (·.length)).sum + (l.map (·.1)).length * sep.length ≤ 16777216 ∧ ∀ t' k, Q (.str (Txt.join sep (l.map (·.1))) t') { s' with toks := k }) :
    wpAny (model X'.prog X'.w) A (call (.builtin "str.join") [.str sep t, .ref a]) Q E s5 := by
  have hTI := Heap.IsGen.typeIs (M.gen _ _ _ M.inv)
  refine wpAny_call (codeAny_call_builtin F.slot_str_join.plain F.entry_str_join (F.slot_str_join.check _ _ _ _ _ _ _ _ (typeIs_str _ _ _) (F.args_str_join_2 _ _) ?_))
  rw [join_tree_other]
  refine wpAny_bind (wpAny_typeOf hTI ?_)
  show wpAny _ A.in1 ((pyIter (.ref a)).tryCatch _ >>= fun it => collect it >>= fun items => joinTail sep items) _ _ s5
  refine wpAny_bind (wpAny_tryCatch (wpAny_pyIter_gen (M.gen _ _ _ M.inv) ?_))
  refine wpAny_bind (collect_gx (A := A.in1) M hh hroom (hf.mono fun items s' ⟨l, hl, hz, hpost⟩ => ?_))
  subst hl
  have hok : PySem.Builtin.Str.tooLong ((l.map (·.1)).toArray.foldl (· + ·.length + sep.length) 0) = false := by
    have e := PySem.StrLaws.joinTotal sep (l.map (·.1))
    have hs : (16777216 : Nat) ≤ sizeLine := by decide
    unfold PySem.Builtin.Str.tooLong
    refine decide_eq_false (Nat.not_lt.mpr (Nat.le_trans ?_ hs))
    exact Nat.le_trans (Nat.le_of_eq e) hz
  have g0 : Gives (joinTail sep (strValues l)) (joinMade sep l) := by
    have g0 := gives_joinTail sep l hok
    cases l with
    | nil => exact g0
    | cons p r => cases r with
      | nil => exact g0
      | cons q r' => exact g0
  exact g0 X'.prog X'.w A (wants Q E) s' (post_join l ⟨joinFit_length hok, hpost⟩)
end
def tJoinG (P : Addr) (to : TE) (wi : TI) (g : TG) (tt : TT) (te : TE) (vs : List Nat) : TE := fun σ H Q => to σ H fun x H0 => ∃ a, x = .str a ∧ wi σ H0 fun J H1 => TabG H1 P ∧ ∀ H2, Tabbed P H1 H2 → ∀ S, H2 S = none → ∃ W : Nat → Nat → Hp → Prop, (∃ m, W 0 m (upd H2 S (.lst []))) ∧
  glTurns S J g tt te (wipe σ vs) vs (fun H' => ∃ ys : List Str, H' S = some (.lst (ys.map V.str)) ∧ (ys.map (·.length)).sum + ys.length * a.length ≤ 16777216 ∧ Q (.str (Txt.join a ys)) H') W
section
variable {X : Cx}
theorem pe_joinG {c P : Addr} {o elt tg iter : Expr} {ifs : List Expr} {apos pos gpos : Pos} {scope : Scope} {own : List (Str × Nat)} {to : TE} {wi : TI} {g : TG} {tt : TT} {te : TE} {k : Nat}
    (hr : Room (k + 1) X.A) (TB : TabB X.base X.mg c P) (hcode : X.env.code = .ref c) (hN : X.N.Nodup) (ok : BlkOk X.N X.env.scope scope own) (gk : GxOk scope) (ho : PE X o to) (hi : PI X tg iter wi)
    (hgt : ∀ (s : Shared) (H : Hp) (cl : List (Str × Addr)) (C : Addr) (code : Value) (A' : Around) (fp : List Addr) (pn : List (Addr × Obj)), Room k A' → PG (gxCx X s H scope (genEnv scope cl C code builtinsNs X.env) A' fp pn) tg g)
    (hts : ∀ (s : Shared) (H : Hp) (cl : List (Str × Addr)) (C : Addr) (code : Value) (A' : Around) (fp : List Addr) (pn : List (Addr × Obj)), Room k A' → PTs (gxCx X s H scope (genEnv scope cl C code builtinsNs X.env) A' fp pn) ifs tt)
    (he : ∀ (s : Shared) (H : Hp) (cl : List (Str × Addr)) (C : Addr) (code : Value) (A' : Around) (fp : List Addr) (pn : List (Addr × Obj)), Room k A' → PE (gxCx X s H scope (genEnv scope cl C code builtinsNs X.env) A' fp pn) elt te)
    (hs : ∀ v, genFold iter X.env v = pure v)
    (hse : starEach [.GeneratorExp elt [⟨tg, iter, ifs, 0⟩] scope gpos] X.env = [(false, eval (.GeneratorExp elt [⟨tg, iter, ifs, 0⟩] scope gpos) X.env)] := by rfl)
    (hbase : attributeBase o "join" X.env (eval o X.env) = eval o X.env := by rfl) (hline : (apos.endLine == pos.line) = true := by rfl) :
    PE X (.Call (.Attribute o "join" apos) [.GeneratorExp elt [⟨tg, iter, ifs, 0⟩] scope gpos] [] pos) (tJoinG P to wi g tt te (own.map (·.2))) := by
  refine ⟨fun pins s σ H Q I h => ?_⟩
  refine PySem.Call_method1 hbase hse hline (thn (ho.run pins s σ H _ I h) fun v s1 ⟨x, H0, I1, r1, a, ex, q1⟩ => ?_)
  subst ex
  obtain ⟨t, rfl⟩ := _root_.id r1
  refine ⟨"str", _, F.plainAttrs_str, F.slot_str_join, F.type_str_join, typeIs_str _ _ _, (fun _ e => nomatch e), Calls.callWith_builtin rfl (Calls.evalArgs_plain (Calls.spliced_cons ?_))⟩
  refine gx_makes (own := own) (B := X.A.in1.in1.in1) (KJ := fun J H2 => ∀ S, H2 S = none → ∃ W : Nat → Nat → Hp → Prop, (∃ m, W 0 m (upd H2 S (.lst []))) ∧
    glTurns S J g tt te (wipe σ (own.map fun y : Str × Nat => y.2)) (own.map fun y : Str × Nat => y.2) (fun H' => ∃ ys : List Str, H' S = some (.lst (ys.map V.str)) ∧ (ys.map (·.length)).sum + ys.length * a.length ≤ 16777216 ∧ Q (.str (Txt.join a ys)) H') W) hr hr.hd rfl (fun _ _ => ?_) TB hcode hN ok gk hi hgt hts he hs I1 q1 fun J H3 s5 X' it fp tn b gi kj M => ?_
  · exact ⟨hr.hd, by have := hr.dp; show X.A.depth + 0 + 1 + 3 * k + 5 < _; omega, by have := hr.un; show X.A.units + 1 + 1 + 1 + 0 + 3 + 16 * k + 200 < _; omega⟩
  · refine Calls.spliced_nil ?_
    rw [← M.prog, ← M.w]
    refine call_join_gx M hr.hd (by have := hr.dp; omega) fun S hS => ?_
    obtain ⟨W, ⟨m, w0⟩, turn⟩ := kj S hS
    refine ⟨_, W, m, turn, w0, fun H' s' I' ⟨ys, hys, hz, q⟩ => ⟨ys.map V.str, hys, fun items hv => ?_⟩⟩
    obtain ⟨l, e1, e2⟩ := vals_strs hv
    subst e2
    exact ⟨l, e1, hz, fun t' k => ⟨.str _, H', (M.back _ _ _ I').tok k, ⟨t', rfl⟩, q⟩⟩
end
end Ow

set_option Elab.async false
set_option linter.all false
set_option maxRecDepth 100000
set_option maxHeartbeats 4000000
namespace Sd
open PySem PySem.Spec PyProof.Rows L2 GxR
/-! ### all(.. for .. if ..) -/
def allDI (ok : Sto → Prop) (g : DG) (tt : DT) (te : DE) (δ : DV) : List D → Sto → (Bool → Sto → Prop) → Prop
  | [], S, Q => ok S ∧ Q true S
  | x :: xs, S, Q => ok S ∧ g x δ S fun δ2 S2 => tt δ2 S2 fun b1 S3 => br b1 (te δ2 S3 fun y S4 => asB y fun b => br b (allDI ok g tt te δ xs S4 Q) (Q false S4)) (allDI ok g tt te δ xs S3 Q)
def eAllI (wi : DI) (g : DG) (tt : DT) (te : DE) (vs : List Nat) : DE := fun δ S Q => wi δ S fun src S1 => allDI src.ok g tt te (wipeD δ vs) src.items S1 fun b S2 => Q (.bl b) S2
section
variable {G : Gm} {N : En}
theorem se_allI {P : Addr} {ws vs : List Nat} {twi : TI} {wi : DI} {tg : TG} {g : DG} {tt : TT} {ft : DT} {te : TE} {fe : DE} (hP : P ∈ G.tabs) (hi : SI G N twi wi) (hg : SG G N ws tg g) (ht : ST G N tt ft) (he : SE G N te fe) (hw : ∀ i ∈ ws, i ∈ vs) :
    SE G N (Ow.tAllGI P twi tg tt te vs) (eAllI wi g ft fe vs) := by
  intro σ δ H S Q R r h k
  refine hi σ δ H S _ _ r h fun J src H1 S1 jk r1 u1 q1 => ⟨r1.sim.tab P hP, fun H2 htb => ?_⟩
  have e0 := Ext.tabbed (r1.sim.tab P hP) htb
  refine ⟨fun i m H' => m = src.items.length - i ∧ i ≤ src.items.length ∧ ∃ S', Rel G N σ δ S' H' ∧ Up S1 S' H1 H' ∧ allDI src.ok g ft fe (wipeD δ vs) (src.items.drop i) S' (fun b S2 => Q (.bl b) S2),
    ⟨src.items.length, by simp, Nat.zero_le _, S1, ⟨r1.sl.go e0.tu, r1.sim.ext e0, r1.up.trans (Up.of_ext e0)⟩, Up.of_ext e0, by simpa using q1⟩, ?_⟩
  rintro i m H' ⟨rfl, hi', S', r', u', q'⟩
  by_cases hlt : i < src.items.length
  · rw [List.drop_eq_getElem_cons hlt] at q'
    obtain ⟨a1, _, a3⟩ := jk S' H' r'.sim u' q'.1 i hi'
    refine .inr ⟨a1 hlt, fun H2 => ∃ S2, Rel G N σ δ S2 H2 ∧ Up S1 S2 H1 H2 ∧ allDI src.ok g ft fe (wipeD δ vs) (src.items.drop (i + 1)) S2 (fun b S2 => Q (.bl b) S2),
      fun H2 ⟨S2, x⟩ => ⟨src.items.length - (i + 1), by omega, rfl, hlt, S2, x⟩, fun x H2 y => ?_⟩
    obtain ⟨d, hd, im, s2, u2, e2⟩ := a3 x H2 hlt y
    rw [List.getElem?_eq_getElem hlt] at hd
    cases hd
    have r2 : Rel G N (L2.wipe σ vs) (wipeD δ vs) S' H2 := ⟨(r'.sl.go e2.tu).wipe vs, s2, r'.up.trans u2⟩
    refine hg x _ _ _ H2 S' _ _ r2 im q'.2 fun σ3 δ3 H3 S3 r3 u3 w3 q3 => ⟨by rw [(w3 vs hw).1, wipe_wipe], ?_⟩
    refine ht σ3 δ3 H3 S3 _ _ r3 q3 fun b H4 S4 r4 u4 q4 => ?_
    have up4 := u2.trans (u3.trans u4)
    cases b with
    | true =>
      rw [if_pos rfl]
      refine he σ3 δ3 H4 S4 _ _ r4 (q4.1 rfl) fun v e5 H5 S5 i5 r5 u5 q5 => ?_
      obtain ⟨b, rfl, q⟩ := asB_of q5
      have up5 := up4.trans u5
      have rel5 : Rel G N σ δ S5 H5 := ⟨r'.sl.go (up5.tu r'.sim), r5.sim, r5.up⟩
      exact ⟨b, im_bl i5, fun hb => ⟨S5, rel5, u'.trans up5, q.1 hb⟩, fun hb => k _ _ H5 S5 (.bl false) rel5 (u1.trans (u'.trans up5)) (q.2 hb)⟩
    | false =>
      rw [if_neg Bool.false_ne_true]
      exact ⟨S4, ⟨r'.sl.go (up4.tu r'.sim), r4.sim, r4.up⟩, u'.trans up4, q4.2 rfl⟩
  · have e : i = src.items.length := by omega
    subst e
    rw [List.drop_length] at q'
    obtain ⟨_, a2, _⟩ := jk S' H' r'.sim u' q'.1 _ (Nat.le_refl _)
    exact .inl ⟨a2 rfl, k _ _ H' S' (.bl true) r' (u1.trans u') q'.2⟩
/-! ### sep.join(.. for ..) -/
def eJoinG (fo : DE) (wi : DI) (g : DG) (tt : DT) (te : DE) (vs : List Nat) : DE := fun δ S Q => fo δ S fun x S0 => match x with
  | .str a => wi δ S0 fun src S1 => lcD src.ok g tt te (wipeD δ vs) src.items [] S1 fun ds S2 => ∃ ys : List Str, ds = ys.map D.str ∧ (ys.map (·.length)).sum + ys.length * a.length ≤ 1000000 ∧ (okS (Txt.join a ys) → Q (.str (Txt.join a ys)) S2)
  | _ => False
theorem se_joinG {P : Addr} {ws vs : List Nat} {to : TE} {fo : DE} {twi : TI} {wi : DI} {tg : TG} {g : DG} {tt : TT} {ft : DT} {te : TE} {fe : DE} (hP : P ∈ G.tabs) (ho : SE G N to fo) (hi : SI G N twi wi) (hg : SG G N ws tg g) (ht : ST G N tt ft) (he : SE G N te fe) (hw : ∀ i ∈ ws, i ∈ vs) :
    SE G N (Ow.tJoinG P to twi tg tt te vs) (eJoinG fo wi g ft fe vs) := by
  intro σ δ H S Q R r h k
  refine ho σ δ H S _ _ r h fun x0 d0 H0 S0 i0 r0 u0 q0 => ?_
  split at q0
  case h_2 => exact q0.elim
  rename_i a
  obtain ⟨rfl, oa⟩ := im_str i0
  refine ⟨a, rfl, ?_⟩
  refine hi σ δ H0 S0 _ _ r0 q0 fun J src H1 S1 jk r1 u1 q1 => ⟨r1.sim.tab P hP, fun H2 htb p hp => ?_⟩
  have ea := Ext.tabbed (r1.sim.tab P hP) htb
  have ra : Rel G N σ δ S1 H2 := ⟨r1.sl.go ea.tu, r1.sim.ext ea, r1.up.trans (Up.of_ext ea)⟩
  have ua : Up S1 S1 H1 H2 := Up.of_ext ea
  have hsc := ra.sim.scrNe hp
  have e0 := Ext.lay (o := HO.lst []) hp
  have hN : N.H p = none := by
    cases z : N.H p with
    | none => rfl
    | some o => exact absurd hp (ra.up.there p (by rw [z]; simp))
  refine ⟨fun i m H' => m = src.items.length - i ∧ i ≤ src.items.length ∧ ∃ S' acc ds, Rel G N σ δ S' H' ∧ Up S1 S' H1 H' ∧ H' p = some (.lst acc) ∧ ImAll G H' acc ds ∧ ds.length ≤ 1000000 ∧ S' p = none ∧ lcD src.ok g ft fe (wipeD δ vs) (src.items.drop i) ds S' (fun ds S2 => ∃ ys : List Str, ds = ys.map D.str ∧ (ys.map (·.length)).sum + ys.length * a.length ≤ 1000000 ∧ (okS (Txt.join a ys) → Q (.str (Txt.join a ys)) S2)),
    ⟨src.items.length, by simp, Nat.zero_le _, S1, [], [], ⟨ra.sl.go e0.tu, ra.sim.ext e0, ra.up.trans (Up.of_ext e0)⟩, ua.trans (Up.of_ext e0), upd_same, .nil, Nat.zero_le _, ra.sim.free hp, by simpa using q1⟩, ?_⟩
  have hH1 : H1 p = none := by
    cases z : H1 p with
    | none => rfl
    | some o => exact absurd hp (ua.there p (by rw [z]; simp))
  rintro i m H' ⟨rfl, hi', S', acc, ds, r', u', hacc, iacc, lacc, hS', q'⟩
  by_cases hlt : i < src.items.length
  · rw [List.drop_eq_getElem_cons hlt] at q'
    obtain ⟨a1, _, a3⟩ := jk S' H' r'.sim u' q'.1 i hi'
    refine .inr ⟨a1 hlt, fun H2 => ∃ S2 acc2 ds2, Rel G N σ δ S2 H2 ∧ Up S1 S2 H1 H2 ∧ H2 p = some (.lst acc2) ∧ ImAll G H2 acc2 ds2 ∧ ds2.length ≤ 1000000 ∧ S2 p = none ∧ lcD src.ok g ft fe (wipeD δ vs) (src.items.drop (i + 1)) ds2 S2 (fun ds S2 => ∃ ys : List Str, ds = ys.map D.str ∧ (ys.map (·.length)).sum + ys.length * a.length ≤ 1000000 ∧ (okS (Txt.join a ys) → Q (.str (Txt.join a ys)) S2)),
      fun H2 ⟨S2, acc2, ds2, x⟩ => ⟨src.items.length - (i + 1), by omega, rfl, hlt, S2, acc2, ds2, x⟩, fun x H2 y => ?_⟩
    obtain ⟨d, hd, im, s2, u2, e2⟩ := a3 x H2 hlt y
    rw [List.getElem?_eq_getElem hlt] at hd
    cases hd
    have r2 : Rel G N (L2.wipe σ vs) (wipeD δ vs) S' H2 := ⟨(r'.sl.go e2.tu).wipe vs, s2, r'.up.trans u2⟩
    refine hg x _ _ _ H2 S' _ _ r2 im q'.2 fun σ3 δ3 H3 S3 r3 u3 w3 q3 => ⟨by rw [(w3 vs hw).1, wipe_wipe], ?_⟩
    refine ht σ3 δ3 H3 S3 _ _ r3 q3 fun b H4 S4 r4 u4 q4 => ?_
    have up4 := u2.trans (u3.trans u4)
    have hp4 : H4 p = some (.lst acc) := up4.keep p _ hacc rfl hS'
    have hS4 : S4 p = none := up4.dom p hS' (by rw [hacc]; simp)
    have t4 := up4.tu r'.sim
    have rel4 : Rel G N σ δ S4 H4 := ⟨r'.sl.go t4, r4.sim, r4.up⟩
    cases b with
    | true =>
      rw [if_pos rfl]
      refine he σ3 δ3 H4 S4 _ _ r4 (q4.1 rfl) fun v e5 H5 S5 i5 r5 u5 ⟨l5, q5⟩ => ?_
      have up5 := up4.trans u5
      have hp5 : H5 p = some (.lst acc) := up5.keep p _ hacc rfl hS'
      have hS5 : S5 p = none := up5.dom p hS' (by rw [hacc]; simp)
      have t5 := up5.tu r'.sim
      refine ⟨acc, hp5, Nat.lt_of_lt_of_le (by rw [iacc.length]; exact l5) (le_line (Nat.le_refl _)), ?_⟩
      obtain ⟨s6, t6⟩ := r5.sim.side (acc' := acc ++ [v]) hp5 hS5 hsc
      exact ⟨S5, acc ++ [v], ds ++ [e5], ⟨(r'.sl.go t5).go t6, s6, r5.up.side hN⟩, (u'.trans up5).side hH1, upd_same, ((iacc.go t5).snoc i5).go t6, by rw [List.length_append, List.length_singleton]; omega, hS5, q5⟩
    | false =>
      rw [if_neg Bool.false_ne_true]
      exact ⟨S4, acc, ds, rel4, u'.trans up4, hp4, iacc.go t4, lacc, hS4, q4.2 rfl⟩
  · have e : i = src.items.length := by omega
    subst e
    rw [List.drop_length] at q'
    obtain ⟨_, a2, _⟩ := jk S' H' r'.sim u' q'.1 _ (Nat.le_refl _)
    obtain ⟨ys, rfl, hz, q⟩ := q'.2
    obtain ⟨rfl, oy⟩ := im_strs iacc
    have oj := okS_join oa oy hz
    exact .inl ⟨a2 rfl, ys, hacc, Nat.le_trans hz (by decide), k _ _ _ S' (.str _ oj) r' (u0.trans (u1.trans u')) (q oj)⟩
end
end Sd

set_option Elab.async false
set_option linter.all false
set_option maxRecDepth 100000
set_option maxHeartbeats 4000000
namespace Ow
open PySem PySem.Spec PyProof.Rows L2
/-! ### zip of a text and a list -/
def ItzXL (K : PySem.W.Frag) (x : Str) (b : Addr) : It :=
  ⟨fun i H => i < x.cps.size ∧ ∃ ys, SqL K H b ys ∧ i < ys.length,
    fun i H v H' => ∃ T c y, v = .ref T ∧ H T = none ∧ H' = upd H T (.tup [.str ⟨#[c]⟩, y]) ∧ x.cps[i]? = some c ∧ ∀ ys, SqL K H b ys → ys[i]? = some y,
    fun i H => ∃ ys, SqL K H b ys ∧ i = min x.cps.size ys.length⟩
/-- the cells of the zip at its turn i -/
def zxStL (z TI TO i1 i2 b : Addr) (x : Str) (t : Tok) (i : Nat) (h : Heap) : Prop := IsZip h z TI TO .none ∧ IsTupOf2 h TI (.ref i1) (.ref i2) ∧ (∃ a1 a2, IsTupOf2 h TO a1 a2) ∧ h.IsStrIter i1 (strIterType x) x t i ∧ h.IsListIter i2 b i
theorem turn_zipXL {P : Program} {w : World} {K : PySem.W.Frag} {elts : List Expr} {kk : Nat} {tpos : Pos} {z TI TO i1 i2 b : Addr} {x : Str} {t : Tok} (Sp : ZipSep2 z TI TO i1 i2 [i1] [i2, b]) (hb2 : b ≠ i2) :
    Turn P w K (.Tuple elts kk tpos) (ItzXL K x b) [z, TI, TO, i1, i2] z (zxStL z TI TO i1 i2 b x t) where
  mem := by simp
  obj := fun i h ⟨hz, hTI, ⟨_, _, hTO⟩, ⟨o1, e1, _, d1⟩, ⟨o2, e2, _, d2⟩⟩ c hc => by
    simp only [List.mem_cons, List.not_mem_nil, or_false] at hc
    rcases hc with q | q | q | q | q <;> rw [q]
    · exact ⟨_, hz, fun v q => nomatch q⟩
    · exact ⟨_, hTI, fun v q => nomatch q⟩
    · exact ⟨_, hTO, fun v q => nomatch q⟩
    · exact ⟨o1, e1, fun v q => by rw [d1] at q; cases q⟩
    · exact ⟨o2, e2, fun v q => by rw [d2] at q; cases q⟩
  keep := fun i h h' ⟨hz, hTI, ⟨u, v, hTO⟩, ⟨o1, e1, r1⟩, h2⟩ k => ⟨k z (by simp) _ hz, k TI (by simp) _ hTI, ⟨u, v, k TO (by simp) _ hTO⟩, ⟨o1, k i1 (by simp) o1 e1, r1⟩, h2.at fun o q => k i2 (by simp) o q⟩
  item := by
    rintro X rfl rfl rfl hc i pins s σ H E I hf ⟨hz, hTI, hTO, h1, h2⟩ ⟨hi, ys, hq, hi2⟩
    obtain ⟨its, rv, p, _⟩ := I.list hq
    have hh : X.A.in1.handled = none := I.ok.hd hc
    have hs : its.toArray.size = ys.length := by rw [List.size_toArray, rv.length]
    have G := GoesN.zip2 (elts := elts) (x1 := kk) (pos := tpos) Sp (Draws.text (prog := X.prog) (w := X.w) (A := X.A.in1) hh i1 x t) (Draws.list (prog := X.prog) (w := X.w) (A := X.A.in1) hh i2 b hb2 its.toArray)
    refine G.goes i s _ E (by omega) ⟨hz, hTI, hTO, h1, h2, p.isList⟩ fun v h' tk ⟨T, x0, y0, ev, hT, ⟨c, u, hcx, ex⟩, hy, hTt⟩ st hk htk => ?_
    subst ev ex
    obtain ⟨y, hy2, ry⟩ : ∃ y, ys[i]? = some y ∧ L2.RelV y y0 := by
      obtain ⟨y, hy2⟩ : ∃ y, ys[i]? = some y := ⟨ys[i], List.getElem?_eq_getElem hi2⟩
      obtain ⟨u2, hu2, ru2⟩ := rv.get hy2
      have : its[i]? = some y0 := by simpa using hy
      rw [this] at hu2
      cases hu2
      exact ⟨y, hy2, ru2⟩
    obtain ⟨oT, eT, cT, nT, dT⟩ := id hTt
    have new : ObjOk X.prog X.w (upd H T (.tup [.str ⟨#[c]⟩, y])) h' T (.tup [.str ⟨#[c]⟩, y]) := ⟨by show 2 ≤ sizeLine; decide, [.str ⟨#[c]⟩ u, y0], .cons ⟨u, rfl⟩ (.cons ry .nil), hTt⟩
    have I1 : Inv X pins σ (upd H T (.tup [.str ⟨#[c]⟩, y])) { s with heap := h', toks := tk } :=
      I.turnedNew (t' := tk) (ch := [z, TI, TO, i1, i2]) (fun a o hb q => hk a o (fun m => hb (by simp only [List.mem_cons, List.not_mem_nil, or_false] at m ⊢; rcases m with m | m | m | m <;> simp [m])) q) hf hT new
    refine ⟨.ref T, _, I1, rfl, ⟨T, c, y, rfl, I.hok.fresh hT, rfl, hcx, fun l hl => by rw [I.list_inj hl hq]; exact hy2⟩, ⟨st.1, st.2.1, st.2.2.1, st.2.2.2.1, st.2.2.2.2.1⟩, fun a ha => ?_⟩
    obtain ⟨o1, e1, _⟩ := h1
    obtain ⟨o2, e2, _⟩ := h2
    obtain ⟨_, _, hTO'⟩ := hTO
    have hlt : a < s.heap.objs.size := by
      have ha' := ha
      simp only [List.mem_cons, List.not_mem_nil, or_false] at ha'
      rcases ha' with q | q | q | q | q <;> rw [q]
      · exact Heap.lt_size hz
      · exact Heap.lt_size hTI
      · exact Heap.lt_size hTO'
      · exact Heap.lt_size e1
      · exact Heap.lt_size e2
    rw [upd_ne (Nat.ne_of_lt (Nat.lt_of_lt_of_le hlt hT))]
    exact (hf a ha).1
  done := by
    rintro X rfl rfl rfl hc i pins s σ H E I hf ⟨hz, hTI, hTO, h1, h2⟩ ⟨ys, hq, hi⟩
    obtain ⟨its, rv, p, _⟩ := I.list hq
    have hh : X.A.in1.handled = none := I.ok.hd hc
    have hs : its.toArray.size = ys.length := by rw [List.size_toArray, rv.length]
    have G := GoesN.zip2 (elts := elts) (x1 := kk) (pos := tpos) Sp (Draws.text (prog := X.prog) (w := X.w) (A := X.A.in1) hh i1 x t) (Draws.list (prog := X.prog) (w := X.w) (A := X.A.in1) hh i2 b hb2 its.toArray)
    have hi : i = min x.cps.size its.toArray.size := by omega
    rw [hi] at h1 h2
    exact G.stops s _ E ⟨hz, hTI, hTO, h1, h2, p.isList⟩ fun h' tk hk htk => I.turnedL (t' := tk) (ch := [z, TI, TO, i1, i2]) (fun a o hb q => hk a o (fun m => hb (by simp only [List.mem_cons, List.not_mem_nil, or_false] at m ⊢; rcases m with m | m | m | m <;> simp [m])) q) hf
  self := fun A i s Q E st h => wpAny_pyIter_zip st.1 h
def iZipXL (K : PySem.W.Frag) (ta : TA) : TI := fun σ H R => ta σ H fun vs H1 => ∃ x b ys, vs = [.str x, .ref b] ∧ SqL K H1 b ys ∧ R (ItzXL K x b) H1
theorem pi_zipXL {X : Cx} {e e2 : Expr} {ta : TA} {p pos tpos : Pos} {elts : List Expr} {kk : Nat} (hg : Gl X "zip") (hm : X.mg "zip" = none) (ha : PA X [e, e2] ta) (hs : starEach [e, e2] X.env = (false, eval e X.env) :: starEach [e2] X.env := by rfl) (hpl : (backTo pos (starEach [e2] X.env)).any (·.1) = false := by rfl) :
    PI X (.Tuple elts kk tpos) (.Call (.Name "zip" p) [e, e2] [] pos) (iZipXL X.K ta) := by
  refine ⟨fun pins s σ H R I h => Call_ (ld_blt I hg hm PyProof.Rows.boot_zip (PyProof.Rows.callWith_type1 (thn (ha.run pos pins s σ H _ I h) fun us s1 ⟨vs, H1, I1, r1, x, b, ys, ex, hq, q⟩ => ?_) hs hpl))⟩
  subst ex
  cases r1 with
  | cons r rr =>
    cases rr with
    | cons r' rr =>
      cases rr
      obtain ⟨t, rfl⟩ := r
      cases r'
      obtain ⟨its, rv, p1, _⟩ := I1.list hq
      obtain ⟨ob, eb, _⟩ := id p1.isList
      have hlt := Heap.lt_size eb
      refine zip_begins2 (begins_text x t) (begins_list b its.toArray) trivial p1.isList fun h' hz hTI hTO h1 h2 hsz hk => wpAny_pyIter_zip hz ?_
      have I2 : Inv X pins σ H1 { s1 with heap := h' } := I1.kept (t' := s1.toks) hk
      refine ⟨s1.heap.objs.size + 4, [s1.heap.objs.size + 4, s1.heap.objs.size + 2, s1.heap.objs.size + 3, s1.heap.objs.size, s1.heap.objs.size + 1], _, ItzXL X.K x b, H1, rfl, I2, turn_zipXL (x := x) (t := t) (zip_sep2 (fp1 := []) (fp2 := [b]) (by simp) (by simpa using hlt)) (Nat.ne_of_lt (Nat.lt_succ_of_lt hlt)), ⟨hz, hTI, ⟨_, _, hTO⟩, ⟨_, h1, rfl, rfl⟩, ⟨_, h2, rfl, rfl⟩⟩, fun c hcm => ?_, q⟩
      have hle : s1.heap.objs.size ≤ c := by
        simp only [List.mem_cons, List.not_mem_nil, or_false] at hcm
        rcases hcm with m | m | m | m | m <;> rw [m] <;> first | exact Nat.le_refl _ | exact Nat.le_add_right _ _
      exact I1.fpOk hle (I1.hok.fresh hle)
end Ow

set_option Elab.async false
set_option linter.all false
set_option maxRecDepth 100000
set_option maxHeartbeats 4000000
namespace Sd
open PySem PySem.Spec PyProof.Rows L2 GxR
/-! ### zip of a text and a list -/
def iZXL (fa : DA) : DI := fun δ S Q => fa δ S fun xs S1 => match xs with | [.str z, .ref b] => atL S1 b fun ds => Q ⟨zipX z ds, fun S2 => S2 b = some (.lst ds)⟩ S1 | _ => False
section
variable {G : Gm} {N : En}
theorem si_zipXL {tl : TA} {fl : DA} (ha : SA G N tl fl) : SI G N (Ow.iZipXL G.K tl) (iZXL fl) := by
  intro σ δ H S Q R r h k
  refine ha σ δ H S _ _ r h fun vs ds H1 S1 i1 r1 u1 q1 => ?_
  split at q1
  · rename_i z b
    match i1 with
    | .cons ix (.cons iy .nil) =>
      obtain ⟨rfl, o⟩ := im_str ix
      cases im_ref iy
      obtain ⟨es, e1, q⟩ := atL_of q1
      obtain ⟨ys, hy, iv⟩ := r1.sim.ob _ _ e1
      refine ⟨z, b, ys, rfl, SqL.of hy, k _ ⟨zipX z es, fun S2 => S2 b = some (.lst es)⟩ H1 S1 (fun S2 H2 s2 u2 ok i hi => ?_) r1 u1 q⟩
      obtain ⟨zs, hz2, iz⟩ := s2.ob _ _ ok
      have hl := iz.length
      have e2 : SqL G.K H2 b zs := SqL.of hz2
      have hz : (zipX z es).length = min z.cps.size es.length := by simp [zipX, signs]
      have hsz : z.cps.size = z.cps.toList.length := by simp
      simp only [hz] at hi ⊢
      refine ⟨fun y => ⟨by omega, zs, e2, by omega⟩, fun y => ⟨zs, e2, by rw [hl]; exact y⟩, fun x H' y w => ?_⟩
      obtain ⟨T, c, v, rfl, hT, rfl, hc, hv⟩ := w
      obtain ⟨d, hd, id⟩ := iz.get (hv zs e2)
      have hc' : z.cps.toList[i]? = some c := by simpa using hc
      have im1 : ImAll G H2 [.str ⟨#[c]⟩, v] [.str ⟨#[c]⟩, d] := .cons (.str _ (okS_sign o (List.mem_of_getElem? hc'))) (.cons id .nil)
      obtain ⟨a1, a2, a3⟩ := new_tup s2 hT im1
      refine ⟨.tup [.str ⟨#[c]⟩, d], ?_, a1, a2, a3, Ext.lay hT⟩
      have hs : (signs z)[i]? = some (.str ⟨#[c]⟩) := by simp [signs, hc']
      simp only [zipX, List.getElem?_zipWith, hs, hd]
  · exact q1.elim
end
end Sd

set_option Elab.async false
set_option linter.all false
set_option maxRecDepth 100000
set_option maxHeartbeats 4000000
namespace Ow
open PySem PySem.Spec PyProof.Rows L2 GxR
/-! ### text * int, also none and once -/
theorem repS_0 (z : Str) : repS z 0 = Str.empty := rfl
theorem repS_1 (z : Str) : repS z 1 = z := by
  show (⟨#[] ++ z.cps⟩ : Str) = z
  rw [Array.empty_append]
def rRepZ : R2 := fun x y H Q => ∃ z k, x = .str z ∧ y = .int k ∧ 0 ≤ k ∧ k ≤ 1000 ∧ 1 ≤ z.length ∧ z.length ≤ 1000 ∧ Q (.str (repS z k)) H
theorem op_repZ {X : Cx} : OpR X (binaryOp .Mult) rRepZ := by
  intro pins s σ H x y v u Q I rx ry h
  obtain ⟨z, k, rfl, rfl, h1, h2, h3, h4, q⟩ := h
  by_cases hk : 2 ≤ k
  · exact op_repS pins s σ H _ _ v u Q I rx ry ⟨z, k, rfl, rfl, hk, h2, h3, h4, q⟩
  obtain ⟨t, rfl⟩ := rx
  obtain ⟨t', rfl⟩ := ry
  have hk2 : k = 0 ∨ k = 1 := by omega
  rcases hk2 with rfl | rfl
  · refine PySem.P.mul_str_none (by decide) (by decide) ?_
    exact ⟨.str (repS z 0), H, I.tok _, ⟨_, rfl⟩, q⟩
  · refine PySem.P.mul_str (by decide) (fun _ c => ?_) (fun _ c => ?_) ?_
    · have : ((1 : Int) == 1 || z.length == 0) = true := rfl
      rw [this] at c; cases c
    · have : ((1 : Int) == 1 || z.length == 0) = true := rfl
      rw [this] at c; cases c
    · rw [if_neg (by decide), if_pos (show ((1 : Int) == 1 || z.length == 0) = true from rfl)]
      rw [repS_1] at q
      exact ⟨.str z, H, I, ⟨_, rfl⟩, q⟩
end Ow

set_option Elab.async false
set_option linter.all false
set_option maxRecDepth 100000
set_option maxHeartbeats 4000000
namespace Sd
open PySem PySem.Spec PyProof.Rows L2 GxR
/-! ### text * int, also none and once -/
def dRep : B2 := fun x y S Q => match x, y with
  | .str z, .int k => 0 ≤ k ∧ k ≤ 1000 ∧ 1 ≤ z.length ∧ z.length ≤ 1000 ∧ Q (.str (Ow.repS z k)) S
  | _, _ => False
theorem s2_repZ {G : Gm} : S2 G Ow.rRepZ dRep := by
  intro x y d e H S Q R hx hy s h k
  unfold dRep at h
  split at h
  · obtain ⟨rfl, o⟩ := im_str hx
    cases im_int hy
    obtain ⟨h1, h2, h3, h4, q⟩ := h
    exact ⟨_, _, rfl, rfl, h1, h2, h3, h4, k _ _ H S (.str _ (okS_rep o h3 h4 h2)) s .refl q⟩
  · exact h.elim
end Sd

set_option Elab.async false
set_option linter.all false
set_option maxRecDepth 100000
set_option maxHeartbeats 4000000
/-! ### an own error with a field of its own: BadText(line) -/
namespace Ow
open PySem PySem.W PySem.Calls PyProof.Rows PySem.HandSPX
def eA (p1 p2 : Pos) : Arguments := { posonlyargs := [], args := [{ arg := "self", annotation := none, pos := p1 }, { arg := "line", annotation := none, pos := p2 }], vararg := none, kwonlyargs := [], kw_defaults := [], kwarg := none, defaults := [] }
def eB (q1 q2 q3 q4 : Pos) : List Stmt := [.Assign [.Attribute (.Name "self" q1) "line" q2] (.Name "line" q3) q4]
def eS : Scope := { kind := .function, names := [(PySem.Str.ofString "self", .local), (PySem.Str.ofString "line", .local)], isGenerator := false, isCoroutine := false, more := [] }
/-- the facts of the class at C and of its __init__ at f -/
structure ErF (K : Frag) (mg : Str → Option Value) (C f : Addr) : Prop where
  m : mg "BadText" = some (.ref C)
  obj : ∃ nm q N bs bm sn sub ab col dd k0 k1 k2 k3 k5, K.lookup C = some (excClassObj nm q C N bs bm true sn sub ab col dd k0 k1 k2 k3 k5 "ValueError.__new__") ∧ refsVE bm = true
  sa : findIn K (.ref C) "__setattr__" = some (some (.builtin "object.__setattr__"))
  ga : findIn K (.ref C) "__getattribute__" = some (some (.builtin "BaseException.__getattribute__"))
  gt : findIn K (.ref C) "__getattr__" = some none
  no : findIn K (.ref C) "line" = some none
  ini : findIn K (.ref C) "__init__" = some (some (.ref f))
  ty : typeIn K (.ref f) = some (.type "function")
  kp : keepIn K (.ref C) = true
  bx : subIn K (.ref C) (.type "BaseException") = some true
  tx : typeIn K (.ref C) = some (.type "type")
  hd : hasDictIn K C = true
  fn : ∃ (oc : Value) (od : Option Addr) (kV doc pm : Value) (an : Option Addr) (cdv ct : Value) (osl : Array (Option Value)) (p1 p2 q1 q2 q3 q4 : Pos),
    K.lookup f = some ⟨oc, od, .func (fnOf "__init__" "BadText.__init__" (eA p1 p2) (eB q1 q2 q3 q4) eS .none kV doc pm an cdv ct), osl⟩ ∧ codeIn K cdv "BadText.__init__" = true
theorem er_fn {K : Frag} {st : Stmt} {f : Addr} {fd : FuncData} (F : L2.Fun K "__init__" "BadText.__init__" st f fd) {p1 p2 q1 q2 q3 q4 : Pos} (hA : L2.defArgs st = eA p1 p2) (hB : L2.defBody st = eB q1 q2 q3 q4) (hS : L2.defScope st = eS) :
    ∃ (oc : Value) (od : Option Addr) (kV doc pm : Value) (an : Option Addr) (cdv ct : Value) (osl : Array (Option Value)) (p1 p2 q1 q2 q3 q4 : Pos),
      K.lookup f = some ⟨oc, od, .func (fnOf "__init__" "BadText.__init__" (eA p1 p2) (eB q1 q2 q3 q4) eS .none kV doc pm an cdv ct), osl⟩ ∧ codeIn K cdv "BadText.__init__" = true := by
  obtain ⟨oc, od, kV, doc, pm, an, cdv, ct, osl, rfl, lk, hcd⟩ := F.ex
  rw [hA, hB, hS] at lk
  exact ⟨oc, od, kV, doc, pm, an, cdv, ct, osl, p1, p2, q1, q2, q3, q4, lk, hcd⟩
/-- a made error at e, its own dict at d -/
structure ErMade (h h' : Heap) (e C d : Addr) (v : Value) : Prop where
  keep : ∀ b o, h.get? b = some o → h'.get? b = some o
  new : h.objs.size ≤ e
  obj : ∃ oe vs, h'.get? e = some oe ∧ oe.cls = .ref C ∧ oe.dict = some d ∧ oe.data = .fields vs ∧ vs[1]? = some .none
  dnew : h.objs.size ≤ d
  ne : d ≠ e
  ns : h'.Ns1 d (fun y => if y = "line" then some v else none)
section
variable {prog : Program} {w : World} {A : Around} {R : Result → Shared → Prop} {s : Shared} {K : Frag} {mg : Str → Option Value} {C f : Addr}
theorem er_init (T : ErF K mg C f) {x t0 : Addr} {v : Value} (X : K.In s.heap) (hlim : s.heap.NoLimit) (hx : s.heap.get? x = some (excO C t0)) (hroom : A.depth < recursionLimit)
    (hq : ∀ h' tk dx, (∀ b o, b ≠ x → s.heap.get? b = some o → h'.get? b = some o) → h'.get? x = some { cls := .ref C, dict := some dx, data := .fields #[.ref t0, .none, .none, .none, .bool false, .none] } → s.heap.objs.size ≤ dx → dx ≠ x → h'.Ns1 dx (fun y => if y = "line" then some v else none) → R (.ok (.ret .none)) { s with heap := h', toks := tk }) :
    codeAny (model prog w) A (.call (.ref f) ⟨[.ref x, v], []⟩) R s := by
  obtain ⟨oc, od, kV, doc, pm, an, cdv, ct, osl, p1, p2, q1, q2, q3, q4, ho, hcd⟩ := T.fn
  obtain ⟨nm, q, N, bs, bm, sn, sub, ab, col, dd, k0, k1, k2, k3, k5, hC, hbm⟩ := T.obj
  have hcl : clsIn K C = some { name := nm, bases := bs, mro := .ref C :: bm, ns := N, qualname := q, hasDict := true, slotNames := sn, subclasses := sub, abstract := ab, collection := col, hasDel := false } := by unfold clsIn; rw [hC] <;> rfl
  refine Att.call_fn (binds := [("self", .ref x), ("line", v)]) X hlim ho hcd hroom (BindsTo.of_eq (by with_unfolding_all rfl)) (by first | rfl | decide | with_unfolding_all rfl) (fun s₁ IC => ?_) rfl rfl rfl
  obtain ⟨h₁, tk₁, rfl⟩ := IC.toInCall.same
  have k : ∀ b o, s.heap.get? b = some o → h₁.get? b = some o := IC.toInCall.keep
  have hn := IC.toInCall.ns
  have X₁ : K.In h₁ := X.keeps k
  have name : ∀ {y : Str} {pos : Pos} {u : Value} {Q : Value → Shared → Prop} {s' : Shared} {E' : Value → Shared → Prop} {L : Addr} {mm : Str → Option Value}, s'.heap.Ns L mm → mm y = some u → Q u s' → (envOfC "BadText.__init__" eS L f cdv).kindOf y = some .local → (y == ("__debug__" : Str)) = false →
      ∀ A', wpAny (model prog w) A' (eval (.Name y pos) (envOfC "BadText.__init__" eS L f cdv)) Q E' s' := fun hn hv h hl hd A' => wpAny_Name (wpAny_loadName_local rfl hl hn hv h) hd
  show wpAny _ _ (execs _ _) _ _ _
  refine wpAny_execs_cons (plainObj_wpAny_Assign_Attribute ?_)
  refine name (u := v) hn (by first | rfl | with_unfolding_all rfl | kernel_rfl) (name (u := .ref x) hn (by first | rfl | with_unfolding_all rfl | kernel_rfl) ?_ (by rfl) (by decide) _) (by rfl) (by decide) _
  refine set_plain X₁ (ox := excO C t0) (od := none) ⟨k _ _ hx, rfl, rfl, trivial⟩ T.sa ?_
  refine exc_osa X₁ (k _ _ hx) hcl (show refsVE (.ref C :: bm) = true from hbm) rfl T.no (fun h₃ tk₃ dx k₃ dn dne hx₃ hn₃ => ?_)
  show wpAny _ _ (execs _ _) _ _ _
  have z : s.heap.objs.size < h₁.objs.size := hn.lt
  exact wpAny_execs_nil (hq h₃ tk₃ dx (fun b o hb e => k₃ b o hb (k b o e)) hx₃ (Nat.le_of_lt (Nat.lt_of_lt_of_le z dn)) dne hn₃)
theorem er_made (T : ErF K mg C f) {v : Value} (X : K.In s.heap) (hlim : s.heap.NoLimit) (hroom : A.depth + 1 < recursionLimit)
    (hq : ∀ h' tk e d, ErMade s.heap h' e C d v → R (.ok (.ret (.ref e))) { s with heap := h', toks := tk }) : codeAny (model prog w) A (.call (.ref C) ⟨[v], []⟩) R s := by
  obtain ⟨nm, q, N, bs, bm, sn, sub, ab, col, dd, k0, k1, k2, k3, k5, hC, hbm⟩ := T.obj
  obtain ⟨hp, g, dr, tk, os⟩ := s
  have k : ∀ b o, hp.get? b = some o → ((hp.push (kdv_tup [v])).push (excO C hp.objs.size)).get? b = some o := fun b o e => Heap.get?_push_of_some _ (Heap.get?_push_of_some _ e)
  have hget : ((hp.push (kdv_tup [v])).push (excO C hp.objs.size)).get? (hp.objs.size + 1) = some (excO C hp.objs.size) := by heap_get
  have h1 : [v].length ≤ sizeLine := by
    rw [sizeLine_eq]
    exact (by decide : 1 ≤ 16777216)
  refine call_own F.excBase_ValueError (fun X => refsVE_contains X bm hbm) (X _ _ hC) (looks_findIn X T.ini) (fun self => bind_fn X self T.ty) h1 ?_
  refine er_init (s := ⟨(hp.push (kdv_tup [v])).push (excO C hp.objs.size), g, dr, tk, os⟩) T (X.keeps k) (hlim.keeps k) hget ?_ fun h' tk' dx k' hx dn dne hns => ?_
  · show A.depth + 1 < recursionLimit
    exact hroom
  have old : ∀ b o, hp.get? b = some o → h'.get? b = some o := fun b o e => k' b o (Nat.ne_of_lt (Nat.lt_succ_of_lt (Heap.lt_size e))) (k b o e)
  have z : hp.objs.size + 1 + 1 ≤ dx := by
    first
      | (simpa only [Heap.size_push] using dn)
      | exact dn
      | (have q := dn; rw [Heap.size_push, Heap.size_push] at q; exact q)
  exact ⟨rfl, hq h' tk' (hp.objs.size + 1) dx ⟨old, Nat.le_succ _, ⟨_, _, hx, rfl, rfl, rfl, rfl⟩, Nat.le_trans (Nat.le_trans (Nat.le_succ _) (Nat.le_succ _)) z, dne, hns⟩⟩
end
end Ow
namespace Ow
open PySem PySem.Spec PyProof.Rows L2 GxR
theorem relO_line {v : V} {v' : Value} (r : RelV v v') (y : Str) : RelO (List.lookup y [(("line" : Str), v)]) (if y = "line" then some v' else none) := by
  by_cases h : y = "line"
  · subst h
    rw [if_pos rfl, show List.lookup ("line" : Str) [(("line" : Str), v)] = some v by simp [List.lookup]]
    exact r
  · have e : (y == ("line" : Str)) = false := by simpa using h
    rw [if_neg h, show List.lookup y [(("line" : Str), v)] = none by simp [List.lookup, e]]
    trivial
section
variable {X : Cx} {C f : Addr}
/-- BadText(e) -/
def tMkEr (C : Addr) (ta : TA) : L2.St → Hp → XK → Prop := fun σ H Q => ta σ H fun vs H1 => ∃ v, vs = [v] ∧ ∀ d, H1 d = none → Q (.ref C) (some d) (upd H1 d (.xd [(("line" : Str), v)]))
theorem pmk_er {a : Expr} {ta : TA} {p pos : Pos} {k : Nat} (T : ErF X.K X.mg C f) (hr : Room k X.A) (ha : PA X [a] ta) (hg : Gl X "BadText" := by rfl)
    (he : starEach (a :: []) X.env = (false, eval a X.env) :: starEach [] X.env := by rfl) (hpl : (backTo pos (starEach [] X.env)).any (·.1) = false := by rfl) : PMk X (.Call (.Name "BadText" p) [a] [] pos) (tMkEr C ta) := by
  intro pins s σ H Q I h
  refine wpAny_Call_Name_kw (ld_glob I hg T.m ?_)
  refine PySem.W.callWith_K (h₀ := X.base) I.ok.mod.kin T.kp (thn (ha.run pos pins s σ H _ I h) fun us s1 hh => ?_) he hpl
  obtain ⟨vs, H1, I1, r1, v, ev, q1⟩ := hh
  subst ev
  refine ⟨I1.kIn, ?_⟩
  cases r1 with
  | cons rv rn =>
    rename_i v' us'
    cases rn
    show wpAny _ _ (call (.ref C) [v']) _ _ _
    have hlim := I1.nolimit
    obtain ⟨hp, g, dr, tk, os⟩ := s1
    refine wpAny_call (er_made T I1.kIn hlim (by have := hr.dp; omega) fun h' tk' e d M => ?_)
    show MkP X pins σ Q (.ref e) ⟨h', g, dr, tk', os⟩
    obtain ⟨oe, fv, hoe, hc, hd, hdat, h1⟩ := M.obj
    obtain ⟨G', g1, g2⟩ := restrict h' fun b => decide (b ≠ e)
    have gk : ∀ b, b ≠ e → G'.get? b = h'.get? b := fun b hb => g1 b (decide_eq_true hb)
    have ge : G'.get? e = none := g2 e (by simp)
    have old : ∀ b o, hp.get? b = some o → G'.get? b = some o := fun b o q => (gk b (Nat.ne_of_lt (Nat.lt_of_lt_of_le (Heap.lt_size q) M.new))).trans (M.keep b o q)
    have ob : ObjOk X.prog X.w (upd H1 d (.xd [(("line" : Str), v)])) G' d (.xd [(("line" : Str), v)]) := ⟨_, M.ns.at (fun o q => (gk d M.ne).trans q), fun y => relO_line rv y⟩
    have J : L2.Inv X pins σ (upd H1 d (.xd [(("line" : Str), v)])) ⟨G', g, dr, tk', os⟩ := I1.laid (t' := tk') old M.dnew ob
    refine ⟨e, oe, fv, ⟨G', g, dr, tk', os⟩, _, .ref C, some d, rfl, J, fun b o q => ?_, ge, hoe, ⟨hc, hd⟩, hdat, h1, ?_, rfl, I1.bare, raises_own T.bx T.tx, q1 d (I1.hok.fresh M.dnew)⟩
    · by_cases hb : b = e
      · have q' : G'.get? b = some o := q
        rw [hb, ge] at q'; cases q'
      · exact (gk b hb).symm.trans q
    · rw [upd_ne (Ne.symm M.ne)]
      exact I1.hok.fresh M.new
/-- e.line, e the error that the suite holds (at a; its class cls, its dict d) -/
def tLine (C : Addr) (a : Addr) (cls : Value) (d : Option Addr) (te : TE) : TE := fun σ H Q => te σ H fun x H1 => x = .ref a ∧ cls = .ref C ∧ ∃ (dd : Addr) (v : V), d = some dd ∧ H1 dd = some (.xd [(("line" : Str), v)]) ∧ Q v H1
/-- the pinned error, as the kernel of the model sees it -/
theorem er_at {a dd : Addr} {oe : Obj} {pn : List (Addr × Obj)} {pins : List (Addr × Obj)} {σ : L2.St} {H1 : Hp} {s1 : Shared} {v : V} (hz : Zc (.ref C) (some dd) oe) (hf : ∃ vs, oe.data = .fields vs) (I1 : L2.Inv (X.suite a ((a, oe) :: pn)) pins σ H1 s1) (ea : H1 dd = some (.xd [(("line" : Str), v)])) :
    ∃ od, PySem.W.InstAt s1.heap a oe C (some od) ∧ ∃ u, RelV v u ∧ (∀ hd : PySem.W.hasDictIn X.K C = true, ∀ no : PySem.W.findIn X.K (.ref C) "line" = some none, PySem.W.findObj X.K C (some od) "line" = some (.value u)) := by
  obtain ⟨ha, _⟩ := I1.pin (a, oe) (List.mem_append_left _ List.mem_cons_self)
  obtain ⟨vs, hd⟩ := hf
  have hx : ObjOk X.prog X.w H1 s1.heap dd (.xd [(("line" : Str), v)]) := I1.hok dd _ ea
  obtain ⟨mA, hns, hr⟩ := hx
  obtain ⟨od, ho, hl⟩ := lookIn_ns hns
  have l : List.lookup ("line" : Str) [(("line" : Str), v)] = some v := by simp [List.lookup]
  obtain ⟨u, hu, ru⟩ := RelO.some_of (v := v) (o := mA "line") (by rw [← l]; exact hr "line")
  exact ⟨od, ⟨ha, hz.1, by unfold PySem.W.notCls; rw [hd] <;> rfl, by rw [hz.2]; exact ho⟩, u, ru, fun h1 h2 => PySem.W.findObj_own h1 h2 rfl (by rw [hl, hu])⟩
theorem pe_line {a : Addr} {oe : Obj} {cls : Value} {d : Option Addr} {pn : List (Addr × Obj)} {e : Expr} {te : TE} {pos : Pos} (T : ErF X.K X.mg C f) (hz : Zc cls d oe) (hf : ∃ vs, oe.data = .fields vs) (he : PE (X.suite a ((a, oe) :: pn)) e te)
    (hb : attributeBase e "line" X.env (eval e X.env) = eval e X.env := by rfl) : PE (X.suite a ((a, oe) :: pn)) (.Attribute e "line" pos) (tLine C a cls d te) := by
  refine ⟨fun pins s σ H Q I h => ?_⟩
  refine attr_of hb (thn (he.run pins s σ H _ I h) fun u s1 hh => ?_)
  obtain ⟨x, H1, I1, rx, ex, ec, dd, v, ed, ea, q⟩ := hh
  subst ex
  obtain rfl : u = Value.ref a := rx
  subst ec
  subst ed
  obtain ⟨od, J, u, ru, hv⟩ := er_at hz hf I1 ea
  exact HandSPX.exc_get I1.kIn J T.ga T.gt T.bx (hv T.hd T.no) (handed_of ru) ⟨v, H1, I1.tok _, ru, q⟩
end
end Ow
/-! isinstance(e, c) of an error that has its own dict -/
namespace Ow
open PySem PySem.W PySem.Calls PyProof.Rows
section
variable {prog : Program} {w : World} {A : Around} {E : Value → Shared → Prop} {s : Shared} {K : Frag} {x D : Addr} {ox : Obj} {od : Obj}
theorem er_class {Q : Option Value → Shared → Prop} (C : L2.ExcC K D) (X : K.In s.heap) (I : InstAt s.heap x ox D (some od)) (h : Q (some (.ref D)) { s with toks := s.toks + 1 }) : wpAny (model prog w) A (getAttr? (.ref x) "__class__") Q E s := by
  have hf : findObj K D (some od) "__class__" = some (.bind (.builtin "getset_descriptor.__get__") (.builtin "object.__class__")) := by
    obtain ⟨cd, hc, _⟩ := any_some C.hd
    unfold findObj
    rw [hc, Option.bind_some, C.ha, Option.bind_some]
    simp [C.hn, C.ht]
  obtain ⟨hp, g, d, t, os⟩ := s
  have ty := I.type (M := model prog w)
  have find := looks_find (M := model prog w) X I hf
  have isE : Looks (model prog w) hp (isInstance (.ref x) (.type "BaseException")) true := ty.andThen (looks_subIn X C.hs)
  have n0 : (false && onTheHeap (Value.builtin "BaseException.__getattribute__")) = false := rfl
  have n2 : (Value.builtin "BaseException.__getattribute__" == Value.builtin "object.__getattribute__") = false := by decide +kernel
  have n1 : (onTheHeap (Value.ref D) && Value.builtin "BaseException.__getattribute__" == Value.builtin "object.__getattribute__") = false := by rw [n2]; rfl
  unfold getAttr? getAttrBy? getAttrBy
  refine wpAny_bind (wpAny_mkText (wpAny_bind (wpAny_attempt (wpAny_holding (wpAny_bind (ty.at (wpAny_bind ((looks_findIn (M := model prog w) X C.hg).at ?_))))))))
  show wpAny _ _ (if (onTheHeap (Value.ref D) && Value.builtin "BaseException.__getattribute__" == Value.builtin "object.__getattribute__") = true then _ else _) _ _ _
  rw [n1, if_neg Bool.false_ne_true]
  unfold getAttrByItsOwn hookBefore
  refine wpAny_bind ?_
  rw [if_pos (show onTheHeap (Value.ref D) = true from rfl)]
  refine (looks_findIn (M := model prog w) X C.hk).at (wpAny_bind (wpAny_attempt (wpAny_holding ?_)))
  unfold callGetattribute
  rw [n0, if_neg Bool.false_ne_true]
  unfold boundAndCalled
  rw [PySem.F.excAttr_ValueError.ga.bind (.ref x)]
  refine wpAny_bind (wpAny_pure ?_)
  show wpAny _ _ (call (.builtin "BaseException.__getattribute__") [.ref x, .str "__class__" t]) _ _ _
  refine wpAny_call (codeAny_call_builtin PySem.F.excAttr_ValueError.ga.plain PySem.F.entry_bexc_ga ?_)
  refine @check_slot (model prog w) _ _ ⟨hp, g, d, t + 1, os⟩ "BaseException.__getattribute__" "BaseException" "__getattribute__" (.ref x) [.str "__class__" t] [] _ (by decide +kernel) (by decide +kernel) isE (PySem.F.args_bexc_ga (.ref x) (.str "__class__" t)) ?_
  unfold Builtin.«object.__getattribute__»
  refine wpAny_bind (wpAny_of_eq (a := ((Value.ref x : Value), [Value.str "__class__" t])) (by first | rfl | (simp only [slotArgs]; rfl)) ?_)
  refine wpAny_bind (wpAny_pure (wpAny_bind (ty.at (wpAny_bind (find.at ?_)))))
  show wpAny _ _ (holding [Value.builtin "object.__class__"] (call (.builtin "getset_descriptor.__get__") [.builtin "object.__class__", .ref x, .ref D]) >>= ret) _ _ _
  refine wpAny_bind (wpAny_holding (wpAny_call (class_get (s := ⟨hp, g, d, t + 1, os⟩) (ox := ox) (od := some od) X I C.hm (wpAny_pure ?_))))
  show wpAny _ _ (handedOut (.ref D)) _ _ _
  rw [handedOut_of (v := .ref D) rfl]
  first
    | exact wpAny_pure (wpAny_pure h)
    | exact wpAny_pure h
    | exact wpAny_pure (wpAny_bind (wpAny_pure (wpAny_pure h)))
theorem er_kit (C : L2.ExcC K D) : KitX K (.ref x) (.ref D) (fun h => InstAt h x ox D (some od)) := by
  have old := PySem.W.handS_kitx_exc (x := x) (ox := ox) C.hg C.hk C.hs C.hd C.ha C.hn C.ht C.hm
  refine ⟨fun M h X I => I.type, fun M h X _ => ?_, fun h tp dd its n sl X htp => ?_, fun X I k => er_class C X I k⟩
  · obtain ⟨cd, hc, _⟩ := any_some C.hd
    unfold clsIn at hc
    split at hc
    · rename_i c' d' cd' sl' ho
      intro A' Q' E' s' k q
      unfold isType loadHead
      exact wpAny_bind (wpAny_loadPart (k _ _ (X _ _ ho)) (wpAny_pure q))
    · cases hc
  · exact old.ne h tp dd its n sl X htp
end
end Ow
namespace Ow
open PySem PySem.Spec PyProof.Rows L2 GxR
/-- isinstance(e, c), e the error (of the class D, its dict d) that the suite holds -/
def rIsF (K : PySem.W.Frag) (cls : Value) (d : Option Addr) (a : Addr) : List V → Hp → VK → Prop := fun xs H Q => ∃ (D dd : Addr) (v c : V) (cv : Value) (b : Bool), cls = .ref D ∧ d = some dd ∧ H dd = some (.xd [(("line" : Str), v)]) ∧ L2.ExcC K D ∧ xs = [.ref a, c] ∧ (∀ u, RelV c u → u = cv) ∧ PySem.W.kitOne K (.ref D) cv = some b ∧ Q (.bl b) H
theorem call_isF {X : Cx} {a : Addr} {oe : Obj} {cls : Value} {d : Option Addr} {pn : List (Addr × Obj)} (hz : Zc cls d oe) (hf : ∃ vs, oe.data = .fields vs) : CallR (X.suite a ((a, oe) :: pn)) (.builtin "isinstance") (rIsF X.K cls d a) := by
  intro pins s σ H xs us Q I r h
  obtain ⟨D, dd, v, c, cv, b, rfl, rfl, ea, C, rfl, hcv, e, q⟩ := h
  cases r with
  | cons rx rr =>
    cases rr with
    | cons rt rr =>
      cases rr
      cases rx
      have ec := hcv _ rt
      subst ec
      obtain ⟨od, J, _⟩ := er_at hz hf I ea
      exact PySem.W.kia_one (er_kit C) I.kIn J e (fun z => nomatch z) fun tk => ⟨.bl b, H, I.kept (t' := tk) fun _ _ z => z, rfl, q⟩
end Ow

set_option Elab.async false
set_option linter.all false
set_option maxRecDepth 100000
set_option maxHeartbeats 4000000
namespace Sd
open PySem PySem.Spec PyProof.Rows L2 GxR
/-! ### an own error with a field: raise, try .. except X as e, e.line, isinstance(e, w) -/
theorem Sim.noxd {G : Gm} {S : Sto} {H : Hp} (s : Sim G S H) {a : Addr} {gs : List (Str × V)} (h : H a = some (.xd gs)) : S a = none := by
  cases q : S a with
  | none => rfl
  | some o =>
    have r := s.ob a o q
    exfalso
    cases o with
    | lst ds => obtain ⟨_, e, _⟩ := r; rw [h] at e; cases e
    | dK ds => obtain ⟨_, e, _⟩ := r; rw [h] at e; cases e
    | dT ds => obtain ⟨_, e, _⟩ := r; rw [h] at e; cases e
    | ins C nm fs => obtain ⟨_, _, e, _⟩ := r; rw [h] at e; cases e
    | fK ds _ _ => obtain ⟨e, _⟩ := r; rw [h] at e; cases e
    | fT ds => obtain ⟨_, _, e, _⟩ := r; rw [h] at e; cases e
    | box c => obtain ⟨_, _, _, e, _⟩ := r; rw [h] at e; cases e
    | cells => obtain ⟨_, e⟩ := r; rw [h] at e; cases e
def sRaiseF (C : Addr) (fa : DA) (Ed : XD) : DS := fun _ δ S => fa δ S fun ds S1 => match ds with | [v] => Ed C [("line", v)] S1 | _ => False
section
variable {G : Gm} {N : En}
theorem ss_raiseF {C : Addr} {Ed : XD} {E : XK} {ta : TA} {fa : DA} (hx : XOk G N Ed E) (ha : SA G N ta fa) : SS G N (fun _ σ H => Ow.tMkEr C ta σ H fun cls d H' => E cls d H') (sRaiseF C fa Ed) := by
  intro σ δ H S D E' r h k
  refine ha σ δ H S _ _ r h fun vs ds H1 S1 i1 r1 u1 q1 => ?_
  split at q1
  · match vs, i1 with
    | [v], .cons ix .nil =>
      refine ⟨v, rfl, fun d hd => ?_⟩
      have e := Ext.lay (o := HO.xd [(("line" : Str), v)]) hd
      exact hx C (some d) [("line", _)] _ S1 (r1.sim.ext e) (r1.up.trans (Up.of_ext e)) ⟨by simp, [(("line" : Str), v)], upd_same, .cons (ix.go e.tu) .nil⟩ q1
  · exact q1.elim
/-- what is known of the error that a suite holds -/
structure ErN (G : Gm) (N : En) (d : Addr) (dv : D) : Prop where
  s : Sim G N.S N.H
  ex : ∃ v, N.H d = some (.xd [("line", v)]) ∧ Im G N.H v dv
theorem ErN.now {d : Addr} {dv : D} {σ : L2.St} {δ : DV} {S : Sto} {H : Hp} (e : ErN G N d dv) (r : Rel G N σ δ S H) : ∃ v, H d = some (.xd [("line", v)]) ∧ Im G H v dv := by
  obtain ⟨v, h1, h2⟩ := e.ex
  exact ⟨v, r.up.keep d _ h1 rfl (e.s.noxd h1), h2.go (r.up.tu e.s)⟩
def eLineE (i : Nat) (a0 : Addr) (dv : D) : DE := fun δ S Q => δ[i]? = some (some (.ref a0)) ∧ Q dv S
theorem se_line {i : Nat} {a0 C d : Addr} {dv : D} (e : ErN G N d dv) : SE G N (Ow.tLine C a0 (.ref C) (some d) (tVar i)) (eLineE i a0 dv) := by
  rintro σ δ H S Q R rl ⟨h, q⟩ k
  obtain ⟨v, h1, h2⟩ := rl.sl.at_ i _ h
  obtain ⟨u, e1, e2⟩ := e.now rl
  rw [im_ref h2] at h1
  exact ⟨_, h1, rfl, rfl, d, u, rfl, e1, k u dv H S e2 rl .refl q⟩
theorem se_isF {i : Nat} {a0 C d w : Addr} {dv : D} (e : ErN G N d dv) (hc : ExcC G.K C) (hk : PySem.W.kitOne G.K (.ref C) (.ref w) = some true) : SE G N (tCB (Ow.rIsF G.K (.ref C) (some d) a0) (tCons (tVar i) (tCons (tC (.ref w)) tNil))) (eIsE i a0) := by
  rintro σ δ H S Q R rl ⟨h, q⟩ k
  obtain ⟨v, h1, h2⟩ := rl.sl.at_ i _ h
  obtain ⟨u, e1, e2⟩ := e.now rl
  rw [im_ref h2] at h1
  exact ⟨_, h1, C, d, u, .ref w, .ref w, true, rfl, rfl, e1, hc, rfl, fun u z => z, hk, k _ _ H S (.bl true) rl .refl q⟩
def sTryF (i : Nat) (fb : (DV → XD) → DS) (C0 : Addr) (fs : Addr → D → DS) : DS := fun DD δ S => fb (fun δ' C gs S' => C = C0 ∧ ∃ dv : D, gs = [(("line" : Str), dv)] ∧ ∀ a0, S' a0 = none → fs a0 dv { nx := fun δ S => DD.nx (δ.set i none) S, rt := DD.rt, bk := fun δ S => DD.bk (δ.set i none) S, ct := fun δ S => DD.ct (δ.set i none) S } (δ'.set i (some (.ref a0))) S') DD δ S
theorem ss_tryF {c : Value} {tb : WX → TS} {ts : Addr → Value → Option Addr → TS} {W0 : WX} {fb : (DV → XD) → DS} {C0 : Addr} {i : Nat} {fs : Addr → D → DS} (hb : ∀ N' W Wd, XOkS G N' Wd W → SS G N' (tb W) (fb Wd))
    (hs : ∀ N' a0 d dv, ErN G N' d dv → SS G N' (ts a0 (.ref C0) (some d)) (fs a0 dv)) (hex : PySem.W.exmOne G.K (.ref C0) c = some true) :
    SS G N (fun D σ H => tb (wAs G.K c i ts W0 D) D σ H) (sTryF i fb C0 fs) := by
  intro σ δ H S D E r h k
  have k2 := k.here r
  refine hb ⟨S, H⟩ _ _ ?_ σ δ H S D E ⟨r.sl, r.sim, .refl⟩ h k2
  intro σ' δ' C od gs H' S' r' xr ⟨hC, dv, hg, hf⟩
  subst hC
  subst hg
  match od, xr with
  | some d, xr =>
    obtain ⟨_, vs, hd, kv⟩ := xr
    have hv : ∃ v, vs = [(("line" : Str), v)] ∧ Im G H' v dv := by
      cases kv with
      | cons im rest => cases rest; exact ⟨_, rfl, im⟩
    obtain ⟨v, rfl, im⟩ := hv
    have r2 : Rel G ⟨S', H'⟩ σ' δ' S' H' := ⟨r'.sl, r'.sim, .refl⟩
    refine ⟨true, hex, fun _ a0 ha => ?_, fun z => by cases z⟩
    have k3 := (k2.go r'.up).here r'
    exact hs ⟨S', H'⟩ a0 d dv ⟨r'.sim, v, hd, im⟩ _ _ H' S' _ _ (r2.set i (.ref a0)) (hf a0 (r'.sim.free ha)) ⟨fun σ δ H2 S2 r2 u q => k3.nx _ _ H2 S2 (r2.unset i) u q, fun σ δ H2 S2 r2 u q => k3.bk _ _ H2 S2 (r2.unset i) u q, fun σ δ H2 S2 r2 u q => k3.ct _ _ H2 S2 (r2.unset i) u q, k3.rt⟩
  | none, xr => exact absurd xr (by unfold XR; simp)
end
/-! ### xs.insert(i, y) -/
def rIns : V → List V → Hp → VK → Prop := fun x vs H Q => ∃ (l : Addr) (xs : List V) (i : Int) (y : V), x = .ref l ∧ vs = [.int i, y] ∧ H l = some (.lst xs) ∧ xs.length < sizeLine ∧ 0 ≤ i ∧ i < 2 ^ 63 ∧ Q .non (upd H l (.lst (xs.take i.toNat ++ [y] ++ xs.drop i.toNat)))
def dInsert : D → List D → Sto → DK → Prop := fun x xs S Q => match x, xs with
  | .ref a, [.int i, y] => atL S a fun ds => ds.length < 1000000 ∧ 0 ≤ i ∧ i < 2 ^ 62 ∧ Q .non (sup S a (.lst (ds.take i.toNat ++ [y] ++ ds.drop i.toNat)))
  | _, _ => False
theorem sm_insert {G : Gm} : SM G rIns dInsert := by
  intro x d xs ds H S Q R hx hxs s h k
  unfold dInsert at h
  split at h
  · match xs, hxs with
    | [v1, v2], .cons i1 (.cons i2 .nil) =>
      cases im_int i1
      cases im_ref hx
      obtain ⟨es, e1, l, h0, h1, q⟩ := atL_of h
      obtain ⟨vs, hv, iv⟩ := s.ob _ _ e1
      obtain ⟨s3, u3, t3⟩ := put_lst s e1 hv (((iv.take _).append (.cons i2 .nil)).append (iv.drop _))
      exact ⟨_, vs, _, v2, rfl, rfl, hv, Nat.lt_of_lt_of_le (by rw [iv.length]; exact l) (le_line (Nat.le_refl _)), h0, by omega, k _ _ _ _ .non s3 u3 q⟩
  · exact h.elim
end Sd

set_option Elab.async false
set_option linter.all false
set_option maxRecDepth 100000
set_option maxHeartbeats 4000000
/-! ### for k, v in d.items(), d a written dict of the module -/
namespace Ow
open PySem PySem.Spec PyProof.Rows L2
structure KItems (K : PySem.W.Frag) (d : Addr) (ps : List (Str × V)) (es : Array DictEntry) (n : Nat) : Prop where
  at_ : K.lookup d = some ⟨.type "dict", none, .dict es n, #[]⟩
  low : (d == sysModules) = false
  len : es.size = ps.length
  row : ∀ (i : Nat) (h : i < es.size) (p : Str × V), ps[i]? = some p → RelV (.str p.1) es[i].key ∧ RelV p.2 es[i].val
def ItK (ps : List (Str × V)) : It :=
  ⟨fun i _ => i < ps.length, fun i H v H' => ∃ T p, v = .ref T ∧ H T = none ∧ H' = upd H T (.tup [.str p.1, p.2]) ∧ ps[i]? = some p, fun i _ => i = ps.length⟩
theorem KItems.raw {K : PySem.W.Frag} {d : Addr} {ps : List (Str × V)} {es : Array DictEntry} {n : Nat} (k : KItems K d ps es n) {h : Heap} (X : K.In h) : h.DictRaw d es n := ⟨_, X _ _ k.at_, ⟨rfl, rfl, rfl⟩, rfl⟩
theorem turn_itemsK {P : Program} {w : World} {K : PySem.W.Frag} {d : Addr} {ps : List (Str × V)} {es : Array DictEntry} {n : Nat} {elts : List Expr} {kk : Nat} {tpos : Pos} (it : Addr) (k : KItems K d ps es n) :
    Turn P w K (.Tuple elts kk tpos) (ItK ps) [it] it (fun i h => ∃ ok ov, IsItemIter h it d i es.size n ok ov) where
  mem := by simp
  obj := fun i h st b hb => by
    have e : b = it := by simpa using hb
    subst e
    obtain ⟨ok, ov, e⟩ := st
    exact ⟨_, e, fun v z => nomatch z⟩
  keep := fun i h h' st k => let ⟨ok, ov, e⟩ := st; ⟨ok, ov, k it (by simp) _ e⟩
  item := by
    intro X hP hw hK hc i pins s σ H E I hf st hi
    subst hP hw hK
    have hi : i < ps.length := hi
    obtain ⟨p, hp⟩ : ∃ p, ps[i]? = some p := ⟨ps[i], List.getElem?_eq_getElem hi⟩
    have hie : i < es.size := by rw [k.len]; exact hi
    obtain ⟨rk, rv⟩ := k.row i hie p hp
    have hm := k.raw I.kIn
    obtain ⟨ok, ov, he⟩ := st
    have hlt : it < s.heap.objs.size := Heap.lt_size he
    refine wpAny_pyNext_items_item_raw he hm hie fun h' ho hT hz hk => ?_
    refine ⟨_, rfl, wpAny_letOwnedTupleGo_items (s := { s with heap := h' }) ho fun h'' he' sb => ?_⟩
    have hT2 : h''.get? s.heap.objs.size = some { cls := .type "tuple", data := .seq #[es[i].key, es[i].val] } := (sb.2 _ (Nat.ne_of_gt hlt)).trans hT
    have new : ObjOk X.prog X.w (upd H s.heap.objs.size (.tup [.str p.1, p.2])) h'' s.heap.objs.size (.tup [.str p.1, p.2]) :=
      ⟨by show 2 ≤ sizeLine; decide, [es[i].key, es[i].val], .cons rk (.cons rv .nil), ⟨_, hT2, rfl, _, rfl⟩⟩
    have I1 : L2.Inv X pins σ (upd H s.heap.objs.size (.tup [.str p.1, p.2])) { s with heap := h'' } :=
      I.turnedNew (t' := s.toks) (ch := [it]) (fun b ob hb e => (sb.2 b (by simpa using hb)).trans (hk b ob (by simpa using hb) e)) hf (Nat.le_refl _) new
    refine ⟨.ref s.heap.objs.size, _, I1, rfl, ⟨_, p, rfl, I.hok.fresh (Nat.le_refl _), rfl, hp⟩, ⟨_, _, he'⟩, fun b hb => ?_⟩
    have e : b = it := by simpa using hb
    rw [e, upd_ne (Nat.ne_of_lt hlt)]
    exact (hf it (by simp)).1
  done := by
    intro X hP hw hK hc i pins s σ H E I hf st hi
    subst hP hw hK
    have hi : i = ps.length := hi
    obtain ⟨f0, f1, f2, f3, f4, f5⟩ := hf it (by simp)
    obtain ⟨ok, ov, he⟩ := st
    exact wpAny_pyNext_items_end_raw (I.ok.hd hc) he (k.raw I.kIn) (by rw [k.len]; omega) fun h' eb => ⟨rfl, I.turned (t' := s.toks) (fun b ob hb e => eb b ob hb e) f0 f1 f3 f4 f5⟩
  self := fun A i s Q E st h => let ⟨_, _, e⟩ := st; PySem.W.kcp_self e h
def iItemsK (d : Addr) (ps : List (Str × V)) (td : TE) : TI := fun σ H R => td σ H fun x H1 => x = .ref d ∧ R (ItK ps) H1
section
variable {X : Cx} {e : Expr} {td : TE} {apos cpos : Pos} {d : Addr} {ps : List (Str × V)} {es : Array DictEntry} {n : Nat}
theorem pi_itemsK {elts : List Expr} {kk : Nat} {tpos : Pos} (k : KItems X.K d ps es n) (he : PE X e td) (hbase : attributeBase e "items" X.env (eval e X.env) = eval e X.env := by rfl) (hline : (apos.endLine == cpos.line) = true := by rfl) :
    PI X (.Tuple elts kk tpos) (.Call (.Attribute e "items" apos) [] [] cpos) (iItemsK d ps td) := by
  refine ⟨fun pins s σ H R I h => ?_⟩
  refine wpAny_Call_method (T := "dict") (id := "dict.items") hbase rfl hline F.plainAttrs_dict F.slot_dict_items F.type_dict_items (thn (he.run pins s σ H _ I h) fun u s1 ⟨x, H1, I1, rx, ex, q⟩ => ?_)
  subst ex
  obtain rfl : u = Value.ref d := rx
  have hm := k.raw I1.kIn
  refine ⟨hm.typeIs, ?_, ?_⟩
  · obtain ⟨o, ho, hc, _⟩ := hm
    intro b eb
    cases eb
    exact ⟨o, ho, hc.2.1⟩
  have I2 : L2.Inv X pins σ H1 { s1 with heap := s1.heap.push { cls := .type "dict_items", data := .fields #[.ref d] } } := I1.kept (t' := s1.toks) fun b ob q => Heap.get?_push_of_some _ q
  have fin : wpAny (model X.prog X.w) X.A (pyIter (.ref s1.heap.objs.size)) (PIE X pins σ (.Tuple elts kk tpos) R) X.xe { s1 with heap := s1.heap.push { cls := .type "dict_items", data := .fields #[.ref d] } } := by
    refine wpAny_pyIter_items_raw (d := d) ⟨_, Heap.get?_push_size _ rfl, rfl, rfl⟩ (hm.at fun _ e => Heap.get?_push_of_some _ e) (pi_one (tk := s1.toks) I2 _ (turn_itemsK _ k) ⟨.none, .none, ?_⟩ q)
    exact Heap.get?_push_size _ rfl
  show wpAny _ _ (callWith cpos (.builtin "dict.items") [.ref d] [] []) _ X.xe s1
  exact method_meetsIn F.slot_dict_items F.entry_dict_items rfl (PySem.evalArgs_none ⟨rfl, hm.typeIs, F.args_dict_items_1 _, _, meets_dict_items_raw d k.low, ⟨es, n, hm⟩, fin⟩)
end
end Ow

set_option Elab.async false
set_option linter.all false
set_option maxRecDepth 100000
set_option maxHeartbeats 4000000
namespace Sd
open PySem PySem.Spec PyProof.Rows L2 GxR
/-! ### for k, v in d.items(), d a written dict of the module -/
theorem keys_at : ∀ {es : List DictEntry} {ks : List Str}, KeysAre es ks → ks.Nodup → ∀ (i : Nat) (k : Str), ks[i]? = some k → ∃ e, es[i]? = some e ∧ (∃ t, e.key = .str k t) ∧ es.find? (·.key.isStr k) = some e
  | [], [], _, _, i, k, h => by cases h
  | [], _ :: _, h, _, _, _, _ => h.elim
  | _ :: _, [], h, _, _, _, _ => h.elim
  | e :: es, k0 :: ks, h, hn, i, k, hk => by
    obtain ⟨⟨t, ht⟩, h2⟩ := h
    rw [List.nodup_cons] at hn
    cases i with
    | zero =>
      cases hk
      refine ⟨e, rfl, ⟨t, ht⟩, ?_⟩
      rw [List.find?_cons]
      have : e.key.isStr k0 = true := by rw [ht]; simp [Value.isStr]
      rw [this]
    | succ i =>
      obtain ⟨e2, a1, a2, a3⟩ := keys_at h2 hn.2 i k hk
      have hne : k0 ≠ k := fun z => hn.1 (by rw [z]; exact List.mem_of_getElem? hk)
      refine ⟨e2, a1, a2, ?_⟩
      rw [List.find?_cons]
      have : e.key.isStr k = false := by rw [ht]; simpa [Value.isStr] using hne
      rw [this]
      exact a3
def kItV (tb : KTb) : List (Str × V) := tb.map fun p => (p.1, dV2 (p.2.getD .non))
def kItD (tb : KTb) : List D := tb.map fun p => D.tup [.str p.1, p.2.getD .non]
structure KI (K : PySem.W.Frag) (d : Addr) (tb : KTb) : Prop where
  ex : ∃ es n, Ow.KItems K d (kItV tb) es n
  sc : ∀ p ∈ tb, scR (p.2.getD .non) = true ∧ okS p.1
theorem ki_of {K : PySem.W.Frag} {w : World} {d : Addr} {tb : KTb} (kt : ∃ es n, KDict K w d es n ∧ KeysAre es.toList (tb.map (·.1))) (nd : (tb.map (·.1)).Nodup) (ok : KdOk K w d tb) (hs : ∀ p ∈ tb, p.2.isSome = true) (ho : ∀ p ∈ tb, okS p.1) : KI K d tb := by
  obtain ⟨es, n, kd, ke⟩ := kt
  have row : ∀ p ∈ tb, ∃ v u, p.2 = some v ∧ PySem.W.nsIn K d p.1 = some (some u) ∧ scR v = true ∧ RelV (dV2 v) u := fun p hp => by
    obtain ⟨r, h1, h2⟩ := ok.row p hp
    rcases h2 with ⟨h2, _⟩ | ⟨v, u, h2, rfl, h3, h4⟩
    · have := hs p hp; rw [h2] at this; cases this
    · exact ⟨v, u, h2, h1, h3, h4⟩
  have hl : ∀ {es : List DictEntry} {ks : List Str}, KeysAre es ks → es.length = ks.length := by
    intro es
    induction es with
    | nil => intro ks h; cases ks with | nil => rfl | cons _ _ => exact h.elim
    | cons e es ih => intro ks h; cases ks with | nil => exact h.elim | cons k ks => rw [List.length_cons, List.length_cons, ih h.2]
  refine ⟨⟨es, n, kd.at_, kd.low, ?_, fun i hi p hp => ?_⟩, fun p hp => ?_⟩
  · have := hl ke
    rw [Array.length_toList, List.length_map] at this
    unfold kItV
    rw [List.length_map]
    exact this
  · unfold kItV at hp
    rw [List.getElem?_map] at hp
    cases e : tb[i]? with
    | none => rw [e] at hp; cases hp
    | some q =>
      rw [e] at hp
      cases hp
      obtain ⟨en, a1, ⟨t, a2⟩, a3⟩ := keys_at ke nd i q.1 (by rw [List.getElem?_map, e]; rfl)
      have ee : es[i] = en := by
        have : es.toList[i]? = some es[i] := by rw [Array.getElem?_toList]; exact Array.getElem?_eq_getElem hi
        rw [this] at a1
        exact Option.some.inj a1
      obtain ⟨v, u, b1, b2, b3, b4⟩ := row q (List.mem_of_getElem? e)
      unfold PySem.W.nsIn at b2
      rw [kd.at_] at b2
      dsimp only at b2
      rw [a3] at b2
      dsimp only at b2
      have hu : en.val = u := by cases b2; rfl
      dsimp only
      rw [ee, a2, hu, b1]
      exact ⟨⟨t, rfl⟩, b4⟩
  · obtain ⟨v, u, b1, b2, b3, b4⟩ := row p hp
    rw [b1]
    exact ⟨b3, ho p hp⟩
theorem pi_itemsKx {X : Cx} {e : Expr} {td : TE} {apos cpos : Pos} {d : Addr} {tb : KTb} {elts : List Expr} {kk : Nat} {tpos : Pos} (k : KI X.K d tb) (he : PE X e td) (hbase : attributeBase e "items" X.env (eval e X.env) = eval e X.env := by rfl) (hline : (apos.endLine == cpos.line) = true := by rfl) :
    PI X (.Tuple elts kk tpos) (.Call (.Attribute e "items" apos) [] [] cpos) (Ow.iItemsK d (kItV tb) td) := by
  obtain ⟨es, n, k⟩ := k.ex
  exact Ow.pi_itemsK k he hbase hline
def iKI (tb : KTb) : DI := fun δ S Q => Q ⟨kItD tb, fun _ => True⟩ S
theorem si_itemsK {G : Gm} {N : En} {d : Addr} {tb : KTb} (k : KI G.K d tb) : SI G N (Ow.iItemsK d (kItV tb) (tC (.ref d))) (iKI tb) := by
  intro σ δ H S Q R r h kk
  refine ⟨rfl, kk (Ow.ItK (kItV tb)) ⟨kItD tb, fun _ => True⟩ H S (fun S2 H2 s2 u2 ok i hi => ?_) r .refl h⟩
  have he : (kItD tb).length = tb.length := by unfold kItD; rw [List.length_map]
  have hv : (kItV tb).length = tb.length := by unfold kItV; rw [List.length_map]
  simp only [he] at hi ⊢
  refine ⟨fun z => by show i < (kItV tb).length; rw [hv]; exact z, fun z => by show i = (kItV tb).length; rw [hv]; exact z, fun x H' z y => ?_⟩
  obtain ⟨T, p, rfl, hT, rfl, hp⟩ := y
  unfold kItV at hp
  rw [List.getElem?_map] at hp
  cases e : tb[i]? with
  | none => rw [e] at hp; cases hp
  | some q =>
    rw [e] at hp
    cases hp
    obtain ⟨s1, s2'⟩ := k.sc q (List.mem_of_getElem? e)
    obtain ⟨a1, a2, a3⟩ := new_tup s2 hT (.cons (.str q.1 s2') (.cons (scR_im s1) .nil))
    refine ⟨.tup [.str q.1, q.2.getD .non], ?_, a1, a2, a3, Ext.lay hT⟩
    show (kItD tb)[i]? = _
    unfold kItD
    rw [List.getElem?_map, e]
    rfl
end Sd

set_option Elab.async false
set_option linter.all false
set_option maxRecDepth 100000
set_option maxHeartbeats 4000000
/-! ### x.replace('..', '..', 1) if n > k else e: a replacement that is asked behind a test with a written number -/
namespace Ow
open PySem PySem.Spec PyProof.Rows L2
open PySem.Builtin PySem.Builtin.Str PySem.Builtin.Int
def rep1 (x y z : Str) : Str := if ((occurrences x y 0 x.length 1).isEmpty || (y.length == 0 && z.length == 0)) = true then x else glued z (partsBetween x (occurrences x y 0 x.length 1) y.length)
theorem gives_rep1 (x y z : Str) (t u v w : Tok) (h0 : (u == 0 || v == 0) = false) (huv : (u == v) = false) (hyz : (y == z) = false) (hl : tooLong (x.length + (occurrences x y 0 x.length 1).length * z.length) = false) :
    Gives («str.replace» ⟨[.str x t, .str y u, .str z v, .int 1 w], []⟩) (if ((occurrences x y 0 x.length 1).isEmpty || (y.length == 0 && z.length == 0)) = true then .val (.str x t) else .str (glued z (partsBetween x (occurrences x y 0 x.length 1) y.length))) := by
  show Gives (if ((occurrences x y 0 x.length 1).isEmpty || (y.length == 0 && z.length == 0)) = true then (do rule "str.replace.nothing"; ret (.str x t)) else
          (do let same ← isSame (.str y u) (.str z v)
              if same = true then (do rule "str.replace.old-is-new"; ret (.str x t)) else
              if tooLong (x.length + (occurrences x y 0 x.length 1).length * z.length) = true then unsupported "str.replace:memory" else
              retStr (glued z (partsBetween x (occurrences x y 0 x.length 1) y.length)))) _
  cases hc : ((occurrences x y 0 x.length 1).isEmpty || (y.length == 0 && z.length == 0))
  · rw [isSame_str_other y z u v h0 huv hyz, hl]
    exact .of_eq rfl
  · exact .rule (.of_eq rfl)
section
variable {prog : Program} {w : World} {A : Around} {E : Value → Shared → Prop} {s : Shared} {x y z : Str} {t u v k : Tok} {Q : Value → Shared → Prop}
theorem rep1_call (hu : u ≠ 0) (hv : v ≠ 0) (huv : u ≠ v) (hyz : (y == z) = false) (hb : x.length + z.length ≤ 1000000) (hr : (rep1 x y z).length ≤ 1000000)
    (hq : ∀ t' k, Q (.str (rep1 x y z) t') { s with toks := k }) : wpAny (model prog w) A (call (.builtin "str.replace") [.str x t, .str y u, .str z v, .int 1 k]) Q E s := by
  have hl : tooLong (x.length + (occurrences x y 0 x.length 1).length * z.length) = false := by
    have h1 := StrLaws.occ_length_le x y 0 x.length 1
    have h2 : (occurrences x y 0 x.length 1).length * z.length ≤ 1 * z.length := Nat.mul_le_mul_right _ h1
    unfold tooLong
    rw [sizeLine_eq]
    exact decide_eq_false (by omega)
  refine call_gives F.slot_str_replace (typeIs_str _ _ _) F.entry_str_replace (F.args_str_replace_4 _ _ _ _) (gives_rep1 x y z t u v k (by simp [hu, hv]) (by simp [huv]) hyz hl) ?_
  unfold rep1 at hq hr
  cases hc : ((occurrences x y 0 x.length 1).isEmpty || (y.length == 0 && z.length == 0))
  · rw [hc] at hq hr
    simp only [Bool.false_eq_true, if_false] at hq hr ⊢
    exact ⟨by rw [sizeLine_eq]; omega, hq _ _⟩
  · rw [hc] at hq
    simp only [if_true] at hq ⊢
    exact hq t s.toks
end
def tRepIf (i : Nat) (y z : Str) (k : Int) (ta t3 : TE) : TE := fun σ H Q => ta σ H fun n H1 => ∃ m, n = .int m ∧
  (if k < m then ∃ x, σ[i]? = some (some (.str x)) ∧ x.length + z.length ≤ 1000000 ∧ (rep1 x y z).length ≤ 1000000 ∧ Q (.str (rep1 x y z)) H1 else t3 σ H1 Q)
section
variable {X : Cx} {a e3 : Expr} {ta t3 : TE} {i : Nat} {nm y z : Str} {k : Int} {j0 j1 j2 jc : Nat} {p1 c0 c1 c2 cc pc apos pos ipos : Pos}
theorem pe_repIf (ha : PE X a ta) (h3 : PE X e3 t3) (hN : X.N[i]? = some nm) (hv : Vis X.env.scope nm) (hyz : (y == z) = false)
    (hd : (nm == ("__debug__" : Str)) = false := by decide) (hcd : (nm == ("__classdict__" : Str)) = false := by decide)
    (hst : starEach [.Constant (.str y) j0 c0, .Constant (.str z) j1 c1, .Constant (.int 1) j2 c2] X.env = [(false, eval (.Constant (.str y) j0 c0) X.env), (false, eval (.Constant (.str z) j1 c1) X.env), (false, eval (.Constant (.int 1) j2 c2) X.env)] := by rfl)
    (hbase : attributeBase (.Name nm p1) "replace" X.env (eval (.Name nm p1) X.env) = eval (.Name nm p1) X.env := by rfl) (hline : (apos.endLine == pos.line) = true := by rfl) :
    PE X (.IfExp (.Compare a [.Gt] [.Constant (.int k) jc cc] pc) (.Call (.Attribute (.Name nm p1) "replace" apos) [.Constant (.str y) j0 c0, .Constant (.str z) j1 c1, .Constant (.int 1) j2 c2] [] pos) e3 ipos) (tRepIf i y z k ta t3) := by
  refine ⟨fun pins s σ H Q I h => ?_⟩
  refine wpAny_IfExp (wpAny_isTrue_Compare1 (thn (ha.run pins s σ H _ I h) fun n s1 ⟨x, H1, I1, r1, m, ex, q⟩ => ?_) (by rfl))
  subst ex
  obtain ⟨t1, rfl⟩ := r1
  show wpAny _ _ (eval (.Constant (.int k) jc cc) X.env) _ _ s1
  have const : ∀ {n : Int} {j : Nat} {c : Pos} {s' : Shared} {Q' : Value → Shared → Prop}, Q' (.int n s'.toks) { s' with toks := s'.toks + 1 } → wpAny (model X.prog X.w) X.A (eval (.Constant (.int n) j c) X.env) Q' X.xe s' := fun h => fun _ _ _ => h
  refine const (j := jc) (c := cc) ?_
  refine gt_int ?_
  refine wpAny_truthy_bool ?_
  by_cases hk : k < m
  · rw [if_pos hk] at q
    rw [decide_eq_true (show m > k from hk)]
    obtain ⟨x, hx, hb, hr, q⟩ := q
    have I2 : L2.Inv X pins σ H1 { s1 with toks := s1.toks + 1 } := I1.tok _
    show wpAny _ _ (eval (.Call (.Attribute (.Name nm p1) "replace" apos) [.Constant (.str y) j0 c0, .Constant (.str z) j1 c1, .Constant (.int 1) j2 c2] [] pos) X.env) _ _ _
    refine wpAny_Call_method_lateS hbase (by rw [hst]; rfl) hline ?_
    rw [hst]
    refine raw_name hN hv I2 hx (fun v r => ?_) hd hcd
    obtain ⟨tx, e⟩ := r
    subst e
    refine ⟨"str", _, F.plainAttrs_str, F.slot_str_replace, F.type_str_replace, typeIs_str _ _ _, (fun _ e => nomatch e), Calls.callWith_builtin rfl (Calls.evalArgs_plain (Calls.spliced_cons ?_))⟩
    refine Calls.Constant_str (k := j0) (pos := c0) (Calls.spliced_cons (Calls.Constant_str (k := j1) (pos := c1) (Calls.spliced_cons (const (j := j2) (c := c2) (Calls.spliced_nil ?_)))))
    exact rep1_call (show s1.toks + 1 ≠ 0 by omega) (show s1.toks + 1 + 1 ≠ 0 by omega) (show s1.toks + 1 ≠ s1.toks + 1 + 1 by omega) hyz hb hr fun t' k' => ⟨.str (rep1 x y z), H1, I1.tok k', ⟨t', rfl⟩, q⟩
  · rw [if_neg hk] at q
    rw [decide_eq_false (show ¬ m > k from hk)]
    exact h3.run pins _ σ H1 Q (I1.tok _) q
end
/-- a comprehension within one: its scope has no free name -/
theorem blkOk_nofree {N : List Str} {sc scope : Scope} {own : List (Str × Nat)} (h : blkC N { kind := .function, names := [], isGenerator := false, isCoroutine := false, more := [] } scope own = true) : BlkOk N sc scope own := by
  have k := blkOk_by h
  refine ⟨k.kind, k.uniq, k.ix, fun y hy e => ?_, k.own⟩
  rcases k.free y hy e with z | z <;> cases z
end Ow

set_option Elab.async false
set_option linter.all false
set_option maxRecDepth 100000
set_option maxHeartbeats 4000000
namespace Sd
open PySem PySem.Spec PyProof.Rows L2 GxR
/-! ### x.replace('..', '..', 1) if n > k else e -/
def eRepIf (i : Nat) (y z : Str) (k : Int) (fa f3 : DE) : DE := fun δ S Q => fa δ S fun n S1 => match n with
  | .int m => br (decide (k < m)) (∃ x, δ[i]? = some (some (.str x)) ∧ x.length + z.length ≤ 1000000 ∧ okS (Ow.rep1 x y z) ∧ (Ow.rep1 x y z).length ≤ 1000000 ∧ Q (.str (Ow.rep1 x y z)) S1) (f3 δ S1 Q)
  | _ => False
theorem se_repIf {G : Gm} {N : En} {i : Nat} {y z : Str} {k : Int} {ta t3 : TE} {fa f3 : DE} (ha : SE G N ta fa) (h3 : SE G N t3 f3) : SE G N (Ow.tRepIf i y z k ta t3) (eRepIf i y z k fa f3) := by
  intro σ δ H S Q R r h kk
  refine ha σ δ H S _ _ r h fun n d H1 S1 i1 r1 u1 q1 => ?_
  split at q1
  · rename_i m
    cases im_int i1
    refine ⟨m, rfl, ?_⟩
    by_cases hk : k < m
    · rw [if_pos hk]
      obtain ⟨x, hx, h1, h2, h3', q⟩ := q1.1 (decide_eq_true hk)
      obtain ⟨v, a1, a2⟩ := r1.sl.at_ i _ hx
      obtain ⟨rfl, o⟩ := im_str a2
      exact ⟨x, a1, h1, h3', kk _ _ H1 S1 (.str _ h2) r1 u1 q⟩
    · rw [if_neg hk]
      exact h3 σ δ H1 S1 _ _ r1 (q1.2 (decide_eq_false hk)) fun v e H2 S2 i2 r2 u2 q2 => kk v e H2 S2 i2 r2 (u1.trans u2) q2
  · exact q1.elim
end Sd

set_option Elab.async false
set_option linter.all false
set_option maxRecDepth 100000
set_option maxHeartbeats 4000000
namespace Sd
open PySem PySem.Spec PyProof.Rows L2 GxR
abbrev N__is_letter : List Str := ["sign"]
theorem sc__is_letter : FnScope N__is_letter ["sign"] (defScope s__is_letter) := ⟨rfl, rfl, rfl, by decide +kernel, rfl, by decide +kernel, by decide +kernel⟩
abbrev N__is_digit : List Str := ["sign"]
theorem sc__is_digit : FnScope N__is_digit ["sign"] (defScope s__is_digit) := ⟨rfl, rfl, rfl, by decide +kernel, rfl, by decide +kernel, by decide +kernel⟩
abbrev N_is_name : List Str := ["text", "sign"]
theorem sc_is_name : FnScope N_is_name ["text"] (defScope s_is_name) := ⟨rfl, rfl, rfl, by decide +kernel, rfl, by decide +kernel, by decide +kernel⟩
abbrev N_number_in : List Str := ["text", "most", "number", "sign"]
theorem sc_number_in : FnScope N_number_in ["text", "most"] (defScope s_number_in) := ⟨rfl, rfl, rfl, by decide +kernel, rfl, by decide +kernel, by decide +kernel⟩
abbrev N__act_of_player : List Str := ["name", "verb", "numbers"]
theorem sc__act_of_player : FnScope N__act_of_player ["name", "verb", "numbers"] (defScope s__act_of_player) := ⟨rfl, rfl, rfl, by decide +kernel, rfl, by decide +kernel, by decide +kernel⟩
abbrev N__read_line : List Str := ["line", "words", "is_played", "numbers", "word"]
theorem sc__read_line : FnScope N__read_line ["line"] (defScope s__read_line) := ⟨rfl, rfl, rfl, by decide +kernel, rfl, by decide +kernel, by decide +kernel⟩
abbrev N_read_script : List Str := ["text", "acts", "number", "line", "act"]
theorem sc_read_script : FnScope N_read_script ["text"] (defScope s_read_script) := ⟨rfl, rfl, rfl, by decide +kernel, rfl, by decide +kernel, by decide +kernel⟩
abbrev N__words_of_act : List Str := ["act", "_", "name", "deed", "verbs", "verb", "word"]
theorem sc__words_of_act : FnScope N__words_of_act ["act"] (defScope s__words_of_act) := ⟨rfl, rfl, rfl, by decide +kernel, rfl, by decide +kernel, by decide +kernel⟩
abbrev N_print_script : List Str := ["acts", "act", "word"]
theorem sc_print_script : FnScope N_print_script ["acts"] (defScope s_print_script) := ⟨rfl, rfl, rfl, by decide +kernel, rfl, by decide +kernel, by decide +kernel⟩
abbrev N__law_mix : List Str := ["first", "second", "value"]
theorem sc__law_mix : FnScope N__law_mix ["first", "second"] (defScope s__law_mix) := ⟨rfl, rfl, rfl, by decide +kernel, rfl, by decide +kernel, by decide +kernel⟩
abbrev N__law_numbers : List Str := ["script", "count", "found", "total", "cell", "number", "k"]
theorem sc__law_numbers : FnScope N__law_numbers ["script", "count"] (defScope s__law_numbers) := ⟨rfl, rfl, rfl, by decide +kernel, rfl, by decide +kernel, by decide +kernel⟩
abbrev N__law_draws : List Str := ["script", "count"]
theorem sc__law_draws : FnScope N__law_draws ["script", "count"] (defScope s__law_draws) := ⟨rfl, rfl, rfl, by decide +kernel, rfl, by decide +kernel, by decide +kernel⟩
abbrev N__law_take : List Str := ["draws", "bound", "row", "at", "value"]
theorem sc__law_take : FnScope N__law_take ["draws", "bound"] (defScope s__law_take) := ⟨rfl, rfl, rfl, by decide +kernel, rfl, by decide +kernel, by decide +kernel⟩
abbrev N__law_name : List Str := ["draws", "small", "size", "rest", "k"]
theorem sc__law_name : FnScope N__law_name ["draws"] (defScope s__law_name) := ⟨rfl, rfl, rfl, by decide +kernel, rfl, by decide +kernel, by decide +kernel⟩
abbrev N__law_number : List Str := ["draws"]
theorem sc__law_number : FnScope N__law_number ["draws"] (defScope s__law_number) := ⟨rfl, rfl, rfl, by decide +kernel, rfl, by decide +kernel, by decide +kernel⟩
abbrev N__law_act : List Str := ["draws", "name", "a", "b", "c", "numbers", "acts", "k", "n"]
theorem sc__law_act : FnScope N__law_act ["draws"] (defScope s__law_act) := ⟨rfl, rfl, rfl, by decide +kernel, rfl, by decide +kernel, by decide +kernel⟩
abbrev N__law_wrong : List Str := ["draws", "line", "kind", "words"]
theorem sc__law_wrong : FnScope N__law_wrong ["draws", "line"] (defScope s__law_wrong) := ⟨rfl, rfl, rfl, by decide +kernel, rfl, by decide +kernel, by decide +kernel⟩
abbrev N_law : List Str := ["script", "draws", "rows", "acts", "text", "at", "lines", "wrong", "e", "k", "row"]
theorem sc_law : FnScope N_law ["script"] (defScope s_law) := ⟨rfl, rfl, rfl, by decide +kernel, rfl, by decide +kernel, by decide +kernel⟩
/-- the addresses of classes, errors, tables, constants -/
structure Ad where
  X_BadText : Addr
  I_BadText : Addr
  P_is_name : Addr
  P_number_in : Addr
  c__COUNTS : Addr
  c__SENT : Addr
  c__DONE : Addr
  W_WatchError : Addr
def tb__COUNTS (a : Ad) : KTb := ("puts", some (.int 2)) :: ("asks", some (.int 0)) :: ("lies", some (.int 3)) :: ("forges", some (.int 2)) :: ("cuts", some (.int 0)) :: ("papers", some (.int 0)) :: ("gathers", some (.int 0)) :: []
def tb__SENT (a : Ad) : KTb := ("puts", some (.str "put")) :: ("asks", some (.str "ask")) :: []
def tb__DONE (a : Ad) : KTb := ("lies", some (.str "lie")) :: ("forges", some (.str "forge")) :: ("cuts", some (.str "cut")) :: ("papers", some (.str "paper")) :: ("gathers", some (.str "gather")) :: []
def tabs (a : Ad) : List Addr := [a.P_is_name, a.P_number_in]
structure TX (K : PySem.W.Frag) (mg : Str → Option Value) (w : World) (a : Ad) : Prop where
  b_triv : True
  b_abs : mg "abs" = none
  b_all : mg "all" = none
  b_enumerate : mg "enumerate" = none
  b_int : mg "int" = none
  b_isinstance : mg "isinstance" = none
  b_len : mg "len" = none
  b_range : mg "range" = none
  b_str : mg "str" = none
  b_tuple : mg "tuple" = none
  g_MAX_PART : ∃ u, mg "MAX_PART" = some u ∧ RelV (.int 281474976710656) u
  g_MAX_NAME : ∃ u, mg "MAX_NAME" = some u ∧ RelV (.int 12) u
  g__COUNTS : ∃ u, mg "_COUNTS" = some u ∧ RelV (.ref a.c__COUNTS) u
  kd__COUNTS : KdOk K w a.c__COUNTS (tb__COUNTS a)
  ka__COUNTS : KdAll K w a.c__COUNTS (tb__COUNTS a)
  g__SENT : ∃ u, mg "_SENT" = some u ∧ RelV (.ref a.c__SENT) u
  kd__SENT : KdOk K w a.c__SENT (tb__SENT a)
  ki__SENT : KI K a.c__SENT (tb__SENT a)
  ka__SENT : KdAll K w a.c__SENT (tb__SENT a)
  g__DONE : ∃ u, mg "_DONE" = some u ∧ RelV (.ref a.c__DONE) u
  kd__DONE : KdOk K w a.c__DONE (tb__DONE a)
  ki__DONE : KI K a.c__DONE (tb__DONE a)
  ka__DONE : KdAll K w a.c__DONE (tb__DONE a)
  er_BadText : Ow.ErF K mg a.X_BadText a.I_BadText
  m_BadText : mg "BadText" = some (.ref a.X_BadText)
  k_BadText : PySem.W.keepIn K (.ref a.X_BadText) = true
  bx_BadText : PySem.W.subIn K (.ref a.X_BadText) (.type "BaseException") = some true
  tx_BadText : PySem.W.typeIn K (.ref a.X_BadText) = some (.type "type")
  exm_BadText : PySem.W.exmOne K (.ref a.X_BadText) (.ref a.X_BadText) = some true
  exc_BadText : ExcC K a.X_BadText
  gw_WatchError : ∃ u, mg "WatchError" = some u ∧ RelV (.ref a.W_WatchError) u
  ki_BadText_WatchError : PySem.W.kitOne K (.ref a.X_BadText) (.ref a.W_WatchError) = some true
end Sd


set_option Elab.async false
set_option linter.all false
set_option maxRecDepth 100000
set_option maxHeartbeats 4000000
namespace Sd
open PySem PySem.Spec PyProof.Rows L2 GxR
section
variable {P : Program} {w : World} {K : PySem.W.Frag} {mg : Str → Option Value} {base : Heap} {a : Ad}
noncomputable def B__is_letter (a : Ad) (Ed : XD) : DS :=
  (sRet (eChain dLe dLe (eC (.str "a")) (eVar 0) (eC (.str "z"))))
noncomputable def F__is_letter (a : Ad) : WF := shut fun ds S Q Ed => ds.length = 1 ∧ B__is_letter a Ed { nx := fun _ S' => Q .non S', rt := Q } (dstart N__is_letter ds) S
theorem ok__is_letter {f : Addr} {fd : FuncData} (Fm : Fun K "_is_letter" "_is_letter" s__is_letter f fd) (T : TX K mg w a)  : FnOk P w K mg base (L2.CX P w) 1 f fd ["sign"] (spD K (tabs a) (F__is_letter a)) := by
  refine def_ok (k := 0) Fm sc__is_letter (fun ds S Q E h => (shut_of h).1) fun scr ns Ne Ed E cdv A outer s H hr hx => ?_
  exact ⟨_, B__is_letter a Ed, (pss_one (ps_ret (pe_chain Ow.opU_le Ow.opU_le pe_str (pv 0) pe_str))), (ss_ret (se_chain s2_le s2_le (se_str (by decide +kernel)) se_var (se_str (by decide +kernel)))), fun ds S Qd h => (shut_of h).2⟩
noncomputable def B__is_digit (a : Ad) (Ed : XD) : DS :=
  (sRet (eChain dLe dLe (eC (.str "0")) (eVar 0) (eC (.str "9"))))
noncomputable def F__is_digit (a : Ad) : WF := shut fun ds S Q Ed => ds.length = 1 ∧ B__is_digit a Ed { nx := fun _ S' => Q .non S', rt := Q } (dstart N__is_digit ds) S
theorem ok__is_digit {f : Addr} {fd : FuncData} (Fm : Fun K "_is_digit" "_is_digit" s__is_digit f fd) (T : TX K mg w a)  : FnOk P w K mg base (L2.CX P w) 1 f fd ["sign"] (spD K (tabs a) (F__is_digit a)) := by
  refine def_ok (k := 0) Fm sc__is_digit (fun ds S Q E h => (shut_of h).1) fun scr ns Ne Ed E cdv A outer s H hr hx => ?_
  exact ⟨_, B__is_digit a Ed, (pss_one (ps_ret (pe_chain Ow.opU_le Ow.opU_le pe_str (pv 0) pe_str))), (ss_ret (se_chain s2_le s2_le (se_str (by decide +kernel)) se_var (se_str (by decide +kernel)))), fun ds S Qd h => (shut_of h).2⟩
noncomputable def B_is_name (a : Ad) (Ed : XD) : DS :=
  (sSeq (sIf (tOr' (tNot' (tV (eChain dLe dLe (eC (.int 1)) (eCB dLen (aCons (eVar 0) aNil)) (eC (.int 12))))) (tNot' (tV (eCa (F__is_letter a) Ed (aCons (eOp dIx (eVar 0) (eC (.int 0))) aNil)))))
  (sRet (eC (.bl false)))
  sNext)
  (sRet (eAll (iS (eVar 0)) (xName 1) (eOr (eCa (F__is_letter a) xF (aCons (eVar 1) aNil)) (eCa (F__is_digit a) xF (aCons (eVar 1) aNil))) [1])))
noncomputable def F_is_name (a : Ad) : WF := shut fun ds S Q Ed => ds.length = 1 ∧ B_is_name a Ed { nx := fun _ S' => Q .non S', rt := Q } (dstart N_is_name ds) S
theorem ok_is_name {f : Addr} {fd : FuncData} (Fm : FunT K base mg "is_name" "is_name" s_is_name f fd a.P_is_name) (T : TX K mg w a) (G__is_letter : Ow.Ca P w K mg base 1 "_is_letter" (spD K (tabs a) (F__is_letter a))) (G__is_digit : Ow.Ca P w K mg base 1 "_is_digit" (spD K (tabs a) (F__is_digit a))) : FnOk P w K mg base (L2.CX P w) 3 f fd ["text"] (spD K (tabs a) (F_is_name a)) := by
  refine def_okT (k := 2) Fm sc_is_name (fun ds S Q E h => (shut_of h).1) fun scr ns Ne Ed E cdv A outer s H TB hr hx => ?_
  have hpx : Passes (L2.CX P w) (cxOf (L2.CX P w) P w K mg base N_is_name "is_name" (defScope s_is_name) f (.ref cdv) A outer s H E) E := passes_call (takes_of rfl rfl rfl rfl) (fun _ _ _ _ z => z)
  have hP : a.P_is_name ∈ (⟨K, tabs a, scr, ns⟩ : Gm).tabs := by simp [tabs]
  exact ⟨_, B_is_name a Ed, (pss_cons (ps_if (PW.pt (pw_or (pt_not (pt_chain Ow.opU_le Ow.opU_le pe_int (pe_callB (show CallR _ _ (Ow.rLenU K) from Ow.lenU) (by rfl) T.b_len PySem.boot_len (pa_cons (pv 0) pa_nil)) (Ow.pe_gi (by rfl) T.g_MAX_NAME))) (pw_or1 (pt_not (pt_val (Ow.pe_caX G__is_letter hr (by first | decide | omega) (by rfl) hpx (pa_cons (pe_ix (show IxR _ (rIx K) from Ow.ixU) (pv 0) pe_int (fun _ _ => rfl)) pa_nil))))))) (pss_one (ps_ret pe_bl)) pss_nil) (pss_one (ps_ret (Ow.pe_allG (k := 1) (own := [("sign", 1)]) hr (by rfl) T.b_all (by decide +kernel) TB rfl sc_is_name.nd (blkOk_by (own := [("sign", 1)]) (N := N_is_name) (sc := defScope s_is_name) (by decide +kernel)) Ow.gxOk_by (pi_str (pv 0)) (fun _ _ _ _ _ _ _ _ hr1 => (pg_name (i := 1) sc_is_name.nd rfl (by first | exact Or.inl rfl | exact Or.inr rfl))) (fun _ _ _ _ _ _ _ _ hr1 => (pe_or (Ow.pe_ca G__is_letter hr1 (by first | decide | omega) (by rfl) (pa_cons (pv 1) pa_nil)) (pe_one (Ow.pe_ca G__is_digit hr1 (by first | decide | omega) (by rfl) (pa_cons (pv 1) pa_nil))))) (fun _ => rfl))))), (ss_seq (ss_if (st_or (st_not (st_test (se_chain s2_le s2_le se_int (se_cb sl_len (sa_cons se_var sa_nil)) se_int))) (st_not (st_tB (se_ca hx (sa_cons (se_op s2_ix se_var se_int) sa_nil))))) (ss_ret se_bl) ss_next) (ss_ret (se_all hP (si_str se_var) sg_name (se_or (se_ca xok_F (sa_cons se_var sa_nil)) (se_ca xok_F (sa_cons se_var sa_nil))) (by decide)))), fun ds S Qd h => (shut_of h).2⟩
noncomputable def B_number_in (a : Ad) (Ed : XD) : DS :=
  (sSeq (sIf (tOr' (tNot' (tV (eChain dLe dLe (eC (.int 1)) (eCB dLen (aCons (eVar 0) aNil)) (eCB dLen (aCons (eCB dStrU (aCons (eVar 1) aNil)) aNil))))) (tNot' (tV (eAll (iS (eVar 0)) (xName 3) (eCa (F__is_digit a) xF (aCons (eVar 3) aNil)) [3]))))
  (sRet (eC .non))
  sNext)
  (sSeq (sIf (tAnd' (tV (eOp dEq (eOp dIx (eVar 0) (eC (.int 0))) (eC (.str "0")))) (tV (eOp dGt (eCB dLen (aCons (eVar 0) aNil)) (eC (.int 1)))))
  (sRet (eC .non))
  sNext)
  (sSeq (sAsg (eCB dIntT (aCons (eVar 0) aNil)) (xName 2))
  (sRet (eIf (tV (eOp dLe (eVar 2) (eVar 1))) (eVar 2) (eC .non))))))
noncomputable def F_number_in (a : Ad) : WF := shut fun ds S Q Ed => ds.length = 2 ∧ B_number_in a Ed { nx := fun _ S' => Q .non S', rt := Q } (dstart N_number_in ds) S
theorem ok_number_in {f : Addr} {fd : FuncData} (Fm : FunT K base mg "number_in" "number_in" s_number_in f fd a.P_number_in) (T : TX K mg w a) (G__is_digit : Ow.Ca P w K mg base 1 "_is_digit" (spD K (tabs a) (F__is_digit a))) : FnOk P w K mg base (L2.CX P w) 3 f fd ["text", "most"] (spD K (tabs a) (F_number_in a)) := by
  refine def_okT (k := 2) Fm sc_number_in (fun ds S Q E h => (shut_of h).1) fun scr ns Ne Ed E cdv A outer s H TB hr hx => ?_
  have hP : a.P_number_in ∈ (⟨K, tabs a, scr, ns⟩ : Gm).tabs := by simp [tabs]
  exact ⟨_, B_number_in a Ed, (pss_cons (ps_if (PW.pt (pw_or (pt_not (pt_chain Ow.opU_le Ow.opU_le pe_int (pe_callB (show CallR _ _ (Ow.rLenU K) from Ow.lenU) (by rfl) T.b_len PySem.boot_len (pa_cons (pv 0) pa_nil)) (pe_callB (show CallR _ _ (Ow.rLenU K) from Ow.lenU) (by rfl) T.b_len PySem.boot_len (pa_cons (pe_callTy (show CallR _ _ rStrU from CallR.or (show CallR _ _ rStrN from call_str_int) SkE.call_str_str) (by rfl) T.b_str (by decide +kernel) (pa_cons (pv 1) pa_nil)) pa_nil)))) (pw_or1 (pt_not (pt_val (Ow.pe_allG (k := 1) (own := [("sign", 3)]) hr (by rfl) T.b_all (by decide +kernel) TB rfl sc_number_in.nd (blkOk_by (own := [("sign", 3)]) (N := N_number_in) (sc := defScope s_number_in) (by decide +kernel)) Ow.gxOk_by (pi_str (pv 0)) (fun _ _ _ _ _ _ _ _ hr1 => (pg_name (i := 3) sc_number_in.nd rfl (by first | exact Or.inl rfl | exact Or.inr rfl))) (fun _ _ _ _ _ _ _ _ hr1 => (Ow.pe_ca G__is_digit hr1 (by first | decide | omega) (by rfl) (pa_cons (pv 3) pa_nil))) (fun _ => rfl))))))) (pss_one (ps_ret pe_non)) pss_nil) (pss_cons (ps_if (PW.pt (pw_and (pt_cmpR (show OpR _ _ (Ow.rEqU K) from Ow.opU_eq hr.units) (pe_ix (show IxR _ (rIx K) from Ow.ixU) (pv 0) pe_int (fun _ _ => rfl)) pe_str (nomark _)) (pw_and1 (pt_cmpR opV_gt (pe_callB (show CallR _ _ (Ow.rLenU K) from Ow.lenU) (by rfl) T.b_len PySem.boot_len (pa_cons (pv 0) pa_nil)) pe_int (nomark _))))) (pss_one (ps_ret pe_non)) pss_nil) (pss_cons (ps_asg (pe_callTy (show CallR _ _ rIntT from call_int_str) (by rfl) T.b_int (by decide +kernel) (pa_cons (pv 0) pa_nil)) (pg_name (i := 2) sc_number_in.nd rfl (by first | exact Or.inl rfl | exact Or.inr rfl))) (pss_one (ps_ret (pe_ifExp (pt_cmpR Ow.opU_le (pv 2) (pv 1) (nomark _)) (pv 2) pe_non)))))), (ss_seq (ss_if (st_or (st_not (st_test (se_chain s2_le s2_le se_int (se_cb sl_len (sa_cons se_var sa_nil)) (se_cb sl_len (sa_cons (se_cb sl_strU (sa_cons se_var sa_nil)) sa_nil))))) (st_not (st_tB (se_all hP (si_str se_var) sg_name (se_ca xok_F (sa_cons se_var sa_nil)) (by decide))))) (ss_ret se_non) ss_next) (ss_seq (ss_if (st_and (st_test (se_op s2_eq (se_op s2_ix se_var se_int) (se_str (by decide +kernel)))) (st_test (se_op s2_gt (se_cb sl_len (sa_cons se_var sa_nil)) se_int))) (ss_ret se_non) ss_next) (ss_seq (ss_asg (se_cb sl_intT (sa_cons se_var sa_nil)) sg_name) (ss_ret (se_if (st_test (se_op s2_le se_var se_var)) se_var se_non))))), fun ds S Qd h => (shut_of h).2⟩
noncomputable def B__act_of_player (a : Ad) (Ed : XD) : DS :=
  (sSeq (sIf (tOr' (tNot' (tV (eCa (F_is_name a) Ed (aCons (eVar 0) aNil)))) (tV (eOp dNe (eCB dLen (aCons (eVar 2) aNil)) (eKIx (tb__COUNTS a) (eVar 1)))))
  (sRet (eC .non))
  sNext)
  (sSeq (sIf (tV (eKInA false (tb__SENT a) (eVar 1)))
  (sRet (eTup (aCons (eC (.str "send")) (aCons (eVar 0) (aCons (eTup (aCons (eKIx (tb__SENT a) (eVar 1)) (aStar (eVar 2) aNil))) aNil)))))
  sNext)
  (sRet (eTup (aCons (eKIx (tb__DONE a) (eVar 1)) (aCons (eVar 0) (aStar (eVar 2) aNil)))))))
noncomputable def F__act_of_player (a : Ad) : WF := shut fun ds S Q Ed => ds.length = 3 ∧ B__act_of_player a Ed { nx := fun _ S' => Q .non S', rt := Q } (dstart N__act_of_player ds) S
theorem ok__act_of_player {f : Addr} {fd : FuncData} (Fm : Fun K "_act_of_player" "_act_of_player" s__act_of_player f fd) (T : TX K mg w a) (G_is_name : Ow.Ca P w K mg base 3 "is_name" (spD K (tabs a) (F_is_name a))) : FnOk P w K mg base (L2.CX P w) 4 f fd ["name", "verb", "numbers"] (spD K (tabs a) (F__act_of_player a)) := by
  refine def_ok (k := 3) Fm sc__act_of_player (fun ds S Q E h => (shut_of h).1) fun scr ns Ne Ed E cdv A outer s H hr hx => ?_
  have hpx : Passes (L2.CX P w) (cxOf (L2.CX P w) P w K mg base N__act_of_player "_act_of_player" (defScope s__act_of_player) f cdv A outer s H E) E := passes_call (takes_of rfl rfl rfl rfl) (fun _ _ _ _ z => z)
  exact ⟨_, B__act_of_player a Ed, (pss_cons (ps_if (PW.pt (pw_or (pt_not (pt_val (Ow.pe_caX G_is_name hr (by first | decide | omega) (by rfl) hpx (pa_cons (pv 0) pa_nil)))) (pw_or1 (pt_cmpR (show OpR _ _ (Ow.rNeU K) from Ow.opU_ne hr.units) (pe_callB (show CallR _ _ (Ow.rLenU K) from Ow.lenU) (by rfl) T.b_len PySem.boot_len (pa_cons (pv 2) pa_nil)) (pe_ix (show IxR _ (rIxD K w) from ix_kdict) (Ow.pe_gi (by rfl) (show ∃ u, mg "_COUNTS" = some u ∧ RelV (.ref a.c__COUNTS) u from T.g__COUNTS)) (pv 1) (fun _ _ => rfl)) (nomark _))))) (pss_one (ps_ret pe_non)) pss_nil) (pss_cons (ps_if (pt_cmpR (op_kin T.kd__SENT) (pv 1) (Ow.pe_gi (by rfl) (show ∃ u, mg "_SENT" = some u ∧ RelV (.ref a.c__SENT) u from T.g__SENT)) (by rfl)) (pss_one (ps_ret (pe_tup (pa_cons pe_str (pa_cons (pv 0) (pa_cons (pe_tup (pa_cons (pe_ix (show IxR _ (rIxD K w) from ix_kdict) (Ow.pe_gi (by rfl) (show ∃ u, mg "_SENT" = some u ∧ RelV (.ref a.c__SENT) u from T.g__SENT)) (pv 1) (fun _ _ => rfl)) (StX.pa_star (pv 2) pa_nil))) pa_nil)))))) pss_nil) (pss_one (ps_ret (pe_tup (pa_cons (pe_ix (show IxR _ (rIxD K w) from ix_kdict) (Ow.pe_gi (by rfl) (show ∃ u, mg "_DONE" = some u ∧ RelV (.ref a.c__DONE) u from T.g__DONE)) (pv 1) (fun _ _ => rfl)) (pa_cons (pv 0) (StX.pa_star (pv 2) pa_nil)))))))), (ss_seq (ss_if (st_or (st_not (st_tB (se_ca hx (sa_cons se_var sa_nil)))) (st_test (se_op s2_ne (se_cb sl_len (sa_cons se_var sa_nil)) (se_kix T.kd__COUNTS se_var)))) (ss_ret se_non) ss_next) (ss_seq (ss_if (st_test (se_kinA T.ka__SENT se_var)) (ss_ret (se_tup (sa_cons (se_str (by decide +kernel)) (sa_cons se_var (sa_cons (se_tup (sa_cons (se_kix T.kd__SENT se_var) (sa_star se_var sa_nil))) sa_nil))))) ss_next) (ss_ret (se_tup (sa_cons (se_kix T.kd__DONE se_var) (sa_cons se_var (sa_star se_var sa_nil))))))), fun ds S Qd h => (shut_of h).2⟩
noncomputable def B__read_line (a : Ad) (Ed : XD) : DS :=
  (sSeq (sAsg (dM1 dSplitV (eVar 0) (eC (.str " "))) (xName 1))
  (sSeq (sAsg (eAnd (eOp dGt (eCB dLen (aCons (eVar 1) aNil)) (eC (.int 1))) (eKInA false (tb__COUNTS a) (eOp dIx (eVar 1) (eC (.int 1))))) (xName 2))
  (sSeq (sAsg (eLc (iL (eSl (eVar 1) (oSome (eIf (tV (eVar 2)) (eC (.int 2)) (eC (.int 1)))) oNone)) (xName 4) tYes' (eCa (F_number_in a) xF (aCons (eVar 4) (aCons (eC (.int 281474976710656)) aNil))) [4]) (xName 3))
  (sSeq (sIf (tV (eOp (dIn false) (eC .non) (eVar 3)))
  (sRet (eC .non))
  sNext)
  (sSeq (sIf (tV (eVar 2))
  (sRet (eCa (F__act_of_player a) Ed (aCons (eOp dIx (eVar 1) (eC (.int 0))) (aCons (eOp dIx (eVar 1) (eC (.int 1))) (aCons (eVar 3) aNil)))))
  sNext)
  (sSeq (sIf (tV (eOp dEq (eOp dIx (eVar 1) (eC (.int 0))) (eC (.str "block"))))
  (sRet (eTup (aCons (eC (.str "block")) (aCons (eCB dTuple (aCons (eVar 3) aNil)) aNil))))
  sNext)
  (sSeq (sIf (tAnd' (tV (eOp dEq (eOp dIx (eVar 1) (eC (.int 0))) (eC (.str "back")))) (tV (eOp dEq (eCB dLen (aCons (eVar 3) aNil)) (eC (.int 1)))))
  (sRet (eTup (aCons (eC (.str "back")) (aCons (eOp dIx (eVar 3) (eC (.int 0))) aNil))))
  sNext)
  (sRet (eC .non)))))))))
noncomputable def F__read_line (a : Ad) : WF := shut fun ds S Q Ed => ds.length = 1 ∧ B__read_line a Ed { nx := fun _ S' => Q .non S', rt := Q } (dstart N__read_line ds) S
theorem ok__read_line {f : Addr} {fd : FuncData} (Fm : Fun K "_read_line" "_read_line" s__read_line f fd) (T : TX K mg w a) (G_number_in : Ow.Ca P w K mg base 3 "number_in" (spD K (tabs a) (F_number_in a))) (G__act_of_player : Ow.Ca P w K mg base 4 "_act_of_player" (spD K (tabs a) (F__act_of_player a))) : FnOk P w K mg base (L2.CX P w) 5 f fd ["line"] (spD K (tabs a) (F__read_line a)) := by
  refine def_ok (k := 4) Fm sc__read_line (fun ds S Q E h => (shut_of h).1) fun scr ns Ne Ed E cdv A outer s H hr hx => ?_
  have hpx : Passes (L2.CX P w) (cxOf (L2.CX P w) P w K mg base N__read_line "_read_line" (defScope s__read_line) f cdv A outer s H E) E := passes_call (takes_of rfl rfl rfl rfl) (fun _ _ _ _ z => z)
  exact ⟨_, B__read_line a Ed, (pss_cons (ps_asg (pe_split (pv 0) pe_str) (pg_name (i := 1) sc__read_line.nd rfl (by first | exact Or.inl rfl | exact Or.inr rfl))) (pss_cons (ps_asg (pe_and (pe_cmpR opV_gt (pe_callB (show CallR _ _ (Ow.rLenU K) from Ow.lenU) (by rfl) T.b_len PySem.boot_len (pa_cons (pv 1) pa_nil)) pe_int (nomark _)) (pe_one (pe_cmpR (op_kin T.kd__COUNTS) (pe_ix (show IxR _ (rIx K) from Ow.ixU) (pv 1) pe_int (fun _ _ => rfl)) (Ow.pe_gi (by rfl) (show ∃ u, mg "_COUNTS" = some u ∧ RelV (.ref a.c__COUNTS) u from T.g__COUNTS)) (by rfl)))) (pg_name (i := 2) sc__read_line.nd rfl (by first | exact Or.inl rfl | exact Or.inr rfl))) (pss_cons (ps_setLc (i := 3) (own := [("word", 4)]) (by rfl) sc__read_line.nd rfl rfl (sw_true rfl rfl rfl (by decide +kernel)) (pi_list (pe_slice (show SlR _ (Ow.rSlU K) from Ow.slU) (pv 1) (po_some (pe_ifExp (pt_val (pv 2)) pe_int pe_int)) po_none)) (blkOk_by (own := [("word", 4)]) (N := N__read_line) (sc := defScope s__read_line) (by decide +kernel)) (fun _ _ _ _ _ => (pg_name (i := 4) sc__read_line.nd rfl (by first | exact Or.inl rfl | exact Or.inr rfl))) (fun _ _ _ _ _ => pts_nil) (fun _ _ _ _ _ => (Ow.pe_ca G_number_in hr (by first | decide | omega) (by rfl) (pa_cons (pv 4) (pa_cons (Ow.pe_gi (by rfl) T.g_MAX_PART) pa_nil))))) (pss_cons (ps_if (pt_cmpR (show OpR _ _ (rInV K) from opV_in (Ow.hu65 hr)) pe_non (pv 3) (by rfl)) (pss_one (ps_ret pe_non)) pss_nil) (pss_cons (ps_if (pt_val (pv 2)) (pss_one (ps_ret (Ow.pe_caX G__act_of_player hr (by first | decide | omega) (by rfl) hpx (pa_cons (pe_ix (show IxR _ (rIx K) from Ow.ixU) (pv 1) pe_int (fun _ _ => rfl)) (pa_cons (pe_ix (show IxR _ (rIx K) from Ow.ixU) (pv 1) pe_int (fun _ _ => rfl)) (pa_cons (pv 3) pa_nil)))))) pss_nil) (pss_cons (ps_if (pt_cmpR (show OpR _ _ (Ow.rEqU K) from Ow.opU_eq hr.units) (pe_ix (show IxR _ (rIx K) from Ow.ixU) (pv 1) pe_int (fun _ _ => rfl)) pe_str (nomark _)) (pss_one (ps_ret (pe_tup (pa_cons pe_str (pa_cons (pe_callTy (show CallR _ _ (Ow.rTupleU K) from Ow.tupleU) (by rfl) T.b_tuple (by decide +kernel) (pa_cons (pv 3) pa_nil)) pa_nil))))) pss_nil) (pss_cons (ps_if (PW.pt (pw_and (pt_cmpR (show OpR _ _ (Ow.rEqU K) from Ow.opU_eq hr.units) (pe_ix (show IxR _ (rIx K) from Ow.ixU) (pv 1) pe_int (fun _ _ => rfl)) pe_str (nomark _)) (pw_and1 (pt_cmpR (show OpR _ _ (Ow.rEqU K) from Ow.opU_eq hr.units) (pe_callB (show CallR _ _ (Ow.rLenU K) from Ow.lenU) (by rfl) T.b_len PySem.boot_len (pa_cons (pv 3) pa_nil)) pe_int (nomark _))))) (pss_one (ps_ret (pe_tup (pa_cons pe_str (pa_cons (pe_ix (show IxR _ (rIx K) from Ow.ixU) (pv 3) pe_int (fun _ _ => rfl)) pa_nil))))) pss_nil) (pss_one (ps_ret pe_non))))))))), (ss_seq (ss_asg (se_splitV se_var (se_str (by decide +kernel))) sg_name) (ss_seq (ss_asg (se_and (se_op s2_gt (se_cb sl_len (sa_cons se_var sa_nil)) se_int) (se_kinA T.ka__COUNTS (se_op s2_ix se_var se_int))) sg_name) (ss_seq (ss_asg (se_lc (si_list (se_sl se_var (so_some (se_if (st_tB se_var) se_int se_int)) so_none)) sg_name st_yes (se_ca xok_F (sa_cons se_var (sa_cons se_int sa_nil))) (by decide)) sg_name) (ss_seq (ss_if (st_test (se_op s2_in se_non se_var)) (ss_ret se_non) ss_next) (ss_seq (ss_if (st_tB se_var) (ss_ret (se_ca hx (sa_cons (se_op s2_ix se_var se_int) (sa_cons (se_op s2_ix se_var se_int) (sa_cons se_var sa_nil))))) ss_next) (ss_seq (ss_if (st_test (se_op s2_eq (se_op s2_ix se_var se_int) (se_str (by decide +kernel)))) (ss_ret (se_tup (sa_cons (se_str (by decide +kernel)) (sa_cons (se_cb sl_tuple (sa_cons se_var sa_nil)) sa_nil)))) ss_next) (ss_seq (ss_if (st_and (st_test (se_op s2_eq (se_op s2_ix se_var se_int) (se_str (by decide +kernel)))) (st_test (se_op s2_eq (se_cb sl_len (sa_cons se_var sa_nil)) se_int))) (ss_ret (se_tup (sa_cons (se_str (by decide +kernel)) (sa_cons (se_op s2_ix se_var se_int) sa_nil)))) ss_next) (ss_ret se_non)))))))), fun ds S Qd h => (shut_of h).2⟩
noncomputable def B_read_script (a : Ad) (Ed : XD) : DS :=
  (sSeq (sAsg (eLst aNil) (xName 1))
  (sSeq (sIf (tV (eOp dEq (eVar 0) (eC (.str ""))))
  (sRet (eTup aNil))
  sNext)
  (sSeq (sFor (iEn1 (aCons (dM1 dSplitV (eVar 0) (eC (.str "\n"))) aNil)) (xTup 2 (xCons (xName 2) (xCons (xName 3) xNil)))
  (sSeq (sAsg (eCa (F__read_line a) Ed (aCons (eVar 3) aNil)) (xName 4))
  (sSeq (sIf (tV (eOp (dIsN false) (eVar 4) (eC .non)))
  (sRaiseF a.X_BadText (aCons (eVar 2) aNil) Ed)
  sNext)
  (sDrop (eBM dAppend (eVar 1) (aCons (eVar 4) aNil))))))
  (sRet (eCB dTuple (aCons (eVar 1) aNil))))))
noncomputable def F_read_script (a : Ad) : WF := shut fun ds S Q Ed => ds.length = 1 ∧ B_read_script a Ed { nx := fun _ S' => Q .non S', rt := Q } (dstart N_read_script ds) S
theorem ok_read_script {f : Addr} {fd : FuncData} (Fm : Fun K "read_script" "read_script" s_read_script f fd) (T : TX K mg w a) (G__read_line : Ow.Ca P w K mg base 5 "_read_line" (spD K (tabs a) (F__read_line a))) : FnOk P w K mg base (L2.CX P w) 6 f fd ["text"] (spD K (tabs a) (F_read_script a)) := by
  refine def_ok (k := 5) Fm sc_read_script (fun ds S Q E h => (shut_of h).1) fun scr ns Ne Ed E cdv A outer s H hr hx => ?_
  have hpx : Passes (L2.CX P w) (cxOf (L2.CX P w) P w K mg base N_read_script "read_script" (defScope s_read_script) f cdv A outer s H E) E := passes_call (takes_of rfl rfl rfl rfl) (fun _ _ _ _ z => z)
  exact ⟨_, B_read_script a Ed, (pss_cons (ps_asg (pe_lst pa_nil) (pg_name (i := 1) sc_read_script.nd rfl (by first | exact Or.inl rfl | exact Or.inr rfl))) (pss_cons (ps_if (pt_cmpR (show OpR _ _ (Ow.rEqU K) from Ow.opU_eq hr.units) (pv 0) pe_str (nomark _)) (pss_one (ps_ret (pe_tup pa_nil))) pss_nil) (pss_cons (ps_for (passes_of rfl) rfl (Ow.pi_enum1 (by rfl) T.b_enumerate (pa_cons (pe_split (pv 0) pe_str) pa_nil) pe_int) (pg_tup (by rfl) (pgs_cons (pg_name (i := 2) sc_read_script.nd rfl (by first | exact Or.inl rfl | exact Or.inr rfl)) (pgs_cons (pg_name (i := 3) sc_read_script.nd rfl (by first | exact Or.inl rfl | exact Or.inr rfl)) pgs_nil))) (pss_cons (ps_asg (Ow.pe_caX G__read_line hr (by first | decide | omega) (by rfl) hpx (pa_cons (pv 3) pa_nil)) (pg_name (i := 4) sc_read_script.nd rfl (by first | exact Or.inl rfl | exact Or.inr rfl))) (pss_cons (ps_if (pt_cmpR op_isN (pv 4) pe_non (nomark _)) (pss_one (ps_raise rfl (takes_of rfl rfl rfl rfl) (Ow.pmk_er T.er_BadText hr (pa_cons (pv 2) pa_nil)))) pss_nil) (pss_one (ps_expr (pe_bm PySem.F.plainAttrs_list PySem.F.slot_list_append PySem.F.type_list_append mt_append (pv 1) (pa_cons (pv 4) pa_nil))))))) (pss_one (ps_ret (pe_callTy (show CallR _ _ (Ow.rTupleU K) from Ow.tupleU) (by rfl) T.b_tuple (by decide +kernel) (pa_cons (pv 1) pa_nil))))))), (ss_seq (ss_asg (se_lst sa_nil) sg_name) (ss_seq (ss_if (st_test (se_op s2_eq se_var (se_str (by decide +kernel)))) (ss_ret (se_tup sa_nil)) ss_next) (ss_seq (ss_for (si_enum1 (sa_cons (se_splitV se_var (se_str (by decide +kernel))) sa_nil)) (sg_tup (sgs_cons sg_name (sgs_cons sg_name sgs_nil))) (ss_seq (ss_asg (se_ca hx (sa_cons se_var sa_nil)) sg_name) (ss_seq (ss_if (st_test (se_op s2_isN se_var se_non)) (ss_raiseF hx (sa_cons se_var sa_nil)) ss_next) (ss_drop (se_bmL sm_append se_var (sa_cons se_var sa_nil)))))) (ss_ret (se_cb sl_tuple (sa_cons se_var sa_nil)))))), fun ds S Qd h => (shut_of h).2⟩
noncomputable def B__words_of_act (a : Ad) (Ed : XD) : DS :=
  (sSeq (sIf (tV (eOp dEq (eOp dIx (eVar 0) (eC (.int 0))) (eC (.str "block"))))
  (sRet (eLst (aCons (eC (.str "block")) (aStar (eOp dIx (eVar 0) (eC (.int 1))) aNil))))
  sNext)
  (sSeq (sIf (tV (eOp dEq (eOp dIx (eVar 0) (eC (.int 0))) (eC (.str "back"))))
  (sRet (eLst (aCons (eC (.str "back")) (aCons (eOp dIx (eVar 0) (eC (.int 1))) aNil))))
  sNext)
  (sSeq (sIf (tV (eOp dEq (eOp dIx (eVar 0) (eC (.int 0))) (eC (.str "send"))))
  (sSeq (sAsg (eVar 0) (xTup 3 (xCons (xName 1) (xCons (xName 2) (xCons (xName 3) xNil)))))
  (sSeq (sAsg (eLc (iKI (tb__SENT a)) (xTup 2 (xCons (xName 5) (xCons (xName 6) xNil))) (tV (eOp dEq (eVar 6) (eOp dIx (eVar 3) (eC (.int 0))))) (eVar 5) [5, 6]) (xName 4))
  (sRet (eLst (aCons (eVar 2) (aCons (eOp dIx (eVar 4) (eC (.int 0))) (aStar (eSl (eVar 3) (oSome (eC (.int 1))) oNone) aNil)))))))
  sNext)
  (sSeq (sAsg (eLc (iKI (tb__DONE a)) (xTup 2 (xCons (xName 5) (xCons (xName 6) xNil))) (tV (eOp dEq (eVar 6) (eOp dIx (eVar 0) (eC (.int 0))))) (eVar 5) [5, 6]) (xName 4))
  (sRet (eLst (aCons (eOp dIx (eVar 0) (eC (.int 1))) (aCons (eOp dIx (eVar 4) (eC (.int 0))) (aStar (eSl (eVar 0) (oSome (eC (.int 2))) oNone) aNil)))))))))
noncomputable def F__words_of_act (a : Ad) : WF := shut fun ds S Q Ed => ds.length = 1 ∧ B__words_of_act a Ed { nx := fun _ S' => Q .non S', rt := Q } (dstart N__words_of_act ds) S
theorem ok__words_of_act {f : Addr} {fd : FuncData} (Fm : Fun K "_words_of_act" "_words_of_act" s__words_of_act f fd) (T : TX K mg w a)  : FnOk P w K mg base (L2.CX P w) 1 f fd ["act"] (spD K (tabs a) (F__words_of_act a)) := by
  refine def_ok (k := 0) Fm sc__words_of_act (fun ds S Q E h => (shut_of h).1) fun scr ns Ne Ed E cdv A outer s H hr hx => ?_
  exact ⟨_, B__words_of_act a Ed, (pss_cons (ps_if (pt_cmpR (show OpR _ _ (Ow.rEqU K) from Ow.opU_eq hr.units) (pe_ix (show IxR _ (rIx K) from Ow.ixU) (pv 0) pe_int (fun _ _ => rfl)) pe_str (nomark _)) (pss_one (ps_ret (pe_lst (pa_cons pe_str (StX.pa_star (pe_ix (show IxR _ (rIx K) from Ow.ixU) (pv 0) pe_int (fun _ _ => rfl)) pa_nil))))) pss_nil) (pss_cons (ps_if (pt_cmpR (show OpR _ _ (Ow.rEqU K) from Ow.opU_eq hr.units) (pe_ix (show IxR _ (rIx K) from Ow.ixU) (pv 0) pe_int (fun _ _ => rfl)) pe_str (nomark _)) (pss_one (ps_ret (pe_lst (pa_cons pe_str (pa_cons (pe_ix (show IxR _ (rIx K) from Ow.ixU) (pv 0) pe_int (fun _ _ => rfl)) pa_nil))))) pss_nil) (pss_cons (ps_if (pt_cmpR (show OpR _ _ (Ow.rEqU K) from Ow.opU_eq hr.units) (pe_ix (show IxR _ (rIx K) from Ow.ixU) (pv 0) pe_int (fun _ _ => rfl)) pe_str (nomark _)) (pss_cons (ps_asg (pv 0) (pg_tup (by rfl) (pgs_cons (pg_name (i := 1) sc__words_of_act.nd rfl (by first | exact Or.inl rfl | exact Or.inr rfl)) (pgs_cons (pg_name (i := 2) sc__words_of_act.nd rfl (by first | exact Or.inl rfl | exact Or.inr rfl)) (pgs_cons (pg_name (i := 3) sc__words_of_act.nd rfl (by first | exact Or.inl rfl | exact Or.inr rfl)) pgs_nil))))) (pss_cons (ps_setLc (i := 4) (own := [("verb", 5), ("word", 6)]) (by rfl) sc__words_of_act.nd rfl rfl (sw_true rfl rfl rfl (by decide +kernel)) (pi_itemsKx T.ki__SENT (Ow.pe_gi (by rfl) (show ∃ u, mg "_SENT" = some u ∧ RelV (.ref a.c__SENT) u from T.g__SENT))) (blkOk_by (own := [("verb", 5), ("word", 6)]) (N := N__words_of_act) (sc := defScope s__words_of_act) (by decide +kernel)) (fun _ _ _ _ _ => (pg_tup (by rfl) (pgs_cons (pg_name (i := 5) sc__words_of_act.nd rfl (by first | exact Or.inl rfl | exact Or.inr rfl)) (pgs_cons (pg_name (i := 6) sc__words_of_act.nd rfl (by first | exact Or.inl rfl | exact Or.inr rfl)) pgs_nil)))) (fun _ _ _ _ _ => (pts_one (pt_cmpR (show OpR _ _ (Ow.rEqU K) from Ow.opU_eq hr.units) (pv 6) (pe_ix (show IxR _ (rIx K) from Ow.ixU) (pv 3) pe_int (fun _ _ => rfl)) (nomark _)))) (fun _ _ _ _ _ => (pv 5))) (pss_one (ps_ret (pe_lst (pa_cons (pv 2) (pa_cons (pe_ix (show IxR _ (rIx K) from Ow.ixU) (pv 4) pe_int (fun _ _ => rfl)) (StX.pa_star (pe_slice (show SlR _ (Ow.rSlU K) from Ow.slU) (pv 3) (po_some pe_int) po_none) pa_nil)))))))) pss_nil) (pss_cons (ps_setLc (i := 4) (own := [("verb", 5), ("word", 6)]) (by rfl) sc__words_of_act.nd rfl rfl (sw_true rfl rfl rfl (by decide +kernel)) (pi_itemsKx T.ki__DONE (Ow.pe_gi (by rfl) (show ∃ u, mg "_DONE" = some u ∧ RelV (.ref a.c__DONE) u from T.g__DONE))) (blkOk_by (own := [("verb", 5), ("word", 6)]) (N := N__words_of_act) (sc := defScope s__words_of_act) (by decide +kernel)) (fun _ _ _ _ _ => (pg_tup (by rfl) (pgs_cons (pg_name (i := 5) sc__words_of_act.nd rfl (by first | exact Or.inl rfl | exact Or.inr rfl)) (pgs_cons (pg_name (i := 6) sc__words_of_act.nd rfl (by first | exact Or.inl rfl | exact Or.inr rfl)) pgs_nil)))) (fun _ _ _ _ _ => (pts_one (pt_cmpR (show OpR _ _ (Ow.rEqU K) from Ow.opU_eq hr.units) (pv 6) (pe_ix (show IxR _ (rIx K) from Ow.ixU) (pv 0) pe_int (fun _ _ => rfl)) (nomark _)))) (fun _ _ _ _ _ => (pv 5))) (pss_one (ps_ret (pe_lst (pa_cons (pe_ix (show IxR _ (rIx K) from Ow.ixU) (pv 0) pe_int (fun _ _ => rfl)) (pa_cons (pe_ix (show IxR _ (rIx K) from Ow.ixU) (pv 4) pe_int (fun _ _ => rfl)) (StX.pa_star (pe_slice (show SlR _ (Ow.rSlU K) from Ow.slU) (pv 0) (po_some pe_int) po_none) pa_nil)))))))))), (ss_seq (ss_if (st_test (se_op s2_eq (se_op s2_ix se_var se_int) (se_str (by decide +kernel)))) (ss_ret (se_lst (sa_cons (se_str (by decide +kernel)) (sa_star (se_op s2_ix se_var se_int) sa_nil)))) ss_next) (ss_seq (ss_if (st_test (se_op s2_eq (se_op s2_ix se_var se_int) (se_str (by decide +kernel)))) (ss_ret (se_lst (sa_cons (se_str (by decide +kernel)) (sa_cons (se_op s2_ix se_var se_int) sa_nil)))) ss_next) (ss_seq (ss_if (st_test (se_op s2_eq (se_op s2_ix se_var se_int) (se_str (by decide +kernel)))) (ss_seq (ss_asg se_var (sg_tup (sgs_cons sg_name (sgs_cons sg_name (sgs_cons sg_name sgs_nil))))) (ss_seq (ss_asg (se_lc (si_itemsK T.ki__SENT) (sg_tup (sgs_cons sg_name (sgs_cons sg_name sgs_nil))) (st_test (se_op s2_eq se_var (se_op s2_ix se_var se_int))) se_var (by decide)) sg_name) (ss_ret (se_lst (sa_cons se_var (sa_cons (se_op s2_ix se_var se_int) (sa_star (se_sl se_var (so_some se_int) so_none) sa_nil))))))) ss_next) (ss_seq (ss_asg (se_lc (si_itemsK T.ki__DONE) (sg_tup (sgs_cons sg_name (sgs_cons sg_name sgs_nil))) (st_test (se_op s2_eq se_var (se_op s2_ix se_var se_int))) se_var (by decide)) sg_name) (ss_ret (se_lst (sa_cons (se_op s2_ix se_var se_int) (sa_cons (se_op s2_ix se_var se_int) (sa_star (se_sl se_var (so_some se_int) so_none) sa_nil))))))))), fun ds S Qd h => (shut_of h).2⟩
noncomputable def B_print_script (a : Ad) (Ed : XD) : DS :=
  (sRet (eJoin (eC (.str "\n")) (eLc (iT (eVar 0)) (xName 1) tYes' (eJoin (eC (.str " ")) (eLc (iL (eCa (F__words_of_act a) xF (aCons (eVar 1) aNil))) (xName 2) tYes' (eCB dStrU (aCons (eVar 2) aNil)) [2])) [1])))
noncomputable def F_print_script (a : Ad) : WF := shut fun ds S Q Ed => ds.length = 1 ∧ B_print_script a Ed { nx := fun _ S' => Q .non S', rt := Q } (dstart N_print_script ds) S
theorem ok_print_script {f : Addr} {fd : FuncData} (Fm : Fun K "print_script" "print_script" s_print_script f fd) (T : TX K mg w a) (G__words_of_act : Ow.Ca P w K mg base 1 "_words_of_act" (spD K (tabs a) (F__words_of_act a))) : FnOk P w K mg base (L2.CX P w) 2 f fd ["acts"] (spD K (tabs a) (F_print_script a)) := by
  refine def_ok (k := 1) Fm sc_print_script (fun ds S Q E h => (shut_of h).1) fun scr ns Ne Ed E cdv A outer s H hr hx => ?_
  exact ⟨_, B_print_script a Ed, (pss_one (ps_ret (pe_join pe_str (pe_lc (own := [("act", 1)]) (by rfl) sc_print_script.nd (pi_tup (pv 0)) (blkOk_by (own := [("act", 1)]) (N := N_print_script) (sc := defScope s_print_script) (by decide +kernel)) (fun _ _ _ _ _ => (pg_name (i := 1) sc_print_script.nd rfl (by first | exact Or.inl rfl | exact Or.inr rfl))) (fun _ _ _ _ _ => pts_nil) (fun _ _ _ _ _ => (pe_join pe_str (pe_lc (own := [("word", 2)]) (by rfl) sc_print_script.nd (pi_list (Ow.pe_ca G__words_of_act hr (by first | decide | omega) (by rfl) (pa_cons (pv 1) pa_nil))) (Ow.blkOk_nofree (own := [("word", 2)]) (N := N_print_script) (by decide +kernel)) (fun _ _ _ _ _ => (pg_name (i := 2) sc_print_script.nd rfl (by first | exact Or.inl rfl | exact Or.inr rfl))) (fun _ _ _ _ _ => pts_nil) (fun _ _ _ _ _ => (pe_callTy (show CallR _ _ rStrU from CallR.or (show CallR _ _ rStrN from call_str_int) SkE.call_str_str) (by rfl) T.b_str (by decide +kernel) (pa_cons (pv 2) pa_nil)))))))))), (ss_ret (se_join (se_str (by decide +kernel)) (se_lc (si_tup se_var) sg_name st_yes (se_join (se_str (by decide +kernel)) (se_lc (si_list (se_ca xok_F (sa_cons se_var sa_nil))) sg_name st_yes (se_cb sl_strU (sa_cons se_var sa_nil)) (by decide))) (by decide)))), fun ds S Qd h => (shut_of h).2⟩
noncomputable def B__law_mix (a : Ad) (Ed : XD) : DS :=
  (sSeq (sAsg (eOp dMod (eCB dInt (aCons (eOp dAdd (eOp dAdd (eOp dMul (eVar 0) (eC (.int 48271))) (eOp dMul (eVar 1) (eC (.int 69621)))) (eC (.int 12345))) aNil)) (eC (.int 2147483647))) (xName 2))
  (sRet (eOp dMod (eCB dInt (aCons (eOp dAdd (eOp dAdd (eOp dMul (eVar 2) (eC (.int 40692))) (eOp dMul (eVar 1) (eC (.int 7919)))) (eC (.int 1))) aNil)) (eC (.int 2147483399)))))
noncomputable def F__law_mix (a : Ad) : WF := shut fun ds S Q Ed => ds.length = 2 ∧ B__law_mix a Ed { nx := fun _ S' => Q .non S', rt := Q } (dstart N__law_mix ds) S
theorem ok__law_mix {f : Addr} {fd : FuncData} (Fm : Fun K "_law_mix" "_law_mix" s__law_mix f fd) (T : TX K mg w a)  : FnOk P w K mg base (L2.CX P w) 1 f fd ["first", "second"] (spD K (tabs a) (F__law_mix a)) := by
  refine def_ok (k := 0) Fm sc__law_mix (fun ds S Q E h => (shut_of h).1) fun scr ns Ne Ed E cdv A outer s H hr hx => ?_
  exact ⟨_, B__law_mix a Ed, (pss_cons (ps_asg (pe_op op_mod (pe_callTy Ow.intU (by rfl) T.b_int (by decide +kernel) (pa_cons (pe_op (show OpR _ _ (Ow.rAddU K) from Ow.opU_add) (pe_op (show OpR _ _ (Ow.rAddU K) from Ow.opU_add) (pe_op (show OpR _ _ (rMulW K) from opW_mul) (pv 0) pe_int) (pe_op (show OpR _ _ (rMulW K) from opW_mul) (pv 1) pe_int)) pe_int) pa_nil)) pe_int) (pg_name (i := 2) sc__law_mix.nd rfl (by first | exact Or.inl rfl | exact Or.inr rfl))) (pss_one (ps_ret (pe_op op_mod (pe_callTy Ow.intU (by rfl) T.b_int (by decide +kernel) (pa_cons (pe_op (show OpR _ _ (Ow.rAddU K) from Ow.opU_add) (pe_op (show OpR _ _ (Ow.rAddU K) from Ow.opU_add) (pe_op (show OpR _ _ (rMulW K) from opW_mul) (pv 2) pe_int) (pe_op (show OpR _ _ (rMulW K) from opW_mul) (pv 1) pe_int)) pe_int) pa_nil)) pe_int)))), (ss_seq (ss_asg (se_op s2_mod (se_cb sl_int (sa_cons (se_op s2_add (se_op s2_add (se_op s2_mul se_var se_int) (se_op s2_mul se_var se_int)) se_int) sa_nil)) se_int) sg_name) (ss_ret (se_op s2_mod (se_cb sl_int (sa_cons (se_op s2_add (se_op s2_add (se_op s2_mul se_var se_int) (se_op s2_mul se_var se_int)) se_int) sa_nil)) se_int))), fun ds S Qd h => (shut_of h).2⟩
noncomputable def B__law_numbers (a : Ad) (Ed : XD) : DS :=
  (sSeq (sAsg (eLst aNil) (xName 2))
  (sSeq (sAsg (eOp dAdd (eCB dLenS (aCons (eVar 0) aNil)) (eC (.int 1))) (xName 3))
  (sSeq (sFor (iL (eSlX (eVar 0) oNone (oSome (eC (.int 63))))) (xName 4)
  (sSeq (sAsg (eCB dAbs (aCons (eVar 4) aNil)) (xName 5))
  (sSeq (sAsg (eCa (F__law_mix a) Ed (aCons (eVar 3) (aCons (eOp dMod (eCB dInt (aCons (eVar 5) aNil)) (eC (.int 2147483647))) aNil))) (xName 3))
  (sIf (tV (eOp dGe (eVar 5) (eOp dPow (eC (.int 10)) (eC (.int 18)))))
  (sFor (iR1 (aCons (eC (.int 60)) aNil)) (xName 6)
  (sIf (tV (eOp dGt (eVar 5) (eC (.int 0))))
  (sSeq (sDrop (eBM dAppend (eVar 2) (aCons (eOp dMod (eCB dInt (aCons (eVar 5) aNil)) (eC (.int 1000))) aNil)))
  (sAsg (eOp dDiv (eVar 5) (eC (.int 1000))) (xName 5)))
  sNext))
  (sFor (iR1 (aCons (eC (.int 6)) aNil)) (xName 6)
  (sDrop (eBM dAppend (eVar 2) (aCons (eOp dMod (eCB dInt (aCons (eCa (F__law_mix a) Ed (aCons (eVar 5) (aCons (eOp dAdd (eVar 6) (eC (.int 1))) aNil))) aNil)) (eC (.int 1000))) aNil))))))))
  (sSeq (sFor (iR1 (aCons (eVar 1) aNil)) (xName 6)
  (sIf (tV (eOp dLt (eCB dLen (aCons (eVar 2) aNil)) (eVar 1)))
  (sSeq (sAsg (eCa (F__law_mix a) Ed (aCons (eVar 3) (aCons (eOp dAdd (eVar 6) (eC (.int 3))) aNil))) (xName 3))
  (sDrop (eBM dAppend (eVar 2) (aCons (eOp dMod (eCB dInt (aCons (eVar 3) aNil)) (eC (.int 1000))) aNil))))
  sNext))
  (sRet (eSl (eVar 2) oNone (oSome (eVar 1))))))))
noncomputable def F__law_numbers (a : Ad) : WF := shut fun ds S Q Ed => ds.length = 2 ∧ B__law_numbers a Ed { nx := fun _ S' => Q .non S', rt := Q } (dstart N__law_numbers ds) S
theorem ok__law_numbers {f : Addr} {fd : FuncData} (Fm : Fun K "_law_numbers" "_law_numbers" s__law_numbers f fd) (T : TX K mg w a) (G__law_mix : Ow.Ca P w K mg base 1 "_law_mix" (spD K (tabs a) (F__law_mix a))) : FnOk P w K mg base (L2.CX P w) 2 f fd ["script", "count"] (spD K (tabs a) (F__law_numbers a)) := by
  refine def_ok (k := 1) Fm sc__law_numbers (fun ds S Q E h => (shut_of h).1) fun scr ns Ne Ed E cdv A outer s H hr hx => ?_
  have hpx : Passes (L2.CX P w) (cxOf (L2.CX P w) P w K mg base N__law_numbers "_law_numbers" (defScope s__law_numbers) f cdv A outer s H E) E := passes_call (takes_of rfl rfl rfl rfl) (fun _ _ _ _ z => z)
  exact ⟨_, B__law_numbers a Ed, (pss_cons (ps_asg (pe_lst pa_nil) (pg_name (i := 2) sc__law_numbers.nd rfl (by first | exact Or.inl rfl | exact Or.inr rfl))) (pss_cons (ps_asg (pe_op (show OpR _ _ (Ow.rAddU K) from Ow.opU_add) (pe_callB (show CallR _ _ (Ow.rLenU K) from Ow.lenU) (by rfl) T.b_len PySem.boot_len (pa_cons (pv 0) pa_nil)) pe_int) (pg_name (i := 3) sc__law_numbers.nd rfl (by first | exact Or.inl rfl | exact Or.inr rfl))) (pss_cons (ps_for (passes_of rfl) rfl (pi_list (pe_slice (show SlR _ (Ow.rSlU K) from Ow.slU) (pv 0) po_none (po_some pe_int))) (pg_name (i := 4) sc__law_numbers.nd rfl (by first | exact Or.inl rfl | exact Or.inr rfl)) (pss_cons (ps_asg (pe_callB (show CallR _ _ rAbs from call_abs) (by rfl) T.b_abs (by decide +kernel) (pa_cons (pv 4) pa_nil)) (pg_name (i := 5) sc__law_numbers.nd rfl (by first | exact Or.inl rfl | exact Or.inr rfl))) (pss_cons (ps_asg (Ow.pe_caX G__law_mix hr (by first | decide | omega) (by rfl) hpx (pa_cons (pv 3) (pa_cons (pe_op op_mod (pe_callTy Ow.intU (by rfl) T.b_int (by decide +kernel) (pa_cons (pv 5) pa_nil)) pe_int) pa_nil))) (pg_name (i := 3) sc__law_numbers.nd rfl (by first | exact Or.inl rfl | exact Or.inr rfl))) (pss_one (ps_if (pt_cmpR opV_ge (pv 5) (pe_op op_pow pe_int pe_int) (nomark _)) (pss_one (ps_for (passes_of rfl) rfl (pi_range1 (by rfl) T.b_range (pa_cons pe_int pa_nil)) (pg_name (i := 6) sc__law_numbers.nd rfl (by first | exact Or.inl rfl | exact Or.inr rfl)) (pss_one (ps_if (pt_cmpR opV_gt (pv 5) pe_int (nomark _)) (pss_cons (ps_expr (pe_bm PySem.F.plainAttrs_list PySem.F.slot_list_append PySem.F.type_list_append mt_append (pv 2) (pa_cons (pe_op op_mod (pe_callTy Ow.intU (by rfl) T.b_int (by decide +kernel) (pa_cons (pv 5) pa_nil)) pe_int) pa_nil))) (pss_one (ps_asg (pe_op op_fdivW (pv 5) pe_int) (pg_name (i := 5) sc__law_numbers.nd rfl (by first | exact Or.inl rfl | exact Or.inr rfl))))) pss_nil)))) (pss_one (ps_for (passes_of rfl) rfl (pi_range1 (by rfl) T.b_range (pa_cons pe_int pa_nil)) (pg_name (i := 6) sc__law_numbers.nd rfl (by first | exact Or.inl rfl | exact Or.inr rfl)) (pss_one (ps_expr (pe_bm PySem.F.plainAttrs_list PySem.F.slot_list_append PySem.F.type_list_append mt_append (pv 2) (pa_cons (pe_op op_mod (pe_callTy Ow.intU (by rfl) T.b_int (by decide +kernel) (pa_cons (Ow.pe_caX G__law_mix hr (by first | decide | omega) (by rfl) hpx (pa_cons (pv 5) (pa_cons (pe_op (show OpR _ _ (Ow.rAddU K) from Ow.opU_add) (pv 6) pe_int) pa_nil))) pa_nil)) pe_int) pa_nil))))))))))) (pss_cons (ps_for (passes_of rfl) rfl (pi_range1 (by rfl) T.b_range (pa_cons (pv 1) pa_nil)) (pg_name (i := 6) sc__law_numbers.nd rfl (by first | exact Or.inl rfl | exact Or.inr rfl)) (pss_one (ps_if (pt_cmpR opV_lt (pe_callB (show CallR _ _ (Ow.rLenU K) from Ow.lenU) (by rfl) T.b_len PySem.boot_len (pa_cons (pv 2) pa_nil)) (pv 1) (nomark _)) (pss_cons (ps_asg (Ow.pe_caX G__law_mix hr (by first | decide | omega) (by rfl) hpx (pa_cons (pv 3) (pa_cons (pe_op (show OpR _ _ (Ow.rAddU K) from Ow.opU_add) (pv 6) pe_int) pa_nil))) (pg_name (i := 3) sc__law_numbers.nd rfl (by first | exact Or.inl rfl | exact Or.inr rfl))) (pss_one (ps_expr (pe_bm PySem.F.plainAttrs_list PySem.F.slot_list_append PySem.F.type_list_append mt_append (pv 2) (pa_cons (pe_op op_mod (pe_callTy Ow.intU (by rfl) T.b_int (by decide +kernel) (pa_cons (pv 3) pa_nil)) pe_int) pa_nil))))) pss_nil))) (pss_one (ps_ret (pe_slice (show SlR _ (Ow.rSlU K) from Ow.slU) (pv 2) po_none (po_some (pv 1))))))))), (ss_seq (ss_asg (se_lst sa_nil) sg_name) (ss_seq (ss_asg (se_op s2_add (se_cb sl_lenS (sa_cons se_var sa_nil)) se_int) sg_name) (ss_seq (ss_for (si_list (se_slX se_var so_none (so_some se_int))) sg_name (ss_seq (ss_asg (se_cb sl_abs (sa_cons se_var sa_nil)) sg_name) (ss_seq (ss_asg (se_ca hx (sa_cons se_var (sa_cons (se_op s2_mod (se_cb sl_int (sa_cons se_var sa_nil)) se_int) sa_nil))) sg_name) (ss_if (st_test (se_op s2_ge se_var (se_op s2_pow se_int se_int))) (ss_for (si_r1 (sa_cons se_int sa_nil)) sg_name (ss_if (st_test (se_op s2_gt se_var se_int)) (ss_seq (ss_drop (se_bmL sm_append se_var (sa_cons (se_op s2_mod (se_cb sl_int (sa_cons se_var sa_nil)) se_int) sa_nil))) (ss_asg (se_op s2_div se_var se_int) sg_name)) ss_next)) (ss_for (si_r1 (sa_cons se_int sa_nil)) sg_name (ss_drop (se_bmL sm_append se_var (sa_cons (se_op s2_mod (se_cb sl_int (sa_cons (se_ca hx (sa_cons se_var (sa_cons (se_op s2_add se_var se_int) sa_nil))) sa_nil)) se_int) sa_nil)))))))) (ss_seq (ss_for (si_r1 (sa_cons se_var sa_nil)) sg_name (ss_if (st_test (se_op s2_lt (se_cb sl_len (sa_cons se_var sa_nil)) se_var)) (ss_seq (ss_asg (se_ca hx (sa_cons se_var (sa_cons (se_op s2_add se_var se_int) sa_nil))) sg_name) (ss_drop (se_bmL sm_append se_var (sa_cons (se_op s2_mod (se_cb sl_int (sa_cons se_var sa_nil)) se_int) sa_nil)))) ss_next)) (ss_ret (se_sl se_var so_none (so_some se_var))))))), fun ds S Qd h => (shut_of h).2⟩
noncomputable def B__law_draws (a : Ad) (Ed : XD) : DS :=
  (sRet (eDisp [(Sum.inr "at", (eC (.int 0))), (Sum.inr "row", (eCa (F__law_numbers a) Ed (aCons (eVar 0) (aCons (eVar 1) aNil))))]))
noncomputable def F__law_draws (a : Ad) : WF := shut fun ds S Q Ed => ds.length = 2 ∧ B__law_draws a Ed { nx := fun _ S' => Q .non S', rt := Q } (dstart N__law_draws ds) S
theorem ok__law_draws {f : Addr} {fd : FuncData} (Fm : Fun K "_law_draws" "_law_draws" s__law_draws f fd) (T : TX K mg w a) (G__law_numbers : Ow.Ca P w K mg base 2 "_law_numbers" (spD K (tabs a) (F__law_numbers a))) : FnOk P w K mg base (L2.CX P w) 3 f fd ["script", "count"] (spD K (tabs a) (F__law_draws a)) := by
  refine def_ok (k := 2) Fm sc__law_draws (fun ds S Q E h => (shut_of h).1) fun scr ns Ne Ed E cdv A outer s H hr hx => ?_
  have hpx : Passes (L2.CX P w) (cxOf (L2.CX P w) P w K mg base N__law_draws "_law_draws" (defScope s__law_draws) f cdv A outer s H E) E := passes_call (takes_of rfl rfl rfl rfl) (fun _ _ _ _ z => z)
  exact ⟨_, B__law_draws a Ed, (pss_one (ps_ret (pe_disp (pps_cons pe_str pe_int (pps_cons pe_str (Ow.pe_caX G__law_numbers hr (by first | decide | omega) (by rfl) hpx (pa_cons (pv 0) (pa_cons (pv 1) pa_nil))) pps_nil)) rfl rfl (List.cons_ne_nil _ _) (Nat.le_of_ble_eq_true rfl)))), (ss_ret (se_disp (.cons (k := Sum.inr "at") se_int (.cons (k := Sum.inr "row") (se_ca hx (sa_cons se_var (sa_cons se_var sa_nil))) .nil)) (show List.Nodup ([Sum.inr "at", Sum.inr "row"] : List Key) from by decide +kernel) (Nat.le_of_ble_eq_true rfl))), fun ds S Qd h => (shut_of h).2⟩
noncomputable def B__law_take (a : Ad) (Ed : XD) : DS :=
  (sSeq (sAsg (eDGet (eVar 0) (eC (.str "row"))) (xName 2))
  (sSeq (sAsg (eDGet (eVar 0) (eC (.str "at"))) (xName 3))
  (sSeq (sDPutD (eVar 0) (eC (.str "at")) (eOp dAdd (eVar 3) (eC (.int 1))))
  (sSeq (sAsg (eOp dAdd (eOp dIx (eVar 2) (eOp dMod (eCB dInt (aCons (eVar 3) aNil)) (eCB dLen (aCons (eVar 2) aNil)))) (eOp dDiv (eVar 3) (eCB dLen (aCons (eVar 2) aNil)))) (xName 4))
  (sRet (eOp dMod (eCB dInt (aCons (eVar 4) aNil)) (eVar 1)))))))
noncomputable def F__law_take (a : Ad) : WF := shut fun ds S Q Ed => ds.length = 2 ∧ B__law_take a Ed { nx := fun _ S' => Q .non S', rt := Q } (dstart N__law_take ds) S
theorem ok__law_take {f : Addr} {fd : FuncData} (Fm : Fun K "_law_take" "_law_take" s__law_take f fd) (T : TX K mg w a)  : FnOk P w K mg base (L2.CX P w) 1 f fd ["draws", "bound"] (spD K (tabs a) (F__law_take a)) := by
  refine def_ok (k := 0) Fm sc__law_take (fun ds S Q E h => (shut_of h).1) fun scr ns Ne Ed E cdv A outer s H hr hx => ?_
  exact ⟨_, B__law_take a Ed, (pss_cons (ps_asg (pe_dget (hu_of hr) (pv 0) pe_str (fun _ _ => rfl)) (pg_name (i := 2) sc__law_take.nd rfl (by first | exact Or.inl rfl | exact Or.inr rfl))) (pss_cons (ps_asg (pe_dget (hu_of hr) (pv 0) pe_str (fun _ _ => rfl)) (pg_name (i := 3) sc__law_take.nd rfl (by first | exact Or.inl rfl | exact Or.inr rfl))) (pss_cons (ps_dput (hu_of hr) (pv 0) pe_str (pe_op (show OpR _ _ (Ow.rAddU K) from Ow.opU_add) (pv 3) pe_int) rfl) (pss_cons (ps_asg (pe_op (show OpR _ _ (Ow.rAddU K) from Ow.opU_add) (pe_ix (show IxR _ (rIx K) from Ow.ixU) (pv 2) (pe_op op_mod (pe_callTy Ow.intU (by rfl) T.b_int (by decide +kernel) (pa_cons (pv 3) pa_nil)) (pe_callB (show CallR _ _ (Ow.rLenU K) from Ow.lenU) (by rfl) T.b_len PySem.boot_len (pa_cons (pv 2) pa_nil))) (fun _ _ => rfl)) (pe_op op_fdivW (pv 3) (pe_callB (show CallR _ _ (Ow.rLenU K) from Ow.lenU) (by rfl) T.b_len PySem.boot_len (pa_cons (pv 2) pa_nil)))) (pg_name (i := 4) sc__law_take.nd rfl (by first | exact Or.inl rfl | exact Or.inr rfl))) (pss_one (ps_ret (pe_op op_mod (pe_callTy Ow.intU (by rfl) T.b_int (by decide +kernel) (pa_cons (pv 4) pa_nil)) (pv 1)))))))), (ss_seq (ss_asg (se_dget se_var (se_str (by decide +kernel))) sg_name) (ss_seq (ss_asg (se_dget se_var (se_str (by decide +kernel))) sg_name) (ss_seq (ss_dput se_var (se_str (by decide +kernel)) (se_op s2_add se_var se_int)) (ss_seq (ss_asg (se_op s2_add (se_op s2_ix se_var (se_op s2_mod (se_cb sl_int (sa_cons se_var sa_nil)) (se_cb sl_len (sa_cons se_var sa_nil)))) (se_op s2_div se_var (se_cb sl_len (sa_cons se_var sa_nil)))) sg_name) (ss_ret (se_op s2_mod (se_cb sl_int (sa_cons se_var sa_nil)) se_var)))))), fun ds S Qd h => (shut_of h).2⟩
noncomputable def B__law_name (a : Ad) (Ed : XD) : DS :=
  (sSeq (sAsg (eC (.str "abcdefghijklmnopqrstuvwxyz")) (xName 1))
  (sSeq (sIf (tV (eOp dEq (eCa (F__law_take a) Ed (aCons (eVar 0) (aCons (eC (.int 9)) aNil))) (eC (.int 0))))
  (sRet (eOp dIx (eLst (aCons (eC (.str "block")) (aCons (eC (.str "back")) (aCons (eC (.str "b")) (aCons (eC (.str "puts")) (aCons (eC (.str "a1b2c3d4e5f6")) aNil)))))) (eCa (F__law_take a) Ed (aCons (eVar 0) (aCons (eC (.int 5)) aNil)))))
  sNext)
  (sSeq (sAsg (eOp dIx (eLst (aCons (eC (.int 0)) (aCons (eC (.int 1)) (aCons (eC (.int 2)) (aCons (eC (.int 5)) (aCons (eC (.int 11)) aNil)))))) (eCa (F__law_take a) Ed (aCons (eVar 0) (aCons (eC (.int 5)) aNil)))) (xName 2))
  (sSeq (sAsg (eJoin (eC (.str "")) (eLc (iR1 (aCons (eVar 2) aNil)) (xName 4) tYes' (eOp dIx (eOp dAdd (eVar 1) (eC (.str "0123456789"))) (eCa (F__law_take a) xF (aCons (eVar 0) (aCons (eC (.int 36)) aNil)))) [4])) (xName 3))
  (sRet (eOp dAdd (eOp dIx (eVar 1) (eCa (F__law_take a) Ed (aCons (eVar 0) (aCons (eC (.int 26)) aNil)))) (eVar 3)))))))
noncomputable def F__law_name (a : Ad) : WF := shut fun ds S Q Ed => ds.length = 1 ∧ B__law_name a Ed { nx := fun _ S' => Q .non S', rt := Q } (dstart N__law_name ds) S
theorem ok__law_name {f : Addr} {fd : FuncData} (Fm : Fun K "_law_name" "_law_name" s__law_name f fd) (T : TX K mg w a) (G__law_take : Ow.Ca P w K mg base 1 "_law_take" (spD K (tabs a) (F__law_take a))) : FnOk P w K mg base (L2.CX P w) 2 f fd ["draws"] (spD K (tabs a) (F__law_name a)) := by
  refine def_ok (k := 1) Fm sc__law_name (fun ds S Q E h => (shut_of h).1) fun scr ns Ne Ed E cdv A outer s H hr hx => ?_
  have hpx : Passes (L2.CX P w) (cxOf (L2.CX P w) P w K mg base N__law_name "_law_name" (defScope s__law_name) f cdv A outer s H E) E := passes_call (takes_of rfl rfl rfl rfl) (fun _ _ _ _ z => z)
  exact ⟨_, B__law_name a Ed, (pss_cons (ps_asg pe_str (pg_name (i := 1) sc__law_name.nd rfl (by first | exact Or.inl rfl | exact Or.inr rfl))) (pss_cons (ps_if (pt_cmpR (show OpR _ _ (Ow.rEqU K) from Ow.opU_eq hr.units) (Ow.pe_caX G__law_take hr (by first | decide | omega) (by rfl) hpx (pa_cons (pv 0) (pa_cons pe_int pa_nil))) pe_int (nomark _)) (pss_one (ps_ret (pe_ix (show IxR _ (rIx K) from Ow.ixU) (pe_lst (pa_cons pe_str (pa_cons pe_str (pa_cons pe_str (pa_cons pe_str (pa_cons pe_str pa_nil)))))) (Ow.pe_caX G__law_take hr (by first | decide | omega) (by rfl) hpx (pa_cons (pv 0) (pa_cons pe_int pa_nil))) (fun _ _ => rfl)))) pss_nil) (pss_cons (ps_asg (pe_ix (show IxR _ (rIx K) from Ow.ixU) (pe_lst (pa_cons pe_int (pa_cons pe_int (pa_cons pe_int (pa_cons pe_int (pa_cons pe_int pa_nil)))))) (Ow.pe_caX G__law_take hr (by first | decide | omega) (by rfl) hpx (pa_cons (pv 0) (pa_cons pe_int pa_nil))) (fun _ _ => rfl)) (pg_name (i := 2) sc__law_name.nd rfl (by first | exact Or.inl rfl | exact Or.inr rfl))) (pss_cons (ps_asg (pe_join pe_str (pe_lc (own := [("k", 4)]) (by rfl) sc__law_name.nd (pi_range1 (by rfl) T.b_range (pa_cons (pv 2) pa_nil)) (blkOk_by (own := [("k", 4)]) (N := N__law_name) (sc := defScope s__law_name) (by decide +kernel)) (fun _ _ _ _ _ => (pg_name (i := 4) sc__law_name.nd rfl (by first | exact Or.inl rfl | exact Or.inr rfl))) (fun _ _ _ _ _ => pts_nil) (fun _ _ _ _ _ => (pe_ix (show IxR _ (rIx K) from Ow.ixU) (pe_op (show OpR _ _ (Ow.rAddU K) from Ow.opU_add) (pv 1) pe_str) (Ow.pe_ca G__law_take hr (by first | decide | omega) (by rfl) (pa_cons (pv 0) (pa_cons pe_int pa_nil))) (fun _ _ => rfl))))) (pg_name (i := 3) sc__law_name.nd rfl (by first | exact Or.inl rfl | exact Or.inr rfl))) (pss_one (ps_ret (pe_op (show OpR _ _ (Ow.rAddU K) from Ow.opU_add) (pe_ix (show IxR _ (rIx K) from Ow.ixU) (pv 1) (Ow.pe_caX G__law_take hr (by first | decide | omega) (by rfl) hpx (pa_cons (pv 0) (pa_cons pe_int pa_nil))) (fun _ _ => rfl)) (pv 3)))))))), (ss_seq (ss_asg (se_str (by decide +kernel)) sg_name) (ss_seq (ss_if (st_test (se_op s2_eq (se_ca hx (sa_cons se_var (sa_cons se_int sa_nil))) se_int)) (ss_ret (se_op s2_ix (se_lst (sa_cons (se_str (by decide +kernel)) (sa_cons (se_str (by decide +kernel)) (sa_cons (se_str (by decide +kernel)) (sa_cons (se_str (by decide +kernel)) (sa_cons (se_str (by decide +kernel)) sa_nil)))))) (se_ca hx (sa_cons se_var (sa_cons se_int sa_nil))))) ss_next) (ss_seq (ss_asg (se_op s2_ix (se_lst (sa_cons se_int (sa_cons se_int (sa_cons se_int (sa_cons se_int (sa_cons se_int sa_nil)))))) (se_ca hx (sa_cons se_var (sa_cons se_int sa_nil)))) sg_name) (ss_seq (ss_asg (se_join (se_str (by decide +kernel)) (se_lc (si_r1 (sa_cons se_var sa_nil)) sg_name st_yes (se_op s2_ix (se_op s2_add se_var (se_str (by decide +kernel))) (se_ca xok_F (sa_cons se_var (sa_cons se_int sa_nil)))) (by decide))) sg_name) (ss_ret (se_op s2_add (se_op s2_ix se_var (se_ca hx (sa_cons se_var (sa_cons se_int sa_nil)))) se_var)))))), fun ds S Qd h => (shut_of h).2⟩
noncomputable def B__law_number (a : Ad) (Ed : XD) : DS :=
  (sRet (eOp dIx (eLst (aCons (eC (.int 0)) (aCons (eC (.int 1)) (aCons (eC (.int 281474976710656)) (aCons (eCa (F__law_take a) Ed (aCons (eVar 0) (aCons (eC (.int 1000)) aNil))) (aCons (eOp dAdd (eOp dPow (eC (.int 10)) (eC (.int 9))) (eCa (F__law_take a) Ed (aCons (eVar 0) (aCons (eC (.int 1000)) aNil)))) aNil)))))) (eCa (F__law_take a) Ed (aCons (eVar 0) (aCons (eC (.int 5)) aNil)))))
noncomputable def F__law_number (a : Ad) : WF := shut fun ds S Q Ed => ds.length = 1 ∧ B__law_number a Ed { nx := fun _ S' => Q .non S', rt := Q } (dstart N__law_number ds) S
theorem ok__law_number {f : Addr} {fd : FuncData} (Fm : Fun K "_law_number" "_law_number" s__law_number f fd) (T : TX K mg w a) (G__law_take : Ow.Ca P w K mg base 1 "_law_take" (spD K (tabs a) (F__law_take a))) : FnOk P w K mg base (L2.CX P w) 2 f fd ["draws"] (spD K (tabs a) (F__law_number a)) := by
  refine def_ok (k := 1) Fm sc__law_number (fun ds S Q E h => (shut_of h).1) fun scr ns Ne Ed E cdv A outer s H hr hx => ?_
  have hpx : Passes (L2.CX P w) (cxOf (L2.CX P w) P w K mg base N__law_number "_law_number" (defScope s__law_number) f cdv A outer s H E) E := passes_call (takes_of rfl rfl rfl rfl) (fun _ _ _ _ z => z)
  exact ⟨_, B__law_number a Ed, (pss_one (ps_ret (pe_ix (show IxR _ (rIx K) from Ow.ixU) (pe_lst (pa_cons pe_int (pa_cons pe_int (pa_cons pe_int (pa_cons (Ow.pe_caX G__law_take hr (by first | decide | omega) (by rfl) hpx (pa_cons (pv 0) (pa_cons pe_int pa_nil))) (pa_cons (pe_op (show OpR _ _ (Ow.rAddU K) from Ow.opU_add) (pe_op op_pow pe_int pe_int) (Ow.pe_caX G__law_take hr (by first | decide | omega) (by rfl) hpx (pa_cons (pv 0) (pa_cons pe_int pa_nil)))) pa_nil)))))) (Ow.pe_caX G__law_take hr (by first | decide | omega) (by rfl) hpx (pa_cons (pv 0) (pa_cons pe_int pa_nil))) (fun _ _ => rfl)))), (ss_ret (se_op s2_ix (se_lst (sa_cons se_int (sa_cons se_int (sa_cons se_int (sa_cons (se_ca hx (sa_cons se_var (sa_cons se_int sa_nil))) (sa_cons (se_op s2_add (se_op s2_pow se_int se_int) (se_ca hx (sa_cons se_var (sa_cons se_int sa_nil)))) sa_nil)))))) (se_ca hx (sa_cons se_var (sa_cons se_int sa_nil))))), fun ds S Qd h => (shut_of h).2⟩
noncomputable def B__law_act (a : Ad) (Ed : XD) : DS :=
  (sSeq (sAsg (eCa (F__law_name a) Ed (aCons (eVar 0) aNil)) (xName 1))
  (sSeq (sAsg (eCa (F__law_number a) Ed (aCons (eVar 0) aNil)) (xName 2))
  (sSeq (sAsg (eCa (F__law_number a) Ed (aCons (eVar 0) aNil)) (xName 3))
  (sSeq (sAsg (eCa (F__law_number a) Ed (aCons (eVar 0) aNil)) (xName 4))
  (sSeq (sAsg (eCB dTuple (aCons (eLc (iR1 (aCons (eCa (F__law_take a) Ed (aCons (eVar 0) (aCons (eC (.int 5)) aNil))) aNil)) (xName 7) tYes' (eCa (F__law_number a) xF (aCons (eVar 0) aNil)) [7]) aNil)) (xName 5))
  (sSeq (sAsg (eLst (aCons (eTup (aCons (eTup (aCons (eC (.str "send")) (aCons (eVar 1) (aCons (eTup (aCons (eC (.str "put")) (aCons (eVar 2) (aCons (eVar 3) aNil)))) aNil)))) (aCons (eOp dAdd (eOp dAdd (eOp dAdd (eOp dAdd (eVar 1) (eC (.str " puts "))) (eCB dStrU (aCons (eVar 2) aNil))) (eC (.str " "))) (eCB dStrU (aCons (eVar 3) aNil))) aNil))) (aCons (eTup (aCons (eTup (aCons (eC (.str "send")) (aCons (eVar 1) (aCons (eTup (aCons (eC (.str "ask")) aNil)) aNil)))) (aCons (eOp dAdd (eVar 1) (eC (.str " asks"))) aNil))) (aCons (eTup (aCons (eTup (aCons (eC (.str "lie")) (aCons (eVar 1) (aCons (eVar 2) (aCons (eVar 3) (aCons (eVar 4) aNil)))))) (aCons (eOp dAdd (eOp dAdd (eOp dAdd (eOp dAdd (eOp dAdd (eOp dAdd (eVar 1) (eC (.str " lies "))) (eCB dStrU (aCons (eVar 2) aNil))) (eC (.str " "))) (eCB dStrU (aCons (eVar 3) aNil))) (eC (.str " "))) (eCB dStrU (aCons (eVar 4) aNil))) aNil))) (aCons (eTup (aCons (eTup (aCons (eC (.str "forge")) (aCons (eVar 1) (aCons (eVar 2) (aCons (eVar 3) aNil))))) (aCons (eOp dAdd (eOp dAdd (eOp dAdd (eOp dAdd (eVar 1) (eC (.str " forges "))) (eCB dStrU (aCons (eVar 2) aNil))) (eC (.str " "))) (eCB dStrU (aCons (eVar 3) aNil))) aNil))) (aCons (eTup (aCons (eTup (aCons (eC (.str "cut")) (aCons (eVar 1) aNil))) (aCons (eOp dAdd (eVar 1) (eC (.str " cuts"))) aNil))) (aCons (eTup (aCons (eTup (aCons (eC (.str "paper")) (aCons (eVar 1) aNil))) (aCons (eOp dAdd (eVar 1) (eC (.str " papers"))) aNil))) (aCons (eTup (aCons (eTup (aCons (eC (.str "gather")) (aCons (eVar 1) aNil))) (aCons (eOp dAdd (eVar 1) (eC (.str " gathers"))) aNil))) (aCons (eTup (aCons (eTup (aCons (eC (.str "block")) (aCons (eVar 5) aNil))) (aCons (eOp dAdd (eC (.str "block")) (eJoin (eC (.str "")) (eLc (iT (eVar 5)) (xName 8) tYes' (eOp dAdd (eC (.str " ")) (eCB dStrU (aCons (eVar 8) aNil))) [8]))) aNil))) (aCons (eTup (aCons (eTup (aCons (eC (.str "back")) (aCons (eVar 2) aNil))) (aCons (eOp dAdd (eC (.str "back ")) (eCB dStrU (aCons (eVar 2) aNil))) aNil))) aNil)))))))))) (xName 6))
  (sRet (eOp dIx (eVar 6) (eCa (F__law_take a) Ed (aCons (eVar 0) (aCons (eC (.int 9)) aNil)))))))))))
noncomputable def F__law_act (a : Ad) : WF := shut fun ds S Q Ed => ds.length = 1 ∧ B__law_act a Ed { nx := fun _ S' => Q .non S', rt := Q } (dstart N__law_act ds) S
theorem ok__law_act {f : Addr} {fd : FuncData} (Fm : Fun K "_law_act" "_law_act" s__law_act f fd) (T : TX K mg w a) (G__law_name : Ow.Ca P w K mg base 2 "_law_name" (spD K (tabs a) (F__law_name a))) (G__law_number : Ow.Ca P w K mg base 2 "_law_number" (spD K (tabs a) (F__law_number a))) (G__law_take : Ow.Ca P w K mg base 1 "_law_take" (spD K (tabs a) (F__law_take a))) : FnOk P w K mg base (L2.CX P w) 3 f fd ["draws"] (spD K (tabs a) (F__law_act a)) := by
  refine def_ok (k := 2) Fm sc__law_act (fun ds S Q E h => (shut_of h).1) fun scr ns Ne Ed E cdv A outer s H hr hx => ?_
  have hpx : Passes (L2.CX P w) (cxOf (L2.CX P w) P w K mg base N__law_act "_law_act" (defScope s__law_act) f cdv A outer s H E) E := passes_call (takes_of rfl rfl rfl rfl) (fun _ _ _ _ z => z)
  exact ⟨_, B__law_act a Ed, (pss_cons (ps_asg (Ow.pe_caX G__law_name hr (by first | decide | omega) (by rfl) hpx (pa_cons (pv 0) pa_nil)) (pg_name (i := 1) sc__law_act.nd rfl (by first | exact Or.inl rfl | exact Or.inr rfl))) (pss_cons (ps_asg (Ow.pe_caX G__law_number hr (by first | decide | omega) (by rfl) hpx (pa_cons (pv 0) pa_nil)) (pg_name (i := 2) sc__law_act.nd rfl (by first | exact Or.inl rfl | exact Or.inr rfl))) (pss_cons (ps_asg (Ow.pe_caX G__law_number hr (by first | decide | omega) (by rfl) hpx (pa_cons (pv 0) pa_nil)) (pg_name (i := 3) sc__law_act.nd rfl (by first | exact Or.inl rfl | exact Or.inr rfl))) (pss_cons (ps_asg (Ow.pe_caX G__law_number hr (by first | decide | omega) (by rfl) hpx (pa_cons (pv 0) pa_nil)) (pg_name (i := 4) sc__law_act.nd rfl (by first | exact Or.inl rfl | exact Or.inr rfl))) (pss_cons (ps_asg (pe_callTy (show CallR _ _ (Ow.rTupleU K) from Ow.tupleU) (by rfl) T.b_tuple (by decide +kernel) (pa_cons (pe_lc (own := [("k", 7)]) (by rfl) sc__law_act.nd (pi_range1 (by rfl) T.b_range (pa_cons (Ow.pe_caX G__law_take hr (by first | decide | omega) (by rfl) hpx (pa_cons (pv 0) (pa_cons pe_int pa_nil))) pa_nil)) (blkOk_by (own := [("k", 7)]) (N := N__law_act) (sc := defScope s__law_act) (by decide +kernel)) (fun _ _ _ _ _ => (pg_name (i := 7) sc__law_act.nd rfl (by first | exact Or.inl rfl | exact Or.inr rfl))) (fun _ _ _ _ _ => pts_nil) (fun _ _ _ _ _ => (Ow.pe_ca G__law_number hr (by first | decide | omega) (by rfl) (pa_cons (pv 0) pa_nil)))) pa_nil)) (pg_name (i := 5) sc__law_act.nd rfl (by first | exact Or.inl rfl | exact Or.inr rfl))) (pss_cons (ps_asg (pe_lst (pa_cons (pe_tup (pa_cons (pe_tup (pa_cons pe_str (pa_cons (pv 1) (pa_cons (pe_tup (pa_cons pe_str (pa_cons (pv 2) (pa_cons (pv 3) pa_nil)))) pa_nil)))) (pa_cons (pe_op (show OpR _ _ (Ow.rAddU K) from Ow.opU_add) (pe_op (show OpR _ _ (Ow.rAddU K) from Ow.opU_add) (pe_op (show OpR _ _ (Ow.rAddU K) from Ow.opU_add) (pe_op (show OpR _ _ (Ow.rAddU K) from Ow.opU_add) (pv 1) pe_str) (pe_callTy (show CallR _ _ rStrU from CallR.or (show CallR _ _ rStrN from call_str_int) SkE.call_str_str) (by rfl) T.b_str (by decide +kernel) (pa_cons (pv 2) pa_nil))) pe_str) (pe_callTy (show CallR _ _ rStrU from CallR.or (show CallR _ _ rStrN from call_str_int) SkE.call_str_str) (by rfl) T.b_str (by decide +kernel) (pa_cons (pv 3) pa_nil))) pa_nil))) (pa_cons (pe_tup (pa_cons (pe_tup (pa_cons pe_str (pa_cons (pv 1) (pa_cons (pe_tup (pa_cons pe_str pa_nil)) pa_nil)))) (pa_cons (pe_op (show OpR _ _ (Ow.rAddU K) from Ow.opU_add) (pv 1) pe_str) pa_nil))) (pa_cons (pe_tup (pa_cons (pe_tup (pa_cons pe_str (pa_cons (pv 1) (pa_cons (pv 2) (pa_cons (pv 3) (pa_cons (pv 4) pa_nil)))))) (pa_cons (pe_op (show OpR _ _ (Ow.rAddU K) from Ow.opU_add) (pe_op (show OpR _ _ (Ow.rAddU K) from Ow.opU_add) (pe_op (show OpR _ _ (Ow.rAddU K) from Ow.opU_add) (pe_op (show OpR _ _ (Ow.rAddU K) from Ow.opU_add) (pe_op (show OpR _ _ (Ow.rAddU K) from Ow.opU_add) (pe_op (show OpR _ _ (Ow.rAddU K) from Ow.opU_add) (pv 1) pe_str) (pe_callTy (show CallR _ _ rStrU from CallR.or (show CallR _ _ rStrN from call_str_int) SkE.call_str_str) (by rfl) T.b_str (by decide +kernel) (pa_cons (pv 2) pa_nil))) pe_str) (pe_callTy (show CallR _ _ rStrU from CallR.or (show CallR _ _ rStrN from call_str_int) SkE.call_str_str) (by rfl) T.b_str (by decide +kernel) (pa_cons (pv 3) pa_nil))) pe_str) (pe_callTy (show CallR _ _ rStrU from CallR.or (show CallR _ _ rStrN from call_str_int) SkE.call_str_str) (by rfl) T.b_str (by decide +kernel) (pa_cons (pv 4) pa_nil))) pa_nil))) (pa_cons (pe_tup (pa_cons (pe_tup (pa_cons pe_str (pa_cons (pv 1) (pa_cons (pv 2) (pa_cons (pv 3) pa_nil))))) (pa_cons (pe_op (show OpR _ _ (Ow.rAddU K) from Ow.opU_add) (pe_op (show OpR _ _ (Ow.rAddU K) from Ow.opU_add) (pe_op (show OpR _ _ (Ow.rAddU K) from Ow.opU_add) (pe_op (show OpR _ _ (Ow.rAddU K) from Ow.opU_add) (pv 1) pe_str) (pe_callTy (show CallR _ _ rStrU from CallR.or (show CallR _ _ rStrN from call_str_int) SkE.call_str_str) (by rfl) T.b_str (by decide +kernel) (pa_cons (pv 2) pa_nil))) pe_str) (pe_callTy (show CallR _ _ rStrU from CallR.or (show CallR _ _ rStrN from call_str_int) SkE.call_str_str) (by rfl) T.b_str (by decide +kernel) (pa_cons (pv 3) pa_nil))) pa_nil))) (pa_cons (pe_tup (pa_cons (pe_tup (pa_cons pe_str (pa_cons (pv 1) pa_nil))) (pa_cons (pe_op (show OpR _ _ (Ow.rAddU K) from Ow.opU_add) (pv 1) pe_str) pa_nil))) (pa_cons (pe_tup (pa_cons (pe_tup (pa_cons pe_str (pa_cons (pv 1) pa_nil))) (pa_cons (pe_op (show OpR _ _ (Ow.rAddU K) from Ow.opU_add) (pv 1) pe_str) pa_nil))) (pa_cons (pe_tup (pa_cons (pe_tup (pa_cons pe_str (pa_cons (pv 1) pa_nil))) (pa_cons (pe_op (show OpR _ _ (Ow.rAddU K) from Ow.opU_add) (pv 1) pe_str) pa_nil))) (pa_cons (pe_tup (pa_cons (pe_tup (pa_cons pe_str (pa_cons (pv 5) pa_nil))) (pa_cons (pe_op (show OpR _ _ (Ow.rAddU K) from Ow.opU_add) pe_str (pe_join pe_str (pe_lc (own := [("n", 8)]) (by rfl) sc__law_act.nd (pi_tup (pv 5)) (blkOk_by (own := [("n", 8)]) (N := N__law_act) (sc := defScope s__law_act) (by decide +kernel)) (fun _ _ _ _ _ => (pg_name (i := 8) sc__law_act.nd rfl (by first | exact Or.inl rfl | exact Or.inr rfl))) (fun _ _ _ _ _ => pts_nil) (fun _ _ _ _ _ => (pe_op (show OpR _ _ (Ow.rAddU K) from Ow.opU_add) pe_str (pe_callTy (show CallR _ _ rStrU from CallR.or (show CallR _ _ rStrN from call_str_int) SkE.call_str_str) (by rfl) T.b_str (by decide +kernel) (pa_cons (pv 8) pa_nil))))))) pa_nil))) (pa_cons (pe_tup (pa_cons (pe_tup (pa_cons pe_str (pa_cons (pv 2) pa_nil))) (pa_cons (pe_op (show OpR _ _ (Ow.rAddU K) from Ow.opU_add) pe_str (pe_callTy (show CallR _ _ rStrU from CallR.or (show CallR _ _ rStrN from call_str_int) SkE.call_str_str) (by rfl) T.b_str (by decide +kernel) (pa_cons (pv 2) pa_nil))) pa_nil))) pa_nil)))))))))) (pg_name (i := 6) sc__law_act.nd rfl (by first | exact Or.inl rfl | exact Or.inr rfl))) (pss_one (ps_ret (pe_ix (show IxR _ (rIx K) from Ow.ixU) (pv 6) (Ow.pe_caX G__law_take hr (by first | decide | omega) (by rfl) hpx (pa_cons (pv 0) (pa_cons pe_int pa_nil))) (fun _ _ => rfl)))))))))), (ss_seq (ss_asg (se_ca hx (sa_cons se_var sa_nil)) sg_name) (ss_seq (ss_asg (se_ca hx (sa_cons se_var sa_nil)) sg_name) (ss_seq (ss_asg (se_ca hx (sa_cons se_var sa_nil)) sg_name) (ss_seq (ss_asg (se_ca hx (sa_cons se_var sa_nil)) sg_name) (ss_seq (ss_asg (se_cb sl_tuple (sa_cons (se_lc (si_r1 (sa_cons (se_ca hx (sa_cons se_var (sa_cons se_int sa_nil))) sa_nil)) sg_name st_yes (se_ca xok_F (sa_cons se_var sa_nil)) (by decide)) sa_nil)) sg_name) (ss_seq (ss_asg (se_lst (sa_cons (se_tup (sa_cons (se_tup (sa_cons (se_str (by decide +kernel)) (sa_cons se_var (sa_cons (se_tup (sa_cons (se_str (by decide +kernel)) (sa_cons se_var (sa_cons se_var sa_nil)))) sa_nil)))) (sa_cons (se_op s2_add (se_op s2_add (se_op s2_add (se_op s2_add se_var (se_str (by decide +kernel))) (se_cb sl_strU (sa_cons se_var sa_nil))) (se_str (by decide +kernel))) (se_cb sl_strU (sa_cons se_var sa_nil))) sa_nil))) (sa_cons (se_tup (sa_cons (se_tup (sa_cons (se_str (by decide +kernel)) (sa_cons se_var (sa_cons (se_tup (sa_cons (se_str (by decide +kernel)) sa_nil)) sa_nil)))) (sa_cons (se_op s2_add se_var (se_str (by decide +kernel))) sa_nil))) (sa_cons (se_tup (sa_cons (se_tup (sa_cons (se_str (by decide +kernel)) (sa_cons se_var (sa_cons se_var (sa_cons se_var (sa_cons se_var sa_nil)))))) (sa_cons (se_op s2_add (se_op s2_add (se_op s2_add (se_op s2_add (se_op s2_add (se_op s2_add se_var (se_str (by decide +kernel))) (se_cb sl_strU (sa_cons se_var sa_nil))) (se_str (by decide +kernel))) (se_cb sl_strU (sa_cons se_var sa_nil))) (se_str (by decide +kernel))) (se_cb sl_strU (sa_cons se_var sa_nil))) sa_nil))) (sa_cons (se_tup (sa_cons (se_tup (sa_cons (se_str (by decide +kernel)) (sa_cons se_var (sa_cons se_var (sa_cons se_var sa_nil))))) (sa_cons (se_op s2_add (se_op s2_add (se_op s2_add (se_op s2_add se_var (se_str (by decide +kernel))) (se_cb sl_strU (sa_cons se_var sa_nil))) (se_str (by decide +kernel))) (se_cb sl_strU (sa_cons se_var sa_nil))) sa_nil))) (sa_cons (se_tup (sa_cons (se_tup (sa_cons (se_str (by decide +kernel)) (sa_cons se_var sa_nil))) (sa_cons (se_op s2_add se_var (se_str (by decide +kernel))) sa_nil))) (sa_cons (se_tup (sa_cons (se_tup (sa_cons (se_str (by decide +kernel)) (sa_cons se_var sa_nil))) (sa_cons (se_op s2_add se_var (se_str (by decide +kernel))) sa_nil))) (sa_cons (se_tup (sa_cons (se_tup (sa_cons (se_str (by decide +kernel)) (sa_cons se_var sa_nil))) (sa_cons (se_op s2_add se_var (se_str (by decide +kernel))) sa_nil))) (sa_cons (se_tup (sa_cons (se_tup (sa_cons (se_str (by decide +kernel)) (sa_cons se_var sa_nil))) (sa_cons (se_op s2_add (se_str (by decide +kernel)) (se_join (se_str (by decide +kernel)) (se_lc (si_tup se_var) sg_name st_yes (se_op s2_add (se_str (by decide +kernel)) (se_cb sl_strU (sa_cons se_var sa_nil))) (by decide)))) sa_nil))) (sa_cons (se_tup (sa_cons (se_tup (sa_cons (se_str (by decide +kernel)) (sa_cons se_var sa_nil))) (sa_cons (se_op s2_add (se_str (by decide +kernel)) (se_cb sl_strU (sa_cons se_var sa_nil))) sa_nil))) sa_nil)))))))))) sg_name) (ss_ret (se_op s2_ix se_var (se_ca hx (sa_cons se_var (sa_cons se_int sa_nil))))))))))), fun ds S Qd h => (shut_of h).2⟩
noncomputable def B__law_wrong (a : Ad) (Ed : XD) : DS :=
  (sSeq (sAsg (eCa (F__law_take a) Ed (aCons (eVar 0) (aCons (eC (.int 9)) aNil))) (xName 2))
  (sSeq (sAsg (dM1 dSplitV (eVar 1) (eC (.str " "))) (xName 3))
  (sSeq (sIf (tV (eOp dEq (eVar 2) (eC (.int 0))))
  (sRet (eOp dAdd (eVar 1) (eC (.str " "))))
  sNext)
  (sSeq (sIf (tV (eOp dEq (eVar 2) (eC (.int 1))))
  (sRet (eOp dAdd (eC (.str " ")) (eVar 1)))
  sNext)
  (sSeq (sIf (tV (eOp dEq (eVar 2) (eC (.int 2))))
  (sRet (eRepIf 1 " " "  " 1 (eCB dLen (aCons (eVar 3) aNil)) (eOp dAdd (eVar 1) (eC (.str "  ")))))
  sNext)
  (sSeq (sIf (tV (eOp dEq (eVar 2) (eC (.int 3))))
  (sRet (eOp dAdd (eOp dAdd (eC (.str "ann puts 0")) (eCB dStrU (aCons (eCa (F__law_take a) Ed (aCons (eVar 0) (aCons (eC (.int 9)) aNil))) aNil))) (eC (.str " 3"))))
  sNext)
  (sSeq (sIf (tV (eOp dEq (eVar 2) (eC (.int 4))))
  (sRet (eC (.str "ann puts 281474976710657 3")))
  sNext)
  (sSeq (sIf (tV (eOp dEq (eVar 2) (eC (.int 5))))
  (sRet (eOp dIx (eLst (aCons (eC (.str "ann puts 3")) (aCons (eC (.str "ann lies 1 2")) (aCons (eC (.str "ann forges 1")) (aCons (eC (.str "back")) (aCons (eC (.str "ann cuts 1")) (aCons (eC (.str "ann asks 0")) aNil))))))) (eCa (F__law_take a) Ed (aCons (eVar 0) (aCons (eC (.int 6)) aNil)))))
  sNext)
  (sSeq (sIf (tV (eOp dEq (eVar 2) (eC (.int 6))))
  (sRet (eOp dIx (eLst (aCons (eC (.str "ann sells")) (aCons (eC (.str "ann put 1 2")) (aCons (eC (.str "block x")) (aCons (eC (.str "back -1")) (aCons (eC (.str "blocks 1")) (aCons (eC (.str "ann puts 1 +2")) aNil))))))) (eCa (F__law_take a) Ed (aCons (eVar 0) (aCons (eC (.int 6)) aNil)))))
  sNext)
  (sSeq (sIf (tV (eOp dEq (eVar 2) (eC (.int 7))))
  (sRet (eOp dIx (eLst (aCons (eC (.str "Ann asks")) (aCons (eC (.str "1ann asks")) (aCons (eC (.str "abcdefghijklm asks")) (aCons (eC (.str "a_b asks")) (aCons (eC (.str " asks")) (aCons (eC (.str "ann  asks")) aNil))))))) (eCa (F__law_take a) Ed (aCons (eVar 0) (aCons (eC (.int 6)) aNil)))))
  sNext)
  (sRet (eC (.str "")))))))))))))
noncomputable def F__law_wrong (a : Ad) : WF := shut fun ds S Q Ed => ds.length = 2 ∧ B__law_wrong a Ed { nx := fun _ S' => Q .non S', rt := Q } (dstart N__law_wrong ds) S
theorem ok__law_wrong {f : Addr} {fd : FuncData} (Fm : Fun K "_law_wrong" "_law_wrong" s__law_wrong f fd) (T : TX K mg w a) (G__law_take : Ow.Ca P w K mg base 1 "_law_take" (spD K (tabs a) (F__law_take a))) : FnOk P w K mg base (L2.CX P w) 2 f fd ["draws", "line"] (spD K (tabs a) (F__law_wrong a)) := by
  refine def_ok (k := 1) Fm sc__law_wrong (fun ds S Q E h => (shut_of h).1) fun scr ns Ne Ed E cdv A outer s H hr hx => ?_
  have hpx : Passes (L2.CX P w) (cxOf (L2.CX P w) P w K mg base N__law_wrong "_law_wrong" (defScope s__law_wrong) f cdv A outer s H E) E := passes_call (takes_of rfl rfl rfl rfl) (fun _ _ _ _ z => z)
  exact ⟨_, B__law_wrong a Ed, (pss_cons (ps_asg (Ow.pe_caX G__law_take hr (by first | decide | omega) (by rfl) hpx (pa_cons (pv 0) (pa_cons pe_int pa_nil))) (pg_name (i := 2) sc__law_wrong.nd rfl (by first | exact Or.inl rfl | exact Or.inr rfl))) (pss_cons (ps_asg (pe_split (pv 1) pe_str) (pg_name (i := 3) sc__law_wrong.nd rfl (by first | exact Or.inl rfl | exact Or.inr rfl))) (pss_cons (ps_if (pt_cmpR (show OpR _ _ (Ow.rEqU K) from Ow.opU_eq hr.units) (pv 2) pe_int (nomark _)) (pss_one (ps_ret (pe_op (show OpR _ _ (Ow.rAddU K) from Ow.opU_add) (pv 1) pe_str))) pss_nil) (pss_cons (ps_if (pt_cmpR (show OpR _ _ (Ow.rEqU K) from Ow.opU_eq hr.units) (pv 2) pe_int (nomark _)) (pss_one (ps_ret (pe_op (show OpR _ _ (Ow.rAddU K) from Ow.opU_add) pe_str (pv 1)))) pss_nil) (pss_cons (ps_if (pt_cmpR (show OpR _ _ (Ow.rEqU K) from Ow.opU_eq hr.units) (pv 2) pe_int (nomark _)) (pss_one (ps_ret (Ow.pe_repIf (i := 1) (y := " ") (z := "  ") (k := 1) (pe_callB (show CallR _ _ (Ow.rLenU K) from Ow.lenU) (by rfl) T.b_len PySem.boot_len (pa_cons (pv 3) pa_nil)) (pe_op (show OpR _ _ (Ow.rAddU K) from Ow.opU_add) (pv 1) pe_str) rfl (by first | exact Or.inl rfl | exact Or.inr (Or.inl rfl)) (by decide +kernel)))) pss_nil) (pss_cons (ps_if (pt_cmpR (show OpR _ _ (Ow.rEqU K) from Ow.opU_eq hr.units) (pv 2) pe_int (nomark _)) (pss_one (ps_ret (pe_op (show OpR _ _ (Ow.rAddU K) from Ow.opU_add) (pe_op (show OpR _ _ (Ow.rAddU K) from Ow.opU_add) pe_str (pe_callTy (show CallR _ _ rStrU from CallR.or (show CallR _ _ rStrN from call_str_int) SkE.call_str_str) (by rfl) T.b_str (by decide +kernel) (pa_cons (Ow.pe_caX G__law_take hr (by first | decide | omega) (by rfl) hpx (pa_cons (pv 0) (pa_cons pe_int pa_nil))) pa_nil))) pe_str))) pss_nil) (pss_cons (ps_if (pt_cmpR (show OpR _ _ (Ow.rEqU K) from Ow.opU_eq hr.units) (pv 2) pe_int (nomark _)) (pss_one (ps_ret pe_str)) pss_nil) (pss_cons (ps_if (pt_cmpR (show OpR _ _ (Ow.rEqU K) from Ow.opU_eq hr.units) (pv 2) pe_int (nomark _)) (pss_one (ps_ret (pe_ix (show IxR _ (rIx K) from Ow.ixU) (pe_lst (pa_cons pe_str (pa_cons pe_str (pa_cons pe_str (pa_cons pe_str (pa_cons pe_str (pa_cons pe_str pa_nil))))))) (Ow.pe_caX G__law_take hr (by first | decide | omega) (by rfl) hpx (pa_cons (pv 0) (pa_cons pe_int pa_nil))) (fun _ _ => rfl)))) pss_nil) (pss_cons (ps_if (pt_cmpR (show OpR _ _ (Ow.rEqU K) from Ow.opU_eq hr.units) (pv 2) pe_int (nomark _)) (pss_one (ps_ret (pe_ix (show IxR _ (rIx K) from Ow.ixU) (pe_lst (pa_cons pe_str (pa_cons pe_str (pa_cons pe_str (pa_cons pe_str (pa_cons pe_str (pa_cons pe_str pa_nil))))))) (Ow.pe_caX G__law_take hr (by first | decide | omega) (by rfl) hpx (pa_cons (pv 0) (pa_cons pe_int pa_nil))) (fun _ _ => rfl)))) pss_nil) (pss_cons (ps_if (pt_cmpR (show OpR _ _ (Ow.rEqU K) from Ow.opU_eq hr.units) (pv 2) pe_int (nomark _)) (pss_one (ps_ret (pe_ix (show IxR _ (rIx K) from Ow.ixU) (pe_lst (pa_cons pe_str (pa_cons pe_str (pa_cons pe_str (pa_cons pe_str (pa_cons pe_str (pa_cons pe_str pa_nil))))))) (Ow.pe_caX G__law_take hr (by first | decide | omega) (by rfl) hpx (pa_cons (pv 0) (pa_cons pe_int pa_nil))) (fun _ _ => rfl)))) pss_nil) (pss_one (ps_ret pe_str)))))))))))), (ss_seq (ss_asg (se_ca hx (sa_cons se_var (sa_cons se_int sa_nil))) sg_name) (ss_seq (ss_asg (se_splitV se_var (se_str (by decide +kernel))) sg_name) (ss_seq (ss_if (st_test (se_op s2_eq se_var se_int)) (ss_ret (se_op s2_add se_var (se_str (by decide +kernel)))) ss_next) (ss_seq (ss_if (st_test (se_op s2_eq se_var se_int)) (ss_ret (se_op s2_add (se_str (by decide +kernel)) se_var)) ss_next) (ss_seq (ss_if (st_test (se_op s2_eq se_var se_int)) (ss_ret (se_repIf (se_cb sl_len (sa_cons se_var sa_nil)) (se_op s2_add se_var (se_str (by decide +kernel))))) ss_next) (ss_seq (ss_if (st_test (se_op s2_eq se_var se_int)) (ss_ret (se_op s2_add (se_op s2_add (se_str (by decide +kernel)) (se_cb sl_strU (sa_cons (se_ca hx (sa_cons se_var (sa_cons se_int sa_nil))) sa_nil))) (se_str (by decide +kernel)))) ss_next) (ss_seq (ss_if (st_test (se_op s2_eq se_var se_int)) (ss_ret (se_str (by decide +kernel))) ss_next) (ss_seq (ss_if (st_test (se_op s2_eq se_var se_int)) (ss_ret (se_op s2_ix (se_lst (sa_cons (se_str (by decide +kernel)) (sa_cons (se_str (by decide +kernel)) (sa_cons (se_str (by decide +kernel)) (sa_cons (se_str (by decide +kernel)) (sa_cons (se_str (by decide +kernel)) (sa_cons (se_str (by decide +kernel)) sa_nil))))))) (se_ca hx (sa_cons se_var (sa_cons se_int sa_nil))))) ss_next) (ss_seq (ss_if (st_test (se_op s2_eq se_var se_int)) (ss_ret (se_op s2_ix (se_lst (sa_cons (se_str (by decide +kernel)) (sa_cons (se_str (by decide +kernel)) (sa_cons (se_str (by decide +kernel)) (sa_cons (se_str (by decide +kernel)) (sa_cons (se_str (by decide +kernel)) (sa_cons (se_str (by decide +kernel)) sa_nil))))))) (se_ca hx (sa_cons se_var (sa_cons se_int sa_nil))))) ss_next) (ss_seq (ss_if (st_test (se_op s2_eq se_var se_int)) (ss_ret (se_op s2_ix (se_lst (sa_cons (se_str (by decide +kernel)) (sa_cons (se_str (by decide +kernel)) (sa_cons (se_str (by decide +kernel)) (sa_cons (se_str (by decide +kernel)) (sa_cons (se_str (by decide +kernel)) (sa_cons (se_str (by decide +kernel)) sa_nil))))))) (se_ca hx (sa_cons se_var (sa_cons se_int sa_nil))))) ss_next) (ss_ret (se_str (by decide +kernel))))))))))))), fun ds S Qd h => (shut_of h).2⟩
noncomputable def B_law (a : Ad) (Ed : XD) : DS :=
  (sSeq (sAsg (eCa (F__law_draws a) Ed (aCons (eVar 0) (aCons (eC (.int 160)) aNil))) (xName 1))
  (sSeq (sAsg (eLc (iR1 (aCons (eCa (F__law_take a) Ed (aCons (eVar 1) (aCons (eC (.int 13)) aNil))) aNil)) (xName 9) tYes' (eCa (F__law_act a) xF (aCons (eVar 1) aNil)) [9]) (xName 2))
  (sSeq (sAsg (eCB dTuple (aCons (eLc (iL (eVar 2)) (xName 10) tYes' (eOp dIx (eVar 10) (eC (.int 0))) [10]) aNil)) (xName 3))
  (sSeq (sAsg (eJoin (eC (.str "\n")) (eLc (iL (eVar 2)) (xName 10) tYes' (eOp dIx (eVar 10) (eC (.int 1))) [10])) (xName 4))
  (sSeq (sIf (tOr' (tV (eOp dNe (eCa (F_print_script a) Ed (aCons (eVar 3) aNil)) (eVar 4))) (tOr' (tV (eOp dNe (eCa (F_read_script a) Ed (aCons (eVar 4) aNil)) (eVar 3))) (tV (eOp dNe (eCa (F_read_script a) Ed (aCons (eC (.str "")) aNil)) (eTup aNil)))))
  (sRet (eC (.bl false)))
  sNext)
  (sSeq (sAsg (eCa (F__law_take a) Ed (aCons (eVar 1) (aCons (eOp dAdd (eCB dLen (aCons (eVar 2) aNil)) (eC (.int 1))) aNil))) (xName 5))
  (sSeq (sAsg (eLc (iL (eVar 2)) (xName 10) tYes' (eOp dIx (eVar 10) (eC (.int 1))) [10]) (xName 6))
  (sSeq (sAsg (eCa (F__law_wrong a) Ed (aCons (eVar 1) (aCons (eOp dIx (eOp dAdd (eVar 6) (eLst (aCons (eC (.str "bob asks")) aNil))) (eVar 5)) aNil))) (xName 7))
  (sSeq (sAsg (eOp dAdd (eOp dAdd (eSl (eVar 6) oNone (oSome (eVar 5))) (eLst (aCons (eVar 7) aNil))) (eSl (eVar 6) (oSome (eVar 5)) oNone)) (xName 6))
  (sSeq (sIf (tAnd' (tV (eOp dEq (eCB dLen (aCons (eVar 6) aNil)) (eC (.int 1)))) (tV (eOp dEq (eVar 7) (eC (.str "")))))
  (sRet (eC (.bl true)))
  sNext)
  (sSeq (sTryF 8 (fun Wd => (sDrop (eCaS (F_read_script a) Wd (aCons (eJoin (eC (.str "\n")) (eVar 6)) aNil)))) a.X_BadText (fun a0 dv => (sRet (eAnd (eOp dEq (eLineE 8 a0 dv) (eOp dAdd (eVar 5) (eC (.int 1)))) (eIsE 8 a0)))))
  (sRet (eC (.bl false))))))))))))))
noncomputable def F_law (a : Ad) : WF := shut fun ds S Q Ed => ds.length = 1 ∧ B_law a Ed { nx := fun _ S' => Q .non S', rt := Q } (dstart N_law ds) S
theorem ok_law {f : Addr} {fd : FuncData} (Fm : Fun K "law" "law" s_law f fd) (T : TX K mg w a) (G__law_draws : Ow.Ca P w K mg base 3 "_law_draws" (spD K (tabs a) (F__law_draws a))) (G__law_take : Ow.Ca P w K mg base 1 "_law_take" (spD K (tabs a) (F__law_take a))) (G__law_act : Ow.Ca P w K mg base 3 "_law_act" (spD K (tabs a) (F__law_act a))) (G_read_script : Ow.Ca P w K mg base 6 "read_script" (spD K (tabs a) (F_read_script a))) (G_print_script : Ow.Ca P w K mg base 2 "print_script" (spD K (tabs a) (F_print_script a))) (G__law_wrong : Ow.Ca P w K mg base 2 "_law_wrong" (spD K (tabs a) (F__law_wrong a))) : FnOk P w K mg base (L2.CX P w) 7 f fd ["script"] (spD K (tabs a) (F_law a)) := by
  refine def_ok (k := 6) Fm sc_law (fun ds S Q E h => (shut_of h).1) fun scr ns Ne Ed E cdv A outer s H hr hx => ?_
  have hpx : Passes (L2.CX P w) (cxOf (L2.CX P w) P w K mg base N_law "law" (defScope s_law) f cdv A outer s H E) E := passes_call (takes_of rfl rfl rfl rfl) (fun _ _ _ _ z => z)
  exact ⟨_, B_law a Ed, (pss_cons (ps_asg (Ow.pe_caX G__law_draws hr (by first | decide | omega) (by rfl) hpx (pa_cons (pv 0) (pa_cons pe_int pa_nil))) (pg_name (i := 1) sc_law.nd rfl (by first | exact Or.inl rfl | exact Or.inr rfl))) (pss_cons (ps_setLc (i := 2) (own := [("k", 9)]) (by rfl) sc_law.nd rfl rfl (sw_true rfl rfl rfl (by decide +kernel)) (pi_range1 (by rfl) T.b_range (pa_cons (Ow.pe_caX G__law_take hr (by first | decide | omega) (by rfl) hpx (pa_cons (pv 1) (pa_cons pe_int pa_nil))) pa_nil)) (blkOk_by (own := [("k", 9)]) (N := N_law) (sc := defScope s_law) (by decide +kernel)) (fun _ _ _ _ _ => (pg_name (i := 9) sc_law.nd rfl (by first | exact Or.inl rfl | exact Or.inr rfl))) (fun _ _ _ _ _ => pts_nil) (fun _ _ _ _ _ => (Ow.pe_ca G__law_act hr (by first | decide | omega) (by rfl) (pa_cons (pv 1) pa_nil)))) (pss_cons (ps_asg (pe_callTy (show CallR _ _ (Ow.rTupleU K) from Ow.tupleU) (by rfl) T.b_tuple (by decide +kernel) (pa_cons (pe_lc (own := [("row", 10)]) (by rfl) sc_law.nd (pi_list (pv 2)) (blkOk_by (own := [("row", 10)]) (N := N_law) (sc := defScope s_law) (by decide +kernel)) (fun _ _ _ _ _ => (pg_name (i := 10) sc_law.nd rfl (by first | exact Or.inl rfl | exact Or.inr rfl))) (fun _ _ _ _ _ => pts_nil) (fun _ _ _ _ _ => (pe_ix (show IxR _ (rIx K) from Ow.ixU) (pv 10) pe_int (fun _ _ => rfl)))) pa_nil)) (pg_name (i := 3) sc_law.nd rfl (by first | exact Or.inl rfl | exact Or.inr rfl))) (pss_cons (ps_asg (pe_join pe_str (pe_lc (own := [("row", 10)]) (by rfl) sc_law.nd (pi_list (pv 2)) (blkOk_by (own := [("row", 10)]) (N := N_law) (sc := defScope s_law) (by decide +kernel)) (fun _ _ _ _ _ => (pg_name (i := 10) sc_law.nd rfl (by first | exact Or.inl rfl | exact Or.inr rfl))) (fun _ _ _ _ _ => pts_nil) (fun _ _ _ _ _ => (pe_ix (show IxR _ (rIx K) from Ow.ixU) (pv 10) pe_int (fun _ _ => rfl))))) (pg_name (i := 4) sc_law.nd rfl (by first | exact Or.inl rfl | exact Or.inr rfl))) (pss_cons (ps_if (PW.pt (pw_or (pt_cmpR (show OpR _ _ (Ow.rNeU K) from Ow.opU_ne hr.units) (Ow.pe_caX G_print_script hr (by first | decide | omega) (by rfl) hpx (pa_cons (pv 3) pa_nil)) (pv 4) (nomark _)) (pw_or (pt_cmpR (show OpR _ _ (Ow.rNeU K) from Ow.opU_ne hr.units) (Ow.pe_caX G_read_script hr (by first | decide | omega) (by rfl) hpx (pa_cons (pv 4) pa_nil)) (pv 3) (nomark _)) (pw_or1 (pt_cmpR (show OpR _ _ (Ow.rNeU K) from Ow.opU_ne hr.units) (Ow.pe_caX G_read_script hr (by first | decide | omega) (by rfl) hpx (pa_cons pe_str pa_nil)) (pe_tup pa_nil) (nomark _)))))) (pss_one (ps_ret pe_bl)) pss_nil) (pss_cons (ps_asg (Ow.pe_caX G__law_take hr (by first | decide | omega) (by rfl) hpx (pa_cons (pv 1) (pa_cons (pe_op (show OpR _ _ (Ow.rAddU K) from Ow.opU_add) (pe_callB (show CallR _ _ (Ow.rLenU K) from Ow.lenU) (by rfl) T.b_len PySem.boot_len (pa_cons (pv 2) pa_nil)) pe_int) pa_nil))) (pg_name (i := 5) sc_law.nd rfl (by first | exact Or.inl rfl | exact Or.inr rfl))) (pss_cons (ps_setLc (i := 6) (own := [("row", 10)]) (by rfl) sc_law.nd rfl rfl (sw_true rfl rfl rfl (by decide +kernel)) (pi_list (pv 2)) (blkOk_by (own := [("row", 10)]) (N := N_law) (sc := defScope s_law) (by decide +kernel)) (fun _ _ _ _ _ => (pg_name (i := 10) sc_law.nd rfl (by first | exact Or.inl rfl | exact Or.inr rfl))) (fun _ _ _ _ _ => pts_nil) (fun _ _ _ _ _ => (pe_ix (show IxR _ (rIx K) from Ow.ixU) (pv 10) pe_int (fun _ _ => rfl)))) (pss_cons (ps_asg (Ow.pe_caX G__law_wrong hr (by first | decide | omega) (by rfl) hpx (pa_cons (pv 1) (pa_cons (pe_ix (show IxR _ (rIx K) from Ow.ixU) (pe_op (show OpR _ _ (Ow.rAddU K) from Ow.opU_add) (pv 6) (pe_lst (pa_cons pe_str pa_nil))) (pv 5) (fun _ _ => rfl)) pa_nil))) (pg_name (i := 7) sc_law.nd rfl (by first | exact Or.inl rfl | exact Or.inr rfl))) (pss_cons (ps_asg (pe_op (show OpR _ _ (Ow.rAddU K) from Ow.opU_add) (pe_op (show OpR _ _ (Ow.rAddU K) from Ow.opU_add) (pe_slice (show SlR _ (Ow.rSlU K) from Ow.slU) (pv 6) po_none (po_some (pv 5))) (pe_lst (pa_cons (pv 7) pa_nil))) (pe_slice (show SlR _ (Ow.rSlU K) from Ow.slU) (pv 6) (po_some (pv 5)) po_none)) (pg_name (i := 6) sc_law.nd rfl (by first | exact Or.inl rfl | exact Or.inr rfl))) (pss_cons (ps_if (PW.pt (pw_and (pt_cmpR (show OpR _ _ (Ow.rEqU K) from Ow.opU_eq hr.units) (pe_callB (show CallR _ _ (Ow.rLenU K) from Ow.lenU) (by rfl) T.b_len PySem.boot_len (pa_cons (pv 6) pa_nil)) pe_int (nomark _)) (pw_and1 (pt_cmpR (show OpR _ _ (Ow.rEqU K) from Ow.opU_eq hr.units) (pv 7) pe_str (nomark _))))) (pss_one (ps_ret pe_bl)) pss_nil) (pss_cons (ps_try_as (i := 8) rfl rfl sc_law.nd rfl rfl ⟨rfl, by decide, .inl T.m_BadText⟩ takes0 (fun W pn xe tk _ => (pss_one (ps_expr (Ow.pe_caS G_read_script hr (by first | decide | omega) (by rfl) (fun σ => passAt tk σ) (pa_cons (pe_join pe_str (pv 6)) pa_nil))))) (fun a0 oe cls d pn hz hf => (pss_one (ps_ret (pe_and (pe_cmpR (show OpR _ _ (Ow.rEqU K) from Ow.opU_eq hr.units) (Ow.pe_line T.er_BadText hz hf (pv 8)) (pe_op (show OpR _ _ (Ow.rAddU K) from Ow.opU_add) (pv 5) pe_int) (nomark _)) (pe_one (pe_callB (show CallR _ _ (Ow.rIsF K cls d a0) from Ow.call_isF hz hf) (by rfl) T.b_isinstance (by decide +kernel) (pa_cons (pv 8) (pa_cons (Ow.pe_gi (by rfl) (show ∃ u, mg "WatchError" = some u ∧ RelV (.ref a.W_WatchError) u from T.gw_WatchError)) pa_nil))))))))) (pss_one (ps_ret pe_bl))))))))))))), (ss_seq (ss_asg (se_ca hx (sa_cons se_var (sa_cons se_int sa_nil))) sg_name) (ss_seq (ss_asg (se_lc (si_r1 (sa_cons (se_ca hx (sa_cons se_var (sa_cons se_int sa_nil))) sa_nil)) sg_name st_yes (se_ca xok_F (sa_cons se_var sa_nil)) (by decide)) sg_name) (ss_seq (ss_asg (se_cb sl_tuple (sa_cons (se_lc (si_list se_var) sg_name st_yes (se_op s2_ix se_var se_int) (by decide)) sa_nil)) sg_name) (ss_seq (ss_asg (se_join (se_str (by decide +kernel)) (se_lc (si_list se_var) sg_name st_yes (se_op s2_ix se_var se_int) (by decide))) sg_name) (ss_seq (ss_if (st_or (st_test (se_op s2_ne (se_ca hx (sa_cons se_var sa_nil)) se_var)) (st_or (st_test (se_op s2_ne (se_ca hx (sa_cons se_var sa_nil)) se_var)) (st_test (se_op s2_ne (se_ca hx (sa_cons (se_str (by decide +kernel)) sa_nil)) (se_tup sa_nil))))) (ss_ret se_bl) ss_next) (ss_seq (ss_asg (se_ca hx (sa_cons se_var (sa_cons (se_op s2_add (se_cb sl_len (sa_cons se_var sa_nil)) se_int) sa_nil))) sg_name) (ss_seq (ss_asg (se_lc (si_list se_var) sg_name st_yes (se_op s2_ix se_var se_int) (by decide)) sg_name) (ss_seq (ss_asg (se_ca hx (sa_cons se_var (sa_cons (se_op s2_ix (se_op s2_add se_var (se_lst (sa_cons (se_str (by decide +kernel)) sa_nil))) se_var) sa_nil))) sg_name) (ss_seq (ss_asg (se_op s2_add (se_op s2_add (se_sl se_var so_none (so_some se_var)) (se_lst (sa_cons se_var sa_nil))) (se_sl se_var (so_some se_var) so_none)) sg_name) (ss_seq (ss_if (st_and (st_test (se_op s2_eq (se_cb sl_len (sa_cons se_var sa_nil)) se_int)) (st_test (se_op s2_eq se_var (se_str (by decide +kernel))))) (ss_ret se_bl) ss_next) (ss_seq (ss_tryF (fun N' W Wd hW => (ss_drop (se_caS hW (sa_cons (se_join (se_str (by decide +kernel)) se_var) sa_nil)))) (fun N' a0 d dv er => (ss_ret (se_and (se_op s2_eq (se_line er) (se_op s2_add se_var se_int)) (se_isF er T.exc_BadText T.ki_BadText_WatchError)))) T.exm_BadText) (ss_ret se_bl)))))))))))), fun ds S Qd h => (shut_of h).2⟩
end
end Sd

set_option Elab.async false
set_option linter.all false
set_option maxRecDepth 100000
set_option maxHeartbeats 4000000
namespace Sd
open PySem PySem.Spec PyProof.Rows L2 GxR
theorem atO_sup {S : Sto} {a C : Addr} {nm : List Str} {k : List D → Prop} {ds : List D} : atO (sup S a (.ins C nm ds)) a C nm k = k ds := atO_eq sup_same
theorem atL_sup {S : Sto} {a : Addr} {k : List D → Prop} {ds : List D} : atL (sup S a (.lst ds)) a k = k ds := atL_eq sup_same

local macro_rules | `(tactic| walk_at "dr") => `(tactic| try simp only [shut_eq, eVar, eC, sPar2, sPar3, eKIx, eKIn, eKGet2, eEvry, eTupG, iZip3D, dIsB, kLook_c, atI_c0, atI_c1, atI_c2, atI_c3, atI_c4, atI_c5, cut_t1, cut_t2, cut_t3, cut_t4, cut_t5, cut_d1, cut_d2, cut_d3, tk1, tk2, tk5, dp1, dp2,  eSlX, dSlX, eTIx, dTIx, eTupF, isCt, eDPop, dListDK, dSortDI, dSortI, dAny, atO_sup, atL_sup, sup_sup, eSumG, eInt, dSum, dAbs, dPow, dStrN, eDisp, pairsD, iZT, eEvryT, dExtT, dLenS, dMin, dMax, eSplit, eSumV, dNeL_r, eOp, eUn, asB, eAnd, eOr, eNot, eIf, eChain, tV, tAnd', tOr', tNot', aNil, aCons, eTup, eLst, eCB, eDK, eDT, dAdd, dI, dSub, dMod, dDiv, dXor, dShl, dShr, dMul, dCmp, dLe, dLt, dGe, dGt, dEq, dNe, dIn, dIsN, dIx_t, dIx_c, dIx_s, dIx_r, dIx_iD, dNeg, dLen_iD, dLen_s, dLen_t, dLen_c, dLen_r, dList, dTuple, dInt, dIsi, dAll, oNone, oSome, dSl, eSl,
  xName, xNil, xCons, xTup, xSub, sNext, sSeq, sBreak, sCont, sDrop, sRet, sRetN, sIf, sAsg, sAug, sFor, iL, iT, iS, iR1, iR2, iRev1, iRev2, tYes', eLc, eAll, dIAdd, dISub, eBM, eBM0, asRef, eDGet, eDGet1, eDGet2, eDIn, eDNotIn, sDPutD, sDDelD, eCa, eMe, eMa, eFld, sFldD, sFldAugD, setO, dAppend, dPopAt, isBl, isTr, List.length_set, List.lookup, Nat.reduceLT, Nat.reduceLeDiff, Nat.lt_irrefl, Nat.not_lt_zero, Nat.zero_le, Nat.le_refl, Nat.zero_lt_succ, Nat.lt_add_one, sRaise, eJoin, dJoin, br, Int.natCast_nonneg, Int.cast_ofNat_Int, Int.reduceEq, 
  dstart, List.map_cons, List.map_nil, List.length_cons, List.length_nil, List.replicate, List.cons_append, List.nil_append, List.append_nil, List.getElem?_cons_zero, List.getElem?_cons_succ, List.set_cons_zero, List.set_cons_succ, Nat.sub_self, Nat.reduceAdd, Nat.reduceSub, wipeD,
  dat_i, dat_s, dat_b, dat_n, dats_c, dats_e, eqD_ii, eqD_ss, eqD_bb, eqD_nn, eqD_is, eqD_si, isNon, unC_i, unC_s, unC_b, unC_n, unC_t, unC_c, flatD, List.all_cons, List.all_nil, List.any_cons, List.any_nil, decide_true, decide_false, List.mem_cons, tyD, isTy, tyKn, String.reduceBEq, Bool.or_true, Bool.true_or, Bool.or_false, Bool.false_or, Bool.and_true, Bool.true_and, Bool.and_false, Bool.false_and, Bool.or_self, Bool.and_self, true_and, and_true, true_implies, false_implies, forall_const, reduceCtorEq, Bool.true_eq_false, Bool.false_eq_true, if_true, if_false, ite_true, ite_false, Bool.not_true, Bool.not_false, implies_true, eq_self])
local macro_rules | `(tactic| walk_at "drn") => `(tactic| try simp only [shut_eq, eVar, eC, sPar2, sPar3, eKIx, eKIn, eKGet2, eEvry, eTupG, iZip3D, dIsB, kLook_c, atI_c0, atI_c1, atI_c2, atI_c3, atI_c4, atI_c5, cut_t1, cut_t2, cut_t3, cut_t4, cut_t5, cut_d1, cut_d2, cut_d3, tk1, tk2, tk5, dp1, dp2,  eSlX, dSlX, eTIx, dTIx, eTupF, isCt, eDPop, dListDK, dSortDI, dSortI, dAny, atO_sup, atL_sup, sup_sup, eSumG, eInt, dSum, dAbs, dPow, dStrN, eDisp, pairsD, iZT, eEvryT, dExtT, dLenS, dMin, dMax, eSplit, eSumV, dNeL_r, eOp, eUn, asB, eAnd, eOr, eNot, eIf, eChain, tV, tAnd', tOr', tNot', aNil, aCons, eTup, eLst, eCB, eDK, eDT, dAdd, dI, dSub, dMod, dDiv, dXor, dShl, dShr, dMul, dCmp, dLe, dLt, dGe, dGt, dEq, dNe, dIn, dIsN, dIx_t, dIx_c, dIx_s, dIx_r, dIx_iD, dNeg, dLen_iD, dLen_s, dLen_t, dLen_c, dLen_r, dList, dTuple, dInt, dIsi, dAll, oNone, oSome, dSl, eSl,
  xName, xNil, xCons, xTup, xSub, sNext, sSeq, NX_eq, sBreak, sCont, sDrop, sRet, sRetN, sIf, sAsg, sAug, sFor, iL, iT, iS, iR1, iR2, iRev1, iRev2, tYes', eLc, eAll, dIAdd, dISub, eBM, eBM0, asRef, eDGet, eDGet1, eDGet2, eDIn, eDNotIn, sDPutD, sDDelD, eCa, eMe, eMa, eFld, sFldD, sFldAugD, setO, dAppend, dPopAt, isBl, isTr, List.length_set, List.lookup, Nat.reduceLT, Nat.reduceLeDiff, Nat.lt_irrefl, Nat.not_lt_zero, Nat.zero_le, Nat.le_refl, Nat.zero_lt_succ, Nat.lt_add_one, sRaise, eJoin, dJoin, br, Int.natCast_nonneg, Int.cast_ofNat_Int, Int.reduceEq, 
  dstart, List.map_cons, List.map_nil, List.length_cons, List.length_nil, List.replicate, List.cons_append, List.nil_append, List.append_nil, List.getElem?_cons_zero, List.getElem?_cons_succ, List.set_cons_zero, List.set_cons_succ, Nat.sub_self, Nat.reduceAdd, Nat.reduceSub, wipeD,
  dat_i, dat_s, dat_b, dat_n, dats_c, dats_e, eqD_ii, eqD_ss, eqD_bb, eqD_nn, eqD_is, eqD_si, isNon, unC_i, unC_s, unC_b, unC_n, unC_t, unC_c, flatD, List.all_cons, List.all_nil, List.any_cons, List.any_nil, decide_true, decide_false, List.mem_cons, tyD, isTy, tyKn, String.reduceBEq, Bool.or_true, Bool.true_or, Bool.or_false, Bool.false_or, Bool.and_true, Bool.true_and, Bool.and_false, Bool.false_and, Bool.or_self, Bool.and_self, true_and, and_true, true_implies, false_implies, forall_const, reduceCtorEq, Bool.true_eq_false, Bool.false_eq_true, if_true, if_false, ite_true, ite_false, Bool.not_true, Bool.not_false, implies_true, eq_self])

/-! ### texts by their signs -/
abbrev tS (l : List Nat) : Str := SX.S l
def asc (l : List Nat) : Prop := (∀ c ∈ l, c < 128) ∧ l.length ≤ 100000
theorem okT {l : List Nat} (h : asc l) : okS (tS l) := by
  refine ⟨by rw [SX.S_len]; have := h.2; omega, ?_⟩
  show (l.toArray).all (· < 0x110000) = true
  rw [← Array.all_toList, List.all_eq_true]
  intro c hc
  have := h.1 c hc
  exact decide_eq_true (by omega)
theorem asc.sub {l m : List Nat} (h : asc l) (hs : ∀ c ∈ m, c ∈ l) (hl : m.length ≤ l.length) : asc m := ⟨fun c hc => h.1 c (hs c hc), Nat.le_trans hl h.2⟩
theorem asc_nil : asc [] := ⟨fun c hc => (by cases hc), Nat.zero_le _⟩
theorem tS_inj {a b : List Nat} : (tS a = tS b) ↔ a = b := ⟨SX.S_inj, fun h => by rw [h]⟩
theorem tS_dec {a b : List Nat} : decide (tS a = tS b) = decide (a = b) := by
  by_cases h : a = b
  · subst h; simp
  · rw [decide_eq_false h, decide_eq_false (fun e => h (SX.S_inj e))]
theorem tS_len (l : List Nat) : (tS l).length = l.length := SX.S_len l
theorem tS_cps (l : List Nat) : (tS l).cps.toList = l := rfl
theorem signs_tS (l : List Nat) : signs (tS l) = l.map fun c => D.str (tS [c]) := rfl
theorem tS_app (a b : List Nat) : tS a ++ tS b = tS (a ++ b) := SX.S_cat a b
/-! letters, digits, names -/
def ltC (c : Nat) : Bool := decide (97 ≤ c) && decide (c ≤ 122)
def dgC (c : Nat) : Bool := decide (48 ≤ c) && decide (c ≤ 57)
def nameL (l : List Nat) : Bool := decide (1 ≤ l.length) && decide (l.length ≤ 12) && (match l with | c :: _ => ltC c | [] => false) && l.all fun c => ltC c || dgC c
theorem lt1' (a b : Nat) : sLt (tS [a]) (tS [b]) = decide (a < b) := by
  show decide (([a] : List Nat) < [b]) = decide (a < b)
  by_cases h : a < b
  · rw [decide_eq_true h, decide_eq_true]
    exact List.cons_lt_cons_iff.mpr (.inl h)
  · rw [decide_eq_false h, decide_eq_false]
    intro z
    rcases List.cons_lt_cons_iff.mp z with z | ⟨_, z⟩
    · exact h z
    · simp at z
section
variable (A : Ad) {S : Sto} {Q : DK} {Ed : XD}
theorem w__is_letter {c : Nat} : F__is_letter A [.str (tS [c])] S Q Ed = Q (.bl (ltC c)) S := by
  unfold F__is_letter B__is_letter
  walk_at "drn"
  have e1 : sLt (tS [c]) "a" = decide (c < 97) := lt1' c 97
  have e2 : sLt "z" (tS [c]) = decide (122 < c) := lt1' 122 c
  rw [e1, e2]
  have e3 : ltC c = (!decide (c < 97) && !decide (122 < c)) := by
    unfold ltC
    by_cases h1 : c < 97 <;> by_cases h2 : 122 < c <;> simp [h1, h2] <;> omega
  rw [e3]
  cases decide (c < 97) <;> cases decide (122 < c) <;> simp
theorem w__is_digit {c : Nat} : F__is_digit A [.str (tS [c])] S Q Ed = Q (.bl (dgC c)) S := by
  unfold F__is_digit B__is_digit
  walk_at "drn"
  have e1 : sLt (tS [c]) "0" = decide (c < 48) := lt1' c 48
  have e2 : sLt "9" (tS [c]) = decide (57 < c) := lt1' 57 c
  rw [e1, e2]
  have e3 : dgC c = (!decide (c < 48) && !decide (57 < c)) := by
    unfold dgC
    by_cases h1 : c < 48 <;> by_cases h2 : 57 < c <;> simp [h1, h2] <;> omega
  rw [e3]
  cases decide (c < 48) <;> cases decide (57 < c) <;> simp
theorem w_is_name {l : List Nat} (q : Q (.bl (nameL l)) S) : F_is_name A [.str (tS l)] S Q Ed := by
  unfold F_is_name B_is_name
  walk_at "dr"
  rw [tS_len]
  cases l with
  | nil =>
    walk_at "dr"
    exact ⟨fun z => absurd (of_decide_eq_true z) (by decide), fun _ => q⟩
  | cons c l =>
    have e0 : decide (1 ≤ (((c :: l).length : Nat) : Int)) = true := decide_eq_true (by rw [List.length_cons]; omega)
    rw [e0]
    have e1 : decide ((((c :: l).length : Nat) : Int) ≤ 12) = decide ((c :: l).length ≤ 12) := by
      by_cases h : (c :: l).length ≤ 12
      · rw [decide_eq_true h, decide_eq_true (by omega)]
      · rw [decide_eq_false h, decide_eq_false (by omega)]
    rw [e1]
    have q : Q (.bl (decide (1 ≤ (c :: l).length) && decide ((c :: l).length ≤ 12) && ltC c && (c :: l).all fun c => ltC c || dgC c)) S := q
    rw [decide_eq_true (show 1 ≤ (c :: l).length by simp)] at q
    by_cases h : (c :: l).length ≤ 12
    · rw [decide_eq_true h] at q ⊢
      walk_at "dr"
      rw [w__is_letter]
      cases h2 : ltC c
      · rw [h2] at q
        walk_at "dr"
        exact q
      · rw [h2] at q
        walk_at "dr"
        refine nx_go ?_
        walk_at "dr"
        rw [signs_tS]
        refine allD_st (p := fun d => match d with | .str z => ltC (z.cps.toList.headD 0) || dgC (z.cps.toList.headD 0) | _ => false) trivial (fun x hx R hR => ?_) ?_
        · obtain ⟨y, _, rfl⟩ := List.mem_map.mp hx
          walk_at "dr"
          rw [w__is_letter]
          have hR : R (.bl (ltC y || dgC y)) S := hR
          cases h3 : ltC y
          · walk_at "dr"
            rw [w__is_digit]
            rw [h3] at hR
            exact hR
          · walk_at "dr"
            rw [h3] at hR
            exact hR
        · rw [List.all_map]
          exact q
    · rw [decide_eq_false h] at q ⊢
      walk_at "dr"
      exact q
end
/-! numbers in digits -/
def numI (l : List Nat) (m : Nat) : Option Nat := if decide (1 ≤ l.length) && decide (l.length ≤ (TL.numL m).length) && l.all dgC && !(decide (l.headD 0 = 48) && decide (1 < l.length)) && decide (NumText.digitsVal l ≤ m) then some (NumText.digitsVal l) else none
def optD : Option Nat → D
  | some n => .int (n : Nat)
  | none => .non
theorem txtI_nat (n : Nat) : txtI (n : Nat) = tS (TL.numL n) := SX.num_S n
theorem asc_num (n : Nat) (h : n < 10 ^ 20) : asc (TL.numL n) := ⟨fun c hc => by have := TL.numL_digits n c hc; omega, by have := TL.numL_len (k := 20) (by decide) h; omega⟩
theorem log_small {n : Nat} (h : n < 10 ^ 20) : n.log2 < 1920 := by
  by_cases z : n = 0
  · rw [z]; decide
  · exact Nat.lt_of_lt_of_le ((Nat.log2_lt z).mpr (show n < 2 ^ 70 from Nat.lt_trans h (by decide))) (by decide)
section
variable (A : Ad) {S : Sto} {Q : DK} {Ed : XD}
theorem w_number_in {l : List Nat} {m : Nat} (hm : m < 10 ^ 20) (q : Q (optD (numI l m)) S) : F_number_in A [.str (tS l), .int (m : Nat)] S Q Ed := by
  have hlen := TL.numL_len (k := 20) (by decide) hm
  unfold F_number_in B_number_in
  generalize hu : sSeq (sAsg (eCB dIntT _) _) _ = u
  walk_at "dr"
  have en : ((m : Nat) : Int).natAbs = m := rfl
  simp only [dStrU, txtI_nat, tS_len, en]
  have quit : numI l m = none → Q .non S := fun e => by rw [e] at q; exact q
  have lg := log_small hm
  have oks := okT (asc_num m hm)
  by_cases h1 : 1 ≤ l.length
  · rw [decide_eq_true (show (1 : Int) ≤ (l.length : Nat) by omega)]
    walk_at "dr"
    by_cases h2 : l.length ≤ (TL.numL m).length
    · rw [decide_eq_true (show ((l.length : Nat) : Int) ≤ ((tS (TL.numL m)).length : Nat) by rw [tS_len]; omega)]
      refine ⟨lg, oks, ?_⟩
      walk_at "dr"
      rw [signs_tS]
      refine allD_st (p := fun d => match d with | .str z => dgC (z.cps.toList.headD 0) | _ => false) trivial (fun x hx R hR => ?_) ?_
      · obtain ⟨y, _, rfl⟩ := List.mem_map.mp hx
        walk_at "dr"
        rw [w__is_digit]
        exact hR
      rw [List.all_map]
      have ea : l.all ((fun d => match d with | D.str z => dgC (z.cps.toList.headD 0) | _ => false) ∘ fun c => D.str (tS [c])) = l.all dgC := rfl
      rw [ea]
      cases h3 : l.all dgC
      · walk_at "dr"
        exact quit (by unfold numI; simp [h3])
      · walk_at "dr"
        cases l with
        | nil => simp at h1
        | cons c r =>
          have ec : decide ((⟨#[c]⟩ : Str) = "0") = decide (c = 48) := by
            have : ("0" : Str) = tS [48] := by decide +kernel
            rw [this]
            have e2 := tS_dec (a := [c]) (b := [48])
            by_cases z : c = 48
            · subst z; simp
            · rw [decide_eq_false z]
              exact decide_eq_false fun w => z (by have := SX.S_inj (a := [c]) (b := [48]) w; simpa using this)
          refine nx_go ?_
          walk_at "dr"
          rw [ec]
          have tail : ¬ (c = 48 ∧ 1 < (c :: r).length) → NX u { nx := fun _ S' => Q .non S', rt := Q } [some (.str (tS (c :: r))), some (.int (m : Nat)), none, none] S := by
            intro h4
            subst hu
            refine nx_go ?_
            walk_at "dr"
            have hv := SX.int_S (a := c :: r) (by
              rw [List.all_eq_true] at h3 ⊢
              exact h3) (by simp) (by omega)
            refine ⟨_, hv, by rw [tS_len]; omega, nx_go ?_⟩
            walk_at "dr"
            have hn : (!(decide ((c :: r).headD 0 = 48) && decide (1 < (c :: r).length))) = true := by
              show (!(decide (c = 48) && decide (1 < (c :: r).length))) = true
              by_cases z : c = 48
              · by_cases y : 1 < (c :: r).length
                · exact absurd ⟨z, y⟩ h4
                · rw [decide_eq_false y, Bool.and_false]; rfl
              · rw [decide_eq_false z, Bool.false_and]; rfl
            by_cases h5 : NumText.digitsVal (c :: r) ≤ m
            · refine ⟨fun _ => ?_, fun z => absurd (of_decide_eq_false z) (by omega)⟩
              have : numI (c :: r) m = some (NumText.digitsVal (c :: r)) := by
                unfold numI
                rw [decide_eq_true h1, decide_eq_true h2, h3, hn, decide_eq_true h5]
                rfl
              rw [this] at q
              exact q
            · refine ⟨fun z => absurd (of_decide_eq_true z) (by omega), fun _ => ?_⟩
              exact quit (by unfold numI; rw [decide_eq_false h5, Bool.and_false]; rfl)
          refine ⟨fun z => ?_, fun z => tail fun w => (of_decide_eq_false z) w.1⟩
          have z := of_decide_eq_true z
          try rw [tS_len]
          walk_at "dr"
          refine ⟨fun y => ?_, fun y => tail fun w => absurd (of_decide_eq_false y) (by have h5 := w.2; intro z5; exact z5 (by first | exact (Int.ofNat_lt.mpr h5) | (simp only [tS_len]; exact Int.ofNat_lt.mpr h5)))⟩
          have y := of_decide_eq_true y
          refine quit ?_
          unfold numI
          have : (!(decide ((c :: r).headD 0 = 48) && decide (1 < (c :: r).length))) = false := by
            show (!(decide (c = 48) && decide (1 < (c :: r).length))) = false
            rw [decide_eq_true z, decide_eq_true (by first | exact Int.ofNat_lt.mp y | (simp only [tS_len] at y; exact Int.ofNat_lt.mp y))]; rfl
          rw [this, Bool.and_false, Bool.false_and]; rfl
    · rw [decide_eq_false (show ¬ ((l.length : Nat) : Int) ≤ ((tS (TL.numL m)).length : Nat) by rw [tS_len]; omega)]
      refine ⟨lg, oks, ?_⟩
      walk_at "dr"
      exact quit (by unfold numI; rw [decide_eq_false h2, Bool.and_false, Bool.false_and, Bool.false_and, Bool.false_and]; rfl)
  · rw [decide_eq_false (show ¬ (1 : Int) ≤ (l.length : Nat) by omega)]
    walk_at "dr"
    exact quit (by unfold numI; rw [decide_eq_false h1]; simp)
end
theorem numL_pos (n : Nat) : 1 ≤ (TL.numL n).length := List.length_pos_iff.mpr (TL.numL_ne n)
theorem numL_mono : ∀ {m n : Nat}, n ≤ m → (TL.numL n).length ≤ (TL.numL m).length := by
  intro m
  induction m using Nat.strongRecOn with
  | _ m ih =>
    intro n h
    by_cases h1 : n < 10
    · rw [TL.numL_lt h1]
      exact numL_pos m
    · rw [TL.numL_step (n := n) (by omega), TL.numL_step (n := m) (by omega), List.length_append, List.length_append]
      have := ih (m / 10) (by omega) (n := n / 10) (by omega)
      simp only [List.length_cons, List.length_nil]
      omega
theorem numL_head : ∀ n : Nat, 1 ≤ n → (TL.numL n).headD 0 ≠ 48 := by
  intro n
  induction n using Nat.strongRecOn with
  | _ n ih =>
    intro h
    by_cases h1 : n < 10
    · rw [TL.numL_lt h1]
      show 48 + n ≠ 48
      omega
    · rw [TL.numL_step (by omega)]
      have := ih (n / 10) (by omega) (by omega)
      cases e : TL.numL (n / 10) with
      | nil => exact absurd e (TL.numL_ne _)
      | cons c r => rw [e] at this; exact this
theorem numI_num {n m : Nat} (h : n ≤ m) : numI (TL.numL n) m = some n := by
  unfold numI
  have h3 : (TL.numL n).all dgC = true := List.all_eq_true.mpr fun c hc => by
    have := TL.numL_digits n c hc
    unfold dgC
    rw [decide_eq_true this.1, decide_eq_true this.2]; rfl
  have h4 : (!(decide ((TL.numL n).headD 0 = 48) && decide (1 < (TL.numL n).length))) = true := by
    by_cases z : n = 0
    · subst z; decide +kernel
    · rw [decide_eq_false (numL_head n (by omega)), Bool.false_and]; rfl
  rw [decide_eq_true (numL_pos n), decide_eq_true (numL_mono h), h3, h4, TL.numL_val, decide_eq_true h]
  rfl

end Sd

set_option Elab.async false
set_option linter.all false
set_option maxRecDepth 100000
set_option maxHeartbeats 4000000
namespace Sd
open PySem PySem.Spec PyProof.Rows L2 GxR
local macro_rules | `(tactic| walk_at "dr") => `(tactic| try simp only [shut_eq, eVar, eC, sPar2, sPar3, eKIx, eKIn, eKGet2, eEvry, eTupG, iZip3D, dIsB, kLook_c, atI_c0, atI_c1, atI_c2, atI_c3, atI_c4, atI_c5, cut_t1, cut_t2, cut_t3, cut_t4, cut_t5, cut_d1, cut_d2, cut_d3, tk1, tk2, tk5, dp1, dp2,  eSlX, dSlX, eTIx, dTIx, eTupF, isCt, eDPop, dListDK, dSortDI, dSortI, dAny, atO_sup, atL_sup, sup_sup, eSumG, eInt, dSum, dAbs, dPow, dStrN, eDisp, pairsD, iZT, eEvryT, dExtT, dLenS, dMin, dMax, eSplit, eSumV, dNeL_r, eOp, eUn, asB, eAnd, eOr, eNot, eIf, eChain, tV, tAnd', tOr', tNot', aNil, aCons, eTup, eLst, eCB, eDK, eDT, dAdd, dI, dSub, dMod, dDiv, dXor, dShl, dShr, dMul, dCmp, dLe, dLt, dGe, dGt, dEq, dNe, dIn, dIsN, dIx_t, dIx_c, dIx_s, dIx_r, dIx_iD, dNeg, dLen_iD, dLen_s, dLen_t, dLen_c, dLen_r, dList, dTuple, dInt, dIsi, dAll, oNone, oSome, dSl, eSl,
  xName, xNil, xCons, xTup, xSub, sNext, sSeq, sBreak, sCont, sDrop, sRet, sRetN, sIf, sAsg, sAug, sFor, iL, iT, iS, iR1, iR2, iRev1, iRev2, tYes', eLc, eAll, dIAdd, dISub, eBM, eBM0, asRef, eDGet, eDGet1, eDGet2, eDIn, eDNotIn, sDPutD, sDDelD, eCa, eMe, eMa, eFld, sFldD, sFldAugD, setO, dAppend, dPopAt, isBl, isTr, List.length_set, List.lookup, Nat.reduceLT, Nat.reduceLeDiff, Nat.lt_irrefl, Nat.not_lt_zero, Nat.zero_le, Nat.le_refl, Nat.zero_lt_succ, Nat.lt_add_one, sRaise, eJoin, dJoin, br, Int.natCast_nonneg, Int.cast_ofNat_Int, Int.reduceEq, 
  dstart, List.map_cons, List.map_nil, List.length_cons, List.length_nil, List.replicate, List.cons_append, List.nil_append, List.append_nil, List.getElem?_cons_zero, List.getElem?_cons_succ, List.set_cons_zero, List.set_cons_succ, Nat.sub_self, Nat.reduceAdd, Nat.reduceSub, wipeD,
  dat_i, dat_s, dat_b, dat_n, dats_c, dats_e, eqD_ii, eqD_ss, eqD_bb, eqD_nn, eqD_is, eqD_si, isNon, unC_i, unC_s, unC_b, unC_n, unC_t, unC_c, flatD, List.all_cons, List.all_nil, List.any_cons, List.any_nil, decide_true, decide_false, List.mem_cons, tyD, isTy, tyKn, String.reduceBEq, Bool.or_true, Bool.true_or, Bool.or_false, Bool.false_or, Bool.and_true, Bool.true_and, Bool.and_false, Bool.false_and, Bool.or_self, Bool.and_self, true_and, and_true, true_implies, false_implies, forall_const, reduceCtorEq, Bool.true_eq_false, Bool.false_eq_true, if_true, if_false, ite_true, ite_false, Bool.not_true, Bool.not_false, implies_true, eq_self])
local macro_rules | `(tactic| walk_at "drn") => `(tactic| try simp only [shut_eq, eVar, eC, sPar2, sPar3, eKIx, eKIn, eKGet2, eEvry, eTupG, iZip3D, dIsB, kLook_c, atI_c0, atI_c1, atI_c2, atI_c3, atI_c4, atI_c5, cut_t1, cut_t2, cut_t3, cut_t4, cut_t5, cut_d1, cut_d2, cut_d3, tk1, tk2, tk5, dp1, dp2,  eSlX, dSlX, eTIx, dTIx, eTupF, isCt, eDPop, dListDK, dSortDI, dSortI, dAny, atO_sup, atL_sup, sup_sup, eSumG, eInt, dSum, dAbs, dPow, dStrN, eDisp, pairsD, iZT, eEvryT, dExtT, dLenS, dMin, dMax, eSplit, eSumV, dNeL_r, eOp, eUn, asB, eAnd, eOr, eNot, eIf, eChain, tV, tAnd', tOr', tNot', aNil, aCons, eTup, eLst, eCB, eDK, eDT, dAdd, dI, dSub, dMod, dDiv, dXor, dShl, dShr, dMul, dCmp, dLe, dLt, dGe, dGt, dEq, dNe, dIn, dIsN, dIx_t, dIx_c, dIx_s, dIx_r, dIx_iD, dNeg, dLen_iD, dLen_s, dLen_t, dLen_c, dLen_r, dList, dTuple, dInt, dIsi, dAll, oNone, oSome, dSl, eSl,
  xName, xNil, xCons, xTup, xSub, sNext, sSeq, NX_eq, sBreak, sCont, sDrop, sRet, sRetN, sIf, sAsg, sAug, sFor, iL, iT, iS, iR1, iR2, iRev1, iRev2, tYes', eLc, eAll, dIAdd, dISub, eBM, eBM0, asRef, eDGet, eDGet1, eDGet2, eDIn, eDNotIn, sDPutD, sDDelD, eCa, eMe, eMa, eFld, sFldD, sFldAugD, setO, dAppend, dPopAt, isBl, isTr, List.length_set, List.lookup, Nat.reduceLT, Nat.reduceLeDiff, Nat.lt_irrefl, Nat.not_lt_zero, Nat.zero_le, Nat.le_refl, Nat.zero_lt_succ, Nat.lt_add_one, sRaise, eJoin, dJoin, br, Int.natCast_nonneg, Int.cast_ofNat_Int, Int.reduceEq, 
  dstart, List.map_cons, List.map_nil, List.length_cons, List.length_nil, List.replicate, List.cons_append, List.nil_append, List.append_nil, List.getElem?_cons_zero, List.getElem?_cons_succ, List.set_cons_zero, List.set_cons_succ, Nat.sub_self, Nat.reduceAdd, Nat.reduceSub, wipeD,
  dat_i, dat_s, dat_b, dat_n, dats_c, dats_e, eqD_ii, eqD_ss, eqD_bb, eqD_nn, eqD_is, eqD_si, isNon, unC_i, unC_s, unC_b, unC_n, unC_t, unC_c, flatD, List.all_cons, List.all_nil, List.any_cons, List.any_nil, decide_true, decide_false, List.mem_cons, tyD, isTy, tyKn, String.reduceBEq, Bool.or_true, Bool.true_or, Bool.or_false, Bool.false_or, Bool.and_true, Bool.true_and, Bool.and_false, Bool.false_and, Bool.or_self, Bool.and_self, true_and, and_true, true_implies, false_implies, forall_const, reduceCtorEq, Bool.true_eq_false, Bool.false_eq_true, if_true, if_false, ite_true, ite_false, Bool.not_true, Bool.not_false, implies_true, eq_self])

/-! ### lines: the label, the code, the words -/
theorem spl_sub : ∀ (l acc : List Nat), ∀ p ∈ TL.spl [32] 0 acc l, (∀ c ∈ p, c ∈ acc ∨ c ∈ l) ∧ p.length ≤ acc.length + l.length
  | [], acc, p, hp => by
    rw [TL.spl_nil] at hp
    rw [List.mem_singleton.mp hp]
    exact ⟨fun c hc => .inl hc, by simp⟩
  | x :: r, acc, p, hp => by
    cases h : TL.pre [32] (x :: r) with
    | true =>
      rw [TL.spl_hit h] at hp
      rcases List.mem_cons.mp hp with rfl | hp
      · exact ⟨fun c hc => .inl hc, by simp⟩
      · obtain ⟨h1, h2⟩ := spl_sub r [] p hp
        exact ⟨fun c hc => .inr (List.mem_cons_of_mem _ ((h1 c hc).resolve_left (by simp))), by simp at h2 ⊢; omega⟩
    | false =>
      rw [TL.spl_miss h] at hp
      obtain ⟨h1, h2⟩ := spl_sub r (acc ++ [x]) p hp
      refine ⟨fun c hc => ?_, by simp at h2 ⊢; omega⟩
      rcases h1 c hc with h | h
      · rcases List.mem_append.mp h with h | h
        · exact .inl h
        · exact .inr (by rw [List.mem_singleton.mp h]; exact List.mem_cons_self)
      · exact .inr (List.mem_cons_of_mem _ h)
theorem spl_count : ∀ (l acc : List Nat), (TL.spl [32] 0 acc l).length ≤ l.length + 1
  | [], acc => by rw [TL.spl_nil]; simp
  | x :: r, acc => by
    cases h : TL.pre [32] (x :: r) with
    | true => rw [TL.spl_hit h]; have := spl_count r []; simp at this ⊢; omega
    | false => rw [TL.spl_miss h]; have := spl_count r (acc ++ [x]); simp at this ⊢; omega
theorem s_space : (" " : Str) = tS [32] := by decide +kernel
theorem s_empty : ("" : Str) = tS [] := by decide +kernel
theorem s_line : ("\n" : Str) = tS [10] := by decide +kernel
section
variable (A : Ad) {S : Sto} {Q : DK} {Ed : XD}
theorem d_split {c : Nat} {l : List Nat} {Q : DK} (hc : c < 128) (ha : ∀ p ∈ TL.spl [c] 0 [] l, asc p) (h : asc l) (q : ∀ p, S p = none → Q (.ref p) (sup S p (.lst ((TL.spl [c] 0 [] l).map fun w => .str (tS w))))) : dSplitV (tS l) (tS [c]) S Q := by
  unfold dSplitV
  have es : Txt.split (tS l) (tS [c]) = (TL.spl [c] 0 [] l).map tS := SX.split_S (by simp) (by simp; omega)
  rw [es]
  refine ⟨rfl, by rw [tS_len]; have := h.2; omega, fun z hz => ?_, fun p hp => ?_⟩
  · obtain ⟨w, hw, rfl⟩ := List.mem_map.mp hz
    exact okT (ha w hw)
  · rw [List.map_map]
    exact q p hp
end

/-! ### the operands of a line -/
theorem lcD_out {ok : Sto → Prop} {g : DG} {te : DE} {δ : DV} {S : Sto} {Q : List D → Sto → Prop} {items out : List D} (hok : ok S) (he : out.length = items.length) (h : ∀ (k : Nat) x y, items[k]? = some x → out[k]? = some y → ∀ R : DK, R y S → g x δ S fun δ2 S2 => te δ2 S2 R) (hl : items.length ≤ 1000000) (q : Q out S) : lcD ok g tYes' te δ items [] S Q := by
  refine lcD_acc (J := fun acc S' => S' = S ∧ acc = out.take acc.length) (fun acc x hx S1 hJ => ?_) (fun acc S1 _ hJ => by rw [hJ.1]; exact hok) (fun ys S1 hy hJ => ?_) hl ⟨rfl, by simp⟩
  · obtain ⟨rfl, ha⟩ := hJ
    refine ⟨hok, fun R hR => ?_⟩
    have hlt : acc.length < items.length := (List.getElem?_eq_some_iff.mp hx).1
    have hy := List.getElem?_eq_getElem (l := out) (i := acc.length) (by omega)
    refine h acc.length x _ hx hy R (hR _ _ ⟨rfl, ?_⟩)
    rw [List.length_append, List.length_singleton, List.take_succ, hy, ← ha]
    rfl
  · obtain ⟨rfl, ha⟩ := hJ
    rw [ha, hy, ← he, List.take_length]
    exact q
section
variable (A : Ad) {S : Sto} {Q : DK} {Ed : XD}
end

/-! ### the print of a program -/
theorem joinL_len (s : List Nat) : ∀ l : List (List Nat), (TL.joinL s l).length ≤ (l.map fun w => w.length + s.length).sum
  | [] => by simp [TL.joinL]
  | [a] => by simp [TL.joinL]
  | a :: b :: r => by
    have := joinL_len s (b :: r)
    rw [TL.joinL]
    simp only [List.length_append, List.map_cons, List.sum_cons] at this ⊢
    omega
theorem joinL_mem (s : List Nat) : ∀ l : List (List Nat), ∀ c ∈ TL.joinL s l, c ∈ s ∨ ∃ w ∈ l, c ∈ w
  | [], c, h => by simp [TL.joinL] at h
  | [a], c, h => by simp only [TL.joinL] at h; exact .inr ⟨a, List.mem_singleton_self a, h⟩
  | a :: b :: r, c, h => by
    rw [TL.joinL] at h
    simp only [List.mem_append] at h
    rcases h with h | h | h
    · exact .inr ⟨a, List.mem_cons_self, h⟩
    · exact .inl h
    · rcases joinL_mem s (b :: r) c h with h | ⟨w, hw, h⟩
      · exact .inl h
      · exact .inr ⟨w, List.mem_cons_of_mem _ hw, h⟩
theorem sum_le {α : Type} (f : α → Nat) (B : Nat) : ∀ l : List α, (∀ x ∈ l, f x ≤ B) → (l.map f).sum ≤ l.length * B
  | [], _ => by simp
  | a :: r, h => by
    have := sum_le f B r fun x hx => h x (List.mem_cons_of_mem _ hx)
    have := h a List.mem_cons_self
    rw [List.map_cons, List.sum_cons, List.length_cons, Nat.succ_mul]
    omega
section
variable (A : Ad) {S : Sto} {Q : DK} {Ed : XD}
end

/-! ### acts, their words, a line that is read -/
def cntTab : List (List Nat × Nat) := [([112, 117, 116, 115], 2), ([97, 115, 107, 115], 0), ([108, 105, 101, 115], 3), ([102, 111, 114, 103, 101, 115], 2), ([99, 117, 116, 115], 0), ([112, 97, 112, 101, 114, 115], 0), ([103, 97, 116, 104, 101, 114, 115], 0)]
def cntL (w : List Nat) : Option Nat := (cntTab.find? fun p => decide (p.1 = w)).map (·.2)
def sentTab : List (List Nat × List Nat) := [([112, 117, 116, 115], [112, 117, 116]), ([97, 115, 107, 115], [97, 115, 107])]
def sentL (w : List Nat) : Option (List Nat) := (sentTab.find? fun p => decide (p.1 = w)).map (·.2)
def doneTab : List (List Nat × List Nat) := [([108, 105, 101, 115], [108, 105, 101]), ([102, 111, 114, 103, 101, 115], [102, 111, 114, 103, 101]), ([99, 117, 116, 115], [99, 117, 116]), ([112, 97, 112, 101, 114, 115], [112, 97, 112, 101, 114]), ([103, 97, 116, 104, 101, 114, 115], [103, 97, 116, 104, 101, 114])]
def doneL (w : List Nat) : Option (List Nat) := (doneTab.find? fun p => decide (p.1 = w)).map (·.2)
theorem tb_by : ∀ t1 t2 : KTb, t1.map (·.1.cps.toList) = t2.map (·.1.cps.toList) → t1.map (·.2) = t2.map (·.2) → t1 = t2 := by
  intro t1
  induction t1 with
  | nil => intro t2 h1 _; cases t2 with | nil => rfl | cons _ _ => simp at h1
  | cons p r ih =>
    intro t2 h1 h2
    cases t2 with
    | nil => simp at h1
    | cons q s =>
      simp only [List.map_cons, List.cons.injEq] at h1 h2
      rw [ih s h1.2 h2.2, show p = q from Prod.ext (TL.ext_tl h1.1) h2.1]
theorem kLook_g {α : Type} (f : α → D) (n : List Nat) : ∀ t : List (List Nat × α), kLook (t.map fun p => (tS p.1, some (f p.2))) (tS n) = (t.find? fun p => decide (p.1 = n)).map fun p => some (f p.2)
  | [] => rfl
  | p :: r => by
    rw [List.map_cons, kLook_c, List.find?_cons]
    dsimp only
    rw [tS_dec]
    cases decide (p.1 = n)
    · exact kLook_g f n r
    · rfl
theorem cnt_eq (A : Ad) : tb__COUNTS A = cntTab.map fun p => (tS p.1, some (D.int (p.2 : Nat))) := by
  refine tb_by _ _ ?_ rfl
  unfold tb__COUNTS
  decide +kernel
theorem sent_eq (A : Ad) : tb__SENT A = sentTab.map fun p => (tS p.1, some (D.str (tS p.2))) := by
  refine tb_by _ _ ?_ rfl
  unfold tb__SENT
  decide +kernel
theorem done_eq (A : Ad) : tb__DONE A = doneTab.map fun p => (tS p.1, some (D.str (tS p.2))) := by
  refine tb_by _ _ ?_ rfl
  unfold tb__DONE
  decide +kernel
theorem look_cnt (A : Ad) (w : List Nat) : kLook (tb__COUNTS A) (tS w) = (cntL w).map fun n => some (D.int (n : Nat)) := by
  rw [cnt_eq, kLook_g (fun n : Nat => D.int (n : Nat))]
  unfold cntL
  rw [Option.map_map]
  rfl
theorem look_sent (A : Ad) (w : List Nat) : kLook (tb__SENT A) (tS w) = (sentL w).map fun n => some (D.str (tS n)) := by
  rw [sent_eq, kLook_g (fun n : List Nat => D.str (tS n))]
  unfold sentL
  rw [Option.map_map]
  rfl
theorem look_done (A : Ad) (w : List Nat) : kLook (tb__DONE A) (tS w) = (doneL w).map fun n => some (D.str (tS n)) := by
  rw [done_eq, kLook_g (fun n : List Nat => D.str (tS n))]
  unfold doneL
  rw [Option.map_map]
  rfl
theorem get_of {tb : KTb} {z : Str} {α : Type} {o : Option α} {f : α → D} (h : kLook tb z = o.map fun n => some (f n)) : kGet tb z = o.map f := by
  unfold kGet
  rw [h]
  cases o <;> rfl

end Sd

set_option Elab.async false
set_option linter.all false
set_option maxRecDepth 100000
set_option maxHeartbeats 4000000
namespace Sd
open PySem PySem.Spec PyProof.Rows L2 GxR
local macro_rules | `(tactic| walk_at "dr") => `(tactic| try simp only [shut_eq, eVar, eC, sPar2, sPar3, eKIx, eKIn, eKGet2, eEvry, eTupG, iZip3D, dIsB, kLook_c, atI_c0, atI_c1, atI_c2, atI_c3, atI_c4, atI_c5, cut_t1, cut_t2, cut_t3, cut_t4, cut_t5, cut_d1, cut_d2, cut_d3, tk1, tk2, tk5, dp1, dp2,  eSlX, dSlX, eTIx, dTIx, eTupF, isCt, eDPop, dListDK, dSortDI, dSortI, dAny, atO_sup, atL_sup, sup_sup, eSumG, eInt, dSum, dAbs, dPow, dStrN, eDisp, pairsD, iZT, eEvryT, dExtT, dLenS, dMin, dMax, eSplit, eSumV, dNeL_r, eOp, eUn, asB, eAnd, eOr, eNot, eIf, eChain, tV, tAnd', tOr', tNot', aNil, aCons, eTup, eLst, eCB, eDK, eDT, dAdd, dI, dSub, dMod, dDiv, dXor, dShl, dShr, dMul, dCmp, dLe, dLt, dGe, dGt, dEq, dNe, dIn, dIsN, dIx_t, dIx_c, dIx_s, dIx_r, dIx_iD, dNeg, dLen_iD, dLen_s, dLen_t, dLen_c, dLen_r, dList, dTuple, dInt, dIsi, dAll, oNone, oSome, dSl, eSl,
  xName, xNil, xCons, xTup, xSub, sNext, sSeq, sBreak, sCont, sDrop, sRet, sRetN, sIf, sAsg, sAug, sFor, iL, iT, iS, iR1, iR2, iRev1, iRev2, tYes', eLc, eAll, dIAdd, dISub, eBM, eBM0, asRef, eDGet, eDGet1, eDGet2, eDIn, eDNotIn, sDPutD, sDDelD, eCa, eMe, eMa, eFld, sFldD, sFldAugD, setO, dAppend, dPopAt, isBl, isTr, List.length_set, List.lookup, Nat.reduceLT, Nat.reduceLeDiff, Nat.lt_irrefl, Nat.not_lt_zero, Nat.zero_le, Nat.le_refl, Nat.zero_lt_succ, Nat.lt_add_one, sRaise, eJoin, dJoin, br, Int.natCast_nonneg, Int.cast_ofNat_Int, Int.reduceEq, 
  dstart, List.map_cons, List.map_nil, List.length_cons, List.length_nil, List.replicate, List.cons_append, List.nil_append, List.append_nil, List.getElem?_cons_zero, List.getElem?_cons_succ, List.set_cons_zero, List.set_cons_succ, Nat.sub_self, Nat.reduceAdd, Nat.reduceSub, wipeD,
  dat_i, dat_s, dat_b, dat_n, dats_c, dats_e, eqD_ii, eqD_ss, eqD_bb, eqD_nn, eqD_is, eqD_si, isNon, unC_i, unC_s, unC_b, unC_n, unC_t, unC_c, flatD, List.all_cons, List.all_nil, List.any_cons, List.any_nil, decide_true, decide_false, List.mem_cons, tyD, isTy, tyKn, String.reduceBEq, Bool.or_true, Bool.true_or, Bool.or_false, Bool.false_or, Bool.and_true, Bool.true_and, Bool.and_false, Bool.false_and, Bool.or_self, Bool.and_self, true_and, and_true, true_implies, false_implies, forall_const, reduceCtorEq, Bool.true_eq_false, Bool.false_eq_true, if_true, if_false, ite_true, ite_false, Bool.not_true, Bool.not_false, implies_true, eq_self])
local macro_rules | `(tactic| walk_at "drn") => `(tactic| try simp only [shut_eq, eVar, eC, sPar2, sPar3, eKIx, eKIn, eKGet2, eEvry, eTupG, iZip3D, dIsB, kLook_c, atI_c0, atI_c1, atI_c2, atI_c3, atI_c4, atI_c5, cut_t1, cut_t2, cut_t3, cut_t4, cut_t5, cut_d1, cut_d2, cut_d3, tk1, tk2, tk5, dp1, dp2,  eSlX, dSlX, eTIx, dTIx, eTupF, isCt, eDPop, dListDK, dSortDI, dSortI, dAny, atO_sup, atL_sup, sup_sup, eSumG, eInt, dSum, dAbs, dPow, dStrN, eDisp, pairsD, iZT, eEvryT, dExtT, dLenS, dMin, dMax, eSplit, eSumV, dNeL_r, eOp, eUn, asB, eAnd, eOr, eNot, eIf, eChain, tV, tAnd', tOr', tNot', aNil, aCons, eTup, eLst, eCB, eDK, eDT, dAdd, dI, dSub, dMod, dDiv, dXor, dShl, dShr, dMul, dCmp, dLe, dLt, dGe, dGt, dEq, dNe, dIn, dIsN, dIx_t, dIx_c, dIx_s, dIx_r, dIx_iD, dNeg, dLen_iD, dLen_s, dLen_t, dLen_c, dLen_r, dList, dTuple, dInt, dIsi, dAll, oNone, oSome, dSl, eSl,
  xName, xNil, xCons, xTup, xSub, sNext, sSeq, NX_eq, sBreak, sCont, sDrop, sRet, sRetN, sIf, sAsg, sAug, sFor, iL, iT, iS, iR1, iR2, iRev1, iRev2, tYes', eLc, eAll, dIAdd, dISub, eBM, eBM0, asRef, eDGet, eDGet1, eDGet2, eDIn, eDNotIn, sDPutD, sDDelD, eCa, eMe, eMa, eFld, sFldD, sFldAugD, setO, dAppend, dPopAt, isBl, isTr, List.length_set, List.lookup, Nat.reduceLT, Nat.reduceLeDiff, Nat.lt_irrefl, Nat.not_lt_zero, Nat.zero_le, Nat.le_refl, Nat.zero_lt_succ, Nat.lt_add_one, sRaise, eJoin, dJoin, br, Int.natCast_nonneg, Int.cast_ofNat_Int, Int.reduceEq, 
  dstart, List.map_cons, List.map_nil, List.length_cons, List.length_nil, List.replicate, List.cons_append, List.nil_append, List.append_nil, List.getElem?_cons_zero, List.getElem?_cons_succ, List.set_cons_zero, List.set_cons_succ, Nat.sub_self, Nat.reduceAdd, Nat.reduceSub, wipeD,
  dat_i, dat_s, dat_b, dat_n, dats_c, dats_e, eqD_ii, eqD_ss, eqD_bb, eqD_nn, eqD_is, eqD_si, isNon, unC_i, unC_s, unC_b, unC_n, unC_t, unC_c, flatD, List.all_cons, List.all_nil, List.any_cons, List.any_nil, decide_true, decide_false, List.mem_cons, tyD, isTy, tyKn, String.reduceBEq, Bool.or_true, Bool.true_or, Bool.or_false, Bool.false_or, Bool.and_true, Bool.true_and, Bool.and_false, Bool.false_and, Bool.or_self, Bool.and_self, true_and, and_true, true_implies, false_implies, forall_const, reduceCtorEq, Bool.true_eq_false, Bool.false_eq_true, if_true, if_false, ite_true, ite_false, Bool.not_true, Bool.not_false, implies_true, eq_self])

inductive Act where | send (y v : List Nat) (ns : List Nat) | done (v y : List Nat) (ns : List Nat) | block (ns : List Nat) | back (n : Nat)
def nsD (ns : List Nat) : List D := ns.map fun n => D.int (n : Nat)
def actD : Act → D
  | .send y v ns => .tup [.str "send", .str (tS y), .tup (.str (tS v) :: nsD ns)]
  | .done v y ns => .tup (.str (tS v) :: .str (tS y) :: nsD ns)
  | .block ns => .tup [.str "block", .tup (nsD ns)]
  | .back n => .tup [.str "back", .int (n : Nat)]
def optA : Option Act → D | some a => actD a | none => .non
def actP (y verb : List Nat) (ns : List Nat) : Option Act := if nameL y = true ∧ cntL verb = some ns.length then (match sentL verb with | some v => some (.send y v ns) | none => (doneL verb).map fun v => .done v y ns) else none
theorem cnt_cases {w : List Nat} {n : Nat} (h : cntL w = some n) : (sentL w).isSome = true ∨ (sentL w = none ∧ (doneL w).isSome = true) := by
  unfold cntL at h
  cases e : cntTab.find? fun p => decide (p.1 = w) with
  | none => rw [e] at h; cases h
  | some p =>
    have hm := List.mem_of_find?_eq_some e
    have hn : p.1 = w := of_decide_eq_true (List.find?_some (p := fun p : List Nat × Nat => decide (p.1 = w)) e)
    subst hn
    have all : ∀ p ∈ cntTab, (sentL p.1).isSome = true ∨ (sentL p.1 = none ∧ (doneL p.1).isSome = true) := by decide +kernel
    exact all p hm
section
variable (A : Ad) {S : Sto} {Q : DK} {Ed : XD}
theorem w__act_of_player {y verb : List Nat} {ns : List Nat} {p : Addr} (hp : S p = some (.lst (nsD ns))) (hc : (cntL verb).isSome = true) (hl : ns.length ≤ 1000) (q : Q (optA (actP y verb ns)) S) : F__act_of_player A [.str (tS y), .str (tS verb), .ref p] S Q Ed := by
  obtain ⟨n, hn⟩ := Option.isSome_iff_exists.mp hc
  unfold actP at q
  unfold F__act_of_player B__act_of_player
  generalize hu : sSeq (sIf (tV _) _ _) _ = u
  walk_at "dr"
  refine w_is_name A ?_
  cases h1 : nameL y with
  | false =>
    rw [h1] at q
    walk_at "dr"
    exact q
  | true =>
    walk_at "dr"
    rw [atL_eq hp, look_cnt, hn]
    simp only [Option.map_some]
    have e1 : (nsD ns).length = ns.length := List.length_map ..
    rw [e1]
    by_cases h2 : ns.length = n
    · have q : Q (optA (match sentL verb with | some v => some (.send y v ns) | none => (doneL verb).map fun v => .done v y ns)) S := by
        rw [if_pos ⟨h1, by rw [hn, h2]⟩] at q
        exact q
      walk_at "dr"
      rw [decide_eq_true (show ((ns.length : Nat) : Int) = (n : Nat) by omega)]
      refine ⟨fun z => (by cases z), fun _ => ?_⟩
      subst hu
      refine nx_go ?_
      walk_at "dr"
      unfold eKInA
      walk_at "dr"
      rw [get_of (look_sent A verb)]
      rcases cnt_cases hn with hs | ⟨hs, hd⟩
      · obtain ⟨v, hv⟩ := Option.isSome_iff_exists.mp hs
        rw [hv] at q
        rw [hv, look_sent, hv]
        refine ⟨fun _ => ?_, fun z => (by cases z)⟩
        simp only [Option.map_some]
        unfold aStar
        walk_at "dr"
        rw [atL_eq hp]
        exact ⟨by rw [e1]; omega, q⟩
      · obtain ⟨v, hv⟩ := Option.isSome_iff_exists.mp hd
        rw [hs, hv] at q
        rw [hs]
        refine ⟨fun z => (by cases z), fun _ => nx_go ?_⟩
        walk_at "dr"
        rw [look_done, hv]
        simp only [Option.map_some]
        unfold aStar
        walk_at "dr"
        rw [atL_eq hp]
        first | exact ⟨by rw [e1]; omega, by rw [e1]; omega, q⟩ | exact ⟨by rw [e1]; omega, q⟩ | exact ⟨by rw [e1]; omega, by simp [e1]; omega, q⟩
    · rw [if_neg (fun z => h2 (by rw [hn] at z; have := z.2; simp at this; omega))] at q
      walk_at "dr"
      rw [decide_eq_false (show ¬ ((ns.length : Nat) : Int) = (n : Nat) by omega)]
      exact ⟨fun _ => q, fun z => (by cases z)⟩
end
def allN : List (Option Nat) → Option (List Nat)
  | [] => some []
  | some n :: r => (allN r).map (n :: ·)
  | none :: _ => none
theorem allN_none {l : List (Option Nat)} : allN l = none ↔ none ∈ l := by
  induction l with
  | nil => simp [allN]
  | cons o r ih =>
    cases o with
    | none => simp [allN]
    | some n => simp [allN, ih]
theorem allN_some {l : List (Option Nat)} {ns : List Nat} (h : allN l = some ns) : l = ns.map some := by
  induction l generalizing ns with
  | nil => cases h; rfl
  | cons o r ih =>
    cases o with
    | none => cases h
    | some n =>
      cases e : allN r with
      | none => rw [allN, e] at h; cases h
      | some ms =>
        rw [allN, e] at h
        cases h
        rw [ih e]
        rfl
def playL (ws : List (List Nat)) : Bool := decide (1 < ws.length) && (cntL (ws.getD 1 [])).isSome
def numsL (ws : List (List Nat)) : List (Option Nat) := (ws.drop (if playL ws then 2 else 1)).map fun w => numI w 281474976710656
def rdL (ws : List (List Nat)) : Option Act := match allN (numsL ws) with
  | none => none
  | some ns => if playL ws = true then actP (ws.getD 0 []) (ws.getD 1 []) ns else if ws.getD 0 [] = [98, 108, 111, 99, 107] then some (.block ns) else if ws.getD 0 [] = [98, 97, 99, 107] ∧ ns.length = 1 then some (.back (ns.getD 0 0)) else none
theorem spl32_ne : ∀ (l acc : List Nat), TL.spl [32] 0 acc l ≠ []
  | [], acc => by rw [TL.spl_nil]; simp
  | x :: r, acc => by
    cases h : TL.pre [32] (x :: r) with
    | true => rw [TL.spl_hit h]; simp
    | false => rw [TL.spl_miss h]; exact spl32_ne r _
theorem atI_ws {ws : List (List Nat)} {i : Nat} (h : i < ws.length) : atI (ws.map fun w => D.str (tS w)) ((i : Nat) : Int) = some (.str (tS (ws.getD i []))) := by
  refine atI_nat ?_
  rw [List.getElem?_map, List.getElem?_eq_getElem h, List.getD_eq_getElem?_getD, List.getElem?_eq_getElem h]
  rfl
theorem optD_non {o : Option Nat} : eqD (optD o) .non = o.isNone := by cases o <;> rfl
theorem s_block : ("block" : Str) = tS [98, 108, 111, 99, 107] := by decide +kernel
theorem s_back : ("back" : Str) = tS [98, 97, 99, 107] := by decide +kernel
section
variable (A : Ad) {S : Sto} {Q : DK} {Ed : XD}
theorem w__read_line {l : List Nat} (h : asc l) (hl : l.length ≤ 1000) (q : ∀ S', Se S S' → Q (optA (rdL (TL.spl [32] 0 [] l))) S') : F__read_line A [.str (tS l)] S Q Ed := by
  have hcnt := spl_count l []
  have hne : TL.spl [32] 0 [] l ≠ [] := spl32_ne l []
  unfold F__read_line B__read_line
  walk_at "dr"
  unfold dM1
  walk_at "dr"
  refine ⟨⟨_, rfl⟩, ?_⟩
  rw [s_space]
  refine d_split (by decide) (fun p hp => ?_) h fun p1 hp1 => ?_
  · obtain ⟨h1, h2⟩ := spl_sub l [] p hp
    exact h.sub (fun c hc => (h1 c hc).resolve_left (by simp)) (by simpa using h2)
  generalize TL.spl [32] 0 [] l = ws at q hcnt hne ⊢
  have hws : ws.length ≤ 1001 := by omega
  have hpos : 0 < ws.length := List.length_pos_iff.mpr hne
  have h1 : (sup S p1 (.lst (ws.map fun w => .str (tS w)))) p1 = some (.lst (ws.map fun w => .str (tS w))) := sup_same
  have se1 := Se.one (o := .lst (ws.map fun w => .str (tS w))) hp1
  generalize sup S p1 (.lst (ws.map fun w => .str (tS w))) = S1 at h1 se1 ⊢
  refine nx_go ?_
  generalize hu : sSeq (sAsg (eLc _ _ _ _ _) _) _ = u
  walk_at "dr"
  rw [atL_eq h1, List.length_map]
  have next : NX u { nx := fun _ S' => Q .non S', rt := Q } [some (.str (tS l)), some (.ref p1), some (.bl (playL ws)), none, none] S1 := by
    subst hu
    refine nx_go ?_
    generalize hu2 : sSeq (sIf (tV (eOp (dIn false) _ _)) _ _) _ = u2
    walk_at "dr"
    have fin : ∀ S3 p3, Se S S3 → S3 p1 = some (.lst (ws.map fun w => .str (tS w))) → S3 p3 = some (.lst ((numsL ws).map optD)) → NX u2 { nx := fun _ S' => Q .non S', rt := Q } [some (.str (tS l)), some (.ref p1), some (.bl (playL ws)), some (.ref p3), none] S3 := by
      intro S3 p3 se3 h13 h33
      have q := q S3 se3
      unfold rdL at q
      have hnl : (numsL ws).length ≤ 1001 := by unfold numsL; rw [List.length_map, List.length_drop]; omega
      subst hu2
      refine nx_go ?_
      generalize hu3 : sSeq (sIf (tV (eVar 2)) _ _) _ = u3
      walk_at "dr"
      rw [atL_eq h33]
      have eany : (((numsL ws).map optD).any fun z => eqD z .non) = (numsL ws).any (·.isNone) := by
        rw [List.any_map]
        congr 1
        funext o
        exact optD_non
      have edat : dats 60 ((numsL ws).map optD) = true := by
        generalize numsL ws = os
        induction os with
        | nil => exact dats_e
        | cons o os ih => rw [List.map_cons, dats_c, ih]; cases o <;> rfl
      refine ⟨edat, ?_⟩
      rw [eany]
      cases hn : allN (numsL ws) with
      | none =>
        rw [hn] at q
        have : (numsL ws).any (·.isNone) = true := List.any_eq_true.mpr ⟨none, allN_none.mp hn, rfl⟩
        rw [this]
        exact ⟨fun _ => q, fun z => (by cases z)⟩
      | some ns =>
        rw [hn] at q
        dsimp only at q
        have ens := allN_some hn
        have : (numsL ws).any (·.isNone) = false := by rw [ens, List.any_map, List.any_eq_false]; intro n _; simp
        rw [this]
        refine ⟨fun z => (by cases z), fun _ => ?_⟩
        have e3 : (numsL ws).map optD = nsD ns := by rw [ens, List.map_map]; rfl
        rw [e3] at h33
        have hnsl : ns.length ≤ 1001 := by rw [ens, List.length_map] at hnl; exact hnl
        subst hu3
        refine nx_go ?_
        walk_at "dr"
        have e0 : atI (ws.map fun w => D.str (tS w)) 0 = some (.str (tS (ws.getD 0 []))) := atI_ws (i := 0) hpos
        rw [atL_eq h13, e0]
        dsimp only
        refine ⟨fun hp => ?_, fun hp => ?_⟩
        · rw [hp, if_pos rfl] at q
          unfold playL at hp
          rw [Bool.and_eq_true, decide_eq_true_eq] at hp
          have e1 : atI (ws.map fun w => D.str (tS w)) 1 = some (.str (tS (ws.getD 1 []))) := atI_ws (i := 1) hp.1
          rw [atL_eq h13, e1]
          dsimp only
          exact w__act_of_player A h33 hp.2 (by unfold numsL at ens; have := congrArg List.length ens; rw [List.length_map, List.length_map, List.length_drop] at this; have hw := hws; split at this <;> omega) q
        · rw [hp, if_neg Bool.false_ne_true] at q
          refine nx_go ?_
          walk_at "dr"
          rw [atL_eq h13, e0]
          dsimp only
          rw [s_block, eqD_ss, tS_dec]
          refine ⟨rfl, fun hb => ?_, fun hb => nx_go ?_⟩
          · rw [if_pos (of_decide_eq_true hb)] at q
            rw [atL_eq h33]
            have e9 : actD (.block ns) = .tup [.str (tS [98, 108, 111, 99, 107]), .tup (nsD ns)] := by unfold actD; rw [s_block]
            have q : Q (actD (.block ns)) S3 := q
            rw [e9] at q
            exact q
          · rw [if_neg (of_decide_eq_false hb)] at q
            walk_at "dr"
            rw [atL_eq h13, e0]
            dsimp only
            rw [s_back, eqD_ss, tS_dec]
            by_cases hk : ws.getD 0 [] = [98, 97, 99, 107]
            · rw [decide_eq_true hk]
              refine ⟨rfl, fun _ => ?_, fun z => (by cases z)⟩
              have en : (nsD ns).length = ns.length := List.length_map ..
              rw [atL_eq h33, en]
              by_cases h1 : ns.length = 1
              · rw [if_pos ⟨hk, h1⟩] at q
                rw [decide_eq_true (show ((ns.length : Nat) : Int) = 1 by omega)]
                refine ⟨fun _ => ?_, fun z => (by cases z)⟩
                have e8 : atI (nsD ns) 0 = some (.int ((ns.getD 0 0 : Nat) : Int)) := by
                  cases ns with
                  | nil => simp at h1
                  | cons n r => exact atI_c0
                rw [atL_eq h33, e8]
                dsimp only
                have e9 : actD (.back (ns.getD 0 0)) = .tup [.str (tS [98, 97, 99, 107]), .int ((ns.getD 0 0 : Nat) : Int)] := by unfold actD; rw [s_back]
                have q : Q (actD (.back (ns.getD 0 0))) S3 := q
                rw [e9] at q
                exact q
              · rw [if_neg (fun z => h1 z.2)] at q
                rw [decide_eq_false (show ¬ ((ns.length : Nat) : Int) = 1 by omega)]
                refine ⟨fun z => (by cases z), fun _ => nx_go ?_⟩
                walk_at "dr"
                exact q
            · rw [if_neg (fun z => hk z.1)] at q
              rw [decide_eq_false hk]
              refine ⟨rfl, fun z => (by cases z), fun _ => nx_go ?_⟩
              walk_at "dr"
              exact q
    have part : ∀ i : Nat, i = (if playL ws then 2 else 1) → ∀ p, S1 p = none → lcD (fun S2 => S2 p = some (.lst (List.drop i (ws.map fun w => D.str (tS w))))) (xName 4) tYes' (eCa (F_number_in A) xF (aCons (eVar 4) (aCons (eC (.int 281474976710656)) aNil))) [some (.str (tS l)), some (.ref p1), some (.bl (playL ws)), none, none] (List.drop i (ws.map fun w => D.str (tS w))) [] (sup S1 p (.lst (List.drop i (ws.map fun w => D.str (tS w))))) fun ys S2 => ∀ p, S2 p = none → NX u2 { nx := fun _ S' => Q .non S', rt := Q } [some (.str (tS l)), some (.ref p1), some (.bl (playL ws)), some (.ref p), none] (sup S2 p (.lst ys)) := by
      intro i hi p hp
      rw [← List.map_drop]
      have s2 := se1.new (o := .lst ((ws.drop i).map fun w => .str (tS w))) hp
      have hp1' := (Se.one (o := .lst ((ws.drop i).map fun w => .str (tS w))) hp) _ _ h1
      have h2 : (sup S1 p (.lst ((ws.drop i).map fun w => .str (tS w)))) p = some (.lst ((ws.drop i).map fun w => .str (tS w))) := sup_same
      generalize sup S1 p (.lst ((ws.drop i).map fun w => .str (tS w))) = S2 at s2 hp1' h2 ⊢
      refine lcD_out (out := (numsL ws).map optD) h2 (by unfold numsL; rw [hi]; simp) (fun k x y hx hy R hR => ?_) (by simp; omega) fun p3 hp3 => fin _ p3 (s2.new hp3) ((Se.one hp3) _ _ hp1') sup_same
      unfold numsL at hy
      rw [← hi, List.map_map, List.getElem?_map] at hy
      rw [List.getElem?_map] at hx
      cases e : (ws.drop i)[k]? with
      | none => rw [e] at hx; cases hx
      | some w =>
        rw [e] at hx hy
        cases hx
        cases hy
        walk_at "dr"
        exact w_number_in A (m := 281474976710656) (by decide) hR
    refine ⟨fun hp => ?_, fun hp => ?_⟩
    · rw [atL_eq h1]
      exact part 2 (by rw [hp]; rfl)
    · rw [atL_eq h1]
      exact part 1 (by rw [hp]; rfl)
  unfold playL at next
  by_cases h2 : 1 < ws.length
  · rw [decide_eq_true h2] at next
    rw [decide_eq_true (show (1 : Int) < (ws.length : Nat) by omega)]
    refine ⟨fun _ => ?_, fun z => (by cases z)⟩
    unfold eKInA
    walk_at "dr"
    have e1 : atI (ws.map fun w => D.str (tS w)) 1 = some (.str (tS (ws.getD 1 []))) := atI_ws (i := 1) h2
    rw [atL_eq h1, e1]
    dsimp only
    rw [get_of (f := fun n : Nat => D.int (n : Nat)) (look_cnt A _)]
    rw [Bool.true_and] at next
    have e2 : ((cntL (ws.getD 1 [])).map fun n : Nat => D.int (n : Nat)).isSome = (cntL (ws.getD 1 [])).isSome := by cases cntL (ws.getD 1 []) <;> rfl
    rw [e2]
    exact next
  · rw [decide_eq_false h2, Bool.false_and] at next
    rw [decide_eq_false (show ¬ (1 : Int) < (ws.length : Nat) by omega)]
    exact ⟨fun z => (by cases z), fun _ => next⟩
end

end Sd

set_option Elab.async false
set_option linter.all false
set_option maxRecDepth 100000
set_option maxHeartbeats 4000000
namespace Sd
open PySem PySem.Spec PyProof.Rows L2 GxR
local macro_rules | `(tactic| walk_at "dr") => `(tactic| try simp only [shut_eq, eVar, eC, sPar2, sPar3, eKIx, eKIn, eKGet2, eEvry, eTupG, iZip3D, dIsB, kLook_c, atI_c0, atI_c1, atI_c2, atI_c3, atI_c4, atI_c5, cut_t1, cut_t2, cut_t3, cut_t4, cut_t5, cut_d1, cut_d2, cut_d3, tk1, tk2, tk5, dp1, dp2,  eSlX, dSlX, eTIx, dTIx, eTupF, isCt, eDPop, dListDK, dSortDI, dSortI, dAny, atO_sup, atL_sup, sup_sup, eSumG, eInt, dSum, dAbs, dPow, dStrN, eDisp, pairsD, iZT, eEvryT, dExtT, dLenS, dMin, dMax, eSplit, eSumV, dNeL_r, eOp, eUn, asB, eAnd, eOr, eNot, eIf, eChain, tV, tAnd', tOr', tNot', aNil, aCons, eTup, eLst, eCB, eDK, eDT, dAdd, dI, dSub, dMod, dDiv, dXor, dShl, dShr, dMul, dCmp, dLe, dLt, dGe, dGt, dEq, dNe, dIn, dIsN, dIx_t, dIx_c, dIx_s, dIx_r, dIx_iD, dNeg, dLen_iD, dLen_s, dLen_t, dLen_c, dLen_r, dList, dTuple, dInt, dIsi, dAll, oNone, oSome, dSl, eSl,
  xName, xNil, xCons, xTup, xSub, sNext, sSeq, sBreak, sCont, sDrop, sRet, sRetN, sIf, sAsg, sAug, sFor, iL, iT, iS, iR1, iR2, iRev1, iRev2, tYes', eLc, eAll, dIAdd, dISub, eBM, eBM0, asRef, eDGet, eDGet1, eDGet2, eDIn, eDNotIn, sDPutD, sDDelD, eCa, eMe, eMa, eFld, sFldD, sFldAugD, setO, dAppend, dPopAt, isBl, isTr, List.length_set, List.lookup, Nat.reduceLT, Nat.reduceLeDiff, Nat.lt_irrefl, Nat.not_lt_zero, Nat.zero_le, Nat.le_refl, Nat.zero_lt_succ, Nat.lt_add_one, sRaise, eJoin, dJoin, br, Int.natCast_nonneg, Int.cast_ofNat_Int, Int.reduceEq, 
  dstart, List.map_cons, List.map_nil, List.length_cons, List.length_nil, List.replicate, List.cons_append, List.nil_append, List.append_nil, List.getElem?_cons_zero, List.getElem?_cons_succ, List.set_cons_zero, List.set_cons_succ, Nat.sub_self, Nat.reduceAdd, Nat.reduceSub, wipeD,
  dat_i, dat_s, dat_b, dat_n, dats_c, dats_e, eqD_ii, eqD_ss, eqD_bb, eqD_nn, eqD_is, eqD_si, isNon, unC_i, unC_s, unC_b, unC_n, unC_t, unC_c, flatD, List.all_cons, List.all_nil, List.any_cons, List.any_nil, decide_true, decide_false, List.mem_cons, tyD, isTy, tyKn, String.reduceBEq, Bool.or_true, Bool.true_or, Bool.or_false, Bool.false_or, Bool.and_true, Bool.true_and, Bool.and_false, Bool.false_and, Bool.or_self, Bool.and_self, true_and, and_true, true_implies, false_implies, forall_const, reduceCtorEq, Bool.true_eq_false, Bool.false_eq_true, if_true, if_false, ite_true, ite_false, Bool.not_true, Bool.not_false, implies_true, eq_self])
local macro_rules | `(tactic| walk_at "drn") => `(tactic| try simp only [shut_eq, eVar, eC, sPar2, sPar3, eKIx, eKIn, eKGet2, eEvry, eTupG, iZip3D, dIsB, kLook_c, atI_c0, atI_c1, atI_c2, atI_c3, atI_c4, atI_c5, cut_t1, cut_t2, cut_t3, cut_t4, cut_t5, cut_d1, cut_d2, cut_d3, tk1, tk2, tk5, dp1, dp2,  eSlX, dSlX, eTIx, dTIx, eTupF, isCt, eDPop, dListDK, dSortDI, dSortI, dAny, atO_sup, atL_sup, sup_sup, eSumG, eInt, dSum, dAbs, dPow, dStrN, eDisp, pairsD, iZT, eEvryT, dExtT, dLenS, dMin, dMax, eSplit, eSumV, dNeL_r, eOp, eUn, asB, eAnd, eOr, eNot, eIf, eChain, tV, tAnd', tOr', tNot', aNil, aCons, eTup, eLst, eCB, eDK, eDT, dAdd, dI, dSub, dMod, dDiv, dXor, dShl, dShr, dMul, dCmp, dLe, dLt, dGe, dGt, dEq, dNe, dIn, dIsN, dIx_t, dIx_c, dIx_s, dIx_r, dIx_iD, dNeg, dLen_iD, dLen_s, dLen_t, dLen_c, dLen_r, dList, dTuple, dInt, dIsi, dAll, oNone, oSome, dSl, eSl,
  xName, xNil, xCons, xTup, xSub, sNext, sSeq, NX_eq, sBreak, sCont, sDrop, sRet, sRetN, sIf, sAsg, sAug, sFor, iL, iT, iS, iR1, iR2, iRev1, iRev2, tYes', eLc, eAll, dIAdd, dISub, eBM, eBM0, asRef, eDGet, eDGet1, eDGet2, eDIn, eDNotIn, sDPutD, sDDelD, eCa, eMe, eMa, eFld, sFldD, sFldAugD, setO, dAppend, dPopAt, isBl, isTr, List.length_set, List.lookup, Nat.reduceLT, Nat.reduceLeDiff, Nat.lt_irrefl, Nat.not_lt_zero, Nat.zero_le, Nat.le_refl, Nat.zero_lt_succ, Nat.lt_add_one, sRaise, eJoin, dJoin, br, Int.natCast_nonneg, Int.cast_ofNat_Int, Int.reduceEq, 
  dstart, List.map_cons, List.map_nil, List.length_cons, List.length_nil, List.replicate, List.cons_append, List.nil_append, List.append_nil, List.getElem?_cons_zero, List.getElem?_cons_succ, List.set_cons_zero, List.set_cons_succ, Nat.sub_self, Nat.reduceAdd, Nat.reduceSub, wipeD,
  dat_i, dat_s, dat_b, dat_n, dats_c, dats_e, eqD_ii, eqD_ss, eqD_bb, eqD_nn, eqD_is, eqD_si, isNon, unC_i, unC_s, unC_b, unC_n, unC_t, unC_c, flatD, List.all_cons, List.all_nil, List.any_cons, List.any_nil, decide_true, decide_false, List.mem_cons, tyD, isTy, tyKn, String.reduceBEq, Bool.or_true, Bool.true_or, Bool.or_false, Bool.false_or, Bool.and_true, Bool.true_and, Bool.and_false, Bool.false_and, Bool.or_self, Bool.and_self, true_and, and_true, true_implies, false_implies, forall_const, reduceCtorEq, Bool.true_eq_false, Bool.false_eq_true, if_true, if_false, ite_true, ite_false, Bool.not_true, Bool.not_false, implies_true, eq_self])

/-! ### a script is read -/
theorem spl10_sub : ∀ (l acc : List Nat), ∀ p ∈ TL.spl [10] 0 acc l, (∀ c ∈ p, c ∈ acc ∨ c ∈ l) ∧ p.length ≤ acc.length + l.length
  | [], acc, p, hp => by
    rw [TL.spl_nil] at hp
    rw [List.mem_singleton.mp hp]
    exact ⟨fun c hc => .inl hc, by simp⟩
  | x :: r, acc, p, hp => by
    cases h : TL.pre [10] (x :: r) with
    | true =>
      rw [TL.spl_hit h] at hp
      rcases List.mem_cons.mp hp with rfl | hp
      · exact ⟨fun c hc => .inl hc, by simp⟩
      · obtain ⟨h1, h2⟩ := spl10_sub r [] p hp
        exact ⟨fun c hc => .inr (List.mem_cons_of_mem _ ((h1 c hc).resolve_left (by simp))), by simp at h2 ⊢; omega⟩
    | false =>
      rw [TL.spl_miss h] at hp
      obtain ⟨h1, h2⟩ := spl10_sub r (acc ++ [x]) p hp
      refine ⟨fun c hc => ?_, by simp at h2 ⊢; omega⟩
      rcases h1 c hc with h | h
      · rcases List.mem_append.mp h with h | h
        · exact .inl h
        · exact .inr (by rw [List.mem_singleton.mp h]; exact List.mem_cons_self)
      · exact .inr (List.mem_cons_of_mem _ h)
theorem Se.put1 {S S' : Sto} {p : Addr} {o : O} (h : Se S S') (hp : S p = none) : Se S (sup S' p o) := fun x u e => by rw [sup_ne (sne e hp)]; exact h x u e
def rdT (l : List Nat) : Option Act := rdL (TL.spl [32] 0 [] l)
theorem act_non (a : Act) : isNon (actD a) = false := by cases a <;> rfl
section
variable (A : Ad) {S : Sto} {Q : DK} {Ed : XD}
theorem w_read_script_empty (q : ∀ S', Se S S' → Q (.tup []) S') : F_read_script A [.str (tS [])] S Q Ed := by
  unfold F_read_script B_read_script
  walk_at "dr"
  intro pa ha
  refine nx_go ?_
  walk_at "dr"
  rw [s_empty, tS_dec]
  refine ⟨fun _ => ?_, fun z => (by cases z)⟩
  exact q _ (Se.one ha)
theorem w_read_script {ls : List (List Nat)} {as : List Act} {rest : List (List Nat)} (hne : TL.joinL [10] (ls ++ rest) ≠ []) (hl0 : ls ++ rest ≠ []) (h10 : ∀ l ∈ ls ++ rest, 10 ∉ l) (hl : ∀ l ∈ ls ++ rest, l.length ≤ 1000) (ht : asc (TL.joinL [10] (ls ++ rest))) (hs : (ls ++ rest).length ≤ 1000)
    (ha : ls.map rdT = as.map some) (hr : rest = [] ∨ ∃ bad r, rest = bad :: r ∧ rdT bad = none)
    (q : rest = [] → ∀ S', Se S S' → Q (.tup (as.map actD)) S') (qe : rest ≠ [] → ∀ S', Se S S' → Ed A.X_BadText [(("line" : Str), .int (1 + (ls.length : Nat)))] S') : F_read_script A [.str (tS (TL.joinL [10] (ls ++ rest)))] S Q Ed := by
  have esp : TL.spl [10] 0 [] (TL.joinL [10] (ls ++ rest)) = ls ++ rest := SX.spl_join (sep := []) hl0 h10
  have hasc : ∀ l ∈ ls ++ rest, asc l := fun l hl => by
    have hl2 : l ∈ TL.spl [10] 0 [] (TL.joinL [10] (ls ++ rest)) := by rw [esp]; exact hl
    obtain ⟨h1, h2⟩ := spl10_sub _ [] l hl2
    exact ht.sub (fun c hc => (h1 c hc).resolve_left (by simp)) (by simpa using h2)
  have hlen : as.length = ls.length := by have := congrArg List.length ha; rw [List.length_map, List.length_map] at this; omega
  unfold F_read_script B_read_script
  walk_at "dr"
  intro pa hpa
  refine nx_go ?_
  generalize hu : sSeq (sFor _ _ _) _ = u
  walk_at "dr"
  rw [s_empty, tS_dec, decide_eq_false hne]
  refine ⟨fun z => (by cases z), fun _ => ?_⟩
  subst hu
  refine nx_go ?_
  unfold iEn1 dM1
  walk_at "dr"
  refine ⟨⟨_, rfl⟩, ?_⟩
  rw [s_line]
  refine d_split (by decide) (fun p hp => ?_) ht fun p1 hp1 => ?_
  · rw [esp] at hp
    exact hasc p hp
  rw [esp]
  have s1 := (Se.one (o := .lst []) hpa).new (o := .lst ((ls ++ rest).map fun w => .str (tS w))) hp1
  have h1 : (sup (sup S pa (.lst [])) p1 (.lst ((ls ++ rest).map fun w => .str (tS w)))) p1 = some (.lst ((ls ++ rest).map fun w => .str (tS w))) := sup_same
  have ha1 : (sup (sup S pa (.lst [])) p1 (.lst ((ls ++ rest).map fun w => .str (tS w)))) pa = some (.lst []) := (Se.one hp1) _ _ sup_same
  have npa : p1 ≠ pa := fun z => by rw [z, sup_same] at hp1; cases hp1
  generalize sup (sup S pa (.lst [])) p1 (.lst ((ls ++ rest).map fun w => .str (tS w))) = S1 at s1 h1 ha1 ⊢
  dsimp only
  rw [atL_eq h1]
  have npS : S p1 = none := by
    cases z : S p1 with
    | none => rfl
    | some o => exfalso; have := (Se.one (o := .lst []) hpa) _ _ z; rw [hp1] at this; cases this
  refine forD_ix (fun k δ S' => k ≤ ls.length ∧ (∃ y2 y3 y4, δ = [some (.str (tS (TL.joinL [10] (ls ++ rest)))), some (.ref pa), y2, y3, y4]) ∧ Se S S' ∧ S' p1 = some (.lst ((ls ++ rest).map fun w => .str (tS w))) ∧ S' pa = some (.lst ((as.take k).map actD))) ?_ ?_ ⟨Nat.zero_le _, ⟨_, _, _, rfl⟩, s1, h1, ha1⟩
  · rintro k x hx Nx δ S2 ⟨hk, ⟨y2, y3, y4, rfl⟩, s2, h12, ha2⟩ hNx
    refine ⟨h12, ?_⟩
    obtain ⟨l, hll, rfl⟩ : ∃ l, (ls ++ rest)[k]? = some l ∧ x = .tup [.int (1 + (k : Nat)), .str (tS l)] := by
      unfold enu1 at hx
      rw [List.getElem?_mapIdx, List.getElem?_map] at hx
      cases e : (ls ++ rest)[k]? with
      | none => rw [e] at hx; cases hx
      | some l => rw [e] at hx; exact ⟨l, rfl, by cases hx; rfl⟩
    have hlm := List.mem_of_getElem? hll
    walk_at "dr"
    refine w__read_line A (hasc l hlm) (hl l hlm) fun S3 s3 => ?_
    have h13 := s3 _ _ h12
    have ha3 := s3 _ _ ha2
    by_cases hkl : k < ls.length
    · rw [List.getElem?_append_left hkl] at hll
      have hal : k < as.length := by omega
      have hr : rdT l = some as[k] := by
        have : (ls.map rdT)[k]? = (as.map some)[k]? := by rw [ha]
        rw [List.getElem?_map, List.getElem?_map, hll, List.getElem?_eq_getElem hal] at this
        exact Option.some.inj this
      have hr' : rdL (TL.spl [32] 0 [] l) = some as[k] := hr
      rw [hr']
      have eo : optA (some as[k]) = actD as[k] := rfl
      rw [eo]
      refine nx_go ?_
      have hn := act_non as[k]
      generalize hd : actD as[k] = d at hn ⊢
      walk_at "dr"
      refine ⟨fun z => (by have z : isNon d = true := z; rw [hn] at z; cases z), fun _ => nx_go ?_⟩
      walk_at "dr"
      refine ⟨by rw [atL_eq ha3]; trivial, ?_⟩
      rw [atL_eq ha3]
      refine ⟨by rw [List.length_map, List.length_take]; simp at hs; omega, hNx _ _ ⟨by omega, ⟨_, _, _, rfl⟩, (s2.trans s3).put1 hpa, by rw [sup_ne npa]; exact h13, ?_⟩⟩
      rw [sup_same, List.take_succ, List.getElem?_eq_getElem hal, List.map_append, ← hd]
      rfl
    · have hke : k = ls.length := by omega
      subst hke
      rw [List.getElem?_append_right (Nat.le_refl _), Nat.sub_self] at hll
      rcases hr with hr | ⟨bad, r, hr, hb⟩
      · rw [hr] at hll; cases hll
      · rw [hr] at hll
        cases hll
        have hb' : rdL (TL.spl [32] 0 [] l) = none := hb
        rw [hb']
        refine nx_go ?_
        unfold optA
        walk_at "dr"
        unfold sRaiseF
        walk_at "dr"
        exact qe (by rw [hr]; simp) S3 (s2.trans s3)
  · rintro δ S2 ⟨hk, ⟨y2, y3, y4, rfl⟩, s2, h12, ha2⟩
    refine ⟨h12, ?_⟩
    have hel : (enu1 ((ls ++ rest).map fun w => D.str (tS w))).length = ls.length + rest.length := by unfold enu1; rw [List.length_mapIdx, List.length_map, List.length_append]
    rw [hel] at hk ha2
    have hr0 : rest = [] := List.eq_nil_of_length_eq_zero (by omega)
    refine nx_go ?_
    walk_at "dr"
    rw [atL_eq ha2]
    rw [List.take_of_length_le (by omega)]
    exact q hr0 S2 s2
end

end Sd

set_option Elab.async false
set_option linter.all false
set_option maxRecDepth 100000
set_option maxHeartbeats 4000000
namespace Sd
open PySem PySem.Spec PyProof.Rows L2 GxR
local macro_rules | `(tactic| walk_at "dr") => `(tactic| try simp only [shut_eq, eVar, eC, sPar2, sPar3, eKIx, eKIn, eKGet2, eEvry, eTupG, iZip3D, dIsB, kLook_c, atI_c0, atI_c1, atI_c2, atI_c3, atI_c4, atI_c5, cut_t1, cut_t2, cut_t3, cut_t4, cut_t5, cut_d1, cut_d2, cut_d3, tk1, tk2, tk5, dp1, dp2,  eSlX, dSlX, eTIx, dTIx, eTupF, isCt, eDPop, dListDK, dSortDI, dSortI, dAny, atO_sup, atL_sup, sup_sup, eSumG, eInt, dSum, dAbs, dPow, dStrN, eDisp, pairsD, iZT, eEvryT, dExtT, dLenS, dMin, dMax, eSplit, eSumV, dNeL_r, eOp, eUn, asB, eAnd, eOr, eNot, eIf, eChain, tV, tAnd', tOr', tNot', aNil, aCons, eTup, eLst, eCB, eDK, eDT, dAdd, dI, dSub, dMod, dDiv, dXor, dShl, dShr, dMul, dCmp, dLe, dLt, dGe, dGt, dEq, dNe, dIn, dIsN, dIx_t, dIx_c, dIx_s, dIx_r, dIx_iD, dNeg, dLen_iD, dLen_s, dLen_t, dLen_c, dLen_r, dList, dTuple, dInt, dIsi, dAll, oNone, oSome, dSl, eSl,
  xName, xNil, xCons, xTup, xSub, sNext, sSeq, sBreak, sCont, sDrop, sRet, sRetN, sIf, sAsg, sAug, sFor, iL, iT, iS, iR1, iR2, iRev1, iRev2, tYes', eLc, eAll, dIAdd, dISub, eBM, eBM0, asRef, eDGet, eDGet1, eDGet2, eDIn, eDNotIn, sDPutD, sDDelD, eCa, eMe, eMa, eFld, sFldD, sFldAugD, setO, dAppend, dPopAt, isBl, isTr, List.length_set, List.lookup, Nat.reduceLT, Nat.reduceLeDiff, Nat.lt_irrefl, Nat.not_lt_zero, Nat.zero_le, Nat.le_refl, Nat.zero_lt_succ, Nat.lt_add_one, sRaise, eJoin, dJoin, br, Int.natCast_nonneg, Int.cast_ofNat_Int, Int.reduceEq, 
  dstart, List.map_cons, List.map_nil, List.length_cons, List.length_nil, List.replicate, List.cons_append, List.nil_append, List.append_nil, List.getElem?_cons_zero, List.getElem?_cons_succ, List.set_cons_zero, List.set_cons_succ, Nat.sub_self, Nat.reduceAdd, Nat.reduceSub, wipeD,
  dat_i, dat_s, dat_b, dat_n, dats_c, dats_e, eqD_ii, eqD_ss, eqD_bb, eqD_nn, eqD_is, eqD_si, isNon, unC_i, unC_s, unC_b, unC_n, unC_t, unC_c, flatD, List.all_cons, List.all_nil, List.any_cons, List.any_nil, decide_true, decide_false, List.mem_cons, tyD, isTy, tyKn, String.reduceBEq, Bool.or_true, Bool.true_or, Bool.or_false, Bool.false_or, Bool.and_true, Bool.true_and, Bool.and_false, Bool.false_and, Bool.or_self, Bool.and_self, true_and, and_true, true_implies, false_implies, forall_const, reduceCtorEq, Bool.true_eq_false, Bool.false_eq_true, if_true, if_false, ite_true, ite_false, Bool.not_true, Bool.not_false, implies_true, eq_self])
local macro_rules | `(tactic| walk_at "drn") => `(tactic| try simp only [shut_eq, eVar, eC, sPar2, sPar3, eKIx, eKIn, eKGet2, eEvry, eTupG, iZip3D, dIsB, kLook_c, atI_c0, atI_c1, atI_c2, atI_c3, atI_c4, atI_c5, cut_t1, cut_t2, cut_t3, cut_t4, cut_t5, cut_d1, cut_d2, cut_d3, tk1, tk2, tk5, dp1, dp2,  eSlX, dSlX, eTIx, dTIx, eTupF, isCt, eDPop, dListDK, dSortDI, dSortI, dAny, atO_sup, atL_sup, sup_sup, eSumG, eInt, dSum, dAbs, dPow, dStrN, eDisp, pairsD, iZT, eEvryT, dExtT, dLenS, dMin, dMax, eSplit, eSumV, dNeL_r, eOp, eUn, asB, eAnd, eOr, eNot, eIf, eChain, tV, tAnd', tOr', tNot', aNil, aCons, eTup, eLst, eCB, eDK, eDT, dAdd, dI, dSub, dMod, dDiv, dXor, dShl, dShr, dMul, dCmp, dLe, dLt, dGe, dGt, dEq, dNe, dIn, dIsN, dIx_t, dIx_c, dIx_s, dIx_r, dIx_iD, dNeg, dLen_iD, dLen_s, dLen_t, dLen_c, dLen_r, dList, dTuple, dInt, dIsi, dAll, oNone, oSome, dSl, eSl,
  xName, xNil, xCons, xTup, xSub, sNext, sSeq, NX_eq, sBreak, sCont, sDrop, sRet, sRetN, sIf, sAsg, sAug, sFor, iL, iT, iS, iR1, iR2, iRev1, iRev2, tYes', eLc, eAll, dIAdd, dISub, eBM, eBM0, asRef, eDGet, eDGet1, eDGet2, eDIn, eDNotIn, sDPutD, sDDelD, eCa, eMe, eMa, eFld, sFldD, sFldAugD, setO, dAppend, dPopAt, isBl, isTr, List.length_set, List.lookup, Nat.reduceLT, Nat.reduceLeDiff, Nat.lt_irrefl, Nat.not_lt_zero, Nat.zero_le, Nat.le_refl, Nat.zero_lt_succ, Nat.lt_add_one, sRaise, eJoin, dJoin, br, Int.natCast_nonneg, Int.cast_ofNat_Int, Int.reduceEq, 
  dstart, List.map_cons, List.map_nil, List.length_cons, List.length_nil, List.replicate, List.cons_append, List.nil_append, List.append_nil, List.getElem?_cons_zero, List.getElem?_cons_succ, List.set_cons_zero, List.set_cons_succ, Nat.sub_self, Nat.reduceAdd, Nat.reduceSub, wipeD,
  dat_i, dat_s, dat_b, dat_n, dats_c, dats_e, eqD_ii, eqD_ss, eqD_bb, eqD_nn, eqD_is, eqD_si, isNon, unC_i, unC_s, unC_b, unC_n, unC_t, unC_c, flatD, List.all_cons, List.all_nil, List.any_cons, List.any_nil, decide_true, decide_false, List.mem_cons, tyD, isTy, tyKn, String.reduceBEq, Bool.or_true, Bool.true_or, Bool.or_false, Bool.false_or, Bool.and_true, Bool.true_and, Bool.and_false, Bool.false_and, Bool.or_self, Bool.and_self, true_and, and_true, true_implies, false_implies, forall_const, reduceCtorEq, Bool.true_eq_false, Bool.false_eq_true, if_true, if_false, ite_true, ite_false, Bool.not_true, Bool.not_false, implies_true, eq_self])

/-! ### acts are printed -/
structure ActOk (a : Act) (ws : List (List Nat)) (ds : List D) : Prop where
  d : ds = ws.map fun w => D.str (tS w)
inductive Wd where | txt (w : List Nat) | num (n : Nat)
def wdD : Wd → D | .txt w => .str (tS w) | .num n => .int (n : Nat)
def wdL : Wd → List Nat | .txt w => w | .num n => TL.numL n
def vbS (v : List Nat) : List (List Nat × List Nat) := sentTab.filter fun p => decide (p.2 = v)
def vbD (v : List Nat) : List (List Nat × List Nat) := doneTab.filter fun p => decide (p.2 = v)
def wdsA : Act → List Wd
  | .send y v ns => .txt y :: .txt ((vbS v).headD ([], [])).1 :: ns.map .num
  | .done v y ns => .txt y :: .txt ((vbD v).headD ([], [])).1 :: ns.map .num
  | .block ns => .txt [98, 108, 111, 99, 107] :: ns.map .num
  | .back n => [.txt [98, 97, 99, 107], .num n]
def vbOk : Act → Prop
  | .send _ v _ => (vbS v).length = 1
  | .done v _ _ => (vbD v).length = 1 ∧ v ≠ [98, 108, 111, 99, 107] ∧ v ≠ [98, 97, 99, 107] ∧ v ≠ [115, 101, 110, 100]
  | _ => True
theorem s_send : ("send" : Str) = tS [115, 101, 110, 100] := by decide +kernel
theorem lcD_flt {ok : Sto → Prop} {g : DG} {tt : DT} {te : DE} {δ : DV} {S : Sto} {Q : List D → Sto → Prop} {α : Type} (enc f : α → D) (p : α → Bool) (hok : ok S) : ∀ {l : List α} {acc : List D}, acc.length + l.length ≤ 1000000 →
    (∀ x ∈ l, ∀ (K1 : DK) (K2 : Sto → Prop), (p x = true → K1 (f x) S) → (p x = false → K2 S) → g (enc x) δ S fun δ2 S2 => tt δ2 S2 fun b S3 => br b (te δ2 S3 K1) (K2 S3)) → Q (acc ++ (l.filter p).map f) S → lcD ok g tt te δ (l.map enc) acc S Q
  | [], acc, _, _, q => by
    rw [List.filter_nil, List.map_nil, List.append_nil] at q
    exact ⟨hok, q⟩
  | x :: l, acc, hl, h, q => by
    rw [List.map_cons, lcD]
    refine ⟨hok, h x List.mem_cons_self _ _ (fun hp => ⟨by rw [List.length_cons] at hl; omega, lcD_flt enc f p hok (by rw [List.length_append, List.length_singleton]; rw [List.length_cons] at hl; omega) (fun y hy => h y (List.mem_cons_of_mem _ hy)) ?_⟩) fun hp => lcD_flt enc f p hok (by rw [List.length_cons] at hl; omega) (fun y hy => h y (List.mem_cons_of_mem _ hy)) ?_⟩
    · rw [List.filter_cons, hp] at q
      simpa using q
    · rw [List.filter_cons, hp] at q
      simpa using q
section
variable (A : Ad) {S : Sto} {Q : DK} {Ed : XD}
theorem w__words_of_act {a : Act} (hv : vbOk a) (hl : (wdsA a).length ≤ 1000) (q : ∀ S' p, Se S S' → S' p = some (.lst ((wdsA a).map wdD)) → Q (.ref p) S') : F__words_of_act A [actD a] S Q Ed := by
  have emap : ∀ ns : List Nat, (ns.map Wd.num).map wdD = nsD ns := fun ns => by rw [List.map_map]; rfl
  unfold F__words_of_act B__words_of_act
  cases a with
  | block ns =>
    unfold actD
    walk_at "dr"
    unfold aStar
    walk_at "dr"
    have en : (nsD ns).length = ns.length := List.length_map ..
    have hw : (wdsA (.block ns)).length = ns.length + 1 := by unfold wdsA; rw [List.length_cons, List.length_map]
    refine ⟨by rw [en]; omega, fun p hp => ?_⟩
    refine q _ p (Se.one hp) ?_
    rw [sup_same]
    show some (O.lst (D.str "block" :: nsD ns)) = some (.lst (.str (tS [98, 108, 111, 99, 107]) :: (ns.map Wd.num).map wdD))
    rw [emap, s_block]
  | back n =>
    unfold actD
    have e1 : eqD (.str "back") (.str "block") = false := by rw [eqD_ss]; decide +kernel
    walk_at "dr"
    refine ⟨fun z => absurd (of_decide_eq_true z) (by decide +kernel), fun _ => nx_go ?_⟩
    walk_at "dr"
    refine fun p hp => q _ p (Se.one hp) ?_
    rw [sup_same]
    show some (O.lst [D.str "back", .int (n : Nat)]) = some (.lst [.str (tS [98, 97, 99, 107]), .int (n : Nat)])
    rw [s_back]
  | send y v ns =>
    have hv : (vbS v).length = 1 := hv
    have hw : (wdsA (.send y v ns)).length = ns.length + 2 := by unfold wdsA; rw [List.length_cons, List.length_cons, List.length_map]
    have en : (nsD ns).length = ns.length := List.length_map ..
    have ek : kItD (tb__SENT A) = sentTab.map fun p => D.tup [.str (tS p.1), .str (tS p.2)] := by unfold kItD; rw [sent_eq, List.map_map]; rfl
    unfold actD
    walk_at "dr"
    refine ⟨fun z => absurd (of_decide_eq_true z) (by decide +kernel), fun _ => nx_go ?_⟩
    walk_at "dr"
    refine ⟨fun z => absurd (of_decide_eq_true z) (by decide +kernel), fun _ => nx_go ?_⟩
    walk_at "dr"
    refine nx_go ?_
    generalize hu : sRet _ = u
    walk_at "dr"
    unfold iKI
    walk_at "dr"
    rw [ek]
    refine lcD_flt (fun p : List Nat × List Nat => D.tup [.str (tS p.1), .str (tS p.2)]) (fun p => D.str (tS p.1)) (fun p => decide (p.2 = v)) trivial (by decide) (fun x hx K1 K2 k1 k2 => ?_) ?_
    · walk_at "dr"
      rw [tS_dec]
      exact ⟨fun z => k1 z, fun z => k2 z⟩
    · intro p4 hp4
      rw [List.nil_append]
      have h4 : (sup S p4 (.lst ((sentTab.filter fun p => decide (p.2 = v)).map fun p => D.str (tS p.1)))) p4 = some (.lst ((vbS v).map fun p => D.str (tS p.1))) := sup_same
      have s4 := Se.one (o := .lst ((sentTab.filter fun p => decide (p.2 = v)).map fun p => D.str (tS p.1))) hp4
      generalize sup S p4 (.lst ((sentTab.filter fun p => decide (p.2 = v)).map fun p => D.str (tS p.1))) = S4 at h4 s4 ⊢
      subst hu
      refine nx_go ?_
      unfold aStar
      walk_at "dr"
      have e0 : atI ((vbS v).map fun p => D.str (tS p.1)) 0 = some (.str (tS ((vbS v).headD ([], [])).1)) := by
        cases h : vbS v with
        | nil => rw [h] at hv; cases hv
        | cons a r => exact atI_c0
      rw [atL_eq h4, e0]
      dsimp only
      refine ⟨by rw [en]; omega, fun p hp => q _ p (s4.new hp) ?_⟩
      rw [sup_same]
      show some (O.lst (D.str (tS y) :: D.str (tS ((vbS v).headD ([], [])).1) :: nsD ns)) = some (.lst (.str (tS y) :: .str (tS ((vbS v).headD ([], [])).1) :: (ns.map Wd.num).map wdD))
      rw [emap]
  | done v y ns =>
    obtain ⟨hv, hv1, hv2, hv3⟩ : (vbD v).length = 1 ∧ v ≠ [98, 108, 111, 99, 107] ∧ v ≠ [98, 97, 99, 107] ∧ v ≠ [115, 101, 110, 100] := hv
    have hw : (wdsA (.done v y ns)).length = ns.length + 2 := by unfold wdsA; rw [List.length_cons, List.length_cons, List.length_map]
    have en : (nsD ns).length = ns.length := List.length_map ..
    have ek : kItD (tb__DONE A) = doneTab.map fun p => D.tup [.str (tS p.1), .str (tS p.2)] := by unfold kItD; rw [done_eq, List.map_map]; rfl
    unfold actD
    walk_at "dr"
    rw [s_block, tS_dec, decide_eq_false hv1]
    refine ⟨fun z => (by cases z), fun _ => nx_go ?_⟩
    walk_at "dr"
    rw [s_back, tS_dec, decide_eq_false hv2]
    refine ⟨fun z => (by cases z), fun _ => nx_go ?_⟩
    walk_at "dr"
    rw [s_send, tS_dec, decide_eq_false hv3]
    refine ⟨fun z => (by cases z), fun _ => nx_go ?_⟩
    generalize hu : sRet _ = u
    walk_at "dr"
    unfold iKI
    walk_at "dr"
    rw [ek]
    refine lcD_flt (fun p : List Nat × List Nat => D.tup [.str (tS p.1), .str (tS p.2)]) (fun p => D.str (tS p.1)) (fun p => decide (p.2 = v)) trivial (by decide) (fun x hx K1 K2 k1 k2 => ?_) ?_
    · walk_at "dr"
      rw [tS_dec]
      exact ⟨fun z => k1 z, fun z => k2 z⟩
    · intro p4 hp4
      rw [List.nil_append]
      have h4 : (sup S p4 (.lst ((doneTab.filter fun p => decide (p.2 = v)).map fun p => D.str (tS p.1)))) p4 = some (.lst ((vbD v).map fun p => D.str (tS p.1))) := sup_same
      have s4 := Se.one (o := .lst ((doneTab.filter fun p => decide (p.2 = v)).map fun p => D.str (tS p.1))) hp4
      generalize sup S p4 (.lst ((doneTab.filter fun p => decide (p.2 = v)).map fun p => D.str (tS p.1))) = S4 at h4 s4 ⊢
      subst hu
      refine nx_go ?_
      unfold aStar
      walk_at "dr"
      have e0 : atI ((vbD v).map fun p => D.str (tS p.1)) 0 = some (.str (tS ((vbD v).headD ([], [])).1)) := by
        cases h : vbD v with
        | nil => rw [h] at hv; cases hv
        | cons a r => exact atI_c0
      rw [atL_eq h4, e0]
      dsimp only
      refine ⟨by rw [en]; omega, fun p hp => q _ p (s4.new hp) ?_⟩
      rw [sup_same]
      show some (O.lst (D.str (tS y) :: D.str (tS ((vbD v).headD ([], [])).1) :: nsD ns)) = some (.lst (.str (tS y) :: .str (tS ((vbD v).headD ([], [])).1) :: (ns.map Wd.num).map wdD))
      rw [emap]
def lineA (a : Act) : List Nat := TL.joinL [32] ((wdsA a).map wdL)
structure ActP (a : Act) : Prop where
  v : vbOk a
  l : (wdsA a).length ≤ 10
  w : ∀ w ∈ wdsA a, (wdL w).length ≤ 20 ∧ asc (wdL w) ∧ match w with | .num n => n < 10 ^ 20 | _ => True
theorem lineA_len {a : Act} (h : ActP a) : (lineA a).length ≤ 210 := by
  unfold lineA
  refine Nat.le_trans (joinL_len _ _) ?_
  have := sum_le (fun w : List Nat => w.length + [32].length) 21 ((wdsA a).map wdL) fun w hw => by
    obtain ⟨x, hx, rfl⟩ := List.mem_map.mp hw
    have := (h.w x hx).1
    simp; omega
  have hl := h.l
  rw [List.length_map] at this
  omega
theorem w_print_script {as : List Act} (h : ∀ a ∈ as, ActP a) (hl : as.length ≤ 50) (q : ∀ S', Se S S' → Q (.str (tS (TL.joinL [10] (as.map lineA)))) S') : F_print_script A [.tup (as.map actD)] S Q Ed := by
  unfold F_print_script B_print_script
  walk_at "dr"
  refine ⟨⟨_, rfl⟩, ?_⟩
  have e1 : (Str.ofString "\n") = tS [10] := by decide +kernel
  have e2 : (Str.ofString " ") = tS [32] := by decide +kernel
  rw [e1, e2]
  refine lcD_acc (J := fun acc S' => Se S S' ∧ acc = ((as.map lineA).take acc.length).map fun w => D.str (tS w)) (fun acc x hx S1 hJ => ⟨trivial, fun R hR => ?_⟩) (fun _ _ _ _ => trivial) (fun ys S1 hy hJ p hp => ?_) (by rw [List.length_map]; omega) ⟨.refl, rfl⟩
  · obtain ⟨se, ha⟩ := hJ
    have hlt : acc.length < as.length := by have := (List.getElem?_eq_some_iff.mp hx).1; rw [List.length_map] at this; exact this
    rw [List.getElem?_map, List.getElem?_eq_getElem hlt] at hx
    cases hx
    have hk := h _ (List.getElem_mem hlt)
    have hap : (as.map lineA)[acc.length]? = some (lineA as[acc.length]) := by rw [List.getElem?_map, List.getElem?_eq_getElem hlt]; rfl
    generalize as[acc.length] = a at hk hap ⊢
    have hlw := hk.l
    generalize hcd : actD a = cd
    walk_at "dr"
    subst hcd
    refine ⟨⟨_, rfl⟩, ?_⟩
    refine w__words_of_act A hk.v (by omega) fun S2 p2 s2 hp2 => ?_
    dsimp only
    rw [atL_eq hp2]
    refine lcD_out (out := (wdsA a).map fun w => D.str (tS (wdL w))) hp2 (by simp) (fun k x y hx hy R2 hR2 => ?_) (by rw [List.length_map]; omega) fun p3 hp3 => ?_
    · rw [List.getElem?_map] at hx hy
      cases e : (wdsA a)[k]? with
      | none => rw [e] at hx; cases hx
      | some w =>
        rw [e] at hx hy
        cases hx
        cases hy
        have hw := (hk.w w (List.mem_of_getElem? e)).2
        cases w with
        | txt l =>
          unfold wdD wdL at *
          walk_at "dr"
          unfold dStrU
          dsimp only
          exact hR2
        | num n =>
          have hn : n < 10 ^ 20 := hw.2
          unfold wdD
          walk_at "dr"
          unfold dStrU
          dsimp only
          rw [txtI_nat]
          exact ⟨log_small hn, okT (asc_num n hn), hR2⟩
    · have el : ((wdsA a).map fun w => D.str (tS (wdL w))) = (((wdsA a).map wdL).map tS).map D.str := by rw [List.map_map, List.map_map]; rfl
      have s3 := (se.trans s2).new (o := .lst ((wdsA a).map fun w => D.str (tS (wdL w)))) hp3
      rw [el, strs_map]
      dsimp only
      have hsum := sum_le (fun w : List Nat => w.length) 20 ((wdsA a).map wdL) fun w hw => by
        obtain ⟨x, hx, rfl⟩ := List.mem_map.mp hw
        exact (hk.w x hx).1
      rw [List.length_map] at hsum
      rw [SX.lens, List.length_map, List.length_map, tS_len, SX.join_S]
      refine ⟨by simp only [List.length_cons, List.length_nil]; omega, fun _ => hR _ _ ⟨?_, ?_⟩⟩
      · rw [← el]; exact s3
      · rw [List.length_append, List.length_singleton, List.take_succ, List.map_append, ← ha, hap]
        rfl
  · obtain ⟨se, ha⟩ := hJ
    rw [hy, List.length_map, ← List.length_map (f := lineA), List.take_length] at ha
    have es : ys = ((as.map lineA).map tS).map D.str := by rw [ha, List.map_map (f := tS)]; rfl
    rw [es, strs_map]
    dsimp only
    have hb := sum_le (fun a => (lineA a).length) 210 as fun a ha => lineA_len (h a ha)
    have e0 : (((as.map lineA).map tS).map (·.length)) = as.map fun a => (lineA a).length := by rw [SX.lens, List.map_map]; rfl
    rw [e0, List.length_map, List.length_map, tS_len, SX.join_S]
    refine ⟨by simp only [List.length_cons, List.length_nil]; omega, fun _ => q _ (se.new hp)⟩
end

end Sd

set_option Elab.async false
set_option linter.all false
set_option maxRecDepth 100000
set_option maxHeartbeats 4000000
namespace Sd
open PySem PySem.Spec PyProof.Rows L2 GxR
local macro_rules | `(tactic| walk_at "dr") => `(tactic| try simp only [shut_eq, eVar, eC, sPar2, sPar3, eKIx, eKIn, eKGet2, eEvry, eTupG, iZip3D, dIsB, kLook_c, atI_c0, atI_c1, atI_c2, atI_c3, atI_c4, atI_c5, cut_t1, cut_t2, cut_t3, cut_t4, cut_t5, cut_d1, cut_d2, cut_d3, tk1, tk2, tk5, dp1, dp2,  eSlX, dSlX, eSumG, eInt, dSum, dAbs, dPow, dStrN, eDisp, pairsD, iZT, eEvryT, dExtT, dLenS, dMin, dMax, eSplit, eSumV, dNeL_r, eOp, eUn, asB, eAnd, eOr, eNot, eIf, eChain, tV, tAnd', tOr', tNot', aNil, aCons, eTup, eLst, eCB, eDK, eDT, dAdd, dI, dSub, dMod, dDiv, dXor, dShl, dShr, dMul, dCmp, dLe, dLt, dGe, dGt, dEq, dNe, dIn, dIsN, dIx_t, dIx_c, dIx_s, dIx_r, dIx_iD, dNeg, dLen_iD, dLen_s, dLen_t, dLen_c, dLen_r, dList, dTuple, dInt, dIsi, dAll, oNone, oSome, dSl, eSl,
  xName, xNil, xCons, xTup, xSub, sNext, sSeq, sBreak, sCont, sDrop, sRet, sRetN, sIf, sAsg, sAug, sFor, iL, iT, iS, iR1, iR2, iRev1, iRev2, tYes', eLc, eAll, dIAdd, dISub, eBM, eBM0, asRef, eDGet, eDGet1, eDGet2, eDIn, eDNotIn, sDPutD, sDDelD, eCa, eMe, eMa, eFld, sFldD, sFldAugD, setO, dAppend, dPopAt, isBl, isTr, List.length_set, List.lookup, Nat.reduceLT, Nat.reduceLeDiff, Nat.lt_irrefl, Nat.not_lt_zero, Nat.zero_le, Nat.le_refl, Nat.zero_lt_succ, Nat.lt_add_one, sRaise, eJoin, dJoin, br, Int.natCast_nonneg, Int.cast_ofNat_Int, Int.reduceEq, 
  dstart, List.map_cons, List.map_nil, List.length_cons, List.length_nil, List.replicate, List.cons_append, List.nil_append, List.append_nil, List.getElem?_cons_zero, List.getElem?_cons_succ, List.set_cons_zero, List.set_cons_succ, Nat.sub_self, Nat.reduceAdd, Nat.reduceSub, wipeD,
  dat_i, dat_s, dat_b, dat_n, dats_c, dats_e, eqD_ii, eqD_ss, eqD_bb, eqD_nn, eqD_is, eqD_si, isNon, unC_i, unC_s, unC_b, unC_n, unC_t, unC_c, flatD, List.all_cons, List.all_nil, List.any_cons, List.any_nil, decide_true, decide_false, List.mem_cons, tyD, isTy, tyKn, String.reduceBEq, Bool.or_true, Bool.true_or, Bool.or_false, Bool.false_or, Bool.and_true, Bool.true_and, Bool.and_false, Bool.false_and, Bool.or_self, Bool.and_self, true_and, and_true, true_implies, false_implies, forall_const, reduceCtorEq, Bool.true_eq_false, Bool.false_eq_true, if_true, if_false, ite_true, ite_false, Bool.not_true, Bool.not_false, implies_true, eq_self])
local macro_rules | `(tactic| walk_at "drn") => `(tactic| try simp only [shut_eq, eVar, eC, sPar2, sPar3, eKIx, eKIn, eKGet2, eEvry, eTupG, iZip3D, dIsB, kLook_c, atI_c0, atI_c1, atI_c2, atI_c3, atI_c4, atI_c5, cut_t1, cut_t2, cut_t3, cut_t4, cut_t5, cut_d1, cut_d2, cut_d3, tk1, tk2, tk5, dp1, dp2,  eSlX, dSlX, eSumG, eInt, dSum, dAbs, dPow, dStrN, eDisp, pairsD, iZT, eEvryT, dExtT, dLenS, dMin, dMax, eSplit, eSumV, dNeL_r, eOp, eUn, asB, eAnd, eOr, eNot, eIf, eChain, tV, tAnd', tOr', tNot', aNil, aCons, eTup, eLst, eCB, eDK, eDT, dAdd, dI, dSub, dMod, dDiv, dXor, dShl, dShr, dMul, dCmp, dLe, dLt, dGe, dGt, dEq, dNe, dIn, dIsN, dIx_t, dIx_c, dIx_s, dIx_r, dIx_iD, dNeg, dLen_iD, dLen_s, dLen_t, dLen_c, dLen_r, dList, dTuple, dInt, dIsi, dAll, oNone, oSome, dSl, eSl,
  xName, xNil, xCons, xTup, xSub, sNext, sSeq, NX_eq, sBreak, sCont, sDrop, sRet, sRetN, sIf, sAsg, sAug, sFor, iL, iT, iS, iR1, iR2, iRev1, iRev2, tYes', eLc, eAll, dIAdd, dISub, eBM, eBM0, asRef, eDGet, eDGet1, eDGet2, eDIn, eDNotIn, sDPutD, sDDelD, eCa, eMe, eMa, eFld, sFldD, sFldAugD, setO, dAppend, dPopAt, isBl, isTr, List.length_set, List.lookup, Nat.reduceLT, Nat.reduceLeDiff, Nat.lt_irrefl, Nat.not_lt_zero, Nat.zero_le, Nat.le_refl, Nat.zero_lt_succ, Nat.lt_add_one, sRaise, eJoin, dJoin, br, Int.natCast_nonneg, Int.cast_ofNat_Int, Int.reduceEq, 
  dstart, List.map_cons, List.map_nil, List.length_cons, List.length_nil, List.replicate, List.cons_append, List.nil_append, List.append_nil, List.getElem?_cons_zero, List.getElem?_cons_succ, List.set_cons_zero, List.set_cons_succ, Nat.sub_self, Nat.reduceAdd, Nat.reduceSub, wipeD,
  dat_i, dat_s, dat_b, dat_n, dats_c, dats_e, eqD_ii, eqD_ss, eqD_bb, eqD_nn, eqD_is, eqD_si, isNon, unC_i, unC_s, unC_b, unC_n, unC_t, unC_c, flatD, List.all_cons, List.all_nil, List.any_cons, List.any_nil, decide_true, decide_false, List.mem_cons, tyD, isTy, tyKn, String.reduceBEq, Bool.or_true, Bool.true_or, Bool.or_false, Bool.false_or, Bool.and_true, Bool.true_and, Bool.and_false, Bool.false_and, Bool.or_self, Bool.and_self, true_and, and_true, true_implies, false_implies, forall_const, reduceCtorEq, Bool.true_eq_false, Bool.false_eq_true, if_true, if_false, ite_true, ite_false, Bool.not_true, Bool.not_false, implies_true, eq_self])

/-! ### what is drawn from a script, by data -/
section
variable (A : Ad) {S : Sto} {Q : DK} {Ed : XD}
theorem w_mix {x y : Int} (q : ∀ n, Q (.int n) S) : F__law_mix A [.int x, .int y] S Q Ed := by
  unfold F__law_mix B__law_mix
  walk_at "drn"
  refine ⟨.inr ⟨by decide, by decide⟩, .inr ⟨by decide, by decide⟩, by decide, .inr ⟨by decide, by decide⟩, .inr ⟨by decide, by decide⟩, by decide, q _⟩
theorem w_numbers {n : Nat} (hn : n ≤ 1000) (q : ∀ (ns : List Int) (p : Addr) S', ns.length = n → Se S S' → S' p = none → Q (.ref p) (sup S' p (.lst (ns.map D.int)))) : F__law_numbers A [.scr, .int (n : Int)] S Q Ed := by
  unfold F__law_numbers B__law_numbers
  walk_at "dr"
  refine fun f hf => nx_go ?_
  walk_at "dr"
  refine fun tot => nx_go ?_
  generalize hu : sSeq (sFor _ _ _) (sRet _) = u
  walk_at "dr"
  refine ⟨by decide, fun cs hcs g hg => ?_⟩
  have gf : g ≠ f := fun e => by rw [e, sup_same] at hg; cases hg
  have hg' : S g = none := by rw [sup_ne gf] at hg; exact hg
  rw [atL_eq sup_same]
  have ok1 : ∀ (ns : List D) (S1 : Sto), S1 g = some (.lst (cs.map D.int)) → (sup S1 f (.lst ns)) g = some (.lst (cs.map D.int)) := fun ns S1 h => by rw [sup_ne gf]; exact h
  have tail : ∀ (ns : List Int) (S1 : Sto) (x3 : Int) (x4 x5 x6 : Option D), ns.length ≤ 5000 → Se S S1 → S1 f = none → NX u { nx := fun _ S' => Q .non S', rt := Q } [some .scr, some (.int (n : Int)), some (.ref f), some (.int x3), x4, x5, x6] (sup S1 f (.lst (ns.map D.int))) := by
    intro ns S1 x3 x4 x5 x6 hl hs h1
    subst hu
    refine nx_go ?_
    walk_at "dr"
    refine ⟨by omega, by omega, ?_⟩
    rw [Int.toNat_natCast]
    refine forD_ix (fun k δ S' => ∃ (ns : List Int) (S1 : Sto) (x3 : Int) (x6 : Option D), δ = [some .scr, some (.int (n : Int)), some (.ref f), some (.int x3), x4, x5, x6] ∧ S' = sup S1 f (.lst (ns.map D.int)) ∧ S1 f = none ∧ Se S S1 ∧ k ≤ ns.length ∧ ns.length ≤ 5000 + k) ?_ ?_ ⟨ns, S1, x3, x6, rfl, rfl, h1, hs, Nat.zero_le _, hl⟩
    · rintro k x hx Nx δ S' ⟨ns, S1, x3, x6, rfl, rfl, h1, hs, hk, hl⟩ go
      have hkn : k < n := by have := (List.getElem?_eq_some_iff.mp hx).1; rwa [upto_len] at this
      obtain ⟨j, _, rfl⟩ := upto_mem (List.mem_of_getElem? hx)
      refine ⟨trivial, ?_⟩
      walk_at "dr"
      rw [atL_eq sup_same]
      refine ⟨fun hc => ?_, fun hc => ?_⟩
      · walk_at "dr"
        refine w_mix A fun x => nx_go ?_
        walk_at "dr"
        refine ⟨atL_to sup_same trivial, by decide, ?_⟩
        rw [atL_eq sup_same]
        refine ⟨by rw [List.length_map]; omega, go _ _ ⟨ns ++ [x % 1000], S1, x, _, rfl, by rw [sup_sup, List.map_append]; rfl, h1, hs, by rw [List.length_append]; simp; omega, by rw [List.length_append]; simp; omega⟩⟩
      · have hc' := of_decide_eq_false hc
        rw [List.length_map] at hc'
        exact go _ _ ⟨ns, S1, x3, _, rfl, rfl, h1, hs, by omega, by omega⟩
    · rintro δ S' ⟨ns, S1, x3, x6, rfl, rfl, h1, hs, hk, hl⟩
      rw [upto_len] at hk
      refine ⟨trivial, nx_go ?_⟩
      walk_at "dr"
      rw [atL_eq sup_same, cut_take, ← List.map_take]
      intro p hp
      have np : p ≠ f := fun e => by rw [e, sup_same] at hp; cases hp
      refine q _ p _ (by rw [List.length_take]; omega) (hs.new h1) hp
  refine forD_ix (fun k δ S' => ∃ (ns : List Int) (S1 : Sto) (x3 : Int) (x4 x5 x6 : Option D), δ = [some .scr, some (.int (n : Int)), some (.ref f), some (.int x3), x4, x5, x6] ∧ S' = sup S1 f (.lst (ns.map D.int)) ∧ S1 f = none ∧ Se S S1 ∧ S1 g = some (.lst (cs.map D.int)) ∧ ns.length ≤ 60 * k) ?_ ?_ ⟨[], sup S g (.lst (cs.map D.int)), _, none, none, none, rfl, sup_comm (Ne.symm gf), by rw [sup_ne (Ne.symm gf)]; exact hf, Se.one hg', sup_same, Nat.zero_le _⟩
  · rintro k x hx Nx δ S' ⟨ns, S1, x3, x4, x5, x6, rfl, rfl, h1, hs, h2, hl⟩ go
    have hk : k < cs.length := by have := (List.getElem?_eq_some_iff.mp hx).1; rwa [List.length_map] at this
    have hcs : cs.length ≤ 63 := hcs
    obtain ⟨c, _, rfl⟩ := List.mem_map.mp (List.mem_of_getElem? hx)
    refine ⟨ok1 _ _ h2, ?_⟩
    walk_at "dr"
    refine nx_go ?_
    walk_at "dr"
    refine ⟨by decide, w_mix A fun y => nx_go ?_⟩
    generalize (if c < 0 then -c else c) = z
    walk_at "dr"
    refine ⟨⟨by decide, by decide, by decide⟩, fun hc => ?_, fun hc => ?_⟩
    · walk_at "dr"
      refine ⟨by decide, by decide, ?_⟩
      refine forD_ix (fun j δ S' => ∃ (ns : List Int) (z : Int) (x6 : Option D), δ = [some .scr, some (.int (n : Int)), some (.ref f), some (.int y), some (.int c), some (.int z), x6] ∧ S' = sup S1 f (.lst (ns.map D.int)) ∧ ns.length ≤ 60 * k + j) ?_ ?_ ⟨ns, z, _, rfl, rfl, hl⟩
      · rintro j x hx Nx δ S' ⟨ns, z, x6, rfl, rfl, hl⟩ go
        have hj : j < 60 := by have := (List.getElem?_eq_some_iff.mp hx).1; rwa [upto_len] at this
        refine ⟨trivial, ?_⟩
        walk_at "dr"
        refine ⟨fun hc => ?_, fun hc => go _ _ ⟨ns, z, _, rfl, rfl, by omega⟩⟩
        walk_at "dr"
        refine ⟨atL_to sup_same trivial, by decide, ?_⟩
        rw [atL_eq sup_same]
        refine ⟨by rw [List.length_map]; omega, nx_go ?_⟩
        walk_at "dr"
        refine ⟨⟨by decide, by decide⟩, go _ _ ⟨ns ++ [z % 1000], _, _, rfl, by rw [sup_sup, List.map_append]; rfl, by rw [List.length_append]; simp; omega⟩⟩
      · rintro δ S' ⟨ns, z, x6, rfl, rfl, hl⟩
        rw [upto_len] at hl
        have hl : ns.length ≤ 60 * k + 60 := hl
        exact ⟨trivial, go _ _ ⟨ns, S1, _, _, _, _, rfl, rfl, h1, hs, h2, by omega⟩⟩
    · walk_at "dr"
      refine ⟨by decide, by decide, ?_⟩
      refine forD_ix (fun j δ S' => ∃ (ns : List Int) (x6 : Option D), δ = [some .scr, some (.int (n : Int)), some (.ref f), some (.int y), some (.int c), some (.int z), x6] ∧ S' = sup S1 f (.lst (ns.map D.int)) ∧ ns.length ≤ 60 * k + j) ?_ ?_ ⟨ns, _, rfl, rfl, hl⟩
      · rintro j x hx Nx δ S' ⟨ns, x6, rfl, rfl, hl⟩ go
        have hj : j < 6 := by have := (List.getElem?_eq_some_iff.mp hx).1; rwa [upto_len] at this
        obtain ⟨i, _, rfl⟩ := upto_mem (List.mem_of_getElem? hx)
        refine ⟨trivial, ?_⟩
        walk_at "dr"
        refine ⟨atL_to sup_same trivial, w_mix A fun v => ?_⟩
        walk_at "dr"
        refine ⟨by decide, ?_⟩
        rw [atL_eq sup_same]
        refine ⟨by rw [List.length_map]; omega, go _ _ ⟨ns ++ [v % 1000], _, rfl, by rw [sup_sup, List.map_append]; rfl, by rw [List.length_append]; simp; omega⟩⟩
      · rintro δ S' ⟨ns, x6, rfl, rfl, hl⟩
        rw [upto_len] at hl
        have hl : ns.length ≤ 60 * k + 6 := hl
        exact ⟨trivial, go _ _ ⟨ns, S1, _, _, _, _, rfl, rfl, h1, hs, h2, by omega⟩⟩
  · rintro δ S' ⟨ns, S1, x3, x4, x5, x6, rfl, rfl, h1, hs, h2, hl⟩
    rw [List.length_map] at hl
    have hcs : cs.length ≤ 63 := hcs
    exact ⟨ok1 _ _ h2, tail ns S1 x3 x4 x5 x6 (by omega) hs h1⟩
/-- the object of the draws: p the dict, q the row; B is what else stands -/
def drO (q : Addr) (i : Int) : O := .dK [(Sum.inr "at", .int i), (Sum.inr "row", .ref q)]
def drS (p q : Addr) (i : Int) (B : Sto) : Sto := sup B p (drO q i)
structure Dw (p q : Addr) (B : Sto) : Prop where
  row : ∃ ns : List Int, B q = some (.lst (ns.map D.int)) ∧ 0 < ns.length ∧ ns.length ≤ 1000
  ne : q ≠ p
theorem Dw.se {p q : Addr} {B B' : Sto} (h : Dw p q B) (s : Se B B') : Dw p q B' := by
  obtain ⟨⟨ns, e, h1⟩, h2⟩ := h
  exact ⟨⟨ns, s _ _ e, h1⟩, h2⟩
theorem Dw.put {p q e : Addr} {o : O} {B : Sto} (h : Dw p q B) (n : q ≠ e) : Dw p q (sup B e o) := by
  obtain ⟨⟨ns, e1, h1⟩, h2⟩ := h
  exact ⟨⟨ns, by rw [sup_ne n]; exact e1, h1⟩, h2⟩
theorem dr_at {p q a : Addr} {i : Int} {B : Sto} (h : a ≠ p) : drS p q i B a = B a := sup_ne h
theorem dr_p {p q : Addr} {i : Int} {B : Sto} : drS p q i B p = some (drO q i) := sup_same
theorem dr_sup {p q a : Addr} {i : Int} {B : Sto} {o : O} (h : a ≠ p) : sup (drS p q i B) a o = drS p q i (sup B a o) := sup_comm (Ne.symm h)
theorem dr_new {p q a : Addr} {i : Int} {B : Sto} (h : drS p q i B a = none) : a ≠ p ∧ B a = none := by
  have n : a ≠ p := fun e => by rw [e, dr_p] at h; cases h
  exact ⟨n, by rw [dr_at n] at h; exact h⟩
theorem w_draws {n : Nat} (hn : n ≤ 1000) (h0 : 0 < n) (q : ∀ (p r : Addr) B, Dw p r B → Se S B → Q (.ref p) (drS p r 0 B)) : F__law_draws A [.scr, .int (n : Int)] S Q Ed := by
  unfold F__law_draws B__law_draws
  walk_at "dr"
  refine w_numbers A hn fun ns r S1 hl hs hr p hp => ?_
  have np : p ≠ r := fun e => by rw [e, sup_same] at hp; cases hp
  exact q p r _ ⟨⟨ns, sup_same, by omega, by omega⟩, Ne.symm np⟩ (hs.new hr)
variable {p r : Addr} {i : Int} {B : Sto}
theorem w_take {b : Int} (W : Dw p r B) (hb : 0 < b) (q : ∀ (x i' : Int), 0 ≤ x → x < b → Q (.int x) (drS p r i' B)) : F__law_take A [.ref p, .int b] (drS p r i B) Q Ed := by
  obtain ⟨⟨ns, hr, h0, h1⟩, ne⟩ := W
  unfold F__law_take B__law_take
  have kr : keyD (.str "row") = (some (Sum.inr "row") : Option Key) := rfl
  have ka : keyD (.str "at") = (some (Sum.inr "at") : Option Key) := rfl
  walk_at "dr"
  rw [dget_K (dr_p) kr]
  show NX _ _ _ _
  refine nx_go ?_
  walk_at "dr"
  rw [dget_K (dr_p) ka]
  show NX _ _ _ _
  refine nx_go ?_
  walk_at "dr"
  rw [dput_K dr_p ka (by show 2 < 1000000; decide)]
  have e : sup (drS p r i B) p (.dK (putKD [(Sum.inr "at", D.int i), (Sum.inr "row", .ref r)] (Sum.inr "at") (.int (i + 1)))) = drS p r (i + 1) B := by
    unfold drS
    rw [sup_sup]
    rfl
  rw [e]
  refine nx_go ?_
  have hr' : drS p r (i + 1) B r = some (.lst (ns.map D.int)) := by rw [dr_at ne]; exact hr
  walk_at "dr"
  rw [atL_eq hr', List.length_map]
  refine ⟨by omega, ?_⟩
  rw [atL_eq hr', atI_ints (Int.emod_nonneg _ (by omega)) (Int.emod_lt_of_pos _ (by omega))]
  walk_at "dr"
  rw [atL_eq hr', List.length_map]
  refine ⟨⟨by omega, ?_⟩, nx_go ?_⟩
  · rw [Int.natAbs_natCast]
    have : ns.length < 2 ^ 10 := by omega
    have := (Nat.log2_lt (by omega)).mpr this
    omega
  walk_at "dr"
  exact ⟨hb, q _ _ (Int.emod_nonneg _ (by omega)) (Int.emod_lt_of_pos _ hb)⟩
end

end Sd

set_option Elab.async false
set_option linter.all false
set_option maxRecDepth 100000
set_option maxHeartbeats 4000000
namespace Sd
open PySem PySem.Spec PyProof.Rows L2 GxR
local macro_rules | `(tactic| walk_at "dr") => `(tactic| try simp only [shut_eq, eVar, eC, sPar2, sPar3, eKIx, eKIn, eKGet2, eEvry, eTupG, iZip3D, dIsB, kLook_c, atI_c0, atI_c1, atI_c2, atI_c3, atI_c4, atI_c5, cut_t1, cut_t2, cut_t3, cut_t4, cut_t5, cut_d1, cut_d2, cut_d3, tk1, tk2, tk5, dp1, dp2,  eSlX, dSlX, eSumG, eInt, dSum, dAbs, dPow, dStrN, eDisp, pairsD, iZT, eEvryT, dExtT, dLenS, dMin, dMax, eSplit, eSumV, dNeL_r, eOp, eUn, asB, eAnd, eOr, eNot, eIf, eChain, tV, tAnd', tOr', tNot', aNil, aCons, eTup, eLst, eCB, eDK, eDT, dAdd, dI, dSub, dMod, dDiv, dXor, dShl, dShr, dMul, dCmp, dLe, dLt, dGe, dGt, dEq, dNe, dIn, dIsN, dIx_t, dIx_c, dIx_s, dIx_r, dIx_iD, dNeg, dLen_iD, dLen_s, dLen_t, dLen_c, dLen_r, dList, dTuple, dInt, dIsi, dAll, oNone, oSome, dSl, eSl,
  xName, xNil, xCons, xTup, xSub, sNext, sSeq, sBreak, sCont, sDrop, sRet, sRetN, sIf, sAsg, sAug, sFor, iL, iT, iS, iR1, iR2, iRev1, iRev2, tYes', eLc, eAll, dIAdd, dISub, eBM, eBM0, asRef, eDGet, eDGet1, eDGet2, eDIn, eDNotIn, sDPutD, sDDelD, eCa, eMe, eMa, eFld, sFldD, sFldAugD, setO, dAppend, dPopAt, isBl, isTr, List.length_set, List.lookup, Nat.reduceLT, Nat.reduceLeDiff, Nat.lt_irrefl, Nat.not_lt_zero, Nat.zero_le, Nat.le_refl, Nat.zero_lt_succ, Nat.lt_add_one, sRaise, eJoin, dJoin, br, Int.natCast_nonneg, Int.cast_ofNat_Int, Int.reduceEq, 
  dstart, List.map_cons, List.map_nil, List.length_cons, List.length_nil, List.replicate, List.cons_append, List.nil_append, List.append_nil, List.getElem?_cons_zero, List.getElem?_cons_succ, List.set_cons_zero, List.set_cons_succ, Nat.sub_self, Nat.reduceAdd, Nat.reduceSub, wipeD,
  dat_i, dat_s, dat_b, dat_n, dats_c, dats_e, eqD_ii, eqD_ss, eqD_bb, eqD_nn, eqD_is, eqD_si, isNon, unC_i, unC_s, unC_b, unC_n, unC_t, unC_c, flatD, List.all_cons, List.all_nil, List.any_cons, List.any_nil, decide_true, decide_false, List.mem_cons, tyD, isTy, tyKn, String.reduceBEq, Bool.or_true, Bool.true_or, Bool.or_false, Bool.false_or, Bool.and_true, Bool.true_and, Bool.and_false, Bool.false_and, Bool.or_self, Bool.and_self, true_and, and_true, true_implies, false_implies, forall_const, reduceCtorEq, Bool.true_eq_false, Bool.false_eq_true, if_true, if_false, ite_true, ite_false, Bool.not_true, Bool.not_false, implies_true, eq_self])
local macro_rules | `(tactic| walk_at "drn") => `(tactic| try simp only [shut_eq, eVar, eC, sPar2, sPar3, eKIx, eKIn, eKGet2, eEvry, eTupG, iZip3D, dIsB, kLook_c, atI_c0, atI_c1, atI_c2, atI_c3, atI_c4, atI_c5, cut_t1, cut_t2, cut_t3, cut_t4, cut_t5, cut_d1, cut_d2, cut_d3, tk1, tk2, tk5, dp1, dp2,  eSlX, dSlX, eSumG, eInt, dSum, dAbs, dPow, dStrN, eDisp, pairsD, iZT, eEvryT, dExtT, dLenS, dMin, dMax, eSplit, eSumV, dNeL_r, eOp, eUn, asB, eAnd, eOr, eNot, eIf, eChain, tV, tAnd', tOr', tNot', aNil, aCons, eTup, eLst, eCB, eDK, eDT, dAdd, dI, dSub, dMod, dDiv, dXor, dShl, dShr, dMul, dCmp, dLe, dLt, dGe, dGt, dEq, dNe, dIn, dIsN, dIx_t, dIx_c, dIx_s, dIx_r, dIx_iD, dNeg, dLen_iD, dLen_s, dLen_t, dLen_c, dLen_r, dList, dTuple, dInt, dIsi, dAll, oNone, oSome, dSl, eSl,
  xName, xNil, xCons, xTup, xSub, sNext, sSeq, NX_eq, sBreak, sCont, sDrop, sRet, sRetN, sIf, sAsg, sAug, sFor, iL, iT, iS, iR1, iR2, iRev1, iRev2, tYes', eLc, eAll, dIAdd, dISub, eBM, eBM0, asRef, eDGet, eDGet1, eDGet2, eDIn, eDNotIn, sDPutD, sDDelD, eCa, eMe, eMa, eFld, sFldD, sFldAugD, setO, dAppend, dPopAt, isBl, isTr, List.length_set, List.lookup, Nat.reduceLT, Nat.reduceLeDiff, Nat.lt_irrefl, Nat.not_lt_zero, Nat.zero_le, Nat.le_refl, Nat.zero_lt_succ, Nat.lt_add_one, sRaise, eJoin, dJoin, br, Int.natCast_nonneg, Int.cast_ofNat_Int, Int.reduceEq, 
  dstart, List.map_cons, List.map_nil, List.length_cons, List.length_nil, List.replicate, List.cons_append, List.nil_append, List.append_nil, List.getElem?_cons_zero, List.getElem?_cons_succ, List.set_cons_zero, List.set_cons_succ, Nat.sub_self, Nat.reduceAdd, Nat.reduceSub, wipeD,
  dat_i, dat_s, dat_b, dat_n, dats_c, dats_e, eqD_ii, eqD_ss, eqD_bb, eqD_nn, eqD_is, eqD_si, isNon, unC_i, unC_s, unC_b, unC_n, unC_t, unC_c, flatD, List.all_cons, List.all_nil, List.any_cons, List.any_nil, decide_true, decide_false, List.mem_cons, tyD, isTy, tyKn, String.reduceBEq, Bool.or_true, Bool.true_or, Bool.or_false, Bool.false_or, Bool.and_true, Bool.true_and, Bool.and_false, Bool.false_and, Bool.or_self, Bool.and_self, true_and, and_true, true_implies, false_implies, forall_const, reduceCtorEq, Bool.true_eq_false, Bool.false_eq_true, if_true, if_false, ite_true, ite_false, Bool.not_true, Bool.not_false, implies_true, eq_self])

section
variable {p r : Addr} {B : Sto} {i : Int} {Q : DK} {Ed : XD} (A : Ad)
def lowL : List Nat := [97, 98, 99, 100, 101, 102, 103, 104, 105, 106, 107, 108, 109, 110, 111, 112, 113, 114, 115, 116, 117, 118, 119, 120, 121, 122]
def digL : List Nat := [48, 49, 50, 51, 52, 53, 54, 55, 56, 57]
theorem pickT {l : List Nat} {i : Int} {n : Nat} {S : Sto} {Q : DK} (hn : l.length = n) (h0 : 0 ≤ i) (h1 : i < n) (h : ∀ c ∈ l, Q (.str (tS [c])) S) : dIx (.str (tS l)) (.int i) S Q := by
  rw [dIx_s, tS_cps]
  obtain ⟨c, e, hc⟩ := atI_some (xs := l) h0 (by omega)
  rw [e]
  exact h _ hc
theorem name_mk {c : Nat} {ds : List Nat} (hc : c ∈ lowL) (hd : ∀ d ∈ ds, d ∈ lowL ++ digL) (hl : ds.length ≤ 11) : nameL (c :: ds) = true := by
  have a1 : ∀ c ∈ lowL, ltC c = true := by decide +kernel
  have a2 : ∀ d ∈ lowL ++ digL, (ltC d || dgC d) = true := by decide +kernel
  unfold nameL
  rw [List.length_cons, decide_eq_true (by omega), decide_eq_true (by omega), List.all_cons, a1 c hc]
  have a3 : ds.all (fun c => ltC c || dgC c) = true := List.all_eq_true.mpr fun d h => a2 d (hd d h)
  simp only [Bool.true_or, Bool.true_and, a3, a1 c hc, Bool.and_self]
theorem join_ones : ∀ ds : List Nat, Txt.join (Str.ofString "") (ds.map fun c => tS [c]) = tS ds := by
  intro ds
  rw [show (Str.ofString "") = tS [] from by decide +kernel]
  have key : ∀ ds : List Nat, Str.join (tS []) (ds.map fun c => tS [c]) = tS ds := by
    intro ds
    induction ds with
    | nil => rw [List.map_nil, Str.join.eq_1]; rfl
    | cons c ds ih =>
      cases ds with
      | nil => rw [List.map_cons, List.map_nil, Str.join.eq_2]
      | cons d ds =>
        rw [List.map_cons, List.map_cons, Str.join.eq_3 (tS []) (tS [c]) (tS [d] :: ds.map fun c => tS [c]) (by intro e; cases e)]
        rw [← List.map_cons (f := fun c => tS [c]), ih, tS_app, tS_app]
        rfl
  rw [show Txt.join (tS []) (ds.map fun c => tS [c]) = Str.join (tS []) (ds.map fun c => tS [c]) from TL.join_eq _ _]
  exact key ds
theorem sum1 : ∀ ds : List Nat, ((ds.map fun c => tS [c]).map (·.length)).sum = ds.length
  | [] => rfl
  | c :: ds => by
    rw [List.map_cons, List.map_cons, List.sum_cons, sum1 ds, tS_len, List.length_cons, List.length_cons, List.length_nil]
    omega
theorem w_lname (W : Dw p r B) (q : ∀ (y : List Nat) (i' : Int) B', nameL y = true → Se B B' → Q (.str (tS y)) (drS p r i' B')) : F__law_name A [.ref p] (drS p r i B) Q Ed := by
  unfold F__law_name B__law_name
  walk_at "dr"
  refine nx_go ?_
  walk_at "dr"
  refine w_take A W (by decide) fun x0 i0 x00 x01 => ?_
  walk_at "dr"
  refine ⟨fun _ l hl => ?_, fun _ => nx_go ?_⟩
  · obtain ⟨nl, hl⟩ := dr_new hl
    rw [dr_sup nl]
    have e1 : Str.ofString "block" = tS [98, 108, 111, 99, 107] := by decide +kernel
    have e2 : Str.ofString "back" = tS [98, 97, 99, 107] := by decide +kernel
    have e3 : Str.ofString "b" = tS [98] := by decide +kernel
    have e4 : Str.ofString "puts" = tS [112, 117, 116, 115] := by decide +kernel
    have e5 : Str.ofString "a1b2c3d4e5f6" = tS [97, 49, 98, 50, 99, 51, 100, 52, 101, 53, 102, 54] := by decide +kernel
    rw [e1, e2, e3, e4, e5]
    have se := (Se.refl (S := B)).new (o := .lst [D.str (tS [98, 108, 111, 99, 107]), D.str (tS [98, 97, 99, 107]), D.str (tS [98]), D.str (tS [112, 117, 116, 115]), D.str (tS [97, 49, 98, 50, 99, 51, 100, 52, 101, 53, 102, 54])]) hl
    refine w_take A (W.se se) (by decide) fun x i1 x0 x1 => ?_
    rw [dIx_r, atL_eq (by rw [dr_at nl]; exact sup_same)]
    have hx : x = 0 ∨ x = 1 ∨ x = 2 ∨ x = 3 ∨ x = 4 := by omega
    rcases hx with rfl | rfl | rfl | rfl | rfl
    all_goals exact q _ _ _ (by decide +kernel) se
  have e0 : Str.ofString "abcdefghijklmnopqrstuvwxyz" = tS lowL := by decide +kernel
  have e9 : Str.ofString "0123456789" = tS digL := by decide +kernel
  rw [e0]
  generalize hv : sSeq (sAsg (eJoin _ _) _) _ = v
  have tail : ∀ (m : Nat) (i : Int) (B' : Sto), m ≤ 11 → Se B B' → NX v { nx := fun _ S' => Q .non S', rt := Q } [some (.ref p), some (.str (tS lowL)), some (.int (m : Int)), none, none] (drS p r i B') := by
    intro m i B1 hm se1
    subst hv
    have W1 := W.se se1
    refine nx_go ?_
    walk_at "dr"
    rw [e9]
    refine ⟨⟨_, rfl⟩, by omega, by omega, ?_⟩
    rw [Int.toNat_natCast]
    refine lcD_acc (J := fun acc S' => ∃ (i' : Int) (ds : List Nat), S' = drS p r i' B1 ∧ acc = (ds.map fun c => tS [c]).map D.str ∧ ∀ d ∈ ds, d ∈ lowL ++ digL) ?_ (fun _ _ _ _ => trivial) ?_ (by rw [upto_len]; omega) ⟨i, [], rfl, rfl, fun _ z => nomatch z⟩
    · rintro acc x hx S' ⟨i', ds, rfl, rfl, hd⟩
      refine ⟨trivial, fun R hR => ?_⟩
      walk_at "dr"
      refine ⟨by decide +kernel, ?_⟩
      rw [tS_app]
      refine w_take A W1 (by decide) fun x i2 x0 x1 => pickT (by decide : (lowL ++ digL).length = 36) x0 x1 fun c hc => hR _ _ ⟨i2, ds ++ [c], rfl, by rw [List.map_append, List.map_append]; rfl, fun d h => ?_⟩
      rcases List.mem_append.mp h with h | h
      · exact hd d h
      · rw [List.mem_singleton.mp h]; exact hc
    · rintro acc S' hl ⟨i', ds, rfl, rfl, hd⟩
      rw [List.length_map, List.length_map, upto_len] at hl
      intro e he
      obtain ⟨ne, he⟩ := dr_new he
      rw [dr_sup ne]
      have se2 := se1.new (o := .lst ((ds.map fun c => tS [c]).map D.str)) he
      have W2 := W.se se2
      have hE : drS p r i' (sup B1 e (.lst ((ds.map fun c => tS [c]).map D.str))) e = some (.lst ((ds.map fun c => tS [c]).map D.str)) := by rw [dr_at ne, sup_same]
      rw [atL_eq hE, strs_map]
      have hs := sum1 ds
      simp only
      rw [join_ones]
      refine ⟨by rw [hs, List.length_map]; show ds.length + ds.length * 0 ≤ _; omega, fun okj => nx_go ?_⟩
      walk_at "dr"
      refine w_take A W2 (by decide) fun x i2 x0 x1 => pickT (by decide : lowL.length = 26) x0 x1 fun c hc => ?_
      walk_at "dr"
      rw [tS_app]
      refine ⟨by rw [tS_len, tS_len, List.length_cons, List.length_nil]; omega, ?_⟩
      exact q (c :: ds) _ _ (name_mk hc hd (by omega)) se2
  walk_at "dr"
  intro l hl
  obtain ⟨nl, hl⟩ := dr_new hl
  rw [dr_sup nl]
  have se := (Se.refl (S := B)).new (o := .lst [D.int 0, D.int 1, D.int 2, D.int 5, D.int 11]) hl
  refine w_take A (W.se se) (by decide) fun x i1 x0 x1 => ?_
  rw [dIx_r, atL_eq (by rw [dr_at nl]; exact sup_same)]
  have hx : x = 0 ∨ x = 1 ∨ x = 2 ∨ x = 3 ∨ x = 4 := by omega
  rcases hx with rfl | rfl | rfl | rfl | rfl
  · exact tail 0 _ _ (by decide) se
  · exact tail 1 _ _ (by decide) se
  · exact tail 2 _ _ (by decide) se
  · exact tail 5 _ _ (by decide) se
  · exact tail 11 _ _ (by decide) se
end

end Sd

set_option Elab.async false
set_option linter.all false
set_option maxRecDepth 100000
set_option maxHeartbeats 4000000
namespace Sd
open PySem PySem.Spec PyProof.Rows L2 GxR
local macro_rules | `(tactic| walk_at "dr") => `(tactic| try simp only [shut_eq, eVar, eC, sPar2, sPar3, eKIx, eKIn, eKGet2, eEvry, eTupG, iZip3D, dIsB, kLook_c, atI_c0, atI_c1, atI_c2, atI_c3, atI_c4, atI_c5, cut_t1, cut_t2, cut_t3, cut_t4, cut_t5, cut_d1, cut_d2, cut_d3, tk1, tk2, tk5, dp1, dp2,  eSlX, dSlX, eSumG, eInt, dSum, dAbs, dPow, dStrN, eDisp, pairsD, iZT, eEvryT, dExtT, dLenS, dMin, dMax, eSplit, eSumV, dNeL_r, eOp, eUn, asB, eAnd, eOr, eNot, eIf, eChain, tV, tAnd', tOr', tNot', aNil, aCons, eTup, eLst, eCB, eDK, eDT, dAdd, dI, dSub, dMod, dDiv, dXor, dShl, dShr, dMul, dCmp, dLe, dLt, dGe, dGt, dEq, dNe, dIn, dIsN, dIx_t, dIx_c, dIx_s, dIx_r, dIx_iD, dNeg, dLen_iD, dLen_s, dLen_t, dLen_c, dLen_r, dList, dTuple, dInt, dIsi, dAll, oNone, oSome, dSl, eSl,
  xName, xNil, xCons, xTup, xSub, sNext, sSeq, sBreak, sCont, sDrop, sRet, sRetN, sIf, sAsg, sAug, sFor, iL, iT, iS, iR1, iR2, iRev1, iRev2, tYes', eLc, eAll, dIAdd, dISub, eBM, eBM0, asRef, eDGet, eDGet1, eDGet2, eDIn, eDNotIn, sDPutD, sDDelD, eCa, eMe, eMa, eFld, sFldD, sFldAugD, setO, dAppend, dPopAt, isBl, isTr, List.length_set, List.lookup, Nat.reduceLT, Nat.reduceLeDiff, Nat.lt_irrefl, Nat.not_lt_zero, Nat.zero_le, Nat.le_refl, Nat.zero_lt_succ, Nat.lt_add_one, sRaise, eJoin, dJoin, br, Int.natCast_nonneg, Int.cast_ofNat_Int, Int.reduceEq, 
  dstart, List.map_cons, List.map_nil, List.length_cons, List.length_nil, List.replicate, List.cons_append, List.nil_append, List.append_nil, List.getElem?_cons_zero, List.getElem?_cons_succ, List.set_cons_zero, List.set_cons_succ, Nat.sub_self, Nat.reduceAdd, Nat.reduceSub, wipeD,
  dat_i, dat_s, dat_b, dat_n, dats_c, dats_e, eqD_ii, eqD_ss, eqD_bb, eqD_nn, eqD_is, eqD_si, isNon, unC_i, unC_s, unC_b, unC_n, unC_t, unC_c, flatD, List.all_cons, List.all_nil, List.any_cons, List.any_nil, decide_true, decide_false, List.mem_cons, tyD, isTy, tyKn, String.reduceBEq, Bool.or_true, Bool.true_or, Bool.or_false, Bool.false_or, Bool.and_true, Bool.true_and, Bool.and_false, Bool.false_and, Bool.or_self, Bool.and_self, true_and, and_true, true_implies, false_implies, forall_const, reduceCtorEq, Bool.true_eq_false, Bool.false_eq_true, if_true, if_false, ite_true, ite_false, Bool.not_true, Bool.not_false, implies_true, eq_self])
local macro_rules | `(tactic| walk_at "drn") => `(tactic| try simp only [shut_eq, eVar, eC, sPar2, sPar3, eKIx, eKIn, eKGet2, eEvry, eTupG, iZip3D, dIsB, kLook_c, atI_c0, atI_c1, atI_c2, atI_c3, atI_c4, atI_c5, cut_t1, cut_t2, cut_t3, cut_t4, cut_t5, cut_d1, cut_d2, cut_d3, tk1, tk2, tk5, dp1, dp2,  eSlX, dSlX, eSumG, eInt, dSum, dAbs, dPow, dStrN, eDisp, pairsD, iZT, eEvryT, dExtT, dLenS, dMin, dMax, eSplit, eSumV, dNeL_r, eOp, eUn, asB, eAnd, eOr, eNot, eIf, eChain, tV, tAnd', tOr', tNot', aNil, aCons, eTup, eLst, eCB, eDK, eDT, dAdd, dI, dSub, dMod, dDiv, dXor, dShl, dShr, dMul, dCmp, dLe, dLt, dGe, dGt, dEq, dNe, dIn, dIsN, dIx_t, dIx_c, dIx_s, dIx_r, dIx_iD, dNeg, dLen_iD, dLen_s, dLen_t, dLen_c, dLen_r, dList, dTuple, dInt, dIsi, dAll, oNone, oSome, dSl, eSl,
  xName, xNil, xCons, xTup, xSub, sNext, sSeq, NX_eq, sBreak, sCont, sDrop, sRet, sRetN, sIf, sAsg, sAug, sFor, iL, iT, iS, iR1, iR2, iRev1, iRev2, tYes', eLc, eAll, dIAdd, dISub, eBM, eBM0, asRef, eDGet, eDGet1, eDGet2, eDIn, eDNotIn, sDPutD, sDDelD, eCa, eMe, eMa, eFld, sFldD, sFldAugD, setO, dAppend, dPopAt, isBl, isTr, List.length_set, List.lookup, Nat.reduceLT, Nat.reduceLeDiff, Nat.lt_irrefl, Nat.not_lt_zero, Nat.zero_le, Nat.le_refl, Nat.zero_lt_succ, Nat.lt_add_one, sRaise, eJoin, dJoin, br, Int.natCast_nonneg, Int.cast_ofNat_Int, Int.reduceEq, 
  dstart, List.map_cons, List.map_nil, List.length_cons, List.length_nil, List.replicate, List.cons_append, List.nil_append, List.append_nil, List.getElem?_cons_zero, List.getElem?_cons_succ, List.set_cons_zero, List.set_cons_succ, Nat.sub_self, Nat.reduceAdd, Nat.reduceSub, wipeD,
  dat_i, dat_s, dat_b, dat_n, dats_c, dats_e, eqD_ii, eqD_ss, eqD_bb, eqD_nn, eqD_is, eqD_si, isNon, unC_i, unC_s, unC_b, unC_n, unC_t, unC_c, flatD, List.all_cons, List.all_nil, List.any_cons, List.any_nil, decide_true, decide_false, List.mem_cons, tyD, isTy, tyKn, String.reduceBEq, Bool.or_true, Bool.true_or, Bool.or_false, Bool.false_or, Bool.and_true, Bool.true_and, Bool.and_false, Bool.false_and, Bool.or_self, Bool.and_self, true_and, and_true, true_implies, false_implies, forall_const, reduceCtorEq, Bool.true_eq_false, Bool.false_eq_true, if_true, if_false, ite_true, ite_false, Bool.not_true, Bool.not_false, implies_true, eq_self])

section
variable {p r : Addr} {B : Sto} {i : Int} {Q : DK} {Ed : XD} (A : Ad)
theorem w_lnum (W : Dw p r B) (q : ∀ (n : Nat) (i' : Int) B', n ≤ 281474976710656 → Se B B' → Q (.int (n : Nat)) (drS p r i' B')) : F__law_number A [.ref p] (drS p r i B) Q Ed := by
  unfold F__law_number B__law_number
  walk_at "dr"
  refine w_take A W (by decide) fun x0 i0 a0 a1 => ?_
  walk_at "dr"
  refine ⟨by unfold CPow; decide, w_take A W (by decide) fun x1 i1 b0 b1 => ?_⟩
  obtain ⟨n0, rfl⟩ : ∃ n : Nat, x0 = (n : Nat) := ⟨x0.toNat, by omega⟩
  have hp : (10 : Int) ^ Int.toNat 9 = 1000000000 := by decide
  obtain ⟨n1, h1⟩ : ∃ n : Nat, (10 : Int) ^ Int.toNat 9 + x1 = (n : Nat) := ⟨((10 : Int) ^ Int.toNat 9 + x1).toNat, by omega⟩
  have hn : n1 ≤ 281474976710656 := by omega
  show ∀ (l : Addr), drS p r i1 B l = none → F__law_take A [D.ref p, D.int 5] (sup (drS p r i1 B) l (O.lst [D.int 0, D.int 1, D.int 281474976710656, D.int (n0 : Int), D.int ((10 : Int) ^ Int.toNat 9 + x1)])) (fun y S2 => dIx (D.ref l) y S2 Q) Ed
  rw [h1]
  intro l hl
  obtain ⟨nl, hl⟩ := dr_new hl
  rw [dr_sup nl]
  have se := (Se.refl (S := B)).new (o := .lst [D.int 0, D.int 1, D.int 281474976710656, D.int (n0 : Int), D.int (n1 : Int)]) hl
  refine w_take A (W.se se) (by decide) fun x i2 x0 x1 => ?_
  rw [dIx_r, atL_eq (by rw [dr_at nl]; exact sup_same)]
  have hx : x = 0 ∨ x = 1 ∨ x = 2 ∨ x = 3 ∨ x = 4 := by omega
  rcases hx with rfl | rfl | rfl | rfl | rfl
  · exact q 0 _ _ (by decide) se
  · exact q 1 _ _ (by decide) se
  · exact q 281474976710656 _ _ (by decide) se
  · exact q n0 _ _ (by omega) se
  · exact q n1 _ _ hn se
/-- the numbers of a drawn act -/
theorem w_lnums (W : Dw p r B) {m : Nat} (hm : m ≤ 50) {g : DG} {δ : DV} {Q : List D → Sto → Prop}
    (hg : ∀ (k : Nat) (i : Int) (B' : Sto) (R : DK), Se B B' → (∀ (n : Nat) i' B2, n ≤ 281474976710656 → Se B' B2 → R (.int (n : Nat)) (drS p r i' B2)) → g (.int (k : Nat)) δ (drS p r i B') fun δ2 S2 => eCa (F__law_number A) xF (aCons (eVar 0) aNil) δ2 S2 R)
    (q : ∀ (ns : List Nat) i' B', ns.length = m → (∀ n ∈ ns, n ≤ 281474976710656) → Se B B' → Q (nsD ns) (drS p r i' B')) :
    lcD (fun _ => True) g tYes' (eCa (F__law_number A) xF (aCons (eVar 0) aNil)) δ (upto 0 m) [] (drS p r i B) Q := by
  refine lcD_acc (J := fun acc S' => ∃ (i' : Int) (B' : Sto) (ns : List Nat), S' = drS p r i' B' ∧ acc = nsD ns ∧ (∀ n ∈ ns, n ≤ 281474976710656) ∧ Se B B') ?_ (fun _ _ _ _ => trivial) ?_ (by rw [upto_len]; omega) ⟨i, B, [], rfl, rfl, (fun _ z => nomatch z), Se.refl⟩
  · rintro acc x hx S' ⟨i', B', ns, rfl, rfl, hn, se⟩
    obtain ⟨_, rfl⟩ := upto_get hx
    refine ⟨trivial, fun R hR => hg _ _ _ _ se fun n i2 B2 h s2 => hR _ _ ⟨i2, B2, ns ++ [n], rfl, ?_, fun y h' => ?_, se.trans s2⟩⟩
    · unfold nsD
      rw [List.map_append]; rfl
    · rcases List.mem_append.mp h' with h' | h'
      · exact hn y h'
      · rw [List.mem_singleton.mp h']; exact h
  · rintro acc S' hl ⟨i', B', ns, rfl, rfl, hn, se⟩
    refine q ns _ _ ?_ hn se
    unfold nsD at hl
    rw [List.length_map, upto_len] at hl
    exact hl
end

end Sd

set_option Elab.async false
set_option linter.all false
set_option maxRecDepth 100000
set_option maxHeartbeats 4000000
namespace Sd
open PySem PySem.Spec PyProof.Rows L2 GxR
/-! ### the acts that the law draws -/
def okW (l : List Nat) : Prop := l.length ≤ 20 ∧ ∀ c ∈ l, 33 ≤ c ∧ c < 128
theorem okW_asc {l : List Nat} (h : okW l) : asc l := ⟨fun c hc => (h.2 c hc).2, by have := h.1; omega⟩
theorem okW_no {l : List Nat} (h : okW l) {s : Nat} (hs : s < 33) : s ∉ l := fun m => by have := (h.2 s m).1; omega
theorem okW_name {y : List Nat} (h : nameL y = true) : okW y := by
  unfold nameL at h
  simp only [Bool.and_eq_true, decide_eq_true_eq, List.all_eq_true] at h
  refine ⟨by omega, fun c hc => ?_⟩
  have := h.2 c hc
  unfold ltC dgC at this
  simp only [Bool.or_eq_true, Bool.and_eq_true, decide_eq_true_eq] at this
  omega
theorem okW_num {n : Nat} (h : n ≤ 281474976710656) : okW (TL.numL n) := by
  refine ⟨TL.numL_len (k := 20) (by decide) (by omega), fun c hc => ?_⟩
  have := TL.numL_digits n c hc
  omega
theorem allN_map : ∀ ns : List Nat, allN (ns.map some) = some ns
  | [] => rfl
  | n :: ns => by rw [List.map_cons, allN, allN_map ns]; rfl
theorem nums_map : ∀ {ns : List Nat}, (∀ n ∈ ns, n ≤ 281474976710656) → (ns.map TL.numL).map (fun w => numI w 281474976710656) = ns.map some
  | [], _ => rfl
  | n :: ns, h => by rw [List.map_cons, List.map_cons, List.map_cons, numI_num (h n List.mem_cons_self), nums_map fun k hk => h k (List.mem_cons_of_mem _ hk)]
theorem rd_play {y verb ns : List Nat} (hc : cntL verb = some ns.length) (hn : ∀ n ∈ ns, n ≤ 281474976710656) : rdL (y :: verb :: ns.map TL.numL) = actP y verb ns := by
  have hp : playL (y :: verb :: ns.map TL.numL) = true := by
    unfold playL
    rw [List.getD_cons_succ, List.getD_cons_zero, hc, decide_eq_true (by rw [List.length_cons, List.length_cons]; omega)]
    rfl
  unfold rdL numsL
  rw [hp, if_pos rfl, List.drop_succ_cons, List.drop_succ_cons, List.drop_zero, nums_map hn, allN_map]
  simp only [if_true, List.getD_cons_succ, List.getD_cons_zero]
theorem cnt_num {n : Nat} (h : n ≤ 281474976710656) : cntL (TL.numL n) = none := by
  have hne := TL.numL_ne n
  have hd := TL.numL_digits n
  cases e : cntL (TL.numL n) with
  | none => rfl
  | some k =>
    exfalso
    unfold cntL at e
    cases f : cntTab.find? fun p => decide (p.1 = TL.numL n) with
    | none => rw [f] at e; cases e
    | some p =>
      have hm := List.mem_of_find?_eq_some f
      have hq : p.1 = TL.numL n := of_decide_eq_true (List.find?_some (p := fun p : List Nat × Nat => decide (p.1 = TL.numL n)) f)
      have all : ∀ p ∈ cntTab, ∃ c ∈ p.1, 58 ≤ c := by decide +kernel
      obtain ⟨c, hc, h58⟩ := all p hm
      rw [hq] at hc
      have := hd c hc
      omega
def gdA : Act → Prop
  | .send y v ns => nameL y = true ∧ ((v = [112, 117, 116] ∧ ns.length = 2) ∨ (v = [97, 115, 107] ∧ ns.length = 0)) ∧ ∀ n ∈ ns, n ≤ 281474976710656
  | .done v y ns => nameL y = true ∧ ((v = [108, 105, 101] ∧ ns.length = 3) ∨ (v = [102, 111, 114, 103, 101] ∧ ns.length = 2) ∨ (v = [99, 117, 116] ∧ ns.length = 0) ∨ (v = [112, 97, 112, 101, 114] ∧ ns.length = 0) ∨ (v = [103, 97, 116, 104, 101, 114] ∧ ns.length = 0)) ∧ ∀ n ∈ ns, n ≤ 281474976710656
  | .block ns => ns.length ≤ 4 ∧ ∀ n ∈ ns, n ≤ 281474976710656
  | .back n => n ≤ 281474976710656
theorem gd_v {a : Act} (h : gdA a) : vbOk a := by
  cases a with
  | send y v ns =>
    obtain ⟨_, h | h, _⟩ := h <;> obtain ⟨rfl, _⟩ := h
    · exact (by decide +kernel : (vbS [112, 117, 116]).length = 1)
    · exact (by decide +kernel : (vbS [97, 115, 107]).length = 1)
  | done v y ns =>
    obtain ⟨_, h | h | h | h | h, _⟩ := h <;> obtain ⟨rfl, _⟩ := h <;> exact ⟨by decide +kernel, by decide, by decide, by decide⟩
  | block ns => trivial
  | back n => trivial
theorem gd_rd {a : Act} (h : gdA a) : rdL ((wdsA a).map wdL) = some a := by
  have em : ∀ ns : List Nat, (ns.map Wd.num).map wdL = ns.map TL.numL := fun ns => by rw [List.map_map]; rfl
  cases a with
  | send y v ns =>
    obtain ⟨hy, h, hn⟩ := h
    show rdL (y :: ((vbS v).headD ([], [])).1 :: (ns.map Wd.num).map wdL) = _
    rw [em]
    rcases h with ⟨rfl, hl⟩ | ⟨rfl, hl⟩
    · have e : ((vbS [112, 117, 116]).headD ([], [])).1 = [112, 117, 116, 115] := by decide +kernel
      have hc : cntL [112, 117, 116, 115] = some ns.length := by rw [hl]; decide +kernel
      rw [e, rd_play hc hn, actP, if_pos ⟨hy, hc⟩, (by decide +kernel : sentL [112, 117, 116, 115] = some [112, 117, 116])]
    · have e : ((vbS [97, 115, 107]).headD ([], [])).1 = [97, 115, 107, 115] := by decide +kernel
      have hc : cntL [97, 115, 107, 115] = some ns.length := by rw [hl]; decide +kernel
      rw [e, rd_play hc hn, actP, if_pos ⟨hy, hc⟩, (by decide +kernel : sentL [97, 115, 107, 115] = some [97, 115, 107])]
  | done v y ns =>
    obtain ⟨hy, h, hn⟩ := h
    show rdL (y :: ((vbD v).headD ([], [])).1 :: (ns.map Wd.num).map wdL) = _
    rw [em]
    have go : ∀ vb : List Nat, ((vbD v).headD ([], [])).1 = vb → cntL vb = some ns.length → sentL vb = none → doneL vb = some v → rdL (y :: ((vbD v).headD ([], [])).1 :: ns.map TL.numL) = some (.done v y ns) := by
      intro vb e hc hs hd
      rw [e, rd_play hc hn, actP, if_pos ⟨hy, hc⟩, hs, hd]
      rfl
    rcases h with ⟨rfl, hl⟩ | ⟨rfl, hl⟩ | ⟨rfl, hl⟩ | ⟨rfl, hl⟩ | ⟨rfl, hl⟩
    · exact go [108, 105, 101, 115] (by decide +kernel) (by rw [hl]; decide +kernel) (by decide +kernel) (by decide +kernel)
    · exact go [102, 111, 114, 103, 101, 115] (by decide +kernel) (by rw [hl]; decide +kernel) (by decide +kernel) (by decide +kernel)
    · exact go [99, 117, 116, 115] (by decide +kernel) (by rw [hl]; decide +kernel) (by decide +kernel) (by decide +kernel)
    · exact go [112, 97, 112, 101, 114, 115] (by decide +kernel) (by rw [hl]; decide +kernel) (by decide +kernel) (by decide +kernel)
    · exact go [103, 97, 116, 104, 101, 114, 115] (by decide +kernel) (by rw [hl]; decide +kernel) (by decide +kernel) (by decide +kernel)
  | block ns =>
    obtain ⟨hl, hn⟩ := h
    show rdL ([98, 108, 111, 99, 107] :: (ns.map Wd.num).map wdL) = _
    rw [em]
    have hp : playL ([98, 108, 111, 99, 107] :: ns.map TL.numL) = false := by
      cases ns with
      | nil => rfl
      | cons n ns =>
        unfold playL
        rw [List.map_cons, List.getD_cons_succ, List.getD_cons_zero, cnt_num (hn n List.mem_cons_self)]
        exact Bool.and_false _
    unfold rdL numsL
    rw [hp, if_neg (by decide), List.drop_succ_cons, List.drop_zero, nums_map hn, allN_map]
    rfl
  | back n =>
    show rdL [[98, 97, 99, 107], TL.numL n] = _
    have hp : playL [[98, 97, 99, 107], TL.numL n] = false := by
      unfold playL
      rw [List.getD_cons_succ, List.getD_cons_zero, cnt_num h]
      exact Bool.and_false _
    unfold rdL numsL
    have e : ([[98, 97, 99, 107], TL.numL n].drop (if (false : Bool) = true then 2 else 1)).map (fun w => numI w 281474976710656) = [n].map some := by
      show [numI (TL.numL n) 281474976710656] = [some n]
      rw [numI_num h]
    rw [hp, e, allN_map]
    rfl
theorem gd_w {a : Act} (h : gdA a) : ∀ w ∈ wdsA a, okW (wdL w) ∧ match w with | .num n => n ≤ 281474976710656 | _ => True := by
  have num : ∀ {ns : List Nat}, (∀ n ∈ ns, n ≤ 281474976710656) → ∀ w ∈ ns.map Wd.num, okW (wdL w) ∧ match w with | .num n => n ≤ 281474976710656 | _ => True := by
    intro ns hn w hw
    obtain ⟨n, hm, rfl⟩ := List.mem_map.mp hw
    exact ⟨okW_num (hn n hm), hn n hm⟩
  have vS : ∀ p ∈ sentTab, okW p.1 := by unfold okW; decide +kernel
  have vD : ∀ p ∈ doneTab, okW p.1 := by unfold okW; decide +kernel
  have hv := gd_v h
  cases a with
  | send y v ns =>
    intro w hw
    rcases List.mem_cons.mp hw with rfl | hw
    · exact ⟨okW_name h.1, trivial⟩
    rcases List.mem_cons.mp hw with rfl | hw
    · refine ⟨?_, trivial⟩
      show okW ((vbS v).headD ([], [])).1
      have hv : (vbS v).length = 1 := hv
      cases e : vbS v with
      | nil => rw [e] at hv; cases hv
      | cons p r => exact vS p (List.mem_filter.mp (by unfold vbS at e; rw [e]; exact List.mem_cons_self : p ∈ sentTab.filter fun p => decide (p.2 = v))).1
    · exact num h.2.2 w hw
  | done v y ns =>
    intro w hw
    rcases List.mem_cons.mp hw with rfl | hw
    · exact ⟨okW_name h.1, trivial⟩
    rcases List.mem_cons.mp hw with rfl | hw
    · refine ⟨?_, trivial⟩
      show okW ((vbD v).headD ([], [])).1
      have hv : (vbD v).length = 1 := hv.1
      cases e : vbD v with
      | nil => rw [e] at hv; cases hv
      | cons p r => exact vD p (List.mem_filter.mp (by unfold vbD at e; rw [e]; exact List.mem_cons_self : p ∈ doneTab.filter fun p => decide (p.2 = v))).1
    · exact num h.2.2 w hw
  | block ns =>
    intro w hw
    rcases List.mem_cons.mp hw with rfl | hw
    · exact ⟨by unfold okW wdL; decide, trivial⟩
    · exact num h.2 w hw
  | back n =>
    intro w hw
    rcases List.mem_cons.mp hw with rfl | hw
    · exact ⟨by unfold okW wdL; decide, trivial⟩
    · exact num (ns := [n]) (fun k hk => by rw [List.mem_singleton.mp hk]; exact h) w hw
theorem gd_len {a : Act} (h : gdA a) : (wdsA a).length ≤ 10 := by
  cases a with
  | send y v ns =>
    obtain ⟨_, h | h, _⟩ := h <;> obtain ⟨_, hl⟩ := h <;> · show (Wd.txt _ :: Wd.txt _ :: ns.map Wd.num).length ≤ 10; rw [List.length_cons, List.length_cons, List.length_map]; omega
  | done v y ns =>
    obtain ⟨_, h | h | h | h | h, _⟩ := h <;> obtain ⟨_, hl⟩ := h <;> · show (Wd.txt _ :: Wd.txt _ :: ns.map Wd.num).length ≤ 10; rw [List.length_cons, List.length_cons, List.length_map]; omega
  | block ns =>
    have := h.1
    show (Wd.txt _ :: ns.map Wd.num).length ≤ 10
    rw [List.length_cons, List.length_map]; omega
  | back n => exact (by decide : 2 ≤ 10)
theorem gd_ok {a : Act} (h : gdA a) : ActP a := ⟨gd_v h, gd_len h, fun w hw => by
  obtain ⟨h1, h2⟩ := gd_w h w hw
  refine ⟨h1.1, okW_asc h1, ?_⟩
  cases w with
  | txt w => trivial
  | num n => exact Nat.lt_of_le_of_lt h2 (by decide)⟩
theorem gd_read {a : Act} (h : gdA a) : rdT (lineA a) = some a := by
  unfold rdT lineA
  rw [TL.spl_join (by cases a <;> simp [wdsA]) fun q hq => by
    obtain ⟨w, hw, rfl⟩ := List.mem_map.mp hq
    exact okW_no (gd_w h w hw).1 (by decide)]
  exact gd_rd h

end Sd

set_option Elab.async false
set_option linter.all false
set_option maxRecDepth 100000
set_option maxHeartbeats 4000000
namespace Sd
open PySem PySem.Spec PyProof.Rows L2 GxR
local macro_rules | `(tactic| walk_at "dr") => `(tactic| try simp only [shut_eq, eVar, eC, sPar2, sPar3, eKIx, eKIn, eKGet2, eEvry, eTupG, iZip3D, dIsB, kLook_c, atI_c0, atI_c1, atI_c2, atI_c3, atI_c4, atI_c5, cut_t1, cut_t2, cut_t3, cut_t4, cut_t5, cut_d1, cut_d2, cut_d3, tk1, tk2, tk5, dp1, dp2,  eSlX, dSlX, eSumG, eInt, dSum, dAbs, dPow, dStrN, eDisp, pairsD, iZT, eEvryT, dExtT, dLenS, dMin, dMax, eSplit, eSumV, dNeL_r, eOp, eUn, asB, eAnd, eOr, eNot, eIf, eChain, tV, tAnd', tOr', tNot', aNil, aCons, eTup, eLst, eCB, eDK, eDT, dAdd, dI, dSub, dMod, dDiv, dXor, dShl, dShr, dMul, dCmp, dLe, dLt, dGe, dGt, dEq, dNe, dIn, dIsN, dIx_t, dIx_c, dIx_s, dIx_r, dIx_iD, dNeg, dLen_iD, dLen_s, dLen_t, dLen_c, dLen_r, dList, dTuple, dInt, dIsi, dAll, oNone, oSome, dSl, eSl,
  xName, xNil, xCons, xTup, xSub, sNext, sSeq, sBreak, sCont, sDrop, sRet, sRetN, sIf, sAsg, sAug, sFor, iL, iT, iS, iR1, iR2, iRev1, iRev2, tYes', eLc, eAll, dIAdd, dISub, eBM, eBM0, asRef, eDGet, eDGet1, eDGet2, eDIn, eDNotIn, sDPutD, sDDelD, eCa, eMe, eMa, eFld, sFldD, sFldAugD, setO, dAppend, dPopAt, isBl, isTr, List.length_set, List.lookup, Nat.reduceLT, Nat.reduceLeDiff, Nat.lt_irrefl, Nat.not_lt_zero, Nat.zero_le, Nat.le_refl, Nat.zero_lt_succ, Nat.lt_add_one, sRaise, eJoin, dJoin, br, Int.natCast_nonneg, Int.cast_ofNat_Int, Int.reduceEq, 
  dstart, List.map_cons, List.map_nil, List.length_cons, List.length_nil, List.replicate, List.cons_append, List.nil_append, List.append_nil, List.getElem?_cons_zero, List.getElem?_cons_succ, List.set_cons_zero, List.set_cons_succ, Nat.sub_self, Nat.reduceAdd, Nat.reduceSub, wipeD,
  dat_i, dat_s, dat_b, dat_n, dats_c, dats_e, eqD_ii, eqD_ss, eqD_bb, eqD_nn, eqD_is, eqD_si, isNon, unC_i, unC_s, unC_b, unC_n, unC_t, unC_c, flatD, List.all_cons, List.all_nil, List.any_cons, List.any_nil, decide_true, decide_false, List.mem_cons, tyD, isTy, tyKn, String.reduceBEq, Bool.or_true, Bool.true_or, Bool.or_false, Bool.false_or, Bool.and_true, Bool.true_and, Bool.and_false, Bool.false_and, Bool.or_self, Bool.and_self, true_and, and_true, true_implies, false_implies, forall_const, reduceCtorEq, Bool.true_eq_false, Bool.false_eq_true, if_true, if_false, ite_true, ite_false, Bool.not_true, Bool.not_false, implies_true, eq_self])
local macro_rules | `(tactic| walk_at "drn") => `(tactic| try simp only [shut_eq, eVar, eC, sPar2, sPar3, eKIx, eKIn, eKGet2, eEvry, eTupG, iZip3D, dIsB, kLook_c, atI_c0, atI_c1, atI_c2, atI_c3, atI_c4, atI_c5, cut_t1, cut_t2, cut_t3, cut_t4, cut_t5, cut_d1, cut_d2, cut_d3, tk1, tk2, tk5, dp1, dp2,  eSlX, dSlX, eSumG, eInt, dSum, dAbs, dPow, dStrN, eDisp, pairsD, iZT, eEvryT, dExtT, dLenS, dMin, dMax, eSplit, eSumV, dNeL_r, eOp, eUn, asB, eAnd, eOr, eNot, eIf, eChain, tV, tAnd', tOr', tNot', aNil, aCons, eTup, eLst, eCB, eDK, eDT, dAdd, dI, dSub, dMod, dDiv, dXor, dShl, dShr, dMul, dCmp, dLe, dLt, dGe, dGt, dEq, dNe, dIn, dIsN, dIx_t, dIx_c, dIx_s, dIx_r, dIx_iD, dNeg, dLen_iD, dLen_s, dLen_t, dLen_c, dLen_r, dList, dTuple, dInt, dIsi, dAll, oNone, oSome, dSl, eSl,
  xName, xNil, xCons, xTup, xSub, sNext, sSeq, NX_eq, sBreak, sCont, sDrop, sRet, sRetN, sIf, sAsg, sAug, sFor, iL, iT, iS, iR1, iR2, iRev1, iRev2, tYes', eLc, eAll, dIAdd, dISub, eBM, eBM0, asRef, eDGet, eDGet1, eDGet2, eDIn, eDNotIn, sDPutD, sDDelD, eCa, eMe, eMa, eFld, sFldD, sFldAugD, setO, dAppend, dPopAt, isBl, isTr, List.length_set, List.lookup, Nat.reduceLT, Nat.reduceLeDiff, Nat.lt_irrefl, Nat.not_lt_zero, Nat.zero_le, Nat.le_refl, Nat.zero_lt_succ, Nat.lt_add_one, sRaise, eJoin, dJoin, br, Int.natCast_nonneg, Int.cast_ofNat_Int, Int.reduceEq, 
  dstart, List.map_cons, List.map_nil, List.length_cons, List.length_nil, List.replicate, List.cons_append, List.nil_append, List.append_nil, List.getElem?_cons_zero, List.getElem?_cons_succ, List.set_cons_zero, List.set_cons_succ, Nat.sub_self, Nat.reduceAdd, Nat.reduceSub, wipeD,
  dat_i, dat_s, dat_b, dat_n, dats_c, dats_e, eqD_ii, eqD_ss, eqD_bb, eqD_nn, eqD_is, eqD_si, isNon, unC_i, unC_s, unC_b, unC_n, unC_t, unC_c, flatD, List.all_cons, List.all_nil, List.any_cons, List.any_nil, decide_true, decide_false, List.mem_cons, tyD, isTy, tyKn, String.reduceBEq, Bool.or_true, Bool.true_or, Bool.or_false, Bool.false_or, Bool.and_true, Bool.true_and, Bool.and_false, Bool.false_and, Bool.or_self, Bool.and_self, true_and, and_true, true_implies, false_implies, forall_const, reduceCtorEq, Bool.true_eq_false, Bool.false_eq_true, if_true, if_false, ite_true, ite_false, Bool.not_true, Bool.not_false, implies_true, eq_self])

def EvT (e : DE) (δ : DV) (S : Sto) (d : D) : Prop := ∀ R : DK, R d S → e δ S R
def EvA (a : DA) (δ : DV) (S : Sto) (ds : List D) : Prop := ∀ R : List D → Sto → Prop, R ds S → a δ S R
section
variable {δ : DV} {S : Sto}
theorem evC {d : D} : EvT (eC d) δ S d := fun R h => h
theorem evV {i : Nat} {d : D} (h : δ[i]? = some (some d)) : EvT (eVar i) δ S d := fun R q => by unfold eVar; rw [h]; exact q
theorem evAdd {e f : DE} {a b : List Nat} (h1 : EvT e δ S (.str (tS a))) (h2 : EvT f δ S (.str (tS b))) (hl : a.length + b.length ≤ 1000000) : EvT (eOp dAdd e f) δ S (.str (tS (a ++ b))) := fun R q => h1 _ (h2 _ ⟨by rw [tS_len, tS_len]; exact hl, by rw [tS_app]; exact q⟩)
theorem evN {i n : Nat} (h : δ[i]? = some (some (.int (n : Nat)))) (hn : n ≤ 281474976710656) : EvT (eCB dStrU (aCons (eVar i) aNil)) δ S (.str (tS (TL.numL n))) := fun R q => by
  refine evV h _ ?_
  show (n : Int).natAbs.log2 < 1920 ∧ okS (txtI (n : Nat)) ∧ R (.str (txtI (n : Nat))) S
  rw [txtI_nat]
  exact ⟨log_small (by omega), okT (asc_num n (by omega)), q⟩
theorem evTup {a : DA} {ds : List D} (h : EvA a δ S ds) (hl : ds.length ≤ 1000000) : EvT (eTup a) δ S (.tup ds) := fun R q => h _ ⟨hl, q⟩
theorem evNil : EvA aNil δ S [] := fun R q => q
theorem evCons {e : DE} {a : DA} {d : D} {ds : List D} (h1 : EvT e δ S d) (h2 : EvA a δ S ds) : EvA (aCons e a) δ S (d :: ds) := fun R q => h1 _ (h2 _ q)
theorem acP {e : DE} {a : DA} {d : D} {Q : List D → Sto → Prop} (h : EvT e δ S d) (q : a δ S fun xs S2 => Q (d :: xs) S2) : aCons e a δ S Q := h _ q
theorem evS {s : Str} {l : List Nat} (h : s = tS l) : EvT (eC (.str s)) δ S (.str (tS l)) := fun R q => by subst h; exact q
theorem itm {ea eb : DE} {da db : D} (h1 : EvT ea δ S da) (h2 : EvT eb δ S db) : EvT (eTup (aCons ea (aCons eb aNil))) δ S (.tup [da, db]) := evTup (evCons h1 (evCons h2 evNil)) (by simp)
theorem tp1 {ea : DE} {da : D} (h1 : EvT ea δ S da) : EvT (eTup (aCons ea aNil)) δ S (.tup [da]) := evTup (evCons h1 evNil) (by simp)
theorem tp3 {ea eb ec : DE} {da db dc : D} (h1 : EvT ea δ S da) (h2 : EvT eb δ S db) (h3 : EvT ec δ S dc) : EvT (eTup (aCons ea (aCons eb (aCons ec aNil)))) δ S (.tup [da, db, dc]) := evTup (evCons h1 (evCons h2 (evCons h3 evNil))) (by simp)
theorem tp4 {ea eb ec ed : DE} {da db dc dd : D} (h1 : EvT ea δ S da) (h2 : EvT eb δ S db) (h3 : EvT ec δ S dc) (h4 : EvT ed δ S dd) : EvT (eTup (aCons ea (aCons eb (aCons ec (aCons ed aNil))))) δ S (.tup [da, db, dc, dd]) := evTup (evCons h1 (evCons h2 (evCons h3 (evCons h4 evNil)))) (by simp)
theorem tp5 {ea eb ec ed ee : DE} {da db dc dd de : D} (h1 : EvT ea δ S da) (h2 : EvT eb δ S db) (h3 : EvT ec δ S dc) (h4 : EvT ed δ S dd) (h5 : EvT ee δ S de) : EvT (eTup (aCons ea (aCons eb (aCons ec (aCons ed (aCons ee aNil)))))) δ S (.tup [da, db, dc, dd, de]) := evTup (evCons h1 (evCons h2 (evCons h3 (evCons h4 (evCons h5 evNil))))) (by simp)
theorem evAd {e f : DE} {a b c : List Nat} (h1 : EvT e δ S (.str (tS a))) (h2 : EvT f δ S (.str (tS b))) (hc : a ++ b = c) (hl : c.length ≤ 1000000) : EvT (eOp dAdd e f) δ S (.str (tS c)) := by
  subst hc
  exact evAdd h1 h2 (by rw [List.length_append] at hl; exact hl)
variable {y : List Nat} {a b c : Nat} (hy : okW y) (ha : a ≤ 281474976710656) (hb : b ≤ 281474976710656) (hc : c ≤ 281474976710656) (v1 : δ[1]? = some (some (.str (tS y)))) (v2 : δ[2]? = some (some (.int (a : Nat)))) (v3 : δ[3]? = some (some (.int (b : Nat)))) (v4 : δ[4]? = some (some (.int (c : Nat))))
def spT (w : List Nat) : List Nat := 32 :: w ++ [32]
theorem ln0 {y w : List Nat} (hy : okW y) (hw : w.length ≤ 20) : (y ++ (32 :: w)).length ≤ 1000000 := by
  have := hy.1
  simp only [List.length_append, List.length_cons]; omega
theorem ln1 {y w : List Nat} (hy : okW y) (hw : w.length ≤ 20) : (y ++ (32 :: w ++ [32])).length ≤ 1000000 := by
  have := hy.1
  simp only [List.length_append, List.length_cons, List.length_nil]; omega
include hy v1 in
theorem it_0 {s1 s2 s3 w : _} {v : List Nat} (e1 : s1 = tS [115, 101, 110, 100]) (e2 : s2 = tS v) (e3 : s3 = tS (32 :: w)) (hw : w.length ≤ 20) (hv : ((vbS v).headD ([], [])).1 = w) : EvT (eTup (aCons (eTup (aCons (eC (.str s1)) (aCons (eVar 1) (aCons (eTup (aCons (eC (.str s2)) aNil)) aNil)))) (aCons (eOp dAdd (eVar 1) (eC (.str s3))) aNil))) δ S (.tup [actD (.send y v []), .str (tS (lineA (.send y v [])))]) := by
  have h := itm (tp3 (evS (δ := δ) (S := S) e1) (evV v1) (tp1 (evS e2))) (evAd (evV v1) (evS e3) rfl (ln0 hy hw))
  have e : lineA (.send y v []) = y ++ (32 :: w) := by unfold lineA wdsA; dsimp only; rw [hv]; simp [TL.joinL, wdL]
  have e9 : actD (.send y v []) = .tup [.str (tS [115, 101, 110, 100]), .str (tS y), .tup [.str (tS v)]] := by unfold actD nsD; rw [s_send]; rfl
  rw [e, e9]; exact h
include hy v1 in
theorem it_1 {s2 s3 w : _} {v : List Nat} (e2 : s2 = tS v) (e3 : s3 = tS (32 :: w)) (hw : w.length ≤ 20) (hv : ((vbD v).headD ([], [])).1 = w) : EvT (eTup (aCons (eTup (aCons (eC (.str s2)) (aCons (eVar 1) aNil))) (aCons (eOp dAdd (eVar 1) (eC (.str s3))) aNil))) δ S (.tup [actD (.done v y []), .str (tS (lineA (.done v y [])))]) := by
  have h := itm (evTup (evCons (evS (δ := δ) (S := S) e2) (evCons (evV v1) evNil)) (by simp)) (evAd (evV v1) (evS e3) rfl (ln0 hy hw))
  have e : lineA (.done v y []) = y ++ (32 :: w) := by unfold lineA wdsA; dsimp only; rw [hv]; simp [TL.joinL, wdL]
  rw [e]; exact h
theorem nl20 {n : Nat} (h : n ≤ 281474976710656) : (TL.numL n).length ≤ 20 := (okW_num h).1
include hy ha hb v1 v2 v3 in
theorem ev_2 {s3 s4 : Str} {w : List Nat} (e3 : s3 = tS (32 :: w ++ [32])) (e4 : s4 = tS [32]) (hw : w.length ≤ 20) : EvT (eOp dAdd (eOp dAdd (eOp dAdd (eOp dAdd (eVar 1) (eC (.str s3))) (eCB dStrU (aCons (eVar 2) aNil))) (eC (.str s4))) (eCB dStrU (aCons (eVar 3) aNil))) δ S (.str (tS (y ++ (32 :: w ++ [32]) ++ TL.numL a ++ [32] ++ TL.numL b))) := by
  have h1 := evAd (evV (S := S) v1) (evS e3) rfl (ln1 hy hw)
  have hy := hy.1
  have la := nl20 ha
  have lb := nl20 hb
  have h2 := evAd h1 (evN v2 ha) rfl (by simp only [List.length_append, List.length_cons, List.length_nil]; omega)
  have h3 := evAd h2 (evS e4) rfl (by simp only [List.length_append, List.length_cons, List.length_nil]; omega)
  exact evAd h3 (evN v3 hb) rfl (by simp only [List.length_append, List.length_cons, List.length_nil]; omega)
include hy ha hb v1 v2 v3 in
theorem it_2s {s1 s2 s3 s4 w : _} {v : List Nat} (e1 : s1 = tS [115, 101, 110, 100]) (e2 : s2 = tS v) (e3 : s3 = tS (32 :: w ++ [32])) (e4 : s4 = tS [32]) (hw : w.length ≤ 20) (hv : ((vbS v).headD ([], [])).1 = w) : EvT (eTup (aCons (eTup (aCons (eC (.str s1)) (aCons (eVar 1) (aCons (eTup (aCons (eC (.str s2)) (aCons (eVar 2) (aCons (eVar 3) aNil)))) aNil)))) (aCons (eOp dAdd (eOp dAdd (eOp dAdd (eOp dAdd (eVar 1) (eC (.str s3))) (eCB dStrU (aCons (eVar 2) aNil))) (eC (.str s4))) (eCB dStrU (aCons (eVar 3) aNil))) aNil))) δ S (.tup [actD (.send y v [a, b]), .str (tS (lineA (.send y v [a, b])))]) := by
  have h := itm (tp3 (evS (δ := δ) (S := S) e1) (evV v1) (tp3 (evS e2) (evV v2) (evV v3))) (ev_2 hy ha hb v1 v2 v3 e3 e4 hw)
  have e : lineA (.send y v [a, b]) = y ++ (32 :: w ++ [32]) ++ TL.numL a ++ [32] ++ TL.numL b := by unfold lineA wdsA; dsimp only; rw [hv]; simp [TL.joinL, wdL]
  have e9 : actD (.send y v [a, b]) = .tup [.str (tS [115, 101, 110, 100]), .str (tS y), .tup [.str (tS v), .int (a : Nat), .int (b : Nat)]] := by unfold actD nsD; rw [s_send]; rfl
  rw [e, e9]; exact h
include hy ha hb v1 v2 v3 in
theorem it_2d {s2 s3 s4 w : _} {v : List Nat} (e2 : s2 = tS v) (e3 : s3 = tS (32 :: w ++ [32])) (e4 : s4 = tS [32]) (hw : w.length ≤ 20) (hv : ((vbD v).headD ([], [])).1 = w) : EvT (eTup (aCons (eTup (aCons (eC (.str s2)) (aCons (eVar 1) (aCons (eVar 2) (aCons (eVar 3) aNil))))) (aCons (eOp dAdd (eOp dAdd (eOp dAdd (eOp dAdd (eVar 1) (eC (.str s3))) (eCB dStrU (aCons (eVar 2) aNil))) (eC (.str s4))) (eCB dStrU (aCons (eVar 3) aNil))) aNil))) δ S (.tup [actD (.done v y [a, b]), .str (tS (lineA (.done v y [a, b])))]) := by
  have h := itm (tp4 (evS (δ := δ) (S := S) e2) (evV v1) (evV v2) (evV v3)) (ev_2 hy ha hb v1 v2 v3 e3 e4 hw)
  have e : lineA (.done v y [a, b]) = y ++ (32 :: w ++ [32]) ++ TL.numL a ++ [32] ++ TL.numL b := by unfold lineA wdsA; dsimp only; rw [hv]; simp [TL.joinL, wdL]
  rw [e]; exact h
include hy ha hb hc v1 v2 v3 v4 in
theorem it_3 {s2 s3 s4 s5 w : _} {v : List Nat} (e2 : s2 = tS v) (e3 : s3 = tS (32 :: w ++ [32])) (e4 : s4 = tS [32]) (e5 : s5 = tS [32]) (hw : w.length ≤ 20) (hv : ((vbD v).headD ([], [])).1 = w) : EvT (eTup (aCons (eTup (aCons (eC (.str s2)) (aCons (eVar 1) (aCons (eVar 2) (aCons (eVar 3) (aCons (eVar 4) aNil)))))) (aCons (eOp dAdd (eOp dAdd (eOp dAdd (eOp dAdd (eOp dAdd (eOp dAdd (eVar 1) (eC (.str s3))) (eCB dStrU (aCons (eVar 2) aNil))) (eC (.str s4))) (eCB dStrU (aCons (eVar 3) aNil))) (eC (.str s5))) (eCB dStrU (aCons (eVar 4) aNil))) aNil))) δ S (.tup [actD (.done v y [a, b, c]), .str (tS (lineA (.done v y [a, b, c])))]) := by
  have h2 := ev_2 (S := S) hy ha hb v1 v2 v3 e3 e4 hw
  have hy := hy.1
  have la := nl20 ha
  have lb := nl20 hb
  have lc := nl20 hc
  have h3 := evAd h2 (evS e5) rfl (by simp only [List.length_append, List.length_cons, List.length_nil]; omega)
  have h4 := evAd h3 (evN v4 hc) rfl (by simp only [List.length_append, List.length_cons, List.length_nil]; omega)
  have h := itm (tp5 (evS (δ := δ) (S := S) e2) (evV v1) (evV v2) (evV v3) (evV v4)) h4
  have e : lineA (.done v y [a, b, c]) = y ++ (32 :: w ++ [32]) ++ TL.numL a ++ [32] ++ TL.numL b ++ [32] ++ TL.numL c := by unfold lineA wdsA; dsimp only; rw [hv]; simp [TL.joinL, wdL]
  rw [e]; exact h
include ha v2 in
theorem it_b {s2 s3 : Str} (e2 : s2 = tS [98, 97, 99, 107]) (e3 : s3 = tS [98, 97, 99, 107, 32]) : EvT (eTup (aCons (eTup (aCons (eC (.str s2)) (aCons (eVar 2) aNil))) (aCons (eOp dAdd (eC (.str s3)) (eCB dStrU (aCons (eVar 2) aNil))) aNil))) δ S (.tup [actD (.back a), .str (tS (lineA (.back a)))]) := by
  have la := nl20 ha
  have h := itm (evTup (evCons (evS (δ := δ) (S := S) e2) (evCons (evV v2) evNil)) (by simp)) (evAd (evS e3) (evN v2 ha) rfl (by simp only [List.length_append, List.length_cons, List.length_nil]; omega))
  have e : lineA (.back a) = [98, 97, 99, 107, 32] ++ TL.numL a := by unfold lineA wdsA; simp [TL.joinL, wdL]
  have e9 : actD (.back a) = .tup [.str (tS [98, 97, 99, 107]), .int (a : Nat)] := by unfold actD; rw [s_back]
  rw [e, e9]; exact h
end
theorem joinL_e (l : List (List Nat)) : TL.joinL [] l = l.flatten := by
  induction l with
  | nil => rfl
  | cons a r ih =>
    cases r with
    | nil => simp [TL.joinL]
    | cons b r => rw [TL.joinL, ih, List.flatten_cons]; rfl
theorem line_block (ns : List Nat) : lineA (.block ns) = [98, 108, 111, 99, 107] ++ TL.joinL [] (ns.map fun n => 32 :: TL.numL n) := by
  rw [joinL_e]
  unfold lineA wdsA
  dsimp only
  rw [List.map_cons, List.map_map]
  show TL.joinL [32] ([98, 108, 111, 99, 107] :: ns.map TL.numL) = _
  generalize ([98, 108, 111, 99, 107] : List Nat) = w
  induction ns generalizing w with
  | nil => simp [TL.joinL]
  | cons n ns ih =>
    rw [List.map_cons, TL.joinL, ih, List.map_cons, List.flatten_cons]
    rfl
theorem sq_go {t u : DS} {D : DN} {δ : DV} {S : Sto} (h : t { D with nx := NX u D } δ S) : sSeq t u D δ S := h
theorem asg_go' {e : DE} {g : DG} {D : DN} {δ : DV} {S : Sto} (h : e δ S fun x S1 => g x δ S1 D.nx) : sAsg e g D δ S := h
theorem lst_go {a : DA} {δ : DV} {S : Sto} {Q : DK} (h : a δ S fun xs S1 => xs.length ≤ 1000000 ∧ ∀ p, S1 p = none → Q (.ref p) (sup S1 p (.lst xs))) : eLst a δ S Q := h
theorem gen_cont {a : DA} {δ : DV} {S : Sto} {R0 : List D → Sto → Prop} {good : List D → Sto → Prop} (h0 : ∀ xs S', good xs S' → R0 xs S') (h : ∀ R : List D → Sto → Prop, (∀ xs S', good xs S' → R xs S') → a δ S R) : a δ S R0 := h _ h0
theorem acQ {e : DE} {a : DA} {δ : DV} {S : Sto} {Q : List D → Sto → Prop} {good : D → Sto → Prop} (h : ∀ R : DK, (∀ d S', good d S' → R d S') → e δ S R) (q : ∀ d S', good d S' → a δ S' fun xs S2 => Q (d :: xs) S2) : aCons e a δ S Q := h _ q
def lacts (y : List Nat) (a b c : Nat) (ns : List Nat) : List Act := [.send y [112, 117, 116] [a, b], .send y [97, 115, 107] [], .done [108, 105, 101] y [a, b, c], .done [102, 111, 114, 103, 101] y [a, b], .done [99, 117, 116] y [], .done [112, 97, 112, 101, 114] y [], .done [103, 97, 116, 104, 101, 114] y [], .block ns, .back a]
theorem lacts_gd {y : List Nat} {a b c : Nat} {ns : List Nat} (hy : nameL y = true) (ha : a ≤ 281474976710656) (hb : b ≤ 281474976710656) (hc : c ≤ 281474976710656) (hl : ns.length ≤ 4) (hn : ∀ n ∈ ns, n ≤ 281474976710656) : ∀ x ∈ lacts y a b c ns, gdA x := by
  have n0 : ∀ n ∈ ([] : List Nat), n ≤ 281474976710656 := fun n h => by cases h
  have n2 : ∀ n ∈ [a, b], n ≤ 281474976710656 := by intro n h; simp at h; omega
  have n3 : ∀ n ∈ [a, b, c], n ≤ 281474976710656 := by intro n h; simp at h; omega
  intro x hx
  simp only [lacts, List.mem_cons, List.not_mem_nil, or_false] at hx
  rcases hx with rfl | rfl | rfl | rfl | rfl | rfl | rfl | rfl | rfl
  · exact ⟨hy, .inl ⟨rfl, rfl⟩, n2⟩
  · exact ⟨hy, .inr ⟨rfl, rfl⟩, n0⟩
  · exact ⟨hy, .inl ⟨rfl, rfl⟩, n3⟩
  · exact ⟨hy, .inr (.inl ⟨rfl, rfl⟩), n2⟩
  · exact ⟨hy, .inr (.inr (.inl ⟨rfl, rfl⟩)), n0⟩
  · exact ⟨hy, .inr (.inr (.inr (.inl ⟨rfl, rfl⟩))), n0⟩
  · exact ⟨hy, .inr (.inr (.inr (.inr ⟨rfl, rfl⟩))), n0⟩
  · exact ⟨hl, hn⟩
  · exact ha
section
variable {p r : Addr} {B : Sto} {i : Int} {Q : DK} {Ed : XD} (A : Ad)
theorem w_lact (W : Dw p r B) (q : ∀ (a : Act) (i' : Int) B', gdA a → Se B B' → Q (.tup [actD a, .str (tS (lineA a))]) (drS p r i' B')) : F__law_act A [.ref p] (drS p r i B) Q Ed := by
  unfold F__law_act B__law_act
  walk_at "dr"
  refine w_lname A W fun y i1 B1 hy s1 => nx_go ?_
  walk_at "dr"
  have W1 := W.se s1
  refine w_lnum A W1 fun a i2 B2 ha s2 => nx_go ?_
  walk_at "dr"
  have W2 := W1.se s2
  refine w_lnum A W2 fun b i3 B3 hb s3 => nx_go ?_
  walk_at "dr"
  have W3 := W2.se s3
  refine w_lnum A W3 fun c i4 B4 hc s4 => nx_go ?_
  walk_at "dr"
  have W4 := W3.se s4
  refine w_take A W4 (by decide) fun m i5 m0 m1 => ?_
  obtain ⟨m, rfl⟩ : ∃ k : Nat, m = (k : Nat) := ⟨m.toNat, by omega⟩
  walk_at "dr"
  refine ⟨by omega, by omega, ?_⟩
  rw [Int.toNat_natCast]
  refine w_lnums A W4 (m := m) (by omega) (fun k i B' R se hR => ?_) fun ns i6 B6 hl hn s6 => ?_
  · walk_at "dr"
    exact w_lnum A (W4.se se) hR
  walk_at "dr"
  intro l0 hl0
  obtain ⟨nl0, hl0⟩ := dr_new hl0
  rw [dr_sup nl0]
  have s7 := s6.new (o := .lst (nsD ns)) hl0
  have W7 := W4.se s7
  have sB := ((((s1.trans s2).trans s3).trans s4).trans s7)
  rw [atL_eq (show drS p r i6 (sup B6 l0 (.lst (nsD ns))) l0 = some (.lst (nsD ns)) by rw [dr_at nl0]; exact sup_same)]
  generalize sup B6 l0 (.lst (nsD ns)) = B7 at s7 W7 sB ⊢
  generalize hu : sRet _ = u
  have W8 := W7
  refine nx_go (sq_go (asg_go' (lst_go ?_)))
  have hy' := okW_name hy
  refine gen_cont (good := fun xs S' => ∃ B8, Se B7 B8 ∧ S' = drS p r i6 B8 ∧ xs = (lacts y a b c ns).map fun x => .tup [actD x, .str (tS (lineA x))]) (fun xs S' ⟨B8, s8, eS, ex⟩ => ?_) fun R hR => ?_
  · subst eS ex
    refine ⟨by simp [lacts], fun l hl => ?_⟩
    have gd : ∀ x ∈ lacts y a b c ns, gdA x := fun x hx => lacts_gd hy ha hb hc (by omega) hn x hx
    have ll : (lacts y a b c ns).length = 9 := rfl
    generalize lacts y a b c ns = as at gd ll ⊢
    obtain ⟨nl, hl⟩ := dr_new hl
    rw [dr_sup nl]
    have s9 := s8.new (o := .lst (as.map fun x => .tup [actD x, .str (tS (lineA x))])) hl
    have W9 := W7.se s9
    have h9 : drS p r i6 (sup B8 l (.lst (as.map fun x => .tup [actD x, .str (tS (lineA x))]))) l = some (.lst (as.map fun x => .tup [actD x, .str (tS (lineA x))])) := by rw [dr_at nl]; exact sup_same
    generalize sup B8 l (.lst (as.map fun x => .tup [actD x, .str (tS (lineA x))])) = B9 at s9 W9 h9 ⊢
    subst hu
    walk_at "dr"
    refine nx_go ?_
    walk_at "dr"
    refine w_take A W9 (by decide) fun x i9 x0 x1 => ?_
    have h9 : drS p r i9 B9 l = some (.lst (as.map fun x => .tup [actD x, .str (tS (lineA x))])) := by rw [dr_at nl] at h9 ⊢; exact h9
    rw [dIx_r, atL_eq h9]
    obtain ⟨z, e, hz⟩ := atI_some (xs := as) x0 (by omega)
    have e' : atI (as.map fun x => D.tup [actD x, .str (tS (lineA x))]) x = some (.tup [actD z, .str (tS (lineA z))]) := by
      obtain ⟨k, rfl⟩ : ∃ k : Nat, x = (k : Nat) := ⟨x.toNat, by omega⟩
      have hk : k < as.length := by omega
      refine atI_nat ?_
      have e2 := atI_nat (xs := as) (List.getElem?_eq_getElem hk)
      rw [e2] at e
      cases e
      rw [List.getElem?_map, List.getElem?_eq_getElem hk]
      rfl
    rw [e']
    exact q z i9 B9 (gd z hz) (sB.trans s9)
  clear hu
  refine acP (it_2s hy' ha hb rfl rfl rfl (by decide +kernel) (by decide +kernel : _ = tS [112, 117, 116]) (by decide +kernel : _ = tS (32 :: [112, 117, 116, 115] ++ [32])) (by decide +kernel) (by decide) (by decide +kernel)) ?_
  refine acP (it_0 hy' rfl (by decide +kernel) (by decide +kernel : _ = tS [97, 115, 107]) (by decide +kernel : _ = tS (32 :: [97, 115, 107, 115])) (by decide) (by decide +kernel)) ?_
  refine acP (it_3 hy' ha hb hc rfl rfl rfl rfl (by decide +kernel : _ = tS [108, 105, 101]) (by decide +kernel : _ = tS (32 :: [108, 105, 101, 115] ++ [32])) (by decide +kernel) (by decide +kernel) (by decide) (by decide +kernel)) ?_
  refine acP (it_2d hy' ha hb rfl rfl rfl (by decide +kernel : _ = tS [102, 111, 114, 103, 101]) (by decide +kernel : _ = tS (32 :: [102, 111, 114, 103, 101, 115] ++ [32])) (by decide +kernel) (by decide) (by decide +kernel)) ?_
  refine acP (it_1 hy' rfl (by decide +kernel : _ = tS [99, 117, 116]) (by decide +kernel : _ = tS (32 :: [99, 117, 116, 115])) (by decide) (by decide +kernel)) ?_
  refine acP (it_1 hy' rfl (by decide +kernel : _ = tS [112, 97, 112, 101, 114]) (by decide +kernel : _ = tS (32 :: [112, 97, 112, 101, 114, 115])) (by decide) (by decide +kernel)) ?_
  refine acP (it_1 hy' rfl (by decide +kernel : _ = tS [103, 97, 116, 104, 101, 114]) (by decide +kernel : _ = tS (32 :: [103, 97, 116, 104, 101, 114, 115])) (by decide) (by decide +kernel)) ?_
  refine acQ (good := fun d S' => ∃ B8, Se B7 B8 ∧ S' = drS p r i6 B8 ∧ d = .tup [actD (.block ns), .str (tS (lineA (.block ns)))]) (fun R2 hR2 => ?_) fun d S' ⟨B8, s8, eS, ed⟩ => ?_
  · walk_at "dr"
    refine ⟨⟨_, rfl⟩, ?_⟩
    have en : (nsD ns).length = ns.length := List.length_map ..
    refine lcD_acc (J := fun acc S' => S' = drS p r i6 B7 ∧ acc = ((ns.map fun n => 32 :: TL.numL n).take acc.length).map fun w => D.str (tS w)) (fun acc x hx S1 hJ => ⟨trivial, fun R3 hR3 => ?_⟩) (fun _ _ _ _ => trivial) (fun ys S1 hy hJ p5 hp5 => ?_) (by rw [en]; omega) ⟨rfl, rfl⟩
    · obtain ⟨rfl, ea⟩ := hJ
      have hlt : acc.length < ns.length := by have := (List.getElem?_eq_some_iff.mp hx).1; rw [en] at this; exact this
      unfold nsD at hx
      rw [List.getElem?_map, List.getElem?_eq_getElem hlt] at hx
      cases hx
      have hk := hn _ (List.getElem_mem hlt)
      have hap : (ns.map fun n => 32 :: TL.numL n)[acc.length]? = some (32 :: TL.numL ns[acc.length]) := by rw [List.getElem?_map, List.getElem?_eq_getElem hlt]; rfl
      generalize ns[acc.length] = n at hk hap ⊢
      walk_at "dr"
      unfold dStrU
      dsimp only
      rw [txtI_nat]
      have e32 : Str.ofString " " = tS [32] := by decide +kernel
      have ln := nl20 hk
      refine ⟨log_small (by omega), okT (asc_num n (by omega)), ?_⟩
      rw [e32, tS_app, tS_len, tS_len]
      refine ⟨by rw [List.length_singleton]; omega, hR3 _ _ ⟨rfl, ?_⟩⟩
      rw [List.length_append, List.length_singleton, List.take_succ, List.map_append, ← ea, hap]
      rfl
    · obtain ⟨rfl, ea⟩ := hJ
      rw [hy, en, ← List.length_map (f := fun n => 32 :: TL.numL n), List.take_length] at ea
      obtain ⟨np5, hp5⟩ := dr_new hp5
      rw [dr_sup np5]
      have s8 := (Se.refl (S := B7)).new (o := .lst ys) hp5
      rw [atL_eq (show drS p r i6 (sup B7 p5 (.lst ys)) p5 = some (.lst ys) by rw [dr_at np5]; exact sup_same)]
      generalize sup B7 p5 (.lst ys) = B8 at s8 ⊢
      have es : ys = ((ns.map fun n => 32 :: TL.numL n).map tS).map D.str := by rw [ea, List.map_map (f := tS)]; rfl
      rw [es, strs_map]
      dsimp only
      have e0 : Str.ofString "" = tS [] := by decide +kernel
      have e1 : Str.ofString "block" = tS [98, 108, 111, 99, 107] := by decide +kernel
      have hsum := sum_le (fun w : List Nat => w.length) 21 (ns.map fun n => 32 :: TL.numL n) fun w hw => by
        obtain ⟨n, hm, rfl⟩ := List.mem_map.mp hw
        have := nl20 (hn n hm)
        rw [List.length_cons]; omega
      rw [e0, e1, SX.lens, SX.join_S, tS_app, ← line_block, tS_len, tS_len, tS_len]
      have hj : (TL.joinL [] (ns.map fun n => 32 :: TL.numL n)).length ≤ 100 := by
        refine Nat.le_trans (joinL_len _ _) ?_
        show ((ns.map fun n => 32 :: TL.numL n).map fun w => w.length).sum ≤ 100
        rw [List.length_map] at hsum
        omega
      rw [List.length_map] at hsum
      refine ⟨by simp only [List.length_nil, Nat.mul_zero]; omega, fun _ => ⟨by simp only [List.length_cons, List.length_nil]; omega, ?_⟩⟩
      refine hR2 _ _ ⟨B8, s8, rfl, ?_⟩
      have e9 : actD (.block ns) = .tup [.str (tS [98, 108, 111, 99, 107]), .tup (nsD ns)] := by unfold actD; rw [s_block]
      rw [e9]
  · subst eS ed
    refine acP (it_b ha rfl (by decide +kernel) (by decide +kernel)) ?_
    exact hR _ _ ⟨B8, s8, rfl, rfl⟩
end

end Sd

set_option Elab.async false
set_option linter.all false
set_option maxRecDepth 100000
set_option maxHeartbeats 4000000
namespace Sd
open PySem PySem.Spec PyProof.Rows L2 GxR
local macro_rules | `(tactic| walk_at "dr") => `(tactic| try simp only [shut_eq, eVar, eC, sPar2, sPar3, eKIx, eKIn, eKGet2, eEvry, eTupG, iZip3D, dIsB, kLook_c, atI_c0, atI_c1, atI_c2, atI_c3, atI_c4, atI_c5, cut_t1, cut_t2, cut_t3, cut_t4, cut_t5, cut_d1, cut_d2, cut_d3, tk1, tk2, tk5, dp1, dp2,  eSlX, dSlX, eSumG, eInt, dSum, dAbs, dPow, dStrN, eDisp, pairsD, iZT, eEvryT, dExtT, dLenS, dMin, dMax, eSplit, eSumV, dNeL_r, eOp, eUn, asB, eAnd, eOr, eNot, eIf, eChain, tV, tAnd', tOr', tNot', aNil, aCons, eTup, eLst, eCB, eDK, eDT, dAdd, dI, dSub, dMod, dDiv, dXor, dShl, dShr, dMul, dCmp, dLe, dLt, dGe, dGt, dEq, dNe, dIn, dIsN, dIx_t, dIx_c, dIx_s, dIx_r, dIx_iD, dNeg, dLen_iD, dLen_s, dLen_t, dLen_c, dLen_r, dList, dTuple, dInt, dIsi, dAll, oNone, oSome, dSl, eSl,
  xName, xNil, xCons, xTup, xSub, sNext, sSeq, sBreak, sCont, sDrop, sRet, sRetN, sIf, sAsg, sAug, sFor, iL, iT, iS, iR1, iR2, iRev1, iRev2, tYes', eLc, eAll, dIAdd, dISub, eBM, eBM0, asRef, eDGet, eDGet1, eDGet2, eDIn, eDNotIn, sDPutD, sDDelD, eCa, eMe, eMa, eFld, sFldD, sFldAugD, setO, dAppend, dPopAt, isBl, isTr, List.length_set, List.lookup, Nat.reduceLT, Nat.reduceLeDiff, Nat.lt_irrefl, Nat.not_lt_zero, Nat.zero_le, Nat.le_refl, Nat.zero_lt_succ, Nat.lt_add_one, sRaise, eJoin, dJoin, br, Int.natCast_nonneg, Int.cast_ofNat_Int, Int.reduceEq, 
  dstart, List.map_cons, List.map_nil, List.length_cons, List.length_nil, List.replicate, List.cons_append, List.nil_append, List.append_nil, List.getElem?_cons_zero, List.getElem?_cons_succ, List.set_cons_zero, List.set_cons_succ, Nat.sub_self, Nat.reduceAdd, Nat.reduceSub, wipeD,
  dat_i, dat_s, dat_b, dat_n, dats_c, dats_e, eqD_ii, eqD_ss, eqD_bb, eqD_nn, eqD_is, eqD_si, isNon, unC_i, unC_s, unC_b, unC_n, unC_t, unC_c, flatD, List.all_cons, List.all_nil, List.any_cons, List.any_nil, decide_true, decide_false, List.mem_cons, tyD, isTy, tyKn, String.reduceBEq, Bool.or_true, Bool.true_or, Bool.or_false, Bool.false_or, Bool.and_true, Bool.true_and, Bool.and_false, Bool.false_and, Bool.or_self, Bool.and_self, true_and, and_true, true_implies, false_implies, forall_const, reduceCtorEq, Bool.true_eq_false, Bool.false_eq_true, if_true, if_false, ite_true, ite_false, Bool.not_true, Bool.not_false, implies_true, eq_self])
local macro_rules | `(tactic| walk_at "drn") => `(tactic| try simp only [shut_eq, eVar, eC, sPar2, sPar3, eKIx, eKIn, eKGet2, eEvry, eTupG, iZip3D, dIsB, kLook_c, atI_c0, atI_c1, atI_c2, atI_c3, atI_c4, atI_c5, cut_t1, cut_t2, cut_t3, cut_t4, cut_t5, cut_d1, cut_d2, cut_d3, tk1, tk2, tk5, dp1, dp2,  eSlX, dSlX, eSumG, eInt, dSum, dAbs, dPow, dStrN, eDisp, pairsD, iZT, eEvryT, dExtT, dLenS, dMin, dMax, eSplit, eSumV, dNeL_r, eOp, eUn, asB, eAnd, eOr, eNot, eIf, eChain, tV, tAnd', tOr', tNot', aNil, aCons, eTup, eLst, eCB, eDK, eDT, dAdd, dI, dSub, dMod, dDiv, dXor, dShl, dShr, dMul, dCmp, dLe, dLt, dGe, dGt, dEq, dNe, dIn, dIsN, dIx_t, dIx_c, dIx_s, dIx_r, dIx_iD, dNeg, dLen_iD, dLen_s, dLen_t, dLen_c, dLen_r, dList, dTuple, dInt, dIsi, dAll, oNone, oSome, dSl, eSl,
  xName, xNil, xCons, xTup, xSub, sNext, sSeq, NX_eq, sBreak, sCont, sDrop, sRet, sRetN, sIf, sAsg, sAug, sFor, iL, iT, iS, iR1, iR2, iRev1, iRev2, tYes', eLc, eAll, dIAdd, dISub, eBM, eBM0, asRef, eDGet, eDGet1, eDGet2, eDIn, eDNotIn, sDPutD, sDDelD, eCa, eMe, eMa, eFld, sFldD, sFldAugD, setO, dAppend, dPopAt, isBl, isTr, List.length_set, List.lookup, Nat.reduceLT, Nat.reduceLeDiff, Nat.lt_irrefl, Nat.not_lt_zero, Nat.zero_le, Nat.le_refl, Nat.zero_lt_succ, Nat.lt_add_one, sRaise, eJoin, dJoin, br, Int.natCast_nonneg, Int.cast_ofNat_Int, Int.reduceEq, 
  dstart, List.map_cons, List.map_nil, List.length_cons, List.length_nil, List.replicate, List.cons_append, List.nil_append, List.append_nil, List.getElem?_cons_zero, List.getElem?_cons_succ, List.set_cons_zero, List.set_cons_succ, Nat.sub_self, Nat.reduceAdd, Nat.reduceSub, wipeD,
  dat_i, dat_s, dat_b, dat_n, dats_c, dats_e, eqD_ii, eqD_ss, eqD_bb, eqD_nn, eqD_is, eqD_si, isNon, unC_i, unC_s, unC_b, unC_n, unC_t, unC_c, flatD, List.all_cons, List.all_nil, List.any_cons, List.any_nil, decide_true, decide_false, List.mem_cons, tyD, isTy, tyKn, String.reduceBEq, Bool.or_true, Bool.true_or, Bool.or_false, Bool.false_or, Bool.and_true, Bool.true_and, Bool.and_false, Bool.false_and, Bool.or_self, Bool.and_self, true_and, and_true, true_implies, false_implies, forall_const, reduceCtorEq, Bool.true_eq_false, Bool.false_eq_true, if_true, if_false, ite_true, ite_false, Bool.not_true, Bool.not_false, implies_true, eq_self])

/-! ### lines: the label, the code, the words -/
theorem par_cases (c : Nat) (l : List Nat) : (c ∉ l ∧ TL.par [c] [] l = none) ∨ ∃ p r, l = p ++ c :: r ∧ c ∉ p ∧ TL.par [c] [] l = some (p, r) := by
  by_cases h : c ∈ l
  · obtain ⟨p, r, e, hp⟩ := List.eq_append_cons_of_mem h
    refine .inr ⟨p, r, e, hp, ?_⟩
    rw [e]
    exact SX.par_head (sep := []) r hp
  · exact .inl ⟨h, SX.par_head_none (sep := []) h⟩
section
variable (A : Ad) {S : Sto} {Q : DK} {Ed : XD}
end

/-! ### a line that is spoilt -/
theorem numI_e (m : Nat) : numI [] m = none := by unfold numI; simp
theorem cntL_e : cntL [] = none := by decide +kernel
theorem rd_hole {ws : List (List Nat)} {i : Nat} (hi : 1 ≤ i) (h : ws[i]? = some []) : rdL ws = none := by
  have key : none ∈ numsL ws := by
    unfold numsL
    have hk : (if playL ws = true then 2 else 1) ≤ i := by
      split
      · rename_i hp
        unfold playL at hp
        rw [Bool.and_eq_true] at hp
        by_cases h1 : i = 1
        · subst h1
          have e : ws.getD 1 [] = [] := by rw [List.getD_eq_getElem?_getD, h]; rfl
          rw [e, cntL_e] at hp
          cases hp.2
        · omega
      · exact hi
    have hm : ([] : List Nat) ∈ ws.drop (if playL ws = true then 2 else 1) := by
      refine List.mem_of_getElem? (i := i - (if playL ws = true then 2 else 1)) ?_
      rw [List.getElem?_drop, show (if playL ws = true then 2 else 1) + (i - (if playL ws = true then 2 else 1)) = i by omega]
      exact h
    exact List.mem_map.mpr ⟨[], hm, numI_e _⟩
  unfold rdL
  rw [allN_none.mpr key]
theorem rd_lead (ws : List (List Nat)) : rdL ([] :: ws) = none := by
  unfold rdL
  cases allN (numsL ([] :: ws)) with
  | none => rfl
  | some ns =>
    dsimp only
    rw [List.getD_cons_zero]
    split
    · unfold actP
      rw [if_neg]
      intro z
      exact absurd z.1 (by decide)
    · rw [if_neg (by decide), if_neg (fun z => absurd z.1 (by decide))]
theorem joinL_snoc {s : List Nat} : ∀ {l : List (List Nat)}, l ≠ [] → TL.joinL s (l ++ [[]]) = TL.joinL s l ++ s
  | [], h => absurd rfl h
  | [a], _ => by simp [TL.joinL]
  | a :: b :: r, _ => by
    have ih := joinL_snoc (s := s) (l := b :: r) (by simp)
    rw [List.cons_append, List.cons_append, TL.joinL, ← List.cons_append, ih, TL.joinL]
    simp
theorem joinL_lead {s : List Nat} {l : List (List Nat)} (h : l ≠ []) : TL.joinL s ([] :: l) = s ++ TL.joinL s l := by
  cases l with
  | nil => exact absurd rfl h
  | cons a r => rw [TL.joinL]; rfl
theorem rdT_join {ws : List (List Nat)} (h0 : ws ≠ []) (h : ∀ w ∈ ws, 32 ∉ w) : rdT (TL.joinL [32] ws) = rdL ws := by
  unfold rdT
  rw [TL.spl_join h0 h]
theorem rep1_part {x p q : List Nat} (h : TL.par [32] [] x = some (p, q)) : Ow.rep1 (tS x) (tS [32]) (tS [32, 32]) = tS (p ++ [32, 32] ++ q) := by
  have e : Txt.partition (tS x) (tS [32]) = (tS p, tS [32], tS q) := SX.partition_some (by simp) h
  unfold Txt.partition at e
  unfold Ow.rep1
  have hl := StrLaws.occ_length_le (tS x) (tS [32]) 0 (tS x).length 1
  cases ho : Builtin.Str.occurrences (tS x) (tS [32]) 0 (tS x).length 1 with
  | nil =>
    rw [ho] at e
    exfalso
    have e2 := congrArg (fun z => z.2.1.cps.toList) e
    exact absurd e2 (by show ¬ ([] : List Nat) = [32]; decide)
  | cons i r =>
    rw [ho] at e hl
    have hr : r = [] := List.eq_nil_of_length_eq_zero (by rw [List.length_cons] at hl; omega)
    subst hr
    have e1 := congrArg (fun z => z.1) e
    have e3 := congrArg (fun z => z.2.2) e
    dsimp only at e1 e3
    have hc : (([i] : List Nat).isEmpty || ((tS [32]).length == 0 && (tS [32, 32]).length == 0)) = false := rfl
    rw [hc, if_neg (by decide)]
    show Builtin.Str.glued (tS [32, 32]) [Builtin.Str.strSub (tS x) 0 i, Builtin.Str.strSub (tS x) (i + (tS [32]).length) (tS x).length] = _
    rw [e1, e3]
    show (⟨(tS p).cps ++ (tS [32, 32]).cps ++ (tS q).cps⟩ : Str) = _
    rw [← tS_app, ← tS_app]
    rfl
def badB (l : List Nat) : Bool := (rdT l).isNone && l.all (fun c => decide (c < 128) && decide (c ≠ 10)) && decide (l.length ≤ 300)
def BadL (l : List Nat) : Prop := rdT l = none ∧ 10 ∉ l ∧ l.length ≤ 300 ∧ asc l
theorem bad_of {l : List Nat} (h : badB l = true) : BadL l := by
  unfold badB at h
  simp only [Bool.and_eq_true, decide_eq_true_eq, List.all_eq_true, Option.isNone_iff_eq_none] at h
  exact ⟨h.1.1, fun z => (h.1.2 10 z).2 rfl, h.2, ⟨fun c hc => (h.1.2 c hc).1, by omega⟩⟩
theorem bad_digit : ∀ n : Nat, n < 9 → badB ([97, 110, 110, 32, 112, 117, 116, 115, 32, 48] ++ TL.numL n ++ [32, 51]) = true := by decide +kernel
theorem str_tS (s : Str) : s = tS s.cps.toList := by cases s; rfl
section
variable {p r : Addr} {B : Sto} {i : Int} {Q : DK} {Ed : XD} (A : Ad)
theorem w_lwrong (W : Dw p r B) {a : Act} (ha : gdA a) (q : ∀ (l : List Nat) (i' : Int) B', BadL l → Se B B' → Q (.str (tS l)) (drS p r i' B')) : F__law_wrong A [.ref p, .str (tS (lineA a))] (drS p r i B) Q Ed := by
  have hw : ∀ w ∈ (wdsA a).map wdL, okW w := fun w hw => by
    obtain ⟨x, hx, rfl⟩ := List.mem_map.mp hw
    exact (gd_w ha x hx).1
  have hne : (wdsA a).map wdL ≠ [] := by cases a <;> simp [wdsA]
  have hlen := lineA_len (gd_ok ha)
  have hmem : ∀ c ∈ lineA a, 32 ≤ c ∧ c < 128 := fun c hc => by
    rcases joinL_mem [32] _ c hc with h | ⟨w, hm, hc⟩
    · rw [List.mem_singleton.mp h]; decide
    · have := (hw w hm).2 c hc
      omega
  have hasc : asc (lineA a) := ⟨fun c hc => (hmem c hc).2, by omega⟩
  have esp : TL.spl [32] 0 [] (lineA a) = (wdsA a).map wdL := TL.spl_join hne fun w h => okW_no (hw w h) (by decide)
  have el : lineA a = TL.joinL [32] ((wdsA a).map wdL) := rfl
  have qs : ∀ s : Str, badB s.cps.toList = true → ∀ i' B', Se B B' → Q (.str s) (drS p r i' B') := fun s hs i' B' se => by
    rw [str_tS s]
    exact q _ _ _ (bad_of hs) se
  have bad : ∀ {l : List Nat} {vs : List (List Nat)}, l = TL.joinL [32] vs → vs ≠ [] → (∀ w ∈ vs, w ∈ (wdsA a).map wdL ∨ w = []) → rdL vs = none → l.length ≤ 300 → (∀ c ∈ l, 32 ≤ c ∧ c < 128) → BadL l := fun e h0 h1 h2 h3 h4 => by
    refine ⟨?_, fun z => (by have := (h4 10 z).1; omega), h3, ⟨fun c hc => (h4 c hc).2, by omega⟩⟩
    rw [e, rdT_join h0 fun w hm => by
      rcases h1 w hm with h | h
      · exact okW_no (hw w h) (by decide)
      · rw [h]; simp]
    exact h2
  generalize lineA a = ln at *
  generalize (wdsA a).map wdL = ws at *
  unfold F__law_wrong B__law_wrong
  walk_at "dr"
  refine w_take A W (by decide) fun k i1 k0 k1 => nx_go ?_
  unfold dM1
  walk_at "dr"
  refine ⟨⟨_, rfl⟩, ?_⟩
  rw [s_space]
  refine d_split (by decide) (fun w hm => ?_) hasc fun p1 hp1 => ?_
  · rw [esp] at hm
    exact okW_asc (hw w hm)
  rw [esp]
  obtain ⟨np1, hp1⟩ := dr_new hp1
  rw [dr_sup np1]
  have s1 := (Se.refl (S := B)).new (o := .lst (ws.map fun w => D.str (tS w))) hp1
  have W1 := W.se s1
  have h1 : drS p r i1 (sup B p1 (.lst (ws.map fun w => D.str (tS w)))) p1 = some (.lst (ws.map fun w => D.str (tS w))) := by rw [dr_at np1]; exact sup_same
  generalize sup B p1 (.lst (ws.map fun w => D.str (tS w))) = B1 at s1 W1 h1 ⊢
  have h10 : ∀ c ∈ ([] : List Nat), 32 ≤ c ∧ c < 128 := fun c h => by cases h
  have hk : k = 0 ∨ k = 1 ∨ k = 2 ∨ k = 3 ∨ k = 4 ∨ k = 5 ∨ k = 6 ∨ k = 7 ∨ k = 8 := by omega
  have pick : ∀ (ss : List Str) (S : Sto) (l : Addr) (x : Int) (i' : Int) (B2 : Sto), Se B B2 → drS p r i' B2 l = some (.lst (ss.map D.str)) → 0 ≤ x → x < ss.length → (∀ s ∈ ss, badB s.cps.toList = true) → dIx (.ref l) (.int x) (drS p r i' B2) Q := by
    intro ss S l x i' B2 se hl x0 x1 hb
    rw [dIx_r, atL_eq hl]
    obtain ⟨j, rfl⟩ : ∃ j : Nat, x = (j : Nat) := ⟨x.toNat, by omega⟩
    have hj : j < ss.length := by omega
    have e : atI (ss.map D.str) (j : Int) = some (.str ss[j]) := by
      refine atI_nat ?_
      rw [List.getElem?_map, List.getElem?_eq_getElem hj]
      rfl
    rw [e]
    exact qs _ (hb _ (List.getElem_mem hj)) _ _ se
  rcases hk with rfl | rfl | rfl | rfl | rfl | rfl | rfl | rfl | rfl
  · refine nx_go ?_
    walk_at "dr"
    rw [tS_len, tS_app]
    refine ⟨by rw [tS_len, List.length_singleton]; omega, q _ _ _ (bad (l := ln ++ [32]) (vs := ws ++ [[]]) (by rw [joinL_snoc hne, el]) (by simp) (fun w h => ?_) ?_ (by rw [List.length_append, List.length_singleton]; omega) fun c hc => ?_) s1⟩
    · rcases List.mem_append.mp h with h | h
      · exact .inl h
      · exact .inr (List.mem_singleton.mp h)
    · exact rd_hole (i := ws.length) (List.length_pos_iff.mpr hne) (by rw [List.getElem?_append_right (Nat.le_refl _), Nat.sub_self]; rfl)
    · rcases List.mem_append.mp hc with h | h
      · exact hmem c h
      · rw [List.mem_singleton.mp h]; decide
  · refine nx_go ?_
    walk_at "dr"
    refine nx_go ?_
    walk_at "dr"
    rw [tS_app, tS_len, tS_len]
    refine ⟨by rw [List.length_singleton]; omega, q _ _ _ (bad (l := [32] ++ ln) (vs := [] :: ws) (by rw [joinL_lead hne, el]) (by simp) (fun w h => ?_) (rd_lead _) (by rw [List.length_append, List.length_singleton]; omega) fun c hc => ?_) s1⟩
    · rcases List.mem_cons.mp h with h | h
      · exact .inr h
      · exact .inl h
    · rcases List.mem_append.mp hc with h | h
      · rw [List.mem_singleton.mp h]; decide
      · exact hmem c h
  · refine nx_go ?_
    walk_at "dr"
    refine nx_go ?_
    walk_at "dr"
    refine nx_go ?_
    walk_at "dr"
    unfold eRepIf
    walk_at "dr"
    rw [atL_eq h1, List.length_map]
    have e2 : Str.ofString "  " = tS [32, 32] := by decide +kernel
    rw [e2]
    refine ⟨fun z => ?_, fun z => ?_⟩
    · have z := of_decide_eq_true z
      obtain ⟨w0, w1, wr, rfl⟩ : ∃ w0 w1 wr, ws = w0 :: w1 :: wr := by
        cases ws with
        | nil => exact absurd rfl hne
        | cons w0 wr =>
          cases wr with
          | nil => simp at z
          | cons w1 wr => exact ⟨_, _, _, rfl⟩
      have e0 : ln = w0 ++ 32 :: TL.joinL [32] (w1 :: wr) := by rw [el, TL.joinL]; simp
      have n0 : 32 ∉ w0 := okW_no (hw w0 List.mem_cons_self) (by decide)
      have hp : TL.par [32] [] ln = some (w0, TL.joinL [32] (w1 :: wr)) := by
        rw [e0]
        exact SX.par_head (sep := []) _ n0
      refine ⟨tS ln, rfl, ?_⟩
      rw [rep1_part hp]
      have hl3 : (w0 ++ [32, 32] ++ TL.joinL [32] (w1 :: wr)).length = ln.length + 1 := by rw [e0]; simp only [List.length_append, List.length_cons, List.length_nil]; omega
      have hm3 : ∀ c ∈ w0 ++ [32, 32] ++ TL.joinL [32] (w1 :: wr), 32 ≤ c ∧ c < 128 := fun c hc => by
        rcases List.mem_append.mp hc with hc | hc
        · rcases List.mem_append.mp hc with hc | hc
          · exact hmem c (by rw [e0]; exact List.mem_append_left _ hc)
          · have : c = 32 := by simpa using hc
            subst this; decide
        · exact hmem c (by rw [e0]; exact List.mem_append_right _ (List.mem_cons_of_mem _ hc))
      refine ⟨by rw [tS_len, tS_len, List.length_cons, List.length_singleton]; omega, okT ⟨fun c hc => (hm3 c hc).2, by omega⟩, by rw [tS_len]; omega, ?_⟩
      refine q _ _ _ (bad (l := w0 ++ [32, 32] ++ TL.joinL [32] (w1 :: wr)) (vs := w0 :: [] :: w1 :: wr) (by rw [TL.joinL, joinL_lead (by simp)]; simp) (by simp) (fun w h => ?_) (rd_hole (i := 1) (Nat.le_refl _) rfl) (by omega) hm3) s1
      rcases List.mem_cons.mp h with h | h
      · exact .inl (by rw [h]; exact List.mem_cons_self)
      rcases List.mem_cons.mp h with h | h
      · exact .inr h
      · exact .inl (List.mem_cons_of_mem _ h)
    · have z := of_decide_eq_false z
      obtain ⟨w0, rfl⟩ : ∃ w0, ws = [w0] := by
        cases ws with
        | nil => exact absurd rfl hne
        | cons w0 wr =>
          cases wr with
          | nil => exact ⟨_, rfl⟩
          | cons w1 wr => exfalso; simp at z; omega
      have e0 : ln = w0 := el
      subst e0
      rw [tS_len, tS_len, tS_app]
      refine ⟨by rw [List.length_cons, List.length_singleton]; omega, q _ _ _ (bad (l := ln ++ [32, 32]) (vs := [ln, [], []]) (by simp [TL.joinL]) (by simp) (fun w h => ?_) (rd_hole (i := 1) (Nat.le_refl _) rfl) (by rw [List.length_append, List.length_cons, List.length_singleton]; omega) fun c hc => ?_) s1⟩
      · simp only [List.mem_cons, List.not_mem_nil, or_false, or_self] at h ⊢
        exact h
      · rcases List.mem_append.mp hc with h | h
        · exact hmem c h
        · have : c = 32 := by simpa using h
          subst this; decide
  · refine nx_go ?_
    walk_at "dr"
    refine nx_go ?_
    walk_at "dr"
    refine nx_go ?_
    walk_at "dr"
    refine nx_go ?_
    walk_at "dr"
    refine w_take A W1 (by decide) fun x i2 x0 x1 => ?_
    obtain ⟨n, rfl⟩ : ∃ n : Nat, x = (n : Nat) := ⟨x.toNat, by omega⟩
    have hn : n < 9 := by omega
    unfold dStrU
    dsimp only
    rw [txtI_nat]
    have e1 : Str.ofString "ann puts 0" = tS [97, 110, 110, 32, 112, 117, 116, 115, 32, 48] := by decide +kernel
    have e2 : Str.ofString " 3" = tS [32, 51] := by decide +kernel
    have ln9 := nl20 (n := n) (by omega)
    refine ⟨log_small (by omega), okT (asc_num n (by omega)), ?_⟩
    rw [e1, e2, tS_app, tS_app, tS_len, tS_len, tS_len, tS_len]
    refine ⟨by simp only [List.length_cons, List.length_nil]; omega, by simp only [List.length_append, List.length_cons, List.length_nil]; omega, q _ _ _ (bad_of (bad_digit n hn)) s1⟩
  · refine nx_go ?_
    walk_at "dr"
    refine nx_go ?_
    walk_at "dr"
    refine nx_go ?_
    walk_at "dr"
    refine nx_go ?_
    walk_at "dr"
    refine nx_go ?_
    walk_at "dr"
    exact qs _ (by decide +kernel) _ _ s1
  · refine nx_go ?_
    walk_at "dr"
    refine nx_go ?_
    walk_at "dr"
    refine nx_go ?_
    walk_at "dr"
    refine nx_go ?_
    walk_at "dr"
    refine nx_go ?_
    walk_at "dr"
    refine nx_go ?_
    walk_at "dr"
    intro l2 hl2
    obtain ⟨nl2, hl2⟩ := dr_new hl2
    rw [dr_sup nl2]
    have s2 := s1.new (o := .lst ([Str.ofString "ann puts 3", Str.ofString "ann lies 1 2", Str.ofString "ann forges 1", Str.ofString "back", Str.ofString "ann cuts 1", Str.ofString "ann asks 0"].map D.str)) hl2
    have h2 : sup B1 l2 (.lst ([Str.ofString "ann puts 3", Str.ofString "ann lies 1 2", Str.ofString "ann forges 1", Str.ofString "back", Str.ofString "ann cuts 1", Str.ofString "ann asks 0"].map D.str)) l2 = some (.lst ([Str.ofString "ann puts 3", Str.ofString "ann lies 1 2", Str.ofString "ann forges 1", Str.ofString "back", Str.ofString "ann cuts 1", Str.ofString "ann asks 0"].map D.str)) := sup_same
    have W2 := W.se s2
    change F__law_take A [D.ref p, D.int 6] (drS p r i1 (sup B1 l2 (.lst ([Str.ofString "ann puts 3", Str.ofString "ann lies 1 2", Str.ofString "ann forges 1", Str.ofString "back", Str.ofString "ann cuts 1", Str.ofString "ann asks 0"].map D.str)))) _ _
    generalize sup B1 l2 (.lst ([Str.ofString "ann puts 3", Str.ofString "ann lies 1 2", Str.ofString "ann forges 1", Str.ofString "back", Str.ofString "ann cuts 1", Str.ofString "ann asks 0"].map D.str)) = B2 at s2 W2 h2 ⊢
    refine w_take A W2 (by decide) fun x i2 x0 x1 => ?_
    exact pick [Str.ofString "ann puts 3", Str.ofString "ann lies 1 2", Str.ofString "ann forges 1", Str.ofString "back", Str.ofString "ann cuts 1", Str.ofString "ann asks 0"] B l2 x i2 B2 s2 (by rw [dr_at nl2]; exact h2) x0 x1 (by decide +kernel)
  · refine nx_go ?_
    walk_at "dr"
    refine nx_go ?_
    walk_at "dr"
    refine nx_go ?_
    walk_at "dr"
    refine nx_go ?_
    walk_at "dr"
    refine nx_go ?_
    walk_at "dr"
    refine nx_go ?_
    walk_at "dr"
    refine nx_go ?_
    walk_at "dr"
    intro l2 hl2
    obtain ⟨nl2, hl2⟩ := dr_new hl2
    rw [dr_sup nl2]
    have s2 := s1.new (o := .lst ([Str.ofString "ann sells", Str.ofString "ann put 1 2", Str.ofString "block x", Str.ofString "back -1", Str.ofString "blocks 1", Str.ofString "ann puts 1 +2"].map D.str)) hl2
    have h2 : sup B1 l2 (.lst ([Str.ofString "ann sells", Str.ofString "ann put 1 2", Str.ofString "block x", Str.ofString "back -1", Str.ofString "blocks 1", Str.ofString "ann puts 1 +2"].map D.str)) l2 = some (.lst ([Str.ofString "ann sells", Str.ofString "ann put 1 2", Str.ofString "block x", Str.ofString "back -1", Str.ofString "blocks 1", Str.ofString "ann puts 1 +2"].map D.str)) := sup_same
    have W2 := W.se s2
    change F__law_take A [D.ref p, D.int 6] (drS p r i1 (sup B1 l2 (.lst ([Str.ofString "ann sells", Str.ofString "ann put 1 2", Str.ofString "block x", Str.ofString "back -1", Str.ofString "blocks 1", Str.ofString "ann puts 1 +2"].map D.str)))) _ _
    generalize sup B1 l2 (.lst ([Str.ofString "ann sells", Str.ofString "ann put 1 2", Str.ofString "block x", Str.ofString "back -1", Str.ofString "blocks 1", Str.ofString "ann puts 1 +2"].map D.str)) = B2 at s2 W2 h2 ⊢
    refine w_take A W2 (by decide) fun x i2 x0 x1 => ?_
    exact pick [Str.ofString "ann sells", Str.ofString "ann put 1 2", Str.ofString "block x", Str.ofString "back -1", Str.ofString "blocks 1", Str.ofString "ann puts 1 +2"] B l2 x i2 B2 s2 (by rw [dr_at nl2]; exact h2) x0 x1 (by decide +kernel)
  · refine nx_go ?_
    walk_at "dr"
    refine nx_go ?_
    walk_at "dr"
    refine nx_go ?_
    walk_at "dr"
    refine nx_go ?_
    walk_at "dr"
    refine nx_go ?_
    walk_at "dr"
    refine nx_go ?_
    walk_at "dr"
    refine nx_go ?_
    walk_at "dr"
    refine nx_go ?_
    walk_at "dr"
    intro l2 hl2
    obtain ⟨nl2, hl2⟩ := dr_new hl2
    rw [dr_sup nl2]
    have s2 := s1.new (o := .lst ([Str.ofString "Ann asks", Str.ofString "1ann asks", Str.ofString "abcdefghijklm asks", Str.ofString "a_b asks", Str.ofString " asks", Str.ofString "ann  asks"].map D.str)) hl2
    have h2 : sup B1 l2 (.lst ([Str.ofString "Ann asks", Str.ofString "1ann asks", Str.ofString "abcdefghijklm asks", Str.ofString "a_b asks", Str.ofString " asks", Str.ofString "ann  asks"].map D.str)) l2 = some (.lst ([Str.ofString "Ann asks", Str.ofString "1ann asks", Str.ofString "abcdefghijklm asks", Str.ofString "a_b asks", Str.ofString " asks", Str.ofString "ann  asks"].map D.str)) := sup_same
    have W2 := W.se s2
    change F__law_take A [D.ref p, D.int 6] (drS p r i1 (sup B1 l2 (.lst ([Str.ofString "Ann asks", Str.ofString "1ann asks", Str.ofString "abcdefghijklm asks", Str.ofString "a_b asks", Str.ofString " asks", Str.ofString "ann  asks"].map D.str)))) _ _
    generalize sup B1 l2 (.lst ([Str.ofString "Ann asks", Str.ofString "1ann asks", Str.ofString "abcdefghijklm asks", Str.ofString "a_b asks", Str.ofString " asks", Str.ofString "ann  asks"].map D.str)) = B2 at s2 W2 h2 ⊢
    refine w_take A W2 (by decide) fun x i2 x0 x1 => ?_
    exact pick [Str.ofString "Ann asks", Str.ofString "1ann asks", Str.ofString "abcdefghijklm asks", Str.ofString "a_b asks", Str.ofString " asks", Str.ofString "ann  asks"] B l2 x i2 B2 s2 (by rw [dr_at nl2]; exact h2) x0 x1 (by decide +kernel)
  · refine nx_go ?_
    walk_at "dr"
    refine nx_go ?_
    walk_at "dr"
    refine nx_go ?_
    walk_at "dr"
    refine nx_go ?_
    walk_at "dr"
    refine nx_go ?_
    walk_at "dr"
    refine nx_go ?_
    walk_at "dr"
    refine nx_go ?_
    walk_at "dr"
    refine nx_go ?_
    walk_at "dr"
    refine nx_go ?_
    walk_at "dr"
    exact qs _ (by decide +kernel) _ _ s1
end

end Sd

set_option Elab.async false
set_option linter.all false
set_option maxRecDepth 100000
set_option maxHeartbeats 4000000
namespace Sd
open PySem PySem.Spec PyProof.Rows L2 GxR
local macro_rules | `(tactic| walk_at "dr") => `(tactic| try simp only [shut_eq, eVar, eC, sPar2, sPar3, eKIx, eKIn, eKGet2, eEvry, eTupG, iZip3D, dIsB, kLook_c, atI_c0, atI_c1, atI_c2, atI_c3, atI_c4, atI_c5, cut_t1, cut_t2, cut_t3, cut_t4, cut_t5, cut_d1, cut_d2, cut_d3, tk1, tk2, tk5, dp1, dp2,  eSlX, dSlX, eSumG, eInt, dSum, dAbs, dPow, dStrN, eDisp, pairsD, iZT, eEvryT, dExtT, dLenS, dMin, dMax, eSplit, eSumV, dNeL_r, eOp, eUn, asB, eAnd, eOr, eNot, eIf, eChain, tV, tAnd', tOr', tNot', aNil, aCons, eTup, eLst, eCB, eDK, eDT, dAdd, dI, dSub, dMod, dDiv, dXor, dShl, dShr, dMul, dCmp, dLe, dLt, dGe, dGt, dEq, dNe, dIn, dIsN, dIx_t, dIx_c, dIx_s, dIx_r, dIx_iD, dNeg, dLen_iD, dLen_s, dLen_t, dLen_c, dLen_r, dList, dTuple, dInt, dIsi, dAll, oNone, oSome, dSl, eSl,
  xName, xNil, xCons, xTup, xSub, sNext, sSeq, sBreak, sCont, sDrop, sRet, sRetN, sIf, sAsg, sAug, sFor, iL, iT, iS, iR1, iR2, iRev1, iRev2, tYes', eLc, eAll, dIAdd, dISub, eBM, eBM0, asRef, eDGet, eDGet1, eDGet2, eDIn, eDNotIn, sDPutD, sDDelD, eCa, eMe, eMa, eFld, sFldD, sFldAugD, setO, dAppend, dPopAt, isBl, isTr, List.length_set, List.lookup, Nat.reduceLT, Nat.reduceLeDiff, Nat.lt_irrefl, Nat.not_lt_zero, Nat.zero_le, Nat.le_refl, Nat.zero_lt_succ, Nat.lt_add_one, sRaise, eJoin, dJoin, br, Int.natCast_nonneg, Int.cast_ofNat_Int, Int.reduceEq, 
  dstart, List.map_cons, List.map_nil, List.length_cons, List.length_nil, List.replicate, List.cons_append, List.nil_append, List.append_nil, List.getElem?_cons_zero, List.getElem?_cons_succ, List.set_cons_zero, List.set_cons_succ, Nat.sub_self, Nat.reduceAdd, Nat.reduceSub, wipeD,
  dat_i, dat_s, dat_b, dat_n, dats_c, dats_e, eqD_ii, eqD_ss, eqD_bb, eqD_nn, eqD_is, eqD_si, isNon, unC_i, unC_s, unC_b, unC_n, unC_t, unC_c, flatD, List.all_cons, List.all_nil, List.any_cons, List.any_nil, decide_true, decide_false, List.mem_cons, tyD, isTy, tyKn, String.reduceBEq, Bool.or_true, Bool.true_or, Bool.or_false, Bool.false_or, Bool.and_true, Bool.true_and, Bool.and_false, Bool.false_and, Bool.or_self, Bool.and_self, true_and, and_true, true_implies, false_implies, forall_const, reduceCtorEq, Bool.true_eq_false, Bool.false_eq_true, if_true, if_false, ite_true, ite_false, Bool.not_true, Bool.not_false, implies_true, eq_self])
local macro_rules | `(tactic| walk_at "drn") => `(tactic| try simp only [shut_eq, eVar, eC, sPar2, sPar3, eKIx, eKIn, eKGet2, eEvry, eTupG, iZip3D, dIsB, kLook_c, atI_c0, atI_c1, atI_c2, atI_c3, atI_c4, atI_c5, cut_t1, cut_t2, cut_t3, cut_t4, cut_t5, cut_d1, cut_d2, cut_d3, tk1, tk2, tk5, dp1, dp2,  eSlX, dSlX, eSumG, eInt, dSum, dAbs, dPow, dStrN, eDisp, pairsD, iZT, eEvryT, dExtT, dLenS, dMin, dMax, eSplit, eSumV, dNeL_r, eOp, eUn, asB, eAnd, eOr, eNot, eIf, eChain, tV, tAnd', tOr', tNot', aNil, aCons, eTup, eLst, eCB, eDK, eDT, dAdd, dI, dSub, dMod, dDiv, dXor, dShl, dShr, dMul, dCmp, dLe, dLt, dGe, dGt, dEq, dNe, dIn, dIsN, dIx_t, dIx_c, dIx_s, dIx_r, dIx_iD, dNeg, dLen_iD, dLen_s, dLen_t, dLen_c, dLen_r, dList, dTuple, dInt, dIsi, dAll, oNone, oSome, dSl, eSl,
  xName, xNil, xCons, xTup, xSub, sNext, sSeq, NX_eq, sBreak, sCont, sDrop, sRet, sRetN, sIf, sAsg, sAug, sFor, iL, iT, iS, iR1, iR2, iRev1, iRev2, tYes', eLc, eAll, dIAdd, dISub, eBM, eBM0, asRef, eDGet, eDGet1, eDGet2, eDIn, eDNotIn, sDPutD, sDDelD, eCa, eMe, eMa, eFld, sFldD, sFldAugD, setO, dAppend, dPopAt, isBl, isTr, List.length_set, List.lookup, Nat.reduceLT, Nat.reduceLeDiff, Nat.lt_irrefl, Nat.not_lt_zero, Nat.zero_le, Nat.le_refl, Nat.zero_lt_succ, Nat.lt_add_one, sRaise, eJoin, dJoin, br, Int.natCast_nonneg, Int.cast_ofNat_Int, Int.reduceEq, 
  dstart, List.map_cons, List.map_nil, List.length_cons, List.length_nil, List.replicate, List.cons_append, List.nil_append, List.append_nil, List.getElem?_cons_zero, List.getElem?_cons_succ, List.set_cons_zero, List.set_cons_succ, Nat.sub_self, Nat.reduceAdd, Nat.reduceSub, wipeD,
  dat_i, dat_s, dat_b, dat_n, dats_c, dats_e, eqD_ii, eqD_ss, eqD_bb, eqD_nn, eqD_is, eqD_si, isNon, unC_i, unC_s, unC_b, unC_n, unC_t, unC_c, flatD, List.all_cons, List.all_nil, List.any_cons, List.any_nil, decide_true, decide_false, List.mem_cons, tyD, isTy, tyKn, String.reduceBEq, Bool.or_true, Bool.true_or, Bool.or_false, Bool.false_or, Bool.and_true, Bool.true_and, Bool.and_false, Bool.false_and, Bool.or_self, Bool.and_self, true_and, and_true, true_implies, false_implies, forall_const, reduceCtorEq, Bool.true_eq_false, Bool.false_eq_true, if_true, if_false, ite_true, ite_false, Bool.not_true, Bool.not_false, implies_true, eq_self])

mutual
theorem eqD_self : ∀ d : D, eqD d d = true
  | .non => rfl
  | .bl b => by rw [eqD_bb]; simp
  | .int i => by rw [eqD_ii]; simp
  | .str x => by rw [eqD_ss]; simp
  | .tup ds => by rw [eqD_tt]; exact eqs_self ds
  | .ctup ds => by show PyData.eqvAll (pys ds) (pys ds) = true; exact eqs_self ds
  | .ref _ => rfl
  | .scr => rfl
  | .ty _ => rfl
theorem eqs_self : ∀ ds : List D, PyData.eqvAll (pys ds) (pys ds) = true
  | [] => rfl
  | d :: ds => by rw [eqvAll_c, eqD_self d, eqs_self ds]; rfl
end
theorem dNe_self {ds es : List D} {S : Sto} {Q : DK} (hd : dat 60 (.tup ds) = true) (e : ds = es) (q : Q (.bl false) S) : dNe (.tup ds) (.tup es) S Q := by
  subst e
  refine ⟨hd, hd, ?_⟩
  rw [eqD_self]
  exact q

/-! ### the law -/
def rowD (a : Act) : D := .tup [actD a, .str (tS (lineA a))]
theorem gd_ns {a : Act} (h : gdA a) : match a with | .send _ _ ns => ns.length ≤ 4 | .done _ _ ns => ns.length ≤ 4 | .block ns => ns.length ≤ 4 | .back _ => True := by
  cases a with
  | send y v ns => obtain ⟨_, h | h, _⟩ := h <;> (obtain ⟨_, h⟩ := h; show ns.length ≤ 4; omega)
  | done v y ns => obtain ⟨_, h | h | h | h | h, _⟩ := h <;> (obtain ⟨_, h⟩ := h; show ns.length ≤ 4; omega)
  | block ns => exact h.1
  | back n => trivial
theorem dat_act {a : Act} (h : gdA a) : dat 50 (actD a) = true := by
  have num : ∀ (n : Nat) (ns : List Nat), ∀ d ∈ nsD ns, dat n d = true := fun n ns d hd => by
    obtain ⟨k, _, rfl⟩ := List.mem_map.mp hd
    exact dat_i
  have len : ∀ ns : List Nat, (nsD ns).length = ns.length := fun ns => List.length_map ..
  have hn := gd_ns h
  cases a with
  | send y v ns =>
    have hn : ns.length ≤ 4 := hn
    refine dat_tup' (n := 49) (by simp) fun d hd => ?_
    simp only [List.mem_cons, List.not_mem_nil, or_false] at hd
    rcases hd with rfl | rfl | rfl
    · exact dat_s
    · exact dat_s
    · refine dat_tup' (n := 48) (by rw [List.length_cons, len]; omega) fun d hd => ?_
      rcases List.mem_cons.mp hd with rfl | hd
      · exact dat_s
      · exact num _ _ d hd
  | done v y ns =>
    have hn : ns.length ≤ 4 := hn
    refine dat_tup' (n := 49) (by rw [List.length_cons, List.length_cons, len]; omega) fun d hd => ?_
    rcases List.mem_cons.mp hd with rfl | hd
    · exact dat_s
    rcases List.mem_cons.mp hd with rfl | hd
    · exact dat_s
    · exact num _ _ d hd
  | block ns =>
    have hn : ns.length ≤ 4 := hn
    refine dat_tup' (n := 49) (by simp) fun d hd => ?_
    simp only [List.mem_cons, List.not_mem_nil, or_false] at hd
    rcases hd with rfl | rfl
    · exact dat_s
    · exact dat_tup' (n := 48) (by rw [len]; omega) (num _ _)
  | back n =>
    refine dat_tup' (n := 49) (by simp) fun d hd => ?_
    simp only [List.mem_cons, List.not_mem_nil, or_false] at hd
    rcases hd with rfl | rfl
    · exact dat_s
    · exact dat_i
theorem dat_acts {as : List Act} (h : ∀ a ∈ as, gdA a) (hl : as.length ≤ 50) : dat 60 (.tup (as.map actD)) = true := dat_tup' (n := 59) (by rw [List.length_map]; omega) fun d hd => by
  obtain ⟨a, ha, rfl⟩ := List.mem_map.mp hd
  exact dat_mono (by decide) (dat_act (h a ha))
theorem lines_ok {as : List Act} (h : ∀ a ∈ as, gdA a) : ∀ l ∈ as.map lineA, 10 ∉ l ∧ l.length ≤ 210 ∧ ∀ c ∈ l, 32 ≤ c ∧ c < 128 := fun l hl => by
  obtain ⟨a, ha, rfl⟩ := List.mem_map.mp hl
  have hm : ∀ c ∈ lineA a, 32 ≤ c ∧ c < 128 := fun c hc => by
    rcases joinL_mem [32] _ c hc with h1 | ⟨w, hm, hc⟩
    · rw [List.mem_singleton.mp h1]; decide
    · obtain ⟨x, hx, rfl⟩ := List.mem_map.mp hm
      have := (gd_w (h a ha) x hx).1.2 c hc
      omega
  exact ⟨fun z => (by have := (hm 10 z).1; omega), lineA_len (gd_ok (h a ha)), hm⟩
theorem asc_lines {ls : List (List Nat)} (h : ∀ l ∈ ls, l.length ≤ 1000 ∧ asc l) (hl : ls.length ≤ 50) : asc (TL.joinL [10] ls) := by
  refine ⟨fun c hc => ?_, ?_⟩
  · rcases joinL_mem [10] _ c hc with h1 | ⟨w, hm, hc⟩
    · rw [List.mem_singleton.mp h1]; decide
    · exact (h w hm).2.1 c hc
  · refine Nat.le_trans (joinL_len _ _) ?_
    have := sum_le (fun w : List Nat => w.length + [10].length) 1001 ls fun w hw => by
      have := (h w hw).1
      simp; omega
    omega
theorem rd_map {as : List Act} (h : ∀ a ∈ as, gdA a) : (as.map lineA).map rdT = as.map some := by
  rw [List.map_map]
  exact List.map_congr_left fun a ha => gd_read (h a ha)
theorem line_ne {a : Act} (h : gdA a) : lineA a ≠ [] := fun z => by
  have := gd_read h
  rw [z] at this
  exact absurd this (by
    have e : rdT [] = none := by decide +kernel
    rw [e]; intro w; cases w)
theorem join_ne {a : List Nat} {r : List (List Nat)} (h : a ≠ [] ∨ r ≠ []) : TL.joinL [10] (a :: r) ≠ [] := by
  cases r with
  | nil =>
    rw [TL.joinL]
    exact h.resolve_right (by simp)
  | cons b r => rw [TL.joinL]; simp
theorem bob_line : lineA (.send [98, 111, 98] [97, 115, 107] []) = [98, 111, 98, 32, 97, 115, 107, 115] := by decide +kernel
theorem bob_gd : gdA (.send [98, 111, 98] [97, 115, 107] []) := ⟨by decide +kernel, .inr ⟨rfl, rfl⟩, fun n h => by cases h⟩
theorem dr_of {p r : Addr} {i : Int} {B S' : Sto} (W : Dw p r B) (se : Se (drS p r i B) S') : S' = drS p r i S' ∧ Dw p r S' ∧ ∀ a o, a ≠ p → B a = some o → S' a = some o := by
  have hp : S' p = some (drO r i) := se _ _ dr_p
  have keep : ∀ a o, a ≠ p → B a = some o → S' a = some o := fun a o h e => se _ _ (by rw [dr_at h]; exact e)
  refine ⟨?_, ⟨?_, W.ne⟩, keep⟩
  · funext a
    unfold drS
    by_cases h : a = p
    · rw [h, sup_same, hp]
    · rw [sup_ne h]
  · obtain ⟨ns, e, h⟩ := W.row
    exact ⟨ns, keep _ _ W.ne e, h⟩
section
variable {p r : Addr} {B : Sto} {i : Int} {Q : DK} {Ed : XD} (A : Ad)
/-- the rows that are drawn -/
theorem w_rows (W : Dw p r B) {m : Nat} (hm : m ≤ 50) {g : DG} {δ : DV} {v : Nat} {Q : List D → Sto → Prop}
    (hg : ∀ (k : Nat) (i : Int) (B' : Sto) (R : DK), Se B B' → (∀ (a : Act) i' B2, gdA a → Se B' B2 → R (rowD a) (drS p r i' B2)) → g (.int (k : Nat)) δ (drS p r i B') fun δ2 S2 => eCa (F__law_act A) xF (aCons (eVar v) aNil) δ2 S2 R)
    (q : ∀ (as : List Act) i' B', as.length = m → (∀ a ∈ as, gdA a) → Se B B' → Q (as.map rowD) (drS p r i' B')) :
    lcD (fun _ => True) g tYes' (eCa (F__law_act A) xF (aCons (eVar v) aNil)) δ (upto 0 m) [] (drS p r i B) Q := by
  refine lcD_acc (J := fun acc S' => ∃ (i' : Int) (B' : Sto) (as : List Act), S' = drS p r i' B' ∧ acc = as.map rowD ∧ (∀ a ∈ as, gdA a) ∧ Se B B') ?_ (fun _ _ _ _ => trivial) ?_ (by rw [upto_len]; omega) ⟨i, B, [], rfl, rfl, (fun _ z => nomatch z), Se.refl⟩
  · rintro acc x hx S' ⟨i', B', ns, rfl, rfl, hn, se⟩
    obtain ⟨_, rfl⟩ := upto_get hx
    refine ⟨trivial, fun R hR => hg _ _ _ _ se fun n i2 B2 h s2 => hR _ _ ⟨i2, B2, ns ++ [n], rfl, ?_, fun y h' => ?_, se.trans s2⟩⟩
    · rw [List.map_append]; rfl
    · rcases List.mem_append.mp h' with h' | h'
      · exact hn y h'
      · rw [List.mem_singleton.mp h']; exact h
  · rintro acc S' hl ⟨i', B', ns, rfl, rfl, hn, se⟩
    refine q ns _ _ ?_ hn se
    rw [List.length_map, upto_len] at hl
    exact hl
theorem w_law {S : Sto} (q : ∀ S', Q (.bl true) S') : F_law A [.scr] S Q Ed := by
  unfold F_law
  simp only [shut_eq]
  refine ⟨rfl, ?_⟩
  unfold B_law
  generalize h5 : sSeq (sAsg _ (xName 5)) _ = w5
  walk_at "dr"
  refine w_draws A (by decide) (by decide) fun p r B W _ => nx_go ?_
  walk_at "dr"
  refine w_take A W (by decide) fun m i1 m0 m1 => ?_
  obtain ⟨m, rfl⟩ : ∃ k : Nat, m = (k : Nat) := ⟨m.toNat, by omega⟩
  walk_at "dr"
  refine ⟨by omega, by omega, ?_⟩
  rw [Int.toNat_natCast]
  refine w_rows A W (by omega) (fun k i B' R se hR => ?_) fun as i2 B2 hl hg s2 => ?_
  · walk_at "dr"
    exact w_lact A (W.se se) hR
  intro pr hpr
  obtain ⟨npr, hpr⟩ := dr_new hpr
  rw [dr_sup npr]
  have W2 := W.se (s2.new (o := .lst (as.map rowD)) hpr)
  have hR2 : drS p r i2 (sup B2 pr (.lst (as.map rowD))) pr = some (.lst (as.map rowD)) := by rw [dr_at npr]; exact sup_same
  have hRB : (sup B2 pr (.lst (as.map rowD))) pr = some (.lst (as.map rowD)) := sup_same
  generalize sup B2 pr (.lst (as.map rowD)) = B3 at W2 hR2 hRB ⊢
  refine nx_go ?_
  walk_at "dr"
  rw [atL_eq hR2]
  refine lcD_out (out := as.map actD) hR2 (by simp) (fun k x y hx hy R hR => ?_) (by rw [List.length_map]; omega) fun p3 hp3 => ?_
  · rw [List.getElem?_map] at hx hy
    cases e : as[k]? with
    | none => rw [e] at hx; cases hx
    | some a =>
      rw [e] at hx hy
      cases hx
      cases hy
      unfold rowD
      walk_at "dr"
      exact hR
  obtain ⟨np3, hp3⟩ := dr_new hp3
  rw [dr_sup np3]
  have W3 := W2.se ((Se.refl).new (o := .lst (as.map actD)) hp3)
  have nR : pr ≠ p3 := fun z => by rw [z, hp3] at hRB; cases hRB
  have hRB3 : (sup B3 p3 (.lst (as.map actD))) pr = some (.lst (as.map rowD)) := by rw [sup_ne nR]; exact hRB
  rw [atL_eq (show drS p r i2 (sup B3 p3 (.lst (as.map actD))) p3 = some (.lst (as.map actD)) by rw [dr_at np3]; exact sup_same)]
  generalize sup B3 p3 (.lst (as.map actD)) = B4 at W3 hRB3 ⊢
  have lines : ∀ (i : Int) (B5 : Sto) (δ : DV) (R : List D → Sto → Prop), δ.length = 11 → B5 pr = some (.lst (as.map rowD)) → R ((as.map lineA).map fun l => .str (tS l)) (drS p r i B5) → lcD (fun S' => S' pr = some (.lst (as.map rowD))) (xName 10) tYes' (eOp dIx (eVar 10) (eC (.int 1))) δ (as.map rowD) [] (drS p r i B5) R := by
    intro i B5 δ R hd h5 hR
    refine lcD_out (out := (as.map lineA).map fun l => .str (tS l)) (by rw [dr_at npr]; exact h5) (by simp) (fun k x y hx hy R' hR' => ?_) (by rw [List.length_map]; omega) hR
    rw [List.getElem?_map] at hx
    rw [List.getElem?_map, List.getElem?_map] at hy
    cases e : as[k]? with
    | none => rw [e] at hx; cases hx
    | some a =>
      rw [e] at hx hy
      cases hx
      cases hy
      unfold rowD
      walk_at "dr"
      rw [List.getElem?_set_self (by omega)]
      walk_at "dr"
      exact hR'
  have e_nl : Str.ofString "\n" = tS [10] := by decide +kernel
  refine nx_go ?_
  walk_at "dr"
  refine ⟨⟨_, rfl⟩, ?_⟩
  have hl0 : as.length ≤ 12 := by omega
  have hT := lines_ok hg
  have sm : ((((as.map lineA).map tS).map (·.length)).sum + ((as.map lineA).map tS).length * (tS [10]).length) ≤ 1000000 := by
    have hb := sum_le (fun w : List Nat => w.length) 210 (as.map lineA) fun w hw => (hT w hw).2.1
    rw [SX.lens, tS_len, List.length_map, List.length_map]
    rw [List.length_map] at hb
    simp only [List.length_cons, List.length_nil]; omega
  rw [atL_eq (show drS p r i2 B4 pr = some (.lst (as.map rowD)) by rw [dr_at npr]; exact hRB3)]
  refine lines _ _ _ _ rfl hRB3 fun p4 hp4 => ?_
  obtain ⟨np4, hp4⟩ := dr_new hp4
  rw [dr_sup np4]
  have nR4 : pr ≠ p4 := fun z => by rw [z, hp4] at hRB3; cases hRB3
  have W4 := W3.se ((Se.refl).new (o := .lst ((as.map lineA).map fun l => .str (tS l))) hp4)
  have hRB4 : (sup B4 p4 (.lst ((as.map lineA).map fun l => .str (tS l)))) pr = some (.lst (as.map rowD)) := by rw [sup_ne nR4]; exact hRB3
  rw [atL_eq (show drS p r i2 (sup B4 p4 (.lst ((as.map lineA).map fun l => .str (tS l)))) p4 = some (.lst ((as.map lineA).map fun l => .str (tS l))) by rw [dr_at np4]; exact sup_same)]
  generalize sup B4 p4 (.lst ((as.map lineA).map fun l => .str (tS l))) = B5 at W4 hRB4 ⊢
  have es : ((as.map lineA).map fun l => D.str (tS l)) = ((as.map lineA).map tS).map D.str := by rw [List.map_map (f := tS)]; rfl
  rw [es, strs_map]
  dsimp only
  rw [e_nl, SX.join_S]
  refine ⟨sm, fun _ => nx_go ?_⟩
  have rdn : ∀ (S' : Sto) (Q' : DK) (Ed' : XD), (∀ S2, Se S' S2 → Q' (.tup (as.map actD)) S2) → F_read_script A [.str (tS (TL.joinL [10] (as.map lineA)))] S' Q' Ed' := by
    intro S' Q' Ed' h
    cases as with
    | nil => exact w_read_script_empty A h
    | cons a r0 =>
      have hne : TL.joinL [10] ((a :: r0).map lineA ++ []) ≠ [] := by rw [List.append_nil, List.map_cons]; exact join_ne (.inl (line_ne (hg a List.mem_cons_self)))
      have h2 := w_read_script A (S := S') (Q := Q') (Ed := Ed') (ls := (a :: r0).map lineA) (as := a :: r0) (rest := []) hne (by simp) (fun l hl => (hT l (by rw [List.append_nil] at hl; exact hl)).1) (fun l hl => (by have := (hT l (by rw [List.append_nil] at hl; exact hl)).2.1; omega)) (by
        rw [List.append_nil]
        exact asc_lines (fun l hl => ⟨by have := (hT l hl).2.1; omega, fun c hc => ((hT l hl).2.2 c hc).2, by have := (hT l hl).2.1; omega⟩) (by rw [List.length_map]; omega)) (by rw [List.append_nil, List.length_map]; omega) (rd_map hg) (.inl rfl) (fun _ => h) (fun z => absurd rfl z)
      rw [List.append_nil] at h2
      exact h2
  walk_at "dr"
  refine w_print_script A (fun a ha => gd_ok (hg a ha)) (by omega) fun S1 se1 => ?_
  obtain ⟨e1, W5, keep1⟩ := dr_of W4 se1
  have hR1 := keep1 _ _ npr hRB4
  rw [eqD_self]
  refine ⟨dat_s, fun z => (by cases z), fun _ => rdn _ _ _ fun S2 se2 => ?_⟩
  rw [eqD_self]
  refine ⟨by rw [unC_t]; exact dat_acts hg (by omega), dat_acts hg (by omega), fun z => (by cases z), fun _ => ?_⟩
  rw [e1] at se2
  obtain ⟨e2, W6, keep2⟩ := dr_of W5 se2
  have hR2' := keep2 _ _ npr hR1
  have e_em : Str.ofString "" = tS [] := by decide +kernel
  rw [e_em]
  refine w_read_script_empty A fun S3 se3 => ?_
  rw [eqD_self]
  refine ⟨by decide, by decide, fun z => (by cases z), fun _ => ?_⟩
  rw [e2] at se3
  obtain ⟨e3, W7, keep3⟩ := dr_of W6 se3
  have hR3 := keep3 _ _ npr hR2'
  rw [e3]
  clear rdn e1 e2 e3 se1 se2 se3 keep1 keep2 keep3 hR1 hR2' W4 W5 W6 W2 W3 hR2 hRB hRB3 hRB4 hp4 hp3 nR nR4 np3 np4 hpr
  generalize S3 = B6 at W7 hR3 ⊢
  subst h5
  refine nx_go ?_
  generalize h10 : sSeq (sAsg (eOp dAdd _ _) _) _ = w10
  walk_at "dr"
  rw [atL_eq (show drS p r i2 B6 pr = some (.lst (as.map rowD)) by rw [dr_at npr]; exact hR3), List.length_map]
  refine w_take A W7 (by omega) fun x i3 x0 x1 => nx_go ?_
  obtain ⟨k, rfl⟩ : ∃ k : Nat, x = (k : Nat) := ⟨x.toNat, by omega⟩
  have hk : k ≤ as.length := by omega
  walk_at "dr"
  rw [atL_eq (show drS p r i3 B6 pr = some (.lst (as.map rowD)) by rw [dr_at npr]; exact hR3)]
  refine lines _ _ _ _ rfl hR3 fun p6 hp6 => ?_
  obtain ⟨np6, hp6⟩ := dr_new hp6
  rw [dr_sup np6]
  have W8 := W7.se ((Se.refl).new (o := .lst ((as.map lineA).map fun l => .str (tS l))) hp6)
  have h6 : (sup B6 p6 (.lst ((as.map lineA).map fun l => .str (tS l)))) p6 = some (.lst ((as.map lineA).map fun l => .str (tS l))) := sup_same
  generalize sup B6 p6 (.lst ((as.map lineA).map fun l => .str (tS l))) = B7 at W8 h6 ⊢
  refine nx_go ?_
  walk_at "dr"
  intro p7 hp7
  obtain ⟨np7, hp7⟩ := dr_new hp7
  rw [dr_sup np7]
  have n67 : p6 ≠ p7 := fun z => by rw [z, hp7] at h6; cases h6
  have W9 := W8.se ((Se.refl).new (o := .lst [.str "bob asks"]) hp7)
  have h69 : (sup B7 p7 (.lst [.str "bob asks"])) p6 = some (.lst ((as.map lineA).map fun l => .str (tS l))) := by rw [sup_ne n67]; exact h6
  have h79 : (sup B7 p7 (.lst [.str "bob asks"])) p7 = some (.lst [.str "bob asks"]) := sup_same
  generalize sup B7 p7 (.lst [.str "bob asks"]) = B8 at W9 h69 h79 ⊢
  rw [atL_eq (show drS p r i3 B8 p6 = some (.lst ((as.map lineA).map fun l => .str (tS l))) by rw [dr_at np6]; exact h69), atL_eq (show drS p r i3 B8 p7 = some (.lst [.str "bob asks"]) by rw [dr_at np7]; exact h79)]
  refine ⟨by rw [List.length_map, List.length_map]; simp; omega, fun p8 hp8 => ?_⟩
  have eb : (((as.map lineA).map fun l => D.str (tS l)) ++ [D.str (Str.ofString "bob asks")]) = ((as ++ [Act.send [98, 111, 98] [97, 115, 107] []]).map lineA).map fun l => D.str (tS l) := by
    have e0 : Str.ofString "bob asks" = tS [98, 111, 98, 32, 97, 115, 107, 115] := by decide +kernel
    rw [List.map_append, List.map_append, List.map_singleton, List.map_singleton, bob_line, e0]
  rw [eb]
  obtain ⟨np8, hp8⟩ := dr_new hp8
  rw [dr_sup np8]
  have n68 : p6 ≠ p8 := fun z => by rw [z, hp8] at h69; cases h69
  have hg2 : ∀ a ∈ as ++ [Act.send [98, 111, 98] [97, 115, 107] []], gdA a := fun a ha => by
    rcases List.mem_append.mp ha with h | h
    · exact hg a h
    · rw [List.mem_singleton.mp h]; exact bob_gd
  have hk2 : k < (as ++ [Act.send [98, 111, 98] [97, 115, 107] []]).length := by rw [List.length_append, List.length_singleton]; omega
  generalize as ++ [Act.send [98, 111, 98] [97, 115, 107] []] = as2 at hg2 hk2 ⊢
  have W10 := W9.se ((Se.refl).new (o := .lst ((as2.map lineA).map fun l => .str (tS l))) hp8)
  have h610 : (sup B8 p8 (.lst ((as2.map lineA).map fun l => .str (tS l)))) p6 = some (.lst ((as.map lineA).map fun l => .str (tS l))) := by rw [sup_ne n68]; exact h69
  rw [atL_eq (show drS p r i3 (sup B8 p8 (.lst ((as2.map lineA).map fun l => .str (tS l)))) p8 = some (.lst ((as2.map lineA).map fun l => .str (tS l))) by rw [dr_at np8]; exact sup_same)]
  generalize sup B8 p8 (.lst ((as2.map lineA).map fun l => .str (tS l))) = B9 at W10 h610 ⊢
  have ea : atI ((as2.map lineA).map fun l => D.str (tS l)) (k : Int) = some (.str (tS (lineA as2[k]))) := by
    refine atI_nat ?_
    rw [List.getElem?_map, List.getElem?_map, List.getElem?_eq_getElem hk2]
    rfl
  rw [ea]
  dsimp only
  refine w_lwrong A W10 (hg2 _ (List.getElem_mem hk2)) fun l i4 B10 hbad s10 => ?_
  have h611 := s10 _ _ h610
  have W11 := W10.se s10
  subst h10
  refine nx_go ?_
  generalize h12 : sSeq (sIf _ _ _) _ = w12
  walk_at "dr"
  rw [atL_eq (show drS p r i4 B10 p6 = some (.lst ((as.map lineA).map fun l => .str (tS l))) by rw [dr_at np6]; exact h611)]
  have h0 : drS p r i4 B10 p6 = some (.lst ((as.map lineA).map fun l => .str (tS l))) := by rw [dr_at np6]; exact h611
  clear W W7 W8 W9 W10 W11 hR3 h6 h69 h610 h611 h79 s10 ea eb lines hp8 hp7 hp6
  generalize drS p r i4 B10 = S0 at h0 ⊢
  rw [cut_take]
  intro q1 hq1 q2 hq2
  have n1 : q2 ≠ q1 := fun z => by rw [z, sup_same] at hq2; cases hq2
  have s2 := ((Se.refl (S := S0)).new (o := .lst (((as.map lineA).map fun l => D.str (tS l)).take k)) hq1).new (o := .lst [.str (tS l)]) hq2
  have a1 : (sup (sup S0 q1 (.lst (((as.map lineA).map fun l => D.str (tS l)).take k))) q2 (.lst [.str (tS l)])) q1 = some (.lst (((as.map lineA).map fun l => D.str (tS l)).take k)) := by rw [sup_ne (Ne.symm n1), sup_same]
  have a2 : (sup (sup S0 q1 (.lst (((as.map lineA).map fun l => D.str (tS l)).take k))) q2 (.lst [.str (tS l)])) q2 = some (.lst [.str (tS l)]) := sup_same
  generalize sup (sup S0 q1 (.lst (((as.map lineA).map fun l => D.str (tS l)).take k))) q2 (.lst [.str (tS l)]) = S2 at s2 a1 a2 ⊢
  have b0 := s2 _ _ h0
  rw [atL_eq a1, atL_eq a2]
  refine ⟨by rw [List.length_take, List.length_singleton, List.length_map, List.length_map]; omega, fun q3 hq3 => ?_⟩
  have s3 := (Se.refl (S := S2)).new (o := .lst (((as.map lineA).map fun l => D.str (tS l)).take k ++ [.str (tS l)])) hq3
  have a3 : (sup S2 q3 (.lst (((as.map lineA).map fun l => D.str (tS l)).take k ++ [.str (tS l)]))) q3 = some (.lst (((as.map lineA).map fun l => D.str (tS l)).take k ++ [.str (tS l)])) := sup_same
  generalize sup S2 q3 (.lst (((as.map lineA).map fun l => D.str (tS l)).take k ++ [.str (tS l)])) = S3 at s3 a3 ⊢
  rw [atL_eq (s3 _ _ b0), cut_drop]
  intro q4 hq4
  have s4 := (Se.refl (S := S3)).new (o := .lst (((as.map lineA).map fun l => D.str (tS l)).drop k)) hq4
  have a4 : (sup S3 q4 (.lst (((as.map lineA).map fun l => D.str (tS l)).drop k))) q4 = some (.lst (((as.map lineA).map fun l => D.str (tS l)).drop k)) := sup_same
  generalize sup S3 q4 (.lst (((as.map lineA).map fun l => D.str (tS l)).drop k)) = S4 at s4 a4 ⊢
  rw [atL_eq (s4 _ _ a3), atL_eq a4]
  refine ⟨by rw [List.length_append, List.length_take, List.length_drop, List.length_singleton, List.length_map, List.length_map]; omega, fun q5 hq5 => ?_⟩
  have ef : (((as.map lineA).map fun l => D.str (tS l)).take k ++ [.str (tS l)]) ++ ((as.map lineA).map fun l => D.str (tS l)).drop k = ((((as.take k).map lineA ++ (l :: (as.drop k).map lineA)).map tS).map D.str) := by
    rw [List.map_map (f := tS), List.map_append, List.map_cons, ← List.map_take, ← List.map_take, ← List.map_drop, ← List.map_drop, List.append_assoc]
    rfl
  rw [ef]
  have a5 : (sup S4 q5 (.lst (((as.take k).map lineA ++ (l :: (as.drop k).map lineA)).map tS |>.map D.str))) q5 = some (.lst (((as.take k).map lineA ++ (l :: (as.drop k).map lineA)).map tS |>.map D.str)) := sup_same
  generalize sup S4 q5 (.lst (((as.take k).map lineA ++ (l :: (as.drop k).map lineA)).map tS |>.map D.str)) = S5 at a5 ⊢
  clear s2 s3 s4 a1 a2 a3 a4 b0 hq1 hq2 hq3 hq4 hq5 n1
  have hlen : ((as.take k).map lineA ++ (l :: (as.drop k).map lineA)).length = as.length + 1 := by rw [List.length_append, List.length_cons, List.length_map, List.length_map, List.length_take, List.length_drop]; omega
  have htk : ((as.take k).map lineA).length = k := by rw [List.length_map, List.length_take]; omega
  have hin : ∀ w ∈ (as.take k).map lineA ++ (l :: (as.drop k).map lineA), 10 ∉ w ∧ w.length ≤ 300 ∧ asc w := fun w hw => by
    have good : w ∈ as.map lineA → 10 ∉ w ∧ w.length ≤ 300 ∧ asc w := fun h => by
      obtain ⟨g1, g2, g3⟩ := hT w h
      exact ⟨g1, by omega, ⟨fun c hc => (g3 c hc).2, by omega⟩⟩
    rcases List.mem_append.mp hw with h | h
    · exact good (by obtain ⟨a, ha, rfl⟩ := List.mem_map.mp h; exact List.mem_map_of_mem (List.mem_of_mem_take ha))
    rcases List.mem_cons.mp h with h | h
    · rw [h]; exact ⟨hbad.2.1, hbad.2.2.1, hbad.2.2.2⟩
    · exact good (by obtain ⟨a, ha, rfl⟩ := List.mem_map.mp h; exact List.mem_map_of_mem (List.mem_of_mem_drop ha))
  subst h12
  refine nx_go ?_
  generalize h13 : sSeq (sTryF _ _ _ _) _ = w13
  walk_at "dr"
  rw [atL_eq a5, List.length_map, List.length_map, hlen]
  have fin : ¬ (as.length = 0 ∧ l = []) → NX w13 { nx := fun _ S' => Q .non S', rt := Q } [some .scr, some (.ref p), some (.ref pr), some (.tup (as.map actD)), some (.str (tS (TL.joinL [10] (as.map lineA)))), some (.int (k : Nat)), some (.ref q5), some (.str (tS l)), none, none, none] S5 := by
    intro hno
    subst h13
    refine nx_go ?_
    unfold sTryF eCaS
    walk_at "dr"
    refine ⟨⟨_, rfl⟩, ?_⟩
    rw [atL_eq a5, strs_map]
    dsimp only
    rw [e_nl, SX.join_S]
    have sm2 : (((((as.take k).map lineA ++ (l :: (as.drop k).map lineA)).map tS).map (·.length)).sum + (((as.take k).map lineA ++ (l :: (as.drop k).map lineA)).map tS).length * (tS [10]).length) ≤ 1000000 := by
      have hb := sum_le (fun w : List Nat => w.length) 300 ((as.take k).map lineA ++ (l :: (as.drop k).map lineA)) fun w hw => (hin w hw).2.1
      rw [SX.lens, tS_len, List.length_map]
      rw [hlen] at hb ⊢
      simp only [List.length_cons, List.length_nil]; omega
    refine ⟨sm2, fun _ => ?_⟩
    have hne : TL.joinL [10] ((as.take k).map lineA ++ (l :: (as.drop k).map lineA)) ≠ [] := by
      cases e : as.take k with
      | nil =>
        rw [List.map_nil, List.nil_append]
        refine join_ne ?_
        by_cases hz : l = []
        · refine .inr fun z => hno ⟨?_, hz⟩
          have z1 := congrArg List.length z
          have z2 := congrArg List.length e
          rw [List.length_map, List.length_drop] at z1
          rw [List.length_take] at z2
          simp only [List.length_nil] at z1 z2
          omega
        · exact .inl hz
      | cons a r0 =>
        rw [List.map_cons, List.cons_append]
        refine join_ne (.inl (line_ne (hg a (List.mem_of_mem_take (i := k) ?_))))
        rw [e]; exact List.mem_cons_self
    refine w_read_script A (ls := (as.take k).map lineA) (as := as.take k) (rest := l :: (as.drop k).map lineA) hne (by simp) (fun w hw => (hin w hw).1) (fun w hw => by have := (hin w hw).2.1; omega) (asc_lines (fun w hw => ⟨by have := (hin w hw).2.1; omega, (hin w hw).2.2⟩) (by rw [hlen]; omega)) (by rw [hlen]; omega) (rd_map fun a ha => hg a (List.mem_of_mem_take ha)) (.inr ⟨l, _, rfl, hbad.1⟩) (fun z => by cases z) fun _ S6 s6 => ?_
    refine ⟨rfl, _, rfl, fun a0 ha => ?_⟩
    unfold eLineE eIsE
    walk_at "dr"
    rw [htk, decide_eq_true (show (1 : Int) + (k : Nat) = (k : Nat) + 1 by omega)]
    exact ⟨fun _ => q _, fun z => (by cases z)⟩
  refine ⟨fun z => ?_, fun z => fin fun w => ?_⟩
  · have z := of_decide_eq_true z
    rw [e_em, tS_dec]
    refine ⟨fun _ => q _, fun w => fin fun y => ?_⟩
    exact (of_decide_eq_false w) y.2
  · exact (of_decide_eq_false z) (by rw [w.1]; rfl)
end

end Sd

set_option Elab.async false
set_option linter.all false
set_option maxRecDepth 100000
set_option maxHeartbeats 8000000
namespace Sd
open PySem PySem.Spec PyProof.Rows L2 GxR
/-! ### the end -/
theorem tab0 {H : Hp} {P : Addr} (h : H P = some (.tbl #[])) : TabG H P := ⟨#[], h, by first | exact True.intro | exact fun _ z => absurd z (by simp) | simp [TriplesOk]⟩
theorem tabB {base : Heap} {mg : Str → Option Value} {c P : Addr} (t : LamX.TabB base mg c P) : TabB base mg c P := ⟨t.code, t.bm, t.gP⟩

theorem all_mk {l : PySem.W.OpenLaw} {w : World} {K : PySem.W.Frag} {h : Heap} {mg : Str → Option Value} {fa f__is_letter f__is_digit f_is_name c_is_name P_is_name f_number_in c_number_in P_number_in f__act_of_player f__read_line f_read_script f__words_of_act f_print_script f__law_mix f__law_numbers f__law_draws f__law_take f__law_name f__law_number f__law_act f__law_wrong f_law X_BadText I_BadText W_WatchError c__COUNTS c__SENT c__DONE : Addr} (X : K.In h) (G : h.Ns mainGlobals mg) (hfa : mg "law" = some (.ref fa))
    {od_is_name an_is_name od_number_in an_number_in od_law an_law : Option Addr} {sl_is_name sl_number_in sl_law : Array (Option Value)} {oc_is_name kV_is_name dc_is_name pm_is_name ct_is_name oc_number_in kV_number_in dc_number_in pm_number_in ct_number_in oc_law kV_law dc_law pm_law ct_law cd_law : Value} {fd__is_letter fd__is_digit fd__act_of_player fd__read_line fd_read_script fd__words_of_act fd_print_script fd__law_mix fd__law_numbers fd__law_draws fd__law_take fd__law_name fd__law_number fd__law_act fd__law_wrong fdI_BadText : FuncData}
    (a__is_letter : PySem.W.nsIn K mainGlobals "_is_letter" = some (some (.ref f__is_letter)))
    (k__is_letter : PySem.W.keepIn K (.ref f__is_letter) = true)
    (Fm__is_letter : Fun K "_is_letter" "_is_letter" s__is_letter f__is_letter fd__is_letter)
    (a__is_digit : PySem.W.nsIn K mainGlobals "_is_digit" = some (some (.ref f__is_digit)))
    (k__is_digit : PySem.W.keepIn K (.ref f__is_digit) = true)
    (Fm__is_digit : Fun K "_is_digit" "_is_digit" s__is_digit f__is_digit fd__is_digit)
    (a_is_name : PySem.W.nsIn K mainGlobals "is_name" = some (some (.ref f_is_name)))
    (k_is_name : PySem.W.keepIn K (.ref f_is_name) = true)
    (l_is_name : K.lookup f_is_name = some ⟨oc_is_name, od_is_name, .func (PySem.W.fnOf "is_name" "is_name" (defArgs s_is_name) (defBody s_is_name) (defScope s_is_name) .none kV_is_name dc_is_name pm_is_name an_is_name (.ref c_is_name) ct_is_name), sl_is_name⟩)
    (cc_is_name : PySem.W.codeIn K (.ref c_is_name) "is_name" = true)
    (n_is_name : K.lookup P_is_name = none)
    (y_is_name : h.get? P_is_name = some { cls := .none, data := .fields #[] })
    (d_is_name : PySem.W.CodeHd h c_is_name P_is_name)
    (a_number_in : PySem.W.nsIn K mainGlobals "number_in" = some (some (.ref f_number_in)))
    (k_number_in : PySem.W.keepIn K (.ref f_number_in) = true)
    (l_number_in : K.lookup f_number_in = some ⟨oc_number_in, od_number_in, .func (PySem.W.fnOf "number_in" "number_in" (defArgs s_number_in) (defBody s_number_in) (defScope s_number_in) .none kV_number_in dc_number_in pm_number_in an_number_in (.ref c_number_in) ct_number_in), sl_number_in⟩)
    (cc_number_in : PySem.W.codeIn K (.ref c_number_in) "number_in" = true)
    (n_number_in : K.lookup P_number_in = none)
    (y_number_in : h.get? P_number_in = some { cls := .none, data := .fields #[] })
    (d_number_in : PySem.W.CodeHd h c_number_in P_number_in)
    (a__act_of_player : PySem.W.nsIn K mainGlobals "_act_of_player" = some (some (.ref f__act_of_player)))
    (k__act_of_player : PySem.W.keepIn K (.ref f__act_of_player) = true)
    (Fm__act_of_player : Fun K "_act_of_player" "_act_of_player" s__act_of_player f__act_of_player fd__act_of_player)
    (a__read_line : PySem.W.nsIn K mainGlobals "_read_line" = some (some (.ref f__read_line)))
    (k__read_line : PySem.W.keepIn K (.ref f__read_line) = true)
    (Fm__read_line : Fun K "_read_line" "_read_line" s__read_line f__read_line fd__read_line)
    (a_read_script : PySem.W.nsIn K mainGlobals "read_script" = some (some (.ref f_read_script)))
    (k_read_script : PySem.W.keepIn K (.ref f_read_script) = true)
    (Fm_read_script : Fun K "read_script" "read_script" s_read_script f_read_script fd_read_script)
    (a__words_of_act : PySem.W.nsIn K mainGlobals "_words_of_act" = some (some (.ref f__words_of_act)))
    (k__words_of_act : PySem.W.keepIn K (.ref f__words_of_act) = true)
    (Fm__words_of_act : Fun K "_words_of_act" "_words_of_act" s__words_of_act f__words_of_act fd__words_of_act)
    (a_print_script : PySem.W.nsIn K mainGlobals "print_script" = some (some (.ref f_print_script)))
    (k_print_script : PySem.W.keepIn K (.ref f_print_script) = true)
    (Fm_print_script : Fun K "print_script" "print_script" s_print_script f_print_script fd_print_script)
    (a__law_mix : PySem.W.nsIn K mainGlobals "_law_mix" = some (some (.ref f__law_mix)))
    (k__law_mix : PySem.W.keepIn K (.ref f__law_mix) = true)
    (Fm__law_mix : Fun K "_law_mix" "_law_mix" s__law_mix f__law_mix fd__law_mix)
    (a__law_numbers : PySem.W.nsIn K mainGlobals "_law_numbers" = some (some (.ref f__law_numbers)))
    (k__law_numbers : PySem.W.keepIn K (.ref f__law_numbers) = true)
    (Fm__law_numbers : Fun K "_law_numbers" "_law_numbers" s__law_numbers f__law_numbers fd__law_numbers)
    (a__law_draws : PySem.W.nsIn K mainGlobals "_law_draws" = some (some (.ref f__law_draws)))
    (k__law_draws : PySem.W.keepIn K (.ref f__law_draws) = true)
    (Fm__law_draws : Fun K "_law_draws" "_law_draws" s__law_draws f__law_draws fd__law_draws)
    (a__law_take : PySem.W.nsIn K mainGlobals "_law_take" = some (some (.ref f__law_take)))
    (k__law_take : PySem.W.keepIn K (.ref f__law_take) = true)
    (Fm__law_take : Fun K "_law_take" "_law_take" s__law_take f__law_take fd__law_take)
    (a__law_name : PySem.W.nsIn K mainGlobals "_law_name" = some (some (.ref f__law_name)))
    (k__law_name : PySem.W.keepIn K (.ref f__law_name) = true)
    (Fm__law_name : Fun K "_law_name" "_law_name" s__law_name f__law_name fd__law_name)
    (a__law_number : PySem.W.nsIn K mainGlobals "_law_number" = some (some (.ref f__law_number)))
    (k__law_number : PySem.W.keepIn K (.ref f__law_number) = true)
    (Fm__law_number : Fun K "_law_number" "_law_number" s__law_number f__law_number fd__law_number)
    (a__law_act : PySem.W.nsIn K mainGlobals "_law_act" = some (some (.ref f__law_act)))
    (k__law_act : PySem.W.keepIn K (.ref f__law_act) = true)
    (Fm__law_act : Fun K "_law_act" "_law_act" s__law_act f__law_act fd__law_act)
    (a__law_wrong : PySem.W.nsIn K mainGlobals "_law_wrong" = some (some (.ref f__law_wrong)))
    (k__law_wrong : PySem.W.keepIn K (.ref f__law_wrong) = true)
    (Fm__law_wrong : Fun K "_law_wrong" "_law_wrong" s__law_wrong f__law_wrong fd__law_wrong)
    (a_law : PySem.W.nsIn K mainGlobals "law" = some (some (.ref f_law)))
    (k_law : PySem.W.keepIn K (.ref f_law) = true)
    (l_law : K.lookup f_law = some ⟨oc_law, od_law, .func (PySem.W.fnOf "law" "law" (defArgs s_law) (defBody s_law) (defScope s_law) .none kV_law dc_law pm_law an_law cd_law ct_law), sl_law⟩)
    (cc_law : PySem.W.codeIn K cd_law "law" = true)
    (aX_BadText : PySem.W.nsIn K mainGlobals "BadText" = some (some (.ref X_BadText)))
    (shX_BadText : Ow.erShape K X_BadText = true)
    (saX_BadText : PySem.W.findIn K (.ref X_BadText) "__setattr__" = some (some (.builtin "object.__setattr__")))
    (noX_BadText : PySem.W.findIn K (.ref X_BadText) "line" = some none)
    (inX_BadText : PySem.W.findIn K (.ref X_BadText) "__init__" = some (some (.ref I_BadText)))
    (tyX_BadText : PySem.W.typeIn K (.ref I_BadText) = some (.type "function"))
    (kI_BadText : PySem.W.keepIn K (.ref I_BadText) = true)
    (FmI_BadText : Fun K "__init__" "BadText.__init__" s_BadText___init__ I_BadText fdI_BadText)
    (kX_BadText : PySem.W.keepIn K (.ref X_BadText) = true)
    (bX_BadText : PySem.W.subIn K (.ref X_BadText) (.type "BaseException") = some true)
    (tX_BadText : PySem.W.typeIn K (.ref X_BadText) = some (.type "type"))
    (sX_BadText : PySem.W.subIn K (.ref X_BadText) (.ref X_BadText) = some true)
    (hX_BadText : PySem.W.hasDictIn K X_BadText = true)
    (gaX_BadText : PySem.W.findIn K (.ref X_BadText) "__getattribute__" = some (some (.builtin "BaseException.__getattribute__")))
    (grX_BadText : PySem.W.findIn K (.ref X_BadText) "__getattr__" = some none)
    (gcX_BadText : PySem.W.findIn K (.ref X_BadText) "__class__" = some (some (.builtin "object.__class__")))
    (guX_BadText : PySem.W.specialIn K (.builtin "object.__class__") "__get__" = some (some (.builtin "getset_descriptor.__get__")))
    (gyX_BadText : PySem.W.takesIn K (.builtin "object.__class__") = some true)
    (gmX_BadText : PySem.W.mroIn K X_BadText (.type "object") = some true)
    (aW_WatchError : PySem.W.nsIn K mainGlobals "WatchError" = some (some (.ref W_WatchError)))
    (o_BadText_WatchError : PySem.W.kitOne K (.ref X_BadText) (.ref W_WatchError) = some true)
    (z_abs : PySem.W.nsIn K mainGlobals "abs" = some none)
    (z_all : PySem.W.nsIn K mainGlobals "all" = some none)
    (z_bool : PySem.W.nsIn K mainGlobals "bool" = some none)
    (z_enumerate : PySem.W.nsIn K mainGlobals "enumerate" = some none)
    (z_int : PySem.W.nsIn K mainGlobals "int" = some none)
    (z_isinstance : PySem.W.nsIn K mainGlobals "isinstance" = some none)
    (z_len : PySem.W.nsIn K mainGlobals "len" = some none)
    (z_list : PySem.W.nsIn K mainGlobals "list" = some none)
    (z_range : PySem.W.nsIn K mainGlobals "range" = some none)
    (z_str : PySem.W.nsIn K mainGlobals "str" = some none)
    (z_tuple : PySem.W.nsIn K mainGlobals "tuple" = some none)
    (gi_MAX_PART : ∃ t, mg "MAX_PART" = some (.int 281474976710656 t))
    (gi_MAX_NAME : ∃ t, mg "MAX_NAME" = some (.int 12 t))
    (g__COUNTS : PySem.W.nsIn K mainGlobals "_COUNTS" = some (some (.ref c__COUNTS)))
    (kt__COUNTS : ∃ es n, KDict K w c__COUNTS es n ∧ KeysAre es.toList ["puts", "asks", "lies", "forges", "cuts", "papers", "gathers"])
    (kr__COUNTS : kdB K c__COUNTS (("puts", some (.int 2)) :: ("asks", some (.int 0)) :: ("lies", some (.int 3)) :: ("forges", some (.int 2)) :: ("cuts", some (.int 0)) :: ("papers", some (.int 0)) :: ("gathers", some (.int 0)) :: []) = true)
    (g__SENT : PySem.W.nsIn K mainGlobals "_SENT" = some (some (.ref c__SENT)))
    (kt__SENT : ∃ es n, KDict K w c__SENT es n ∧ KeysAre es.toList ["puts", "asks"])
    (kr__SENT : kdB K c__SENT (("puts", some (.str "put")) :: ("asks", some (.str "ask")) :: []) = true)
    (g__DONE : PySem.W.nsIn K mainGlobals "_DONE" = some (some (.ref c__DONE)))
    (kt__DONE : ∃ es n, KDict K w c__DONE es n ∧ KeysAre es.toList ["lies", "forges", "cuts", "papers", "gathers"])
    (kr__DONE : kdB K c__DONE (("lies", some (.str "lie")) :: ("forges", some (.str "forge")) :: ("cuts", some (.str "cut")) :: ("papers", some (.str "paper")) :: ("gathers", some (.str "gather")) :: []) = true)
    : LamX.LawAtS l w K (L2.CX l.prog w) 7 63 "script" mg fa h := by
  have e := hfa.symm.trans (PySem.W.mg_of X G a_law)
  cases e
  have b__is_letter := Fm__is_letter.binds (ps := ["sign"]) fun _ _ _ _ _ _ us hl => match us, hl with | [_], _ => rfl
  have b__is_digit := Fm__is_digit.binds (ps := ["sign"]) fun _ _ _ _ _ _ us hl => match us, hl with | [_], _ => rfl
  have Fm_is_name := fun_mk (st := s_is_name) l_is_name cc_is_name k_is_name
  have b_is_name := Fm_is_name.binds (ps := ["text"]) fun _ _ _ _ _ _ us hl => match us, hl with | [_], _ => rfl
  have Fm_number_in := fun_mk (st := s_number_in) l_number_in cc_number_in k_number_in
  have b_number_in := Fm_number_in.binds (ps := ["text", "most"]) fun _ _ _ _ _ _ us hl => match us, hl with | [_, _], _ => rfl
  have b__act_of_player := Fm__act_of_player.binds (ps := ["name", "verb", "numbers"]) fun _ _ _ _ _ _ us hl => match us, hl with | [_, _, _], _ => rfl
  have b__read_line := Fm__read_line.binds (ps := ["line"]) fun _ _ _ _ _ _ us hl => match us, hl with | [_], _ => rfl
  have b_read_script := Fm_read_script.binds (ps := ["text"]) fun _ _ _ _ _ _ us hl => match us, hl with | [_], _ => rfl
  have b__words_of_act := Fm__words_of_act.binds (ps := ["act"]) fun _ _ _ _ _ _ us hl => match us, hl with | [_], _ => rfl
  have b_print_script := Fm_print_script.binds (ps := ["acts"]) fun _ _ _ _ _ _ us hl => match us, hl with | [_], _ => rfl
  have b__law_mix := Fm__law_mix.binds (ps := ["first", "second"]) fun _ _ _ _ _ _ us hl => match us, hl with | [_, _], _ => rfl
  have b__law_numbers := Fm__law_numbers.binds (ps := ["script", "count"]) fun _ _ _ _ _ _ us hl => match us, hl with | [_, _], _ => rfl
  have b__law_draws := Fm__law_draws.binds (ps := ["script", "count"]) fun _ _ _ _ _ _ us hl => match us, hl with | [_, _], _ => rfl
  have b__law_take := Fm__law_take.binds (ps := ["draws", "bound"]) fun _ _ _ _ _ _ us hl => match us, hl with | [_, _], _ => rfl
  have b__law_name := Fm__law_name.binds (ps := ["draws"]) fun _ _ _ _ _ _ us hl => match us, hl with | [_], _ => rfl
  have b__law_number := Fm__law_number.binds (ps := ["draws"]) fun _ _ _ _ _ _ us hl => match us, hl with | [_], _ => rfl
  have b__law_act := Fm__law_act.binds (ps := ["draws"]) fun _ _ _ _ _ _ us hl => match us, hl with | [_], _ => rfl
  have b__law_wrong := Fm__law_wrong.binds (ps := ["draws", "line"]) fun _ _ _ _ _ _ us hl => match us, hl with | [_, _], _ => rfl
  have Fm_law := fun_mk (st := s_law) l_law cc_law k_law
  have b_law := Fm_law.binds (ps := ["script"]) fun _ _ _ _ _ _ us hl => match us, hl with | [_], _ => rfl
  let A : Ad := { X_BadText := X_BadText, I_BadText := I_BadText, P_is_name := P_is_name, P_number_in := P_number_in, c__COUNTS := c__COUNTS, c__SENT := c__SENT, c__DONE := c__DONE, W_WatchError := W_WatchError }
  have kd__COUNTS : KdOk K w c__COUNTS (tb__COUNTS A) := ⟨kt__COUNTS.imp fun es h => h.imp fun n h => h.1, kdB_ok kr__COUNTS⟩
  have kd__SENT : KdOk K w c__SENT (tb__SENT A) := ⟨kt__SENT.imp fun es h => h.imp fun n h => h.1, kdB_ok kr__SENT⟩
  have kd__DONE : KdOk K w c__DONE (tb__DONE A) := ⟨kt__DONE.imp fun es h => h.imp fun n h => h.1, kdB_ok kr__DONE⟩
  have T : TX K mg w A := { b_triv := trivial, b_abs := PySem.W.mg_none_of X G z_abs, b_all := PySem.W.mg_none_of X G z_all, b_enumerate := PySem.W.mg_none_of X G z_enumerate, b_int := PySem.W.mg_none_of X G z_int, b_isinstance := PySem.W.mg_none_of X G z_isinstance, b_len := PySem.W.mg_none_of X G z_len, b_range := PySem.W.mg_none_of X G z_range, b_str := PySem.W.mg_none_of X G z_str, b_tuple := PySem.W.mg_none_of X G z_tuple, g_MAX_PART := by obtain ⟨t, e⟩ := gi_MAX_PART; exact ⟨_, e, ⟨_, rfl⟩⟩, g_MAX_NAME := by obtain ⟨t, e⟩ := gi_MAX_NAME; exact ⟨_, e, ⟨_, rfl⟩⟩, g__COUNTS := ⟨_, PySem.W.mg_of X G g__COUNTS, rfl⟩, kd__COUNTS := kd__COUNTS, ka__COUNTS := ⟨kd__COUNTS, fun z hz => by obtain ⟨es, n, kd, ke⟩ := kt__COUNTS; exact nsIn_out (tb := tb__COUNTS A) kd.at_ ke hz⟩, g__SENT := ⟨_, PySem.W.mg_of X G g__SENT, rfl⟩, kd__SENT := kd__SENT, ki__SENT := ki_of kt__SENT (by unfold tb__SENT; simp only [List.map_cons, List.map_nil]; decide +kernel) kd__SENT (by unfold tb__SENT; simp) (by unfold tb__SENT; simp only [List.mem_cons, List.not_mem_nil, or_false]; rintro p hp; rcases hp with rfl | rfl <;> decide +kernel), ka__SENT := ⟨kd__SENT, fun z hz => by obtain ⟨es, n, kd, ke⟩ := kt__SENT; exact nsIn_out (tb := tb__SENT A) kd.at_ ke hz⟩, g__DONE := ⟨_, PySem.W.mg_of X G g__DONE, rfl⟩, kd__DONE := kd__DONE, ki__DONE := ki_of kt__DONE (by unfold tb__DONE; simp only [List.map_cons, List.map_nil]; decide +kernel) kd__DONE (by unfold tb__DONE; simp) (by unfold tb__DONE; simp only [List.mem_cons, List.not_mem_nil, or_false]; rintro p hp; rcases hp with rfl | rfl | rfl | rfl | rfl <;> decide +kernel), ka__DONE := ⟨kd__DONE, fun z hz => by obtain ⟨es, n, kd, ke⟩ := kt__DONE; exact nsIn_out (tb := tb__DONE A) kd.at_ ke hz⟩, er_BadText := { m := PySem.W.mg_of X G aX_BadText, obj := Ow.erShape_ok shX_BadText, sa := saX_BadText, ga := gaX_BadText, gt := grX_BadText, no := noX_BadText, ini := inX_BadText, ty := tyX_BadText, kp := kX_BadText, bx := bX_BadText, tx := tX_BadText, hd := hX_BadText, fn := Ow.er_fn FmI_BadText rfl rfl rfl }, m_BadText := PySem.W.mg_of X G aX_BadText, k_BadText := kX_BadText, bx_BadText := bX_BadText, tx_BadText := tX_BadText, exm_BadText := PySem.W.exm_ref bX_BadText hX_BadText tX_BadText sX_BadText, exc_BadText := ⟨gaX_BadText, grX_BadText, bX_BadText, hX_BadText, gcX_BadText, guX_BadText, gyX_BadText, gmX_BadText⟩, gw_WatchError := ⟨_, PySem.W.mg_of X G aW_WatchError, rfl⟩, ki_BadText_WatchError := o_BadText_WatchError }
  refine ⟨PySem.W.fnOf "law" "law" (defArgs s_law) (defBody s_law) (defScope s_law) .none kV_law dc_law pm_law an_law cd_law ct_law, [(c_is_name, P_is_name), (c_number_in, P_number_in)], spD K (tabs A) (F_law A), fun p hp => ?_, fun p hp => ?_, fun p hp => ?_, fun s u => .of_eq rfl, fun H a ns _ _ hH hS => ?_, fun base _ _ hB => ?_⟩
  · simp only [List.mem_cons, List.not_mem_nil, or_false] at hp
    rcases hp with z | z
    · rw [z]; exact y_is_name
    · rw [z]; exact y_number_in
  · simp only [List.mem_cons, List.not_mem_nil, or_false] at hp
    rcases hp with z | z
    · rw [z]; exact n_is_name
    · rw [z]; exact n_number_in
  · simp only [List.mem_cons, List.not_mem_nil, or_false] at hp
    rcases hp with z | z
    · rw [z]; exact d_is_name
    · rw [z]; exact d_number_in
  · exact ⟨a, ns, [.scr], fun _ => none, fun d _ => d = .bl true, xF, .cons .scr .nil, ⟨fun _ _ z => (by cases z), (fun P hP => by
      simp only [tabs, List.mem_cons, List.not_mem_nil, or_false] at hP
      rcases hP with z | z
      · rw [z]; exact tab0 (hH (c_is_name, P_is_name) (by simp))
      · rw [z]; exact tab0 (hH (c_number_in, P_number_in) (by simp))), hS.elim (fun h => .inl ⟨rfl, h⟩) fun h => .inr fun _ => .inr h⟩, w_law A fun _ => rfl, fun v d H' S' i _ _ e => (by subst e; exact im_bl i), xok_F⟩
  · have t_is_name := tabB (hB (c_is_name, P_is_name) (by simp))
    have FT_is_name : FunT K base mg "is_name" "is_name" s_is_name f_is_name _ P_is_name := ⟨⟨_, _, _, _, _, _, c_is_name, _, _, rfl, l_is_name, cc_is_name, t_is_name⟩, k_is_name⟩
    have t_number_in := tabB (hB (c_number_in, P_number_in) (by simp))
    have FT_number_in : FunT K base mg "number_in" "number_in" s_number_in f_number_in _ P_number_in := ⟨⟨_, _, _, _, _, _, c_number_in, _, _, rfl, l_number_in, cc_number_in, t_number_in⟩, k_number_in⟩
    have G__is_letter : Ow.Ca l.prog w K mg base 1 "_is_letter" (spD K (tabs A) (F__is_letter A)) := ⟨f__is_letter, _, _, ok__is_letter Fm__is_letter T , PySem.W.mg_of X G a__is_letter, k__is_letter, b__is_letter⟩
    have G__is_digit : Ow.Ca l.prog w K mg base 1 "_is_digit" (spD K (tabs A) (F__is_digit A)) := ⟨f__is_digit, _, _, ok__is_digit Fm__is_digit T , PySem.W.mg_of X G a__is_digit, k__is_digit, b__is_digit⟩
    have G_is_name : Ow.Ca l.prog w K mg base 3 "is_name" (spD K (tabs A) (F_is_name A)) := ⟨f_is_name, _, _, ok_is_name FT_is_name T G__is_letter G__is_digit, PySem.W.mg_of X G a_is_name, k_is_name, b_is_name⟩
    have G_number_in : Ow.Ca l.prog w K mg base 3 "number_in" (spD K (tabs A) (F_number_in A)) := ⟨f_number_in, _, _, ok_number_in FT_number_in T G__is_digit, PySem.W.mg_of X G a_number_in, k_number_in, b_number_in⟩
    have G__act_of_player : Ow.Ca l.prog w K mg base 4 "_act_of_player" (spD K (tabs A) (F__act_of_player A)) := ⟨f__act_of_player, _, _, ok__act_of_player Fm__act_of_player T G_is_name, PySem.W.mg_of X G a__act_of_player, k__act_of_player, b__act_of_player⟩
    have G__read_line : Ow.Ca l.prog w K mg base 5 "_read_line" (spD K (tabs A) (F__read_line A)) := ⟨f__read_line, _, _, ok__read_line Fm__read_line T G_number_in G__act_of_player, PySem.W.mg_of X G a__read_line, k__read_line, b__read_line⟩
    have G_read_script : Ow.Ca l.prog w K mg base 6 "read_script" (spD K (tabs A) (F_read_script A)) := ⟨f_read_script, _, _, ok_read_script Fm_read_script T G__read_line, PySem.W.mg_of X G a_read_script, k_read_script, b_read_script⟩
    have G__words_of_act : Ow.Ca l.prog w K mg base 1 "_words_of_act" (spD K (tabs A) (F__words_of_act A)) := ⟨f__words_of_act, _, _, ok__words_of_act Fm__words_of_act T , PySem.W.mg_of X G a__words_of_act, k__words_of_act, b__words_of_act⟩
    have G_print_script : Ow.Ca l.prog w K mg base 2 "print_script" (spD K (tabs A) (F_print_script A)) := ⟨f_print_script, _, _, ok_print_script Fm_print_script T G__words_of_act, PySem.W.mg_of X G a_print_script, k_print_script, b_print_script⟩
    have G__law_mix : Ow.Ca l.prog w K mg base 1 "_law_mix" (spD K (tabs A) (F__law_mix A)) := ⟨f__law_mix, _, _, ok__law_mix Fm__law_mix T , PySem.W.mg_of X G a__law_mix, k__law_mix, b__law_mix⟩
    have G__law_numbers : Ow.Ca l.prog w K mg base 2 "_law_numbers" (spD K (tabs A) (F__law_numbers A)) := ⟨f__law_numbers, _, _, ok__law_numbers Fm__law_numbers T G__law_mix, PySem.W.mg_of X G a__law_numbers, k__law_numbers, b__law_numbers⟩
    have G__law_draws : Ow.Ca l.prog w K mg base 3 "_law_draws" (spD K (tabs A) (F__law_draws A)) := ⟨f__law_draws, _, _, ok__law_draws Fm__law_draws T G__law_numbers, PySem.W.mg_of X G a__law_draws, k__law_draws, b__law_draws⟩
    have G__law_take : Ow.Ca l.prog w K mg base 1 "_law_take" (spD K (tabs A) (F__law_take A)) := ⟨f__law_take, _, _, ok__law_take Fm__law_take T , PySem.W.mg_of X G a__law_take, k__law_take, b__law_take⟩
    have G__law_name : Ow.Ca l.prog w K mg base 2 "_law_name" (spD K (tabs A) (F__law_name A)) := ⟨f__law_name, _, _, ok__law_name Fm__law_name T G__law_take, PySem.W.mg_of X G a__law_name, k__law_name, b__law_name⟩
    have G__law_number : Ow.Ca l.prog w K mg base 2 "_law_number" (spD K (tabs A) (F__law_number A)) := ⟨f__law_number, _, _, ok__law_number Fm__law_number T G__law_take, PySem.W.mg_of X G a__law_number, k__law_number, b__law_number⟩
    have G__law_act : Ow.Ca l.prog w K mg base 3 "_law_act" (spD K (tabs A) (F__law_act A)) := ⟨f__law_act, _, _, ok__law_act Fm__law_act T G__law_name G__law_number G__law_take, PySem.W.mg_of X G a__law_act, k__law_act, b__law_act⟩
    have G__law_wrong : Ow.Ca l.prog w K mg base 2 "_law_wrong" (spD K (tabs A) (F__law_wrong A)) := ⟨f__law_wrong, _, _, ok__law_wrong Fm__law_wrong T G__law_take, PySem.W.mg_of X G a__law_wrong, k__law_wrong, b__law_wrong⟩
    exact ok_law Fm_law T G__law_draws G__law_take G__law_act G_read_script G_print_script G__law_wrong
end Sd

set_option Elab.async false
set_option linter.all false
set_option maxRecDepth 100000
set_option maxHeartbeats 0
namespace Sd
open PySem PySem.Spec PyProof.Rows L2 GxR
theorem hFacts {w : World} {h : Heap} {K : PySem.W.Frag} {mg : Str → Option Value} {fa : Addr} (KX : K.In h) (G : h.Ns mainGlobals mg) (hfa : mg "law" = some (.ref fa)) (c : SaysM hFa hFn hTs hTf hEx w h K) : LamX.LawAtS PySem.Challenge.rw_onewatcher_k80_texts_of_scripts w K (L2.CX (PySem.Challenge.rw_onewatcher_k80_texts_of_scripts).prog w) 7 63 "script" mg fa h := by
  obtain ⟨_, Fm__is_letter⟩ := c.fun_ 0 (at_ := ("_is_letter", none)) (st := s__is_letter) (c.bit 1)
  obtain ⟨_, Fm__is_digit⟩ := c.fun_ 1 (at_ := ("_is_digit", none)) (st := s__is_digit) (c.bit 3)
  obtain ⟨_, _, _, _, _, _, _, _, l_is_name, cc_is_name, n_is_name, y_is_name, d_is_name⟩ := c.gen_ KX 2 (at_ := ("is_name", none)) (st := s_is_name) (by simp [hTf])
  obtain ⟨_, _, _, _, _, _, _, _, l_number_in, cc_number_in, n_number_in, y_number_in, d_number_in⟩ := c.gen_ KX 3 (at_ := ("number_in", none)) (st := s_number_in) (by simp [hTf])
  obtain ⟨_, Fm__act_of_player⟩ := c.fun_ 4 (at_ := ("_act_of_player", none)) (st := s__act_of_player) (c.bit 9)
  obtain ⟨_, Fm__read_line⟩ := c.fun_ 5 (at_ := ("_read_line", none)) (st := s__read_line) (c.bit 11)
  obtain ⟨_, Fm_read_script⟩ := c.fun_ 6 (at_ := ("read_script", none)) (st := s_read_script) (c.bit 13)
  obtain ⟨_, Fm__words_of_act⟩ := c.fun_ 7 (at_ := ("_words_of_act", none)) (st := s__words_of_act) (c.bit 15)
  obtain ⟨_, Fm_print_script⟩ := c.fun_ 8 (at_ := ("print_script", none)) (st := s_print_script) (c.bit 17)
  obtain ⟨_, Fm__law_mix⟩ := c.fun_ 9 (at_ := ("_law_mix", none)) (st := s__law_mix) (c.bit 19)
  obtain ⟨_, Fm__law_numbers⟩ := c.fun_ 10 (at_ := ("_law_numbers", none)) (st := s__law_numbers) (c.bit 21)
  obtain ⟨_, Fm__law_draws⟩ := c.fun_ 11 (at_ := ("_law_draws", none)) (st := s__law_draws) (c.bit 23)
  obtain ⟨_, Fm__law_take⟩ := c.fun_ 12 (at_ := ("_law_take", none)) (st := s__law_take) (c.bit 25)
  obtain ⟨_, Fm__law_name⟩ := c.fun_ 13 (at_ := ("_law_name", none)) (st := s__law_name) (c.bit 27)
  obtain ⟨_, Fm__law_number⟩ := c.fun_ 14 (at_ := ("_law_number", none)) (st := s__law_number) (c.bit 29)
  obtain ⟨_, Fm__law_act⟩ := c.fun_ 15 (at_ := ("_law_act", none)) (st := s__law_act) (c.bit 31)
  obtain ⟨_, Fm__law_wrong⟩ := c.fun_ 16 (at_ := ("_law_wrong", none)) (st := s__law_wrong) (c.bit 33)
  obtain ⟨_, _, _, _, _, _, _, _, _, l_law, cc_law⟩ := c.e.def_ 17 rfl
  obtain ⟨_, FmI_BadText⟩ := c.fun_ 18 (at_ := ("BadText", some "__init__")) (st := s_BadText___init__) (c.bit 42)
  exact all_mk (f__is_letter := (He.ga K "_is_letter")) (f__is_digit := (He.ga K "_is_digit")) (f_is_name := (He.ga K "is_name")) (c_is_name := (He.codeOf K ("is_name", none))) (P_is_name := (He.tabOf K (He.codeOf K ("is_name", none)))) (f_number_in := (He.ga K "number_in")) (c_number_in := (He.codeOf K ("number_in", none))) (P_number_in := (He.tabOf K (He.codeOf K ("number_in", none)))) (f__act_of_player := (He.ga K "_act_of_player")) (f__read_line := (He.ga K "_read_line")) (f_read_script := (He.ga K "read_script")) (f__words_of_act := (He.ga K "_words_of_act")) (f_print_script := (He.ga K "print_script")) (f__law_mix := (He.ga K "_law_mix")) (f__law_numbers := (He.ga K "_law_numbers")) (f__law_draws := (He.ga K "_law_draws")) (f__law_take := (He.ga K "_law_take")) (f__law_name := (He.ga K "_law_name")) (f__law_number := (He.ga K "_law_number")) (f__law_act := (He.ga K "_law_act")) (f__law_wrong := (He.ga K "_law_wrong")) (f_law := (He.ga K "law")) (X_BadText := (He.ga K "BadText")) (I_BadText := (He.ma K (He.ga K "BadText") "__init__")) (W_WatchError := (He.ga K "WatchError")) (c__COUNTS := (He.ga K "_COUNTS")) (c__SENT := (He.ga K "_SENT")) (c__DONE := (He.ga K "_DONE")) KX G hfa
    (a__is_letter := (He.eqO_ok (c.bit 0)))
    (k__is_letter := (c.bit 1))
    (Fm__is_letter := Fm__is_letter)
    (a__is_digit := (He.eqO_ok (c.bit 2)))
    (k__is_digit := (c.bit 3))
    (Fm__is_digit := Fm__is_digit)
    (a_is_name := (He.eqO_ok (c.bit 4)))
    (k_is_name := (c.bit 5))
    (l_is_name := l_is_name)
    (cc_is_name := cc_is_name)
    (n_is_name := n_is_name)
    (y_is_name := y_is_name)
    (d_is_name := d_is_name)
    (a_number_in := (He.eqO_ok (c.bit 6)))
    (k_number_in := (c.bit 7))
    (l_number_in := l_number_in)
    (cc_number_in := cc_number_in)
    (n_number_in := n_number_in)
    (y_number_in := y_number_in)
    (d_number_in := d_number_in)
    (a__act_of_player := (He.eqO_ok (c.bit 8)))
    (k__act_of_player := (c.bit 9))
    (Fm__act_of_player := Fm__act_of_player)
    (a__read_line := (He.eqO_ok (c.bit 10)))
    (k__read_line := (c.bit 11))
    (Fm__read_line := Fm__read_line)
    (a_read_script := (He.eqO_ok (c.bit 12)))
    (k_read_script := (c.bit 13))
    (Fm_read_script := Fm_read_script)
    (a__words_of_act := (He.eqO_ok (c.bit 14)))
    (k__words_of_act := (c.bit 15))
    (Fm__words_of_act := Fm__words_of_act)
    (a_print_script := (He.eqO_ok (c.bit 16)))
    (k_print_script := (c.bit 17))
    (Fm_print_script := Fm_print_script)
    (a__law_mix := (He.eqO_ok (c.bit 18)))
    (k__law_mix := (c.bit 19))
    (Fm__law_mix := Fm__law_mix)
    (a__law_numbers := (He.eqO_ok (c.bit 20)))
    (k__law_numbers := (c.bit 21))
    (Fm__law_numbers := Fm__law_numbers)
    (a__law_draws := (He.eqO_ok (c.bit 22)))
    (k__law_draws := (c.bit 23))
    (Fm__law_draws := Fm__law_draws)
    (a__law_take := (He.eqO_ok (c.bit 24)))
    (k__law_take := (c.bit 25))
    (Fm__law_take := Fm__law_take)
    (a__law_name := (He.eqO_ok (c.bit 26)))
    (k__law_name := (c.bit 27))
    (Fm__law_name := Fm__law_name)
    (a__law_number := (He.eqO_ok (c.bit 28)))
    (k__law_number := (c.bit 29))
    (Fm__law_number := Fm__law_number)
    (a__law_act := (He.eqO_ok (c.bit 30)))
    (k__law_act := (c.bit 31))
    (Fm__law_act := Fm__law_act)
    (a__law_wrong := (He.eqO_ok (c.bit 32)))
    (k__law_wrong := (c.bit 33))
    (Fm__law_wrong := Fm__law_wrong)
    (a_law := (He.eqO_ok (c.bit 34)))
    (k_law := (c.bit 35))
    (l_law := l_law)
    (cc_law := cc_law)
    (aX_BadText := (He.eqO_ok (c.bit 36)))
    (shX_BadText := (c.bit 37))
    (saX_BadText := (He.eqO_ok (c.bit 38)))
    (noX_BadText := (He.eqO_ok (c.bit 39)))
    (inX_BadText := (He.eqO_ok (c.bit 40)))
    (tyX_BadText := (of_decide_eq_true (c.bit 41)))
    (kI_BadText := (c.bit 42))
    (FmI_BadText := FmI_BadText)
    (kX_BadText := (c.bit 43))
    (bX_BadText := (of_decide_eq_true (c.bit 44)))
    (tX_BadText := (of_decide_eq_true (c.bit 45)))
    (sX_BadText := (of_decide_eq_true (c.bit 46)))
    (hX_BadText := (c.bit 47))
    (gaX_BadText := (He.eqO_ok (c.bit 48)))
    (grX_BadText := (He.eqO_ok (c.bit 49)))
    (gcX_BadText := (He.eqO_ok (c.bit 50)))
    (guX_BadText := (He.eqO_ok (c.bit 51)))
    (gyX_BadText := (of_decide_eq_true (c.bit 52)))
    (gmX_BadText := (of_decide_eq_true (c.bit 53)))
    (aW_WatchError := (He.eqO_ok (c.bit 54)))
    (o_BadText_WatchError := (of_decide_eq_true (c.bit 55)))
    (z_abs := (He.eqO_ok (c.bit 56)))
    (z_all := (He.eqO_ok (c.bit 57)))
    (z_bool := (He.eqO_ok (c.bit 58)))
    (z_enumerate := (He.eqO_ok (c.bit 59)))
    (z_int := (He.eqO_ok (c.bit 60)))
    (z_isinstance := (He.eqO_ok (c.bit 61)))
    (z_len := (He.eqO_ok (c.bit 62)))
    (z_list := (He.eqO_ok (c.bit 63)))
    (z_range := (He.eqO_ok (c.bit 64)))
    (z_str := (He.eqO_ok (c.bit 65)))
    (z_tuple := (He.eqO_ok (c.bit 66)))
    (gi_MAX_PART := (He.int_ok KX G (c.e.fact 0 (f := .int "MAX_PART" 281474976710656) rfl)))
    (gi_MAX_NAME := (He.int_ok KX G (c.e.fact 1 (f := .int "MAX_NAME" 12) rfl)))
    (g__COUNTS := (He.eqO_ok (c.bit 67)))
    (kt__COUNTS := (c.tab 0))
    (kr__COUNTS := (c.bit 68))
    (g__SENT := (He.eqO_ok (c.bit 69)))
    (kt__SENT := (c.tab 1))
    (kr__SENT := (c.bit 70))
    (g__DONE := (He.eqO_ok (c.bit 71)))
    (kt__DONE := (c.tab 2))
    (kr__DONE := (c.bit 72))
end Sd
theorem PySem.Challenge.cw_onewatcher_k80_texts_of_scripts_holds : PySem.Challenge.rw_onewatcher_k80_texts_of_scripts.Holds := by
  exact Sd.zpre fun KX G hfa c => Sd.hFacts KX G hfa c

