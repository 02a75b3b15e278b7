import PyProof.Rows.All
import Wide.All
import OpenK.AllK
import Wide.FinOn
import Lean
import PyProof.EqAt
import PyProof.EqKinds
import PyProof.TupleCall
import PySem.Challenge.RW_besideweb_k04_whole_twins
set_option Elab.async false
set_option linter.all false
namespace L2
open PySem PySem.Spec PyProof.Rows
def inClass (s : Stmt) (j : Nat) : Stmt := match s with
  | .ClassDef _ _ _ body _ _ _ _ _ _ _ => body.getD j (.Pass ⟨0, 0, 0, 0⟩)
  | _ => .Pass ⟨0, 0, 0, 0⟩
def defArgs (s : Stmt) : Arguments := match s with
  | .FunctionDef _ a _ _ _ _ _ _ _ _ => a
  | _ => { posonlyargs := [], args := [], vararg := none, kwonlyargs := [], kw_defaults := [], kwarg := none, defaults := [] }
def defBody (s : Stmt) : List Stmt := match s with
  | .FunctionDef _ _ b _ _ _ _ _ _ _ => b
  | _ => []
def defScope (s : Stmt) : Scope := match s with
  | .FunctionDef _ _ _ _ _ _ sc _ _ _ => sc
  | _ => { kind := .function, names := [], isGenerator := false, isCoroutine := false }

end L2

set_option Elab.async false
set_option linter.all false
/-! The top's run upon a tree, whole: what it leaves is looked at where it ends -/
namespace Bw
open PySem PySem.W PyProof.Rows
def topRunT (tb : String → Option Builtin) (p : Program) (w : World) (n₀ : Nat) (ann : Option Value) : Nat → SharedT → Thread → Option SharedT
  | 0, _, _ => none
  | n + 1, s, t => match through t with
    | true => some s
    | false => match stepOk n₀ ann t with
      | false => none
      | true => match stepT (denote tb) p w s t with
        | some (s', t') => topRunT tb p w n₀ ann n s' t'
        | none => none
theorem topRun_of {tb : String → Option Builtin} {p : Program} {w : World} {n₀ : Nat} {ann : Option Value} : ∀ {n : Nat} {s s' : SharedT} {t : Thread}, topRunT tb p w n₀ ann n s t = some s' → topRun tb p w n₀ ann n s.abs t = some s'.abs
  | 0, _, _, _, h => by cases h
  | n + 1, s, s', t, h => by
    unfold topRunT at h
    unfold topRun
    cases he : through t with
    | true => rw [he] at h; cases h; rfl
    | false =>
      rw [he] at h
      cases hk : stepOk n₀ ann t with
      | false => rw [hk] at h; cases h
      | true =>
        rw [hk] at h
        cases hs : stepT (denote tb) p w s t with
        | none => rw [hs] at h; cases h
        | some r => obtain ⟨s₂, t₂⟩ := r; rw [hs] at h; rw [stepT_spec hs]; exact topRun_of h
/-- the same run by the quick forms of its parts -/
noncomputable def topRunQ (p : Program) (w : World) (n₀ : Nat) (ann : Option Value) : Nat → SharedT → Thread → Option SharedT
  | 0, _, _ => none
  | n + 1, s, t => match through t with
    | true => some s
    | false => match Fast.tw6613529449190102663 n₀ ann t with
      | false => none
      | true => match Fast.tw10156331382660048174 (Fast.tw11892475500146522536 Fast.tw14364793385576792824) p w s t with
        | some (s', t') => topRunQ p w n₀ ann n s' t'
        | none => none
theorem topRunQ_eq {p : Program} {w : World} {n₀ : Nat} {ann : Option Value} : ∀ (n : Nat) (s : SharedT) (t : Thread), topRunQ p w n₀ ann n s t = topRunT treeTable p w n₀ ann n s t
  | 0, _, _ => rfl
  | n + 1, s, t => by
    unfold topRunQ topRunT
    rw [← Fast.te6613529449190102663, ← Fast.te10156331382660048174, ← Fast.te11892475500146522536, ← Fast.te14364793385576792824]
    cases through t with
    | true => rfl
    | false =>
      cases stepOk n₀ ann t with
      | false => rfl
      | true =>
        cases stepT (denote treeTable) p w s t with
        | none => rfl
        | some r => exact topRunQ_eq n r.1 r.2
def putAll : List Obj → BT → Nat → BT
  | [], t, _ => t
  | o :: l, t, n => putAll l (t.ins n o) (n + 1)
noncomputable def bootT (P : Params) : BT := putAll (boot_heap P).objs.toList .nil 0
theorem bootT_abs (P : Params) : absHeap (bootT P) (boot_heap P).objs.size (boot_heap P).life = boot_heap P := by kernel_rfl
theorem left_of_tree {p q : Program} {loose : List Str} {Xt : Shared → Bool} {α : Type} {Yf : Shared → α} {Ya : World → α} {N : Nat} {g0 : Bool} {m₀ : Nat} {ann : Option Value}
    (e : opening p = plainProg p.main.scope.names) (hN : Nat.ble 600 N = true) (f : ∀ s, fenceModules? p s = some s)
    (size : ∀ w : World, ((boot_heap w.params).isNs mainGlobals, (boot_heap w.params).objs.size, (boot_heap w.params).nsMap mainGlobals "__annotations__") = (true, m₀, ann))
    (run : ∀ (w : World) (os : OsState), (topRunQ p w m₀ ann N ⟨bootT w.params, m₀, (boot_heap w.params).life, #[], boot_drawn, boot_toks, os⟩ (topStub p)).map (fun s => (fun s₁ : Shared =>
      ((staticsOk (importedModules p.main.body) (boot_heap w.params) s₁.heap && namesBound p s₁.heap && gensDone s₁ && laidKept (boot_heap w.params) s₁.heap), openSeen q loose (importedModules p.main.body) Xt g0 s₁, Yf s₁)) s.abs) = some (true, openGood q loose, Ya w)) :
    LeftO p q loose Xt Yf Ya N g0 := fun w => by
  obtain ⟨⟨h, gs, d, k, os⟩, e1, e'⟩ := Option.map_eq_some_iff.mp (boot_open (N := N) e hN f w)
  obtain ⟨rfl, rfl, rfl, rfl⟩ : h = boot_heap w.params ∧ gs = #[] ∧ d = boot_drawn ∧ k = boot_toks := by simpa using e'
  obtain ⟨z1, z2, z3⟩ : _ ∧ _ ∧ _ := by simpa only [Prod.mk.injEq] using size w
  obtain ⟨s, r1, r2⟩ := Option.map_eq_some_iff.mp (run w os)
  obtain ⟨l1, l2, l3⟩ : _ ∧ _ ∧ _ := by simpa only [Prod.mk.injEq] using r2
  have r := topRun_of ((topRunQ_eq _ _ _).symm.trans r1)
  have ab : (⟨bootT w.params, m₀, (boot_heap w.params).life, #[], boot_drawn, boot_toks, os⟩ : SharedT).abs = ⟨boot_heap w.params, #[], boot_drawn, boot_toks, os⟩ := by
    unfold SharedT.abs
    dsimp only
    rw [← z2, bootT_abs]
  rw [ab] at r
  have t : topFrom treeTable p w N ⟨boot_heap w.params, #[], boot_drawn, boot_toks, os⟩ = some s.abs := by
    unfold topFrom
    dsimp only
    rw [z1, z2, z3, r]
    show (match staticsOk (importedModules p.main.body) (boot_heap w.params) s.abs.heap && namesBound p s.abs.heap && gensDone s.abs && laidKept (boot_heap w.params) s.abs.heap with | true => _ | false => _) = _
    rw [l1]
  unfold openEnds
  rw [e1]
  show (topFrom treeTable p w N _).map _ = _
  rw [t]
  exact congrArg some (Prod.ext l2 l3)
end Bw

set_option Elab.async false
set_option linter.all false
set_option maxRecDepth 100000
namespace Bw
open PySem L2
/-! ### the text by places -/
def top (i : Nat) : Stmt := PySem.Challenge.pw_besideweb_k04_whole_twins.main.body.getD i (.Pass ⟨0, 0, 0, 0⟩)
abbrev sIsBelow : Stmt := top 8
abbrev sTied : Stmt := top 9
abbrev sHasPoints : Stmt := top 10
abbrev sCheckWeb : Stmt := top 11
abbrev sCheckTies : Stmt := top 12
abbrev sCheckPoints : Stmt := top 13
abbrev sCheckTrees : Stmt := top 21
abbrev sTurned : Stmt := top 23
abbrev sAmong : Stmt := top 24
abbrev sTiesAmong : Stmt := top 25
abbrev sParts : Stmt := top 26
abbrev sHangingWith : Stmt := top 27
abbrev sTelling : Stmt := top 32
abbrev sGoesOn : Stmt := top 33
abbrev sRowIn : Stmt := top 34
abbrev sLongerRows : Stmt := top 35
abbrev sTreeAmong : Stmt := top 36
abbrev sTreesAmong : Stmt := top 37
abbrev sTwins : Stmt := top 38
abbrev sTwinsAmong : Stmt := top 39
abbrev sAreTwins : Stmt := top 40
abbrev sLawCellAt : Stmt := top 42
abbrev sLawDraw : Stmt := top 43
abbrev sLawWeb : Stmt := top 44
abbrev sLawTie : Stmt := top 45
abbrev sLawTwins : Stmt := top 47
abbrev sLawGone : Stmt := top 48
abbrev sLaw : Stmt := top 49
abbrev sTreeInit : Stmt := inClass (top 15) 0
abbrev sTreePoints : Stmt := inClass (top 15) 1
abbrev sTreeTold : Stmt := inClass (top 15) 2
abbrev sTreeShape : Stmt := inClass (top 15) 3
abbrev sPointInit : Stmt := inClass (top 16) 0
abbrev sPointPoints : Stmt := inClass (top 16) 1
abbrev sPointTold : Stmt := inClass (top 16) 2
abbrev sPointShape : Stmt := inClass (top 16) 3
abbrev sDoingInit : Stmt := inClass (top 17) 0
abbrev sDoingLay : Stmt := inClass (top 17) 1
abbrev sDoingSign : Stmt := inClass (top 17) 2
abbrev sDoingPoints : Stmt := inClass (top 17) 3
abbrev sDoingTold : Stmt := inClass (top 17) 4
abbrev sDoingShape : Stmt := inClass (top 17) 5
abbrev sBesideInit : Stmt := inClass (top 18) 0
abbrev sBesideSign : Stmt := inClass (top 18) 1
abbrev sAcrossInit : Stmt := inClass (top 19) 0
abbrev sAcrossSign : Stmt := inClass (top 19) 1
abbrev sAnswerHolds : Stmt := inClass (top 29) 0
abbrev sAnswerIsSo : Stmt := inClass (top 29) 1
abbrev sMadeInit : Stmt := inClass (top 30) 0
abbrev sMadeIsSo : Stmt := inClass (top 30) 1
abbrev sRowInit : Stmt := inClass (top 31) 0
abbrev sRowIsSo : Stmt := inClass (top 31) 1
abbrev so := PySem.Str.ofString
abbrev kh := @PySem.PyData.keyHash
/-- what the top has written, as far as it is asked for -/
def KK : PySem.Params → PySem.W.Frag := fun P =>
  (nat_lit 3, ({ cls := .type "dict", data := .dict #[{ hash := kh P (so "__name__"), key := .str (so "__name__") 165, val := .str (so "law_besideweb_k04_whole_twins") 779 }, { hash := kh P (so "__doc__"), key := .str (so "__doc__") 166, val := .none }, { hash := kh P (so "__package__"), key := .str (so "__package__") 167, val := .none }, { hash := kh P (so "__loader__"), key := .str (so "__loader__") 168, val := .builtin "__main__.__loader__#opaque" }, { hash := kh P (so "__spec__"), key := .str (so "__spec__") 169, val := .none }, { hash := kh P (so "__annotations__"), key := .str (so "__annotations__") 170, val := .ref 6 }, { hash := kh P (so "__builtins__"), key := .str (so "__builtins__") 171, val := .ref 4 }, { hash := kh P (so "__file__"), key := .str (so "__file__") 173, val := .str (so "/claim/cut.py") 172 }, { hash := kh P (so "__cached__"), key := .str (so "__cached__") 174, val := .none }, { hash := kh P (so "_wall"), key := .str (so "_wall") 193, val := .ref 21 }, { hash := kh P (so "WebError"), key := .str (so "WebError") 213, val := .ref 31 }, { hash := kh P (so "BadWeb"), key := .str (so "BadWeb") 229, val := .ref 44 }, { hash := kh P (so "BadTree"), key := .str (so "BadTree") 245, val := .ref 56 }, { hash := kh P (so "NoPoint"), key := .str (so "NoPoint") 261, val := .ref 68 }, { hash := kh P (so "MOST_POINTS"), key := .str (so "MOST_POINTS") 265, val := .int 10 264 }, { hash := kh P (so "is_below"), key := .str (so "is_below") 273, val := .ref 77 }, { hash := kh P (so "tied"), key := .str (so "tied") 282, val := .ref 84 }, { hash := kh P (so "has_points"), key := .str (so "has_points") 288, val := .ref 89 }, { hash := kh P (so "check_web"), key := .str (so "check_web") 297, val := .ref 96 }, { hash := kh P (so "check_ties"), key := .str (so "check_ties") 306, val := .ref 103 }, { hash := kh P (so "check_points"), key := .str (so "check_points") 314, val := .ref 110 }, { hash := kh P (so "Tree"), key := .str (so "Tree") 365, val := .ref 149 }, { hash := kh P (so "Point"), key := .str (so "Point") 411, val := .ref 191 }, { hash := kh P (so "Doing"), key := .str (so "Doing") 474, val := .ref 244 }, { hash := kh P (so "Beside"), key := .str (so "Beside") 505, val := .ref 270 }, { hash := kh P (so "Across"), key := .str (so "Across") 536, val := .ref 296 }, { hash := kh P (so "bracketed"), key := .str (so "bracketed") 545, val := .ref 305 }, { hash := kh P (so "check_trees"), key := .str (so "check_trees") 554, val := .ref 312 }, { hash := kh P (so "turned"), key := .str (so "turned") 562, val := .ref 317 }, { hash := kh P (so "among"), key := .str (so "among") 568, val := .ref 322 }, { hash := kh P (so "ties_among"), key := .str (so "ties_among") 580, val := .ref 329 }, { hash := kh P (so "parts"), key := .str (so "parts") 590, val := .ref 336 }, { hash := kh P (so "hanging_with"), key := .str (so "hanging_with") 602, val := .ref 343 }, { hash := kh P (so "Answer"), key := .str (so "Answer") 640, val := .ref 367 }, { hash := kh P (so "Made"), key := .str (so "Made") 673, val := .ref 395 }, { hash := kh P (so "Row"), key := .str (so "Row") 706, val := .ref 421 }, { hash := kh P (so "telling"), key := .str (so "telling") 714, val := .ref 430 }, { hash := kh P (so "goes_on"), key := .str (so "goes_on") 720, val := .ref 435 }, { hash := kh P (so "row_in"), key := .str (so "row_in") 729, val := .ref 442 }, { hash := kh P (so "longer_rows"), key := .str (so "longer_rows") 735, val := .ref 447 }, { hash := kh P (so "tree_among"), key := .str (so "tree_among") 745, val := .ref 454 }, { hash := kh P (so "trees_among"), key := .str (so "trees_among") 751, val := .ref 459 }, { hash := kh P (so "twins"), key := .str (so "twins") 761, val := .ref 466 }, { hash := kh P (so "twins_among"), key := .str (so "twins_among") 772, val := .ref 473 }, { hash := kh P (so "are_twins"), key := .str (so "are_twins") 778, val := .ref 478 }, { hash := kh P (so "_law_cell_at"), key := .str (so "_law_cell_at") 788, val := .ref 485 }, { hash := kh P (so "_law_draw"), key := .str (so "_law_draw") 799, val := .ref 492 }, { hash := kh P (so "_law_web"), key := .str (so "_law_web") 805, val := .ref 497 }, { hash := kh P (so "_law_tie"), key := .str (so "_law_tie") 814, val := .ref 504 }, { hash := kh P (so "_law_four"), key := .str (so "_law_four") 824, val := .ref 511 }, { hash := kh P (so "_law_twins"), key := .str (so "_law_twins") 830, val := .ref 516 }, { hash := kh P (so "_law_gone"), key := .str (so "_law_gone") 840, val := .ref 523 }, { hash := kh P (so "law"), key := .str (so "law") 846, val := .ref 528 }] 53 } : Obj)) ::
  (nat_lit 30, ({ cls := .type "dict", data := .dict #[{ hash := kh P (so "__module__"), key := .str (so "__module__") 203, val := .str (so "besideweb.errors") 194 }, { hash := kh P (so "__firstlineno__"), key := .str (so "__firstlineno__") 207, val := .int 5 206 }, { hash := kh P (so "__static_attributes__"), key := .str (so "__static_attributes__") 208, val := .ref 29 }, { hash := kh P (so "__weakref__"), key := .str (so "__weakref__") 210, val := .ref 32 }, { hash := kh P (so "__doc__"), key := .str (so "__doc__") 211, val := .none }] 3 } : Obj)) ::
  (nat_lit 31, ({ cls := .type "type", data := .cls { name := so "WebError", bases := [.type "ValueError"], mro := [.ref 31, .type "ValueError", .type "Exception", .type "BaseException", .type "object"], ns := 30, qualname := so "WebError", subclasses := [.ref 44, .ref 56, .ref 68] }, slots := #[some (.ref 22), none, some (.str (so "WebError") 196), some (.str (so "WebError") 204), some (.builtin "ValueError.__new__"), some (.bool true)] } : Obj)) ::
  (nat_lit 43, ({ cls := .type "dict", data := .dict #[{ hash := kh P (so "__module__"), key := .str (so "__module__") 221, val := .str (so "besideweb.errors") 194 }, { hash := kh P (so "__firstlineno__"), key := .str (so "__firstlineno__") 225, val := .int 7 224 }, { hash := kh P (so "__static_attributes__"), key := .str (so "__static_attributes__") 226, val := .ref 42 }, { hash := kh P (so "__doc__"), key := .str (so "__doc__") 227, val := .none }] 2 } : Obj)) ::
  (nat_lit 44, ({ cls := .type "type", data := .cls { name := so "BadWeb", bases := [.ref 31], mro := [.ref 44, .ref 31, .type "ValueError", .type "Exception", .type "BaseException", .type "object"], ns := 43, qualname := so "BadWeb" }, slots := #[some (.ref 35), none, some (.str (so "BadWeb") 214), some (.str (so "BadWeb") 222), some (.builtin "ValueError.__new__"), some (.bool true)] } : Obj)) ::
  (nat_lit 55, ({ cls := .type "dict", data := .dict #[{ hash := kh P (so "__module__"), key := .str (so "__module__") 237, val := .str (so "besideweb.errors") 194 }, { hash := kh P (so "__firstlineno__"), key := .str (so "__firstlineno__") 241, val := .int 9 240 }, { hash := kh P (so "__static_attributes__"), key := .str (so "__static_attributes__") 242, val := .ref 54 }, { hash := kh P (so "__doc__"), key := .str (so "__doc__") 243, val := .none }] 2 } : Obj)) ::
  (nat_lit 56, ({ cls := .type "type", data := .cls { name := so "BadTree", bases := [.ref 31], mro := [.ref 56, .ref 31, .type "ValueError", .type "Exception", .type "BaseException", .type "object"], ns := 55, qualname := so "BadTree" }, slots := #[some (.ref 47), none, some (.str (so "BadTree") 230), some (.str (so "BadTree") 238), some (.builtin "ValueError.__new__"), some (.bool true)] } : Obj)) ::
  (nat_lit 67, ({ cls := .type "dict", data := .dict #[{ hash := kh P (so "__module__"), key := .str (so "__module__") 253, val := .str (so "besideweb.errors") 194 }, { hash := kh P (so "__firstlineno__"), key := .str (so "__firstlineno__") 257, val := .int 11 256 }, { hash := kh P (so "__static_attributes__"), key := .str (so "__static_attributes__") 258, val := .ref 66 }, { hash := kh P (so "__doc__"), key := .str (so "__doc__") 259, val := .none }] 2 } : Obj)) ::
  (nat_lit 68, ({ cls := .type "type", data := .cls { name := so "NoPoint", bases := [.ref 31], mro := [.ref 68, .ref 31, .type "ValueError", .type "Exception", .type "BaseException", .type "object"], ns := 67, qualname := so "NoPoint" }, slots := #[some (.ref 59), none, some (.str (so "NoPoint") 246), some (.str (so "NoPoint") 254), some (.builtin "ValueError.__new__"), some (.bool true)] } : Obj)) ::
  (nat_lit 76, ({ cls := .type "code", data := .fields #[.str (so "is_below") 266, .str (so "is_below") 267, .str (so "/claim/cut.py") 268, .int 15 0, .int 2 0, .int 0 0, .int 0 0, .int 3 0, .ref 71, .bool true, .int 181 0, .ref 72, .none, .ref 73, .ref 74, .ref 75, .int 271 0, .int 15 0, .str (so "/claim/cut.py") 272] } : Obj)) ::
  (nat_lit 77, (⟨.type "function", none, .func (PySem.W.fnOf (so "is_below") (so "is_below") (defArgs sIsBelow) (defBody sIsBelow) (defScope sIsBelow) (.none) (.none) (.none) (.str (so "besideweb.checks") 262) (none) (.ref 76) (.none)), #[]⟩ : Obj)) ::
  (nat_lit 83, ({ cls := .type "code", data := .fields #[.str (so "tied") 274, .str (so "tied") 275, .str (so "/claim/cut.py") 276, .int 17 0, .int 3 0, .int 0 0, .int 0 0, .int 3 0, .ref 78, .bool true, .int 181 0, .ref 79, .none, .ref 80, .ref 81, .ref 82, .int 280 0, .int 17 0, .str (so "/claim/cut.py") 281] } : Obj)) ::
  (nat_lit 84, (⟨.type "function", none, .func (PySem.W.fnOf (so "tied") (so "tied") (defArgs sTied) (defBody sTied) (defScope sTied) (.none) (.none) (.none) (.str (so "besideweb.checks") 262) (none) (.ref 83) (.none)), #[]⟩ : Obj)) ::
  (nat_lit 88, ({ cls := .type "code", data := .fields #[.str (so "has_points") 283, .str (so "has_points") 284, .str (so "/claim/cut.py") 285, .int 19 0, .int 2 0, .int 0 0, .int 0 0, .int 3 0, .ref 85, .bool true, .int 181 0, .ref 86, .none, .none, .none, .ref 87, .int 286 0, .int 19 0, .str (so "/claim/cut.py") 287] } : Obj)) ::
  (nat_lit 89, (⟨.type "function", none, .func (PySem.W.fnOf (so "has_points") (so "has_points") (defArgs sHasPoints) (defBody sHasPoints) (defScope sHasPoints) (.none) (.none) (.none) (.str (so "besideweb.checks") 262) (none) (.ref 88) (.none)), #[]⟩ : Obj)) ::
  (nat_lit 95, ({ cls := .type "code", data := .fields #[.str (so "check_web") 289, .str (so "check_web") 290, .str (so "/claim/cut.py") 291, .int 21 0, .int 1 0, .int 0 0, .int 0 0, .int 3 0, .ref 90, .bool true, .int 181 0, .ref 91, .none, .ref 92, .ref 93, .ref 94, .int 295 0, .int 21 0, .str (so "/claim/cut.py") 296] } : Obj)) ::
  (nat_lit 96, (⟨.type "function", none, .func (PySem.W.fnOf (so "check_web") (so "check_web") (defArgs sCheckWeb) (defBody sCheckWeb) (defScope sCheckWeb) (.none) (.none) (.none) (.str (so "besideweb.checks") 262) (none) (.ref 95) (.none)), #[]⟩ : Obj)) ::
  (nat_lit 102, ({ cls := .type "code", data := .fields #[.str (so "check_ties") 298, .str (so "check_ties") 299, .str (so "/claim/cut.py") 300, .int 29 0, .int 2 0, .int 0 0, .int 0 0, .int 3 0, .ref 97, .bool true, .int 181 0, .ref 98, .none, .ref 99, .ref 100, .ref 101, .int 304 0, .int 29 0, .str (so "/claim/cut.py") 305] } : Obj)) ::
  (nat_lit 103, (⟨.type "function", none, .func (PySem.W.fnOf (so "check_ties") (so "check_ties") (defArgs sCheckTies) (defBody sCheckTies) (defScope sCheckTies) (.none) (.none) (.none) (.str (so "besideweb.checks") 262) (none) (.ref 102) (.none)), #[]⟩ : Obj)) ::
  (nat_lit 109, ({ cls := .type "code", data := .fields #[.str (so "check_points") 307, .str (so "check_points") 308, .str (so "/claim/cut.py") 309, .int 35 0, .int 2 0, .int 0 0, .int 0 0, .int 3 0, .ref 104, .bool true, .int 181 0, .ref 105, .none, .ref 106, .ref 107, .ref 108, .int 312 0, .int 35 0, .str (so "/claim/cut.py") 313] } : Obj)) ::
  (nat_lit 110, (⟨.type "function", none, .func (PySem.W.fnOf (so "check_points") (so "check_points") (defArgs sCheckPoints) (defBody sCheckPoints) (defScope sCheckPoints) (.none) (.none) (.none) (.str (so "besideweb.checks") 262) (none) (.ref 109) (.none)), #[]⟩ : Obj)) ::
  (nat_lit 124, ({ cls := .type "code", data := .fields #[.str (so "__init__") 329, .str (so "Tree.__init__") 330, .str (so "/claim/cut.py") 331, .int 45 0, .int 2 0, .int 0 0, .int 0 0, .int 3 0, .ref 119, .bool true, .int 181 0, .ref 120, .none, .ref 121, .ref 122, .ref 123, .int 334 0, .int 45 0, .str (so "/claim/cut.py") 335] } : Obj)) ::
  (nat_lit 125, (⟨.type "function", none, .func (PySem.W.fnOf (so "__init__") (so "Tree.__init__") (defArgs sTreeInit) (defBody sTreeInit) (defScope sTreeInit) (.ref 118) (.none) (.none) (.str (so "besideweb.trees") 315) (none) (.ref 124) (.none)), #[]⟩ : Obj)) ::
  (nat_lit 131, ({ cls := .type "code", data := .fields #[.str (so "points") 337, .str (so "Tree.points") 338, .str (so "/claim/cut.py") 339, .int 48 0, .int 1 0, .int 0 0, .int 0 0, .int 3 0, .ref 126, .bool true, .int 181 0, .ref 127, .none, .ref 128, .ref 129, .ref 130, .int 341 0, .int 48 0, .str (so "/claim/cut.py") 342] } : Obj)) ::
  (nat_lit 132, (⟨.type "function", none, .func (PySem.W.fnOf (so "points") (so "Tree.points") (defArgs sTreePoints) (defBody sTreePoints) (defScope sTreePoints) (.none) (.none) (.none) (.str (so "besideweb.trees") 315) (none) (.ref 131) (.none)), #[]⟩ : Obj)) ::
  (nat_lit 138, ({ cls := .type "code", data := .fields #[.str (so "told") 344, .str (so "Tree.told") 345, .str (so "/claim/cut.py") 346, .int 51 0, .int 1 0, .int 0 0, .int 0 0, .int 3 0, .ref 133, .bool true, .int 181 0, .ref 134, .none, .ref 135, .ref 136, .ref 137, .int 348 0, .int 51 0, .str (so "/claim/cut.py") 349] } : Obj)) ::
  (nat_lit 139, (⟨.type "function", none, .func (PySem.W.fnOf (so "told") (so "Tree.told") (defArgs sTreeTold) (defBody sTreeTold) (defScope sTreeTold) (.none) (.none) (.none) (.str (so "besideweb.trees") 315) (none) (.ref 138) (.none)), #[]⟩ : Obj)) ::
  (nat_lit 145, ({ cls := .type "code", data := .fields #[.str (so "shape") 351, .str (so "Tree.shape") 352, .str (so "/claim/cut.py") 353, .int 54 0, .int 1 0, .int 0 0, .int 0 0, .int 3 0, .ref 140, .bool true, .int 181 0, .ref 141, .none, .ref 142, .ref 143, .ref 144, .int 355 0, .int 54 0, .str (so "/claim/cut.py") 356] } : Obj)) ::
  (nat_lit 146, (⟨.type "function", none, .func (PySem.W.fnOf (so "shape") (so "Tree.shape") (defArgs sTreeShape) (defBody sTreeShape) (defScope sTreeShape) (.none) (.none) (.none) (.str (so "besideweb.trees") 315) (none) (.ref 145) (.none)), #[]⟩ : Obj)) ::
  (nat_lit 148, ({ cls := .type "dict", data := .dict #[{ hash := kh P (so "__module__"), key := .str (so "__module__") 324, val := .str (so "besideweb.trees") 315 }, { hash := kh P (so "__firstlineno__"), key := .str (so "__firstlineno__") 328, val := .int 43 327 }, { hash := kh P (so "__init__"), key := .str (so "__init__") 336, val := .ref 125 }, { hash := kh P (so "points"), key := .str (so "points") 343, val := .ref 132 }, { hash := kh P (so "told"), key := .str (so "told") 350, val := .ref 139 }, { hash := kh P (so "shape"), key := .str (so "shape") 357, val := .ref 146 }, { hash := kh P (so "__static_attributes__"), key := .str (so "__static_attributes__") 358, val := .ref 147 }, { hash := kh P (so "__dict__"), key := .str (so "__dict__") 360, val := .ref 150 }, { hash := kh P (so "__weakref__"), key := .str (so "__weakref__") 362, val := .ref 151 }, { hash := kh P (so "__doc__"), key := .str (so "__doc__") 363, val := .none }] 4 } : Obj)) ::
  (nat_lit 149, ({ cls := .type "type", data := .cls { name := so "Tree", bases := [.type "object"], mro := [.ref 149, .type "object"], ns := 148, qualname := so "Tree", subclasses := [.ref 191, .ref 244] }, slots := #[none, none, some (.str (so "Tree") 317), some (.str (so "Tree") 325), some (.builtin "object.__new__"), some (.bool true)] } : Obj)) ::
  (nat_lit 166, ({ cls := .type "code", data := .fields #[.str (so "__init__") 378, .str (so "Point.__init__") 379, .str (so "/claim/cut.py") 380, .int 58 0, .int 2 0, .int 0 0, .int 0 0, .int 3 0, .ref 161, .bool true, .int 181 0, .ref 162, .none, .ref 163, .ref 164, .ref 165, .int 383 0, .int 58 0, .str (so "/claim/cut.py") 384] } : Obj)) ::
  (nat_lit 167, (⟨.type "function", none, .func (PySem.W.fnOf (so "__init__") (so "Point.__init__") (defArgs sPointInit) (defBody sPointInit) (defScope sPointInit) (.none) (.none) (.none) (.str (so "besideweb.trees") 315) (none) (.ref 166) (.none)), #[]⟩ : Obj)) ::
  (nat_lit 173, ({ cls := .type "code", data := .fields #[.str (so "points") 386, .str (so "Point.points") 387, .str (so "/claim/cut.py") 388, .int 63 0, .int 1 0, .int 0 0, .int 0 0, .int 3 0, .ref 168, .bool true, .int 181 0, .ref 169, .none, .ref 170, .ref 171, .ref 172, .int 390 0, .int 63 0, .str (so "/claim/cut.py") 391] } : Obj)) ::
  (nat_lit 174, (⟨.type "function", none, .func (PySem.W.fnOf (so "points") (so "Point.points") (defArgs sPointPoints) (defBody sPointPoints) (defScope sPointPoints) (.none) (.none) (.none) (.str (so "besideweb.trees") 315) (none) (.ref 173) (.none)), #[]⟩ : Obj)) ::
  (nat_lit 180, ({ cls := .type "code", data := .fields #[.str (so "told") 393, .str (so "Point.told") 394, .str (so "/claim/cut.py") 395, .int 66 0, .int 1 0, .int 0 0, .int 0 0, .int 3 0, .ref 175, .bool true, .int 181 0, .ref 176, .none, .ref 177, .ref 178, .ref 179, .int 397 0, .int 66 0, .str (so "/claim/cut.py") 398] } : Obj)) ::
  (nat_lit 181, (⟨.type "function", none, .func (PySem.W.fnOf (so "told") (so "Point.told") (defArgs sPointTold) (defBody sPointTold) (defScope sPointTold) (.none) (.none) (.none) (.str (so "besideweb.trees") 315) (none) (.ref 180) (.none)), #[]⟩ : Obj)) ::
  (nat_lit 187, ({ cls := .type "code", data := .fields #[.str (so "shape") 400, .str (so "Point.shape") 401, .str (so "/claim/cut.py") 402, .int 69 0, .int 1 0, .int 0 0, .int 0 0, .int 3 0, .ref 182, .bool true, .int 181 0, .ref 183, .none, .ref 184, .ref 185, .ref 186, .int 404 0, .int 69 0, .str (so "/claim/cut.py") 405] } : Obj)) ::
  (nat_lit 188, (⟨.type "function", none, .func (PySem.W.fnOf (so "shape") (so "Point.shape") (defArgs sPointShape) (defBody sPointShape) (defScope sPointShape) (.none) (.none) (.none) (.str (so "besideweb.trees") 315) (none) (.ref 187) (.none)), #[]⟩ : Obj)) ::
  (nat_lit 190, ({ cls := .type "dict", data := .dict #[{ hash := kh P (so "__module__"), key := .str (so "__module__") 373, val := .str (so "besideweb.trees") 315 }, { hash := kh P (so "__firstlineno__"), key := .str (so "__firstlineno__") 377, val := .int 56 376 }, { hash := kh P (so "__init__"), key := .str (so "__init__") 385, val := .ref 167 }, { hash := kh P (so "points"), key := .str (so "points") 392, val := .ref 174 }, { hash := kh P (so "told"), key := .str (so "told") 399, val := .ref 181 }, { hash := kh P (so "shape"), key := .str (so "shape") 406, val := .ref 188 }, { hash := kh P (so "__static_attributes__"), key := .str (so "__static_attributes__") 408, val := .ref 189 }, { hash := kh P (so "__doc__"), key := .str (so "__doc__") 409, val := .none }] 2 } : Obj)) ::
  (nat_lit 191, ({ cls := .type "type", data := .cls { name := so "Point", bases := [.ref 149], mro := [.ref 191, .ref 149, .type "object"], ns := 190, qualname := so "Point" }, slots := #[some (.ref 154), none, some (.str (so "Point") 366), some (.str (so "Point") 374), some (.builtin "object.__new__"), some (.bool true)] } : Obj)) ::
  (nat_lit 207, ({ cls := .type "code", data := .fields #[.str (so "__init__") 424, .str (so "Doing.__init__") 425, .str (so "/claim/cut.py") 426, .int 73 0, .int 2 0, .int 0 0, .int 0 0, .int 3 0, .ref 202, .bool true, .int 181 0, .ref 203, .none, .ref 204, .ref 205, .ref 206, .int 429 0, .int 73 0, .str (so "/claim/cut.py") 430] } : Obj)) ::
  (nat_lit 208, (⟨.type "function", none, .func (PySem.W.fnOf (so "__init__") (so "Doing.__init__") (defArgs sDoingInit) (defBody sDoingInit) (defScope sDoingInit) (.ref 201) (.none) (.none) (.str (so "besideweb.trees") 315) (none) (.ref 207) (.none)), #[]⟩ : Obj)) ::
  (nat_lit 214, ({ cls := .type "code", data := .fields #[.str (so "lay") 432, .str (so "Doing.lay") 433, .str (so "/claim/cut.py") 434, .int 76 0, .int 2 0, .int 0 0, .int 0 0, .int 3 0, .ref 209, .bool true, .int 181 0, .ref 210, .none, .ref 211, .ref 212, .ref 213, .int 437 0, .int 76 0, .str (so "/claim/cut.py") 438] } : Obj)) ::
  (nat_lit 215, (⟨.type "function", none, .func (PySem.W.fnOf (so "lay") (so "Doing.lay") (defArgs sDoingLay) (defBody sDoingLay) (defScope sDoingLay) (.none) (.none) (.none) (.str (so "besideweb.trees") 315) (none) (.ref 214) (.none)), #[]⟩ : Obj)) ::
  (nat_lit 221, ({ cls := .type "code", data := .fields #[.str (so "sign") 440, .str (so "Doing.sign") 441, .str (so "/claim/cut.py") 442, .int 81 0, .int 1 0, .int 0 0, .int 0 0, .int 3 0, .ref 216, .bool true, .int 181 0, .ref 217, .none, .ref 218, .ref 219, .ref 220, .int 444 0, .int 81 0, .str (so "/claim/cut.py") 445] } : Obj)) ::
  (nat_lit 222, (⟨.type "function", none, .func (PySem.W.fnOf (so "sign") (so "Doing.sign") (defArgs sDoingSign) (defBody sDoingSign) (defScope sDoingSign) (.none) (.none) (.none) (.str (so "besideweb.trees") 315) (none) (.ref 221) (.none)), #[]⟩ : Obj)) ::
  (nat_lit 228, ({ cls := .type "code", data := .fields #[.str (so "points") 447, .str (so "Doing.points") 448, .str (so "/claim/cut.py") 449, .int 84 0, .int 1 0, .int 0 0, .int 0 0, .int 3 0, .ref 223, .bool true, .int 181 0, .ref 224, .none, .ref 225, .ref 226, .ref 227, .int 453 0, .int 84 0, .str (so "/claim/cut.py") 454] } : Obj)) ::
  (nat_lit 229, (⟨.type "function", none, .func (PySem.W.fnOf (so "points") (so "Doing.points") (defArgs sDoingPoints) (defBody sDoingPoints) (defScope sDoingPoints) (.none) (.none) (.none) (.str (so "besideweb.trees") 315) (none) (.ref 228) (.none)), #[]⟩ : Obj)) ::
  (nat_lit 233, ({ cls := .type "code", data := .fields #[.str (so "told") 456, .str (so "Doing.told") 457, .str (so "/claim/cut.py") 458, .int 90 0, .int 1 0, .int 0 0, .int 0 0, .int 3 0, .ref 230, .bool true, .int 181 0, .ref 231, .none, .none, .none, .ref 232, .int 459 0, .int 90 0, .str (so "/claim/cut.py") 460] } : Obj)) ::
  (nat_lit 234, (⟨.type "function", none, .func (PySem.W.fnOf (so "told") (so "Doing.told") (defArgs sDoingTold) (defBody sDoingTold) (defScope sDoingTold) (.none) (.none) (.none) (.str (so "besideweb.trees") 315) (none) (.ref 233) (.none)), #[]⟩ : Obj)) ::
  (nat_lit 240, ({ cls := .type "code", data := .fields #[.str (so "shape") 462, .str (so "Doing.shape") 463, .str (so "/claim/cut.py") 464, .int 93 0, .int 1 0, .int 0 0, .int 0 0, .int 3 0, .ref 235, .bool true, .int 181 0, .ref 236, .none, .ref 237, .ref 238, .ref 239, .int 466 0, .int 93 0, .str (so "/claim/cut.py") 467] } : Obj)) ::
  (nat_lit 241, (⟨.type "function", none, .func (PySem.W.fnOf (so "shape") (so "Doing.shape") (defArgs sDoingShape) (defBody sDoingShape) (defScope sDoingShape) (.none) (.none) (.none) (.str (so "besideweb.trees") 315) (none) (.ref 240) (.none)), #[]⟩ : Obj)) ::
  (nat_lit 243, ({ cls := .type "dict", data := .dict #[{ hash := kh P (so "__module__"), key := .str (so "__module__") 419, val := .str (so "besideweb.trees") 315 }, { hash := kh P (so "__firstlineno__"), key := .str (so "__firstlineno__") 423, val := .int 71 422 }, { hash := kh P (so "__init__"), key := .str (so "__init__") 431, val := .ref 208 }, { hash := kh P (so "lay"), key := .str (so "lay") 439, val := .ref 215 }, { hash := kh P (so "sign"), key := .str (so "sign") 446, val := .ref 222 }, { hash := kh P (so "points"), key := .str (so "points") 455, val := .ref 229 }, { hash := kh P (so "told"), key := .str (so "told") 461, val := .ref 234 }, { hash := kh P (so "shape"), key := .str (so "shape") 468, val := .ref 241 }, { hash := kh P (so "__static_attributes__"), key := .str (so "__static_attributes__") 471, val := .ref 242 }, { hash := kh P (so "__doc__"), key := .str (so "__doc__") 472, val := .none }] 2 } : Obj)) ::
  (nat_lit 244, ({ cls := .type "type", data := .cls { name := so "Doing", bases := [.ref 149], mro := [.ref 244, .ref 149, .type "object"], ns := 243, qualname := so "Doing", subclasses := [.ref 270, .ref 296] }, slots := #[some (.ref 194), none, some (.str (so "Doing") 412), some (.str (so "Doing") 420), some (.builtin "object.__new__"), some (.bool true)] } : Obj)) ::
  (nat_lit 259, ({ cls := .type "code", data := .fields #[.str (so "__init__") 487, .str (so "Beside.__init__") 488, .str (so "/claim/cut.py") 489, .int 97 0, .int 2 0, .int 0 0, .int 0 0, .int 3 0, .ref 254, .bool true, .int 181 0, .ref 255, .none, .ref 256, .ref 257, .ref 258, .int 492 0, .int 97 0, .str (so "/claim/cut.py") 493] } : Obj)) ::
  (nat_lit 260, (⟨.type "function", none, .func (PySem.W.fnOf (so "__init__") (so "Beside.__init__") (defArgs sBesideInit) (defBody sBesideInit) (defScope sBesideInit) (.none) (.none) (.none) (.str (so "besideweb.trees") 315) (none) (.ref 259) (.none)), #[]⟩ : Obj)) ::
  (nat_lit 266, ({ cls := .type "code", data := .fields #[.str (so "sign") 495, .str (so "Beside.sign") 496, .str (so "/claim/cut.py") 497, .int 100 0, .int 1 0, .int 0 0, .int 0 0, .int 3 0, .ref 261, .bool true, .int 181 0, .ref 262, .none, .ref 263, .ref 264, .ref 265, .int 499 0, .int 100 0, .str (so "/claim/cut.py") 500] } : Obj)) ::
  (nat_lit 267, (⟨.type "function", none, .func (PySem.W.fnOf (so "sign") (so "Beside.sign") (defArgs sBesideSign) (defBody sBesideSign) (defScope sBesideSign) (.none) (.none) (.none) (.str (so "besideweb.trees") 315) (none) (.ref 266) (.none)), #[]⟩ : Obj)) ::
  (nat_lit 269, ({ cls := .type "dict", data := .dict #[{ hash := kh P (so "__module__"), key := .str (so "__module__") 482, val := .str (so "besideweb.trees") 315 }, { hash := kh P (so "__firstlineno__"), key := .str (so "__firstlineno__") 486, val := .int 95 485 }, { hash := kh P (so "__init__"), key := .str (so "__init__") 494, val := .ref 260 }, { hash := kh P (so "sign"), key := .str (so "sign") 501, val := .ref 267 }, { hash := kh P (so "__static_attributes__"), key := .str (so "__static_attributes__") 502, val := .ref 268 }, { hash := kh P (so "__doc__"), key := .str (so "__doc__") 503, val := .none }] 2 } : Obj)) ::
  (nat_lit 270, ({ cls := .type "type", data := .cls { name := so "Beside", bases := [.ref 244], mro := [.ref 270, .ref 244, .ref 149, .type "object"], ns := 269, qualname := so "Beside" }, slots := #[some (.ref 247), none, some (.str (so "Beside") 475), some (.str (so "Beside") 483), some (.builtin "object.__new__"), some (.bool true)] } : Obj)) ::
  (nat_lit 285, ({ cls := .type "code", data := .fields #[.str (so "__init__") 518, .str (so "Across.__init__") 519, .str (so "/claim/cut.py") 520, .int 104 0, .int 2 0, .int 0 0, .int 0 0, .int 3 0, .ref 280, .bool true, .int 181 0, .ref 281, .none, .ref 282, .ref 283, .ref 284, .int 523 0, .int 104 0, .str (so "/claim/cut.py") 524] } : Obj)) ::
  (nat_lit 286, (⟨.type "function", none, .func (PySem.W.fnOf (so "__init__") (so "Across.__init__") (defArgs sAcrossInit) (defBody sAcrossInit) (defScope sAcrossInit) (.none) (.none) (.none) (.str (so "besideweb.trees") 315) (none) (.ref 285) (.none)), #[]⟩ : Obj)) ::
  (nat_lit 292, ({ cls := .type "code", data := .fields #[.str (so "sign") 526, .str (so "Across.sign") 527, .str (so "/claim/cut.py") 528, .int 107 0, .int 1 0, .int 0 0, .int 0 0, .int 3 0, .ref 287, .bool true, .int 181 0, .ref 288, .none, .ref 289, .ref 290, .ref 291, .int 530 0, .int 107 0, .str (so "/claim/cut.py") 531] } : Obj)) ::
  (nat_lit 293, (⟨.type "function", none, .func (PySem.W.fnOf (so "sign") (so "Across.sign") (defArgs sAcrossSign) (defBody sAcrossSign) (defScope sAcrossSign) (.none) (.none) (.none) (.str (so "besideweb.trees") 315) (none) (.ref 292) (.none)), #[]⟩ : Obj)) ::
  (nat_lit 295, ({ cls := .type "dict", data := .dict #[{ hash := kh P (so "__module__"), key := .str (so "__module__") 513, val := .str (so "besideweb.trees") 315 }, { hash := kh P (so "__firstlineno__"), key := .str (so "__firstlineno__") 517, val := .int 102 516 }, { hash := kh P (so "__init__"), key := .str (so "__init__") 525, val := .ref 286 }, { hash := kh P (so "sign"), key := .str (so "sign") 532, val := .ref 293 }, { hash := kh P (so "__static_attributes__"), key := .str (so "__static_attributes__") 533, val := .ref 294 }, { hash := kh P (so "__doc__"), key := .str (so "__doc__") 534, val := .none }] 2 } : Obj)) ::
  (nat_lit 296, ({ cls := .type "type", data := .cls { name := so "Across", bases := [.ref 244], mro := [.ref 296, .ref 244, .ref 149, .type "object"], ns := 295, qualname := so "Across" }, slots := #[some (.ref 273), none, some (.str (so "Across") 506), some (.str (so "Across") 514), some (.builtin "object.__new__"), some (.bool true)] } : Obj)) ::
  (nat_lit 311, ({ cls := .type "code", data := .fields #[.str (so "check_trees") 546, .str (so "check_trees") 547, .str (so "/claim/cut.py") 548, .int 112 0, .int 1 0, .int 0 0, .int 0 0, .int 3 0, .ref 306, .bool true, .int 181 0, .ref 307, .none, .ref 308, .ref 309, .ref 310, .int 552 0, .int 112 0, .str (so "/claim/cut.py") 553] } : Obj)) ::
  (nat_lit 312, (⟨.type "function", none, .func (PySem.W.fnOf (so "check_trees") (so "check_trees") (defArgs sCheckTrees) (defBody sCheckTrees) (defScope sCheckTrees) (.none) (.none) (.none) (.str (so "besideweb.trees") 315) (none) (.ref 311) (.none)), #[]⟩ : Obj)) ::
  (nat_lit 316, ({ cls := .type "code", data := .fields #[.str (so "turned") 557, .str (so "turned") 558, .str (so "/claim/cut.py") 559, .int 123 0, .int 1 0, .int 0 0, .int 0 0, .int 3 0, .ref 313, .bool true, .int 181 0, .ref 314, .none, .none, .none, .ref 315, .int 560 0, .int 123 0, .str (so "/claim/cut.py") 561] } : Obj)) ::
  (nat_lit 317, (⟨.type "function", none, .func (PySem.W.fnOf (so "turned") (so "turned") (defArgs sTurned) (defBody sTurned) (defScope sTurned) (.none) (.none) (.none) (.str (so "besideweb.webs") 555) (none) (.ref 316) (.none)), #[]⟩ : Obj)) ::
  (nat_lit 321, ({ cls := .type "code", data := .fields #[.str (so "among") 563, .str (so "among") 564, .str (so "/claim/cut.py") 565, .int 127 0, .int 2 0, .int 0 0, .int 0 0, .int 3 0, .ref 318, .bool true, .int 181 0, .ref 319, .none, .none, .none, .ref 320, .int 566 0, .int 127 0, .str (so "/claim/cut.py") 567] } : Obj)) ::
  (nat_lit 322, (⟨.type "function", none, .func (PySem.W.fnOf (so "among") (so "among") (defArgs sAmong) (defBody sAmong) (defScope sAmong) (.none) (.none) (.none) (.str (so "besideweb.webs") 555) (none) (.ref 321) (.none)), #[]⟩ : Obj)) ::
  (nat_lit 328, ({ cls := .type "code", data := .fields #[.str (so "ties_among") 569, .str (so "ties_among") 570, .str (so "/claim/cut.py") 571, .int 131 0, .int 3 0, .int 0 0, .int 0 0, .int 3 0, .ref 323, .bool true, .int 181 0, .ref 324, .none, .ref 325, .ref 326, .ref 327, .int 578 0, .int 131 0, .str (so "/claim/cut.py") 579] } : Obj)) ::
  (nat_lit 329, (⟨.type "function", none, .func (PySem.W.fnOf (so "ties_among") (so "ties_among") (defArgs sTiesAmong) (defBody sTiesAmong) (defScope sTiesAmong) (.none) (.none) (.none) (.str (so "besideweb.webs") 555) (none) (.ref 328) (.none)), #[]⟩ : Obj)) ::
  (nat_lit 335, ({ cls := .type "code", data := .fields #[.str (so "parts") 581, .str (so "parts") 582, .str (so "/claim/cut.py") 583, .int 137 0, .int 1 0, .int 0 0, .int 0 0, .int 3 0, .ref 330, .bool true, .int 181 0, .ref 331, .none, .ref 332, .ref 333, .ref 334, .int 588 0, .int 137 0, .str (so "/claim/cut.py") 589] } : Obj)) ::
  (nat_lit 336, (⟨.type "function", none, .func (PySem.W.fnOf (so "parts") (so "parts") (defArgs sParts) (defBody sParts) (defScope sParts) (.none) (.none) (.none) (.str (so "besideweb.webs") 555) (none) (.ref 335) (.none)), #[]⟩ : Obj)) ::
  (nat_lit 342, ({ cls := .type "code", data := .fields #[.str (so "hanging_with") 591, .str (so "hanging_with") 592, .str (so "/claim/cut.py") 593, .int 145 0, .int 2 0, .int 0 0, .int 0 0, .int 3 0, .ref 337, .bool true, .int 181 0, .ref 338, .none, .ref 339, .ref 340, .ref 341, .int 600 0, .int 145 0, .str (so "/claim/cut.py") 601] } : Obj)) ::
  (nat_lit 343, (⟨.type "function", none, .func (PySem.W.fnOf (so "hanging_with") (so "hanging_with") (defArgs sHangingWith) (defBody sHangingWith) (defScope sHangingWith) (.none) (.none) (.none) (.str (so "besideweb.webs") 555) (none) (.ref 342) (.none)), #[]⟩ : Obj)) ::
  (nat_lit 356, ({ cls := .type "code", data := .fields #[.str (so "holds") 617, .str (so "Answer.holds") 618, .str (so "/claim/cut.py") 619, .int 158 0, .int 2 0, .int 0 0, .int 0 0, .int 3 0, .ref 351, .bool true, .int 181 0, .ref 352, .none, .ref 353, .ref 354, .ref 355, .int 622 0, .int 158 0, .str (so "/claim/cut.py") 623] } : Obj)) ::
  (nat_lit 357, (⟨.type "function", none, .func (PySem.W.fnOf (so "holds") (so "Answer.holds") (defArgs sAnswerHolds) (defBody sAnswerHolds) (defScope sAnswerHolds) (.none) (.none) (.none) (.str (so "besideweb.tellings") 603) (none) (.ref 356) (.none)), #[]⟩ : Obj)) ::
  (nat_lit 363, ({ cls := .type "code", data := .fields #[.str (so "is_so") 625, .str (so "Answer.is_so") 626, .str (so "/claim/cut.py") 627, .int 161 0, .int 2 0, .int 0 0, .int 0 0, .int 3 0, .ref 358, .bool true, .int 181 0, .ref 359, .none, .ref 360, .ref 361, .ref 362, .int 630 0, .int 161 0, .str (so "/claim/cut.py") 631] } : Obj)) ::
  (nat_lit 364, (⟨.type "function", none, .func (PySem.W.fnOf (so "is_so") (so "Answer.is_so") (defArgs sAnswerIsSo) (defBody sAnswerIsSo) (defScope sAnswerIsSo) (.none) (.none) (.none) (.str (so "besideweb.tellings") 603) (none) (.ref 363) (.none)), #[]⟩ : Obj)) ::
  (nat_lit 366, ({ cls := .type "dict", data := .dict #[{ hash := kh P (so "__module__"), key := .str (so "__module__") 612, val := .str (so "besideweb.tellings") 603 }, { hash := kh P (so "__firstlineno__"), key := .str (so "__firstlineno__") 616, val := .int 156 615 }, { hash := kh P (so "holds"), key := .str (so "holds") 624, val := .ref 357 }, { hash := kh P (so "is_so"), key := .str (so "is_so") 632, val := .ref 364 }, { hash := kh P (so "__static_attributes__"), key := .str (so "__static_attributes__") 633, val := .ref 365 }, { hash := kh P (so "__dict__"), key := .str (so "__dict__") 635, val := .ref 368 }, { hash := kh P (so "__weakref__"), key := .str (so "__weakref__") 637, val := .ref 369 }, { hash := kh P (so "__doc__"), key := .str (so "__doc__") 638, val := .none }] 4 } : Obj)) ::
  (nat_lit 367, ({ cls := .type "type", data := .cls { name := so "Answer", bases := [.type "object"], mro := [.ref 367, .type "object"], ns := 366, qualname := so "Answer", subclasses := [.ref 395, .ref 421] }, slots := #[none, none, some (.str (so "Answer") 605), some (.str (so "Answer") 613), some (.builtin "object.__new__"), some (.bool true)] } : Obj)) ::
  (nat_lit 384, ({ cls := .type "code", data := .fields #[.str (so "__init__") 653, .str (so "Made.__init__") 654, .str (so "/claim/cut.py") 655, .int 165 0, .int 2 0, .int 0 0, .int 0 0, .int 3 0, .ref 379, .bool true, .int 181 0, .ref 380, .none, .ref 381, .ref 382, .ref 383, .int 658 0, .int 165 0, .str (so "/claim/cut.py") 659] } : Obj)) ::
  (nat_lit 385, (⟨.type "function", none, .func (PySem.W.fnOf (so "__init__") (so "Made.__init__") (defArgs sMadeInit) (defBody sMadeInit) (defScope sMadeInit) (.none) (.none) (.none) (.str (so "besideweb.tellings") 603) (none) (.ref 384) (.none)), #[]⟩ : Obj)) ::
  (nat_lit 391, ({ cls := .type "code", data := .fields #[.str (so "is_so") 661, .str (so "Made.is_so") 662, .str (so "/claim/cut.py") 663, .int 168 0, .int 2 0, .int 0 0, .int 0 0, .int 3 0, .ref 386, .bool true, .int 181 0, .ref 387, .none, .ref 388, .ref 389, .ref 390, .int 666 0, .int 168 0, .str (so "/claim/cut.py") 667] } : Obj)) ::
  (nat_lit 392, (⟨.type "function", none, .func (PySem.W.fnOf (so "is_so") (so "Made.is_so") (defArgs sMadeIsSo) (defBody sMadeIsSo) (defScope sMadeIsSo) (.none) (.none) (.none) (.str (so "besideweb.tellings") 603) (none) (.ref 391) (.none)), #[]⟩ : Obj)) ::
  (nat_lit 394, ({ cls := .type "dict", data := .dict #[{ hash := kh P (so "__module__"), key := .str (so "__module__") 648, val := .str (so "besideweb.tellings") 603 }, { hash := kh P (so "__firstlineno__"), key := .str (so "__firstlineno__") 652, val := .int 163 651 }, { hash := kh P (so "__init__"), key := .str (so "__init__") 660, val := .ref 385 }, { hash := kh P (so "is_so"), key := .str (so "is_so") 668, val := .ref 392 }, { hash := kh P (so "__static_attributes__"), key := .str (so "__static_attributes__") 670, val := .ref 393 }, { hash := kh P (so "__doc__"), key := .str (so "__doc__") 671, val := .none }] 2 } : Obj)) ::
  (nat_lit 395, ({ cls := .type "type", data := .cls { name := so "Made", bases := [.ref 367], mro := [.ref 395, .ref 367, .type "object"], ns := 394, qualname := so "Made" }, slots := #[some (.ref 372), none, some (.str (so "Made") 641), some (.str (so "Made") 649), some (.builtin "object.__new__"), some (.bool true)] } : Obj)) ::
  (nat_lit 410, ({ cls := .type "code", data := .fields #[.str (so "__init__") 686, .str (so "Row.__init__") 687, .str (so "/claim/cut.py") 688, .int 172 0, .int 2 0, .int 0 0, .int 0 0, .int 3 0, .ref 405, .bool true, .int 181 0, .ref 406, .none, .ref 407, .ref 408, .ref 409, .int 691 0, .int 172 0, .str (so "/claim/cut.py") 692] } : Obj)) ::
  (nat_lit 411, (⟨.type "function", none, .func (PySem.W.fnOf (so "__init__") (so "Row.__init__") (defArgs sRowInit) (defBody sRowInit) (defScope sRowInit) (.none) (.none) (.none) (.str (so "besideweb.tellings") 603) (none) (.ref 410) (.none)), #[]⟩ : Obj)) ::
  (nat_lit 417, ({ cls := .type "code", data := .fields #[.str (so "is_so") 694, .str (so "Row.is_so") 695, .str (so "/claim/cut.py") 696, .int 175 0, .int 2 0, .int 0 0, .int 0 0, .int 3 0, .ref 412, .bool true, .int 181 0, .ref 413, .none, .ref 414, .ref 415, .ref 416, .int 699 0, .int 175 0, .str (so "/claim/cut.py") 700] } : Obj)) ::
  (nat_lit 418, (⟨.type "function", none, .func (PySem.W.fnOf (so "is_so") (so "Row.is_so") (defArgs sRowIsSo) (defBody sRowIsSo) (defScope sRowIsSo) (.none) (.none) (.none) (.str (so "besideweb.tellings") 603) (none) (.ref 417) (.none)), #[]⟩ : Obj)) ::
  (nat_lit 420, ({ cls := .type "dict", data := .dict #[{ hash := kh P (so "__module__"), key := .str (so "__module__") 681, val := .str (so "besideweb.tellings") 603 }, { hash := kh P (so "__firstlineno__"), key := .str (so "__firstlineno__") 685, val := .int 170 684 }, { hash := kh P (so "__init__"), key := .str (so "__init__") 693, val := .ref 411 }, { hash := kh P (so "is_so"), key := .str (so "is_so") 701, val := .ref 418 }, { hash := kh P (so "__static_attributes__"), key := .str (so "__static_attributes__") 703, val := .ref 419 }, { hash := kh P (so "__doc__"), key := .str (so "__doc__") 704, val := .none }] 2 } : Obj)) ::
  (nat_lit 421, ({ cls := .type "type", data := .cls { name := so "Row", bases := [.ref 367], mro := [.ref 421, .ref 367, .type "object"], ns := 420, qualname := so "Row" }, slots := #[some (.ref 398), none, some (.str (so "Row") 674), some (.str (so "Row") 682), some (.builtin "object.__new__"), some (.bool true)] } : Obj)) ::
  (nat_lit 429, ({ cls := .type "code", data := .fields #[.str (so "telling") 707, .str (so "telling") 708, .str (so "/claim/cut.py") 709, .int 177 0, .int 1 0, .int 0 0, .int 0 0, .int 3 0, .ref 424, .bool true, .int 181 0, .ref 425, .none, .ref 426, .ref 427, .ref 428, .int 712 0, .int 177 0, .str (so "/claim/cut.py") 713] } : Obj)) ::
  (nat_lit 430, (⟨.type "function", none, .func (PySem.W.fnOf (so "telling") (so "telling") (defArgs sTelling) (defBody sTelling) (defScope sTelling) (.none) (.none) (.none) (.str (so "besideweb.tellings") 603) (none) (.ref 429) (.none)), #[]⟩ : Obj)) ::
  (nat_lit 434, ({ cls := .type "code", data := .fields #[.str (so "goes_on") 715, .str (so "goes_on") 716, .str (so "/claim/cut.py") 717, .int 183 0, .int 3 0, .int 0 0, .int 0 0, .int 3 0, .ref 431, .bool true, .int 181 0, .ref 432, .none, .none, .none, .ref 433, .int 718 0, .int 183 0, .str (so "/claim/cut.py") 719] } : Obj)) ::
  (nat_lit 435, (⟨.type "function", none, .func (PySem.W.fnOf (so "goes_on") (so "goes_on") (defArgs sGoesOn) (defBody sGoesOn) (defScope sGoesOn) (.none) (.none) (.none) (.str (so "besideweb.tellings") 603) (none) (.ref 434) (.none)), #[]⟩ : Obj)) ::
  (nat_lit 441, ({ cls := .type "code", data := .fields #[.str (so "row_in") 721, .str (so "row_in") 722, .str (so "/claim/cut.py") 723, .int 185 0, .int 1 0, .int 0 0, .int 0 0, .int 3 0, .ref 436, .bool true, .int 181 0, .ref 437, .none, .ref 438, .ref 439, .ref 440, .int 727 0, .int 185 0, .str (so "/claim/cut.py") 728] } : Obj)) ::
  (nat_lit 442, (⟨.type "function", none, .func (PySem.W.fnOf (so "row_in") (so "row_in") (defArgs sRowIn) (defBody sRowIn) (defScope sRowIn) (.none) (.none) (.none) (.str (so "besideweb.tellings") 603) (none) (.ref 441) (.none)), #[]⟩ : Obj)) ::
  (nat_lit 446, ({ cls := .type "code", data := .fields #[.str (so "longer_rows") 730, .str (so "longer_rows") 731, .str (so "/claim/cut.py") 732, .int 190 0, .int 2 0, .int 0 0, .int 0 0, .int 3 0, .ref 443, .bool true, .int 181 0, .ref 444, .none, .none, .none, .ref 445, .int 733 0, .int 190 0, .str (so "/claim/cut.py") 734] } : Obj)) ::
  (nat_lit 447, (⟨.type "function", none, .func (PySem.W.fnOf (so "longer_rows") (so "longer_rows") (defArgs sLongerRows) (defBody sLongerRows) (defScope sLongerRows) (.none) (.none) (.none) (.str (so "besideweb.tellings") 603) (none) (.ref 446) (.none)), #[]⟩ : Obj)) ::
  (nat_lit 453, ({ cls := .type "code", data := .fields #[.str (so "tree_among") 736, .str (so "tree_among") 737, .str (so "/claim/cut.py") 738, .int 195 0, .int 2 0, .int 0 0, .int 0 0, .int 3 0, .ref 448, .bool true, .int 181 0, .ref 449, .none, .ref 450, .ref 451, .ref 452, .int 743 0, .int 195 0, .str (so "/claim/cut.py") 744] } : Obj)) ::
  (nat_lit 454, (⟨.type "function", none, .func (PySem.W.fnOf (so "tree_among") (so "tree_among") (defArgs sTreeAmong) (defBody sTreeAmong) (defScope sTreeAmong) (.none) (.none) (.none) (.str (so "besideweb.tellings") 603) (none) (.ref 453) (.none)), #[]⟩ : Obj)) ::
  (nat_lit 458, ({ cls := .type "code", data := .fields #[.str (so "trees_among") 746, .str (so "trees_among") 747, .str (so "/claim/cut.py") 748, .int 203 0, .int 3 0, .int 0 0, .int 0 0, .int 3 0, .ref 455, .bool true, .int 181 0, .ref 456, .none, .none, .none, .ref 457, .int 749 0, .int 203 0, .str (so "/claim/cut.py") 750] } : Obj)) ::
  (nat_lit 459, (⟨.type "function", none, .func (PySem.W.fnOf (so "trees_among") (so "trees_among") (defArgs sTreesAmong) (defBody sTreesAmong) (defScope sTreesAmong) (.none) (.none) (.none) (.str (so "besideweb.tellings") 603) (none) (.ref 458) (.none)), #[]⟩ : Obj)) ::
  (nat_lit 465, ({ cls := .type "code", data := .fields #[.str (so "twins") 752, .str (so "twins") 753, .str (so "/claim/cut.py") 754, .int 208 0, .int 1 0, .int 0 0, .int 0 0, .int 3 0, .ref 460, .bool true, .int 181 0, .ref 461, .none, .ref 462, .ref 463, .ref 464, .int 759 0, .int 208 0, .str (so "/claim/cut.py") 760] } : Obj)) ::
  (nat_lit 466, (⟨.type "function", none, .func (PySem.W.fnOf (so "twins") (so "twins") (defArgs sTwins) (defBody sTwins) (defScope sTwins) (.none) (.none) (.none) (.str (so "besideweb.tellings") 603) (none) (.ref 465) (.none)), #[]⟩ : Obj)) ::
  (nat_lit 472, ({ cls := .type "code", data := .fields #[.str (so "twins_among") 762, .str (so "twins_among") 763, .str (so "/claim/cut.py") 764, .int 218 0, .int 2 0, .int 0 0, .int 0 0, .int 3 0, .ref 467, .bool true, .int 181 0, .ref 468, .none, .ref 469, .ref 470, .ref 471, .int 770 0, .int 218 0, .str (so "/claim/cut.py") 771] } : Obj)) ::
  (nat_lit 473, (⟨.type "function", none, .func (PySem.W.fnOf (so "twins_among") (so "twins_among") (defArgs sTwinsAmong) (defBody sTwinsAmong) (defScope sTwinsAmong) (.none) (.none) (.none) (.str (so "besideweb.tellings") 603) (none) (.ref 472) (.none)), #[]⟩ : Obj)) ::
  (nat_lit 477, ({ cls := .type "code", data := .fields #[.str (so "are_twins") 773, .str (so "are_twins") 774, .str (so "/claim/cut.py") 775, .int 224 0, .int 4 0, .int 0 0, .int 0 0, .int 3 0, .ref 474, .bool true, .int 181 0, .ref 475, .none, .none, .none, .ref 476, .int 776 0, .int 224 0, .str (so "/claim/cut.py") 777] } : Obj)) ::
  (nat_lit 478, (⟨.type "function", none, .func (PySem.W.fnOf (so "are_twins") (so "are_twins") (defArgs sAreTwins) (defBody sAreTwins) (defScope sAreTwins) (.none) (.none) (.none) (.str (so "besideweb.tellings") 603) (none) (.ref 477) (.none)), #[]⟩ : Obj)) ::
  (nat_lit 484, ({ cls := .type "code", data := .fields #[.str (so "_law_cell_at") 781, .str (so "_law_cell_at") 782, .str (so "/claim/cut.py") 783, .int 228 0, .int 2 0, .int 0 0, .int 0 0, .int 3 0, .ref 479, .bool true, .int 181 0, .ref 480, .none, .ref 481, .ref 482, .ref 483, .int 786 0, .int 228 0, .str (so "/claim/cut.py") 787] } : Obj)) ::
  (nat_lit 485, (⟨.type "function", none, .func (PySem.W.fnOf (so "_law_cell_at") (so "_law_cell_at") (defArgs sLawCellAt) (defBody sLawCellAt) (defScope sLawCellAt) (.none) (.none) (.none) (.str (so "law_besideweb_k04_whole_twins") 779) (none) (.ref 484) (.none)), #[]⟩ : Obj)) ::
  (nat_lit 491, ({ cls := .type "code", data := .fields #[.str (so "_law_draw") 789, .str (so "_law_draw") 790, .str (so "/claim/cut.py") 791, .int 232 0, .int 3 0, .int 0 0, .int 0 0, .int 3 0, .ref 486, .bool true, .int 181 0, .ref 487, .none, .ref 488, .ref 489, .ref 490, .int 797 0, .int 232 0, .str (so "/claim/cut.py") 798] } : Obj)) ::
  (nat_lit 492, (⟨.type "function", none, .func (PySem.W.fnOf (so "_law_draw") (so "_law_draw") (defArgs sLawDraw) (defBody sLawDraw) (defScope sLawDraw) (.none) (.none) (.none) (.str (so "law_besideweb_k04_whole_twins") 779) (none) (.ref 491) (.none)), #[]⟩ : Obj)) ::
  (nat_lit 496, ({ cls := .type "code", data := .fields #[.str (so "_law_web") 800, .str (so "_law_web") 801, .str (so "/claim/cut.py") 802, .int 236 0, .int 3 0, .int 0 0, .int 0 0, .int 3 0, .ref 493, .bool true, .int 181 0, .ref 494, .none, .none, .none, .ref 495, .int 803 0, .int 236 0, .str (so "/claim/cut.py") 804] } : Obj)) ::
  (nat_lit 497, (⟨.type "function", none, .func (PySem.W.fnOf (so "_law_web") (so "_law_web") (defArgs sLawWeb) (defBody sLawWeb) (defScope sLawWeb) (.none) (.none) (.none) (.str (so "law_besideweb_k04_whole_twins") 779) (none) (.ref 496) (.none)), #[]⟩ : Obj)) ::
  (nat_lit 503, ({ cls := .type "code", data := .fields #[.str (so "_law_tie") 806, .str (so "_law_tie") 807, .str (so "/claim/cut.py") 808, .int 258 0, .int 3 0, .int 0 0, .int 0 0, .int 3 0, .ref 498, .bool true, .int 181 0, .ref 499, .none, .ref 500, .ref 501, .ref 502, .int 812 0, .int 258 0, .str (so "/claim/cut.py") 813] } : Obj)) ::
  (nat_lit 504, (⟨.type "function", none, .func (PySem.W.fnOf (so "_law_tie") (so "_law_tie") (defArgs sLawTie) (defBody sLawTie) (defScope sLawTie) (.none) (.none) (.none) (.str (so "law_besideweb_k04_whole_twins") 779) (none) (.ref 503) (.none)), #[]⟩ : Obj)) ::
  (nat_lit 515, ({ cls := .type "code", data := .fields #[.str (so "_law_twins") 825, .str (so "_law_twins") 826, .str (so "/claim/cut.py") 827, .int 271 0, .int 4 0, .int 0 0, .int 0 0, .int 3 0, .ref 512, .bool true, .int 181 0, .ref 513, .none, .none, .none, .ref 514, .int 828 0, .int 271 0, .str (so "/claim/cut.py") 829] } : Obj)) ::
  (nat_lit 516, (⟨.type "function", none, .func (PySem.W.fnOf (so "_law_twins") (so "_law_twins") (defArgs sLawTwins) (defBody sLawTwins) (defScope sLawTwins) (.none) (.none) (.none) (.str (so "law_besideweb_k04_whole_twins") 779) (none) (.ref 515) (.none)), #[]⟩ : Obj)) ::
  (nat_lit 522, ({ cls := .type "code", data := .fields #[.str (so "_law_gone") 831, .str (so "_law_gone") 832, .str (so "/claim/cut.py") 833, .int 274 0, .int 2 0, .int 0 0, .int 0 0, .int 3 0, .ref 517, .bool true, .int 181 0, .ref 518, .none, .ref 519, .ref 520, .ref 521, .int 838 0, .int 274 0, .str (so "/claim/cut.py") 839] } : Obj)) ::
  (nat_lit 523, (⟨.type "function", none, .func (PySem.W.fnOf (so "_law_gone") (so "_law_gone") (defArgs sLawGone) (defBody sLawGone) (defScope sLawGone) (.none) (.none) (.none) (.str (so "law_besideweb_k04_whole_twins") 779) (none) (.ref 522) (.none)), #[]⟩ : Obj)) ::
  (nat_lit 527, ({ cls := .type "code", data := .fields #[.str (so "law") 841, .str (so "law") 842, .str (so "/claim/cut.py") 843, .int 285 0, .int 1 0, .int 0 0, .int 0 0, .int 3 0, .ref 524, .bool true, .int 181 0, .ref 525, .none, .none, .none, .ref 526, .int 844 0, .int 285 0, .str (so "/claim/cut.py") 845] } : Obj)) ::
  (nat_lit 528, (⟨.type "function", none, .func (PySem.W.fnOf (so "law") (so "law") (defArgs sLaw) (defBody sLaw) (defScope sLaw) (.none) (.none) (.none) (.str (so "law_besideweb_k04_whole_twins") 779) (none) (.ref 527) (.none)), #[]⟩ : Obj)) :: []
def KAs : List Addr := [3, 30, 31, 43, 44, 55, 56, 67, 68, 76, 77, 83, 84, 88, 89, 95, 96, 102, 103, 109, 110, 124, 125, 131, 132, 138, 139, 145, 146, 148, 149, 166, 167, 173, 174, 180, 181, 187, 188, 190, 191, 207, 208, 214, 215, 221, 222, 228, 229, 233, 234, 240, 241, 243, 244, 259, 260, 266, 267, 269, 270, 285, 286, 292, 293, 295, 296, 311, 312, 316, 317, 321, 322, 328, 329, 335, 336, 342, 343, 356, 357, 363, 364, 366, 367, 384, 385, 391, 392, 394, 395, 410, 411, 417, 418, 420, 421, 429, 430, 434, 435, 441, 442, 446, 447, 453, 454, 458, 459, 465, 466, 472, 473, 477, 478, 484, 485, 491, 492, 496, 497, 503, 504, 515, 516, 522, 523, 527, 528]
def qv : Program := { PySem.Challenge.pw_besideweb_k04_whole_twins with main := { PySem.Challenge.pw_besideweb_k04_whole_twins.main with body := [top 49] } }
def looseK : List Str := [so "_wall", so "WebError", so "BadWeb", so "BadTree", so "NoPoint", so "MOST_POINTS", so "is_below", so "tied", so "has_points", so "check_web", so "check_ties", so "check_points", so "Tree", so "Point", so "Doing", so "Beside", so "Across", so "bracketed", so "check_trees", so "turned", so "among", so "ties_among", so "parts", so "hanging_with", so "Answer", so "Made", so "Row", so "telling", so "goes_on", so "row_in", so "longer_rows", so "tree_among", so "trees_among", so "twins", so "twins_among", so "are_twins", so "_law_cell_at", so "_law_draw", so "_law_web", so "_law_tie", so "_law_four", so "_law_twins", so "_law_gone"]
end Bw
namespace Bw
open PySem PySem.W PyProof.Rows
def kH : Hook := kHook KK KAs (fun _ => by kernel_rfl)
set_option maxHeartbeats 0 in
theorem head_left : LeftO PySem.Challenge.rw_besideweb_k04_whole_twins.row.prog qv looseK (fun s => xlAt qv [] s && recOk (RowW.records (OpenRow.toRowW PySem.Challenge.rw_besideweb_k04_whole_twins.row)) s) kH.obs kH.val 8622 := by
  exact Bw.left_of_tree (m₀ := nat_lit 11) (ann := some (.ref 6)) (by rfl) (by decide) (fun s => by rfl) (fun w => by kernel_rfl) (fun w os => by kernel_rfl)
end Bw

set_option Elab.async false
set_option linter.all false
set_option maxRecDepth 100000
/-! THE HAND LAYER, for ints, bools, texts, own classes, LISTS and tuples (index, slices, in, append, pop ..), calls, loops. Paste it whole ahead of your own text; what your proof does not reach may be deleted. -/
namespace L2
open PySem PySem.Spec PyProof.Rows

/-- a key: an int or a str -/
abbrev Key := Sum Int Str
def keyIs : Key → Value → Bool
  | .inl k, v => Value.isInt k v
  | .inr x, v => Value.isStrOf x v
def keyH (w : World) : Key → Int
  | .inl k => hashInt k
  | .inr x => hashStr w x
theorem keyIs_shape : ∀ {k : Key} {v : Value}, keyIs k v = true → (∃ i t, k = Sum.inl i ∧ v = Value.int i t) ∨ (∃ x t, k = Sum.inr x ∧ v = Value.str x t)
  | .inl i, v, h => by
    obtain ⟨t, e⟩ := Value.isInt_shape (k := i) (v := v) h
    exact .inl ⟨i, t, rfl, e⟩
  | .inr x, v, h => by
    obtain ⟨t, e⟩ := Value.isStrOf_shape (x := x) (v := v) h
    exact .inr ⟨x, t, rfl, e⟩
theorem keyIs_int (i : Int) (t : Tok) : keyIs (.inl i) (.int i t) = true := by simp [keyIs, Value.isInt]
theorem keyIs_str (x : Str) (t : Tok) : keyIs (.inr x) (.str x t) = true := by simp [keyIs, Value.isStrOf]
theorem key_ll (a b : Int) : decide ((Sum.inl a : Key) = Sum.inl b) = (a == b) := by
  by_cases e : a = b
  · subst e; simp
  · have h : ¬ (Sum.inl a : Key) = Sum.inl b := fun q => e (Sum.inl.inj q)
    rw [decide_eq_false h]
    exact (beq_eq_false_iff_ne.mpr e).symm
theorem key_rr (a b : Str) : decide ((Sum.inr a : Key) = Sum.inr b) = decide (a = b) := by
  by_cases e : a = b
  · subst e; simp
  · have h : ¬ (Sum.inr a : Key) = Sum.inr b := fun q => e (Sum.inr.inj q)
    rw [decide_eq_false h, decide_eq_false e]
theorem key_lr (a : Int) (b : Str) : decide ((Sum.inl a : Key) = Sum.inr b) = false := decide_eq_false (fun q => nomatch q)
theorem key_rl (a : Str) (b : Int) : decide ((Sum.inr a : Key) = Sum.inl b) = false := decide_eq_false (fun q => nomatch q)

def mixKind (prog : Program) (w : World) : PySem.KeyKind prog w Key where
  is := keyIs
  hash := keyH w
  inj := fun v a b ha hb => by
    rcases keyIs_shape ha with ⟨i, t, rfl, rfl⟩ | ⟨x, t, rfl, rfl⟩
    · rcases keyIs_shape hb with ⟨j, u, rfl, e⟩ | ⟨y, u, rfl, e⟩
      · injection e with e1 _; rw [e1]
      · exact nomatch e
    · rcases keyIs_shape hb with ⟨j, u, rfl, e⟩ | ⟨y, u, rfl, e⟩
      · exact nomatch e
      · injection e with e1 _; rw [e1]
  byValue := fun k v h => by
    rcases keyIs_shape h with ⟨i, t, rfl, rfl⟩ | ⟨x, t, rfl, rfl⟩ <;> rfl
  pyHash := fun hv h => by
    rcases keyIs_shape hv with ⟨i, t, rfl, rfl⟩ | ⟨x, t, rfl, rfl⟩
    · exact wpAny_pyHash_int h
    · exact wpAny_pyHash_str h
  eqBool := fun hu hv h => by
    rcases keyIs_shape hu with ⟨i, t, rfl, rfl⟩ | ⟨x, t, rfl, rfl⟩
    · rcases keyIs_shape hv with ⟨j, u, rfl, rfl⟩ | ⟨y, u, rfl, rfl⟩
      · rw [key_ll] at h; exact wpAny_eqBool_int h
      · rw [key_lr] at h; exact SeqAt.EqAt.int_str i t y u _ _ _ _ h
    · rcases keyIs_shape hv with ⟨j, u, rfl, rfl⟩ | ⟨y, u, rfl, rfl⟩
      · rw [key_rl] at h; exact SeqAt.EqAt.str_int x t j u _ _ _ _ h
      · rw [key_rr] at h; exact wpAny_eqBool_str h
  «strs» := fun k x t v h => by
    rcases keyIs_shape h with ⟨i, u, rfl, e⟩ | ⟨y, u, rfl, e⟩
    · exact nomatch e
    · injection e with e1 _
      subst e1
      cases v <;> rfl

theorem mixKind_is (prog : Program) (w : World) (k : Key) (v : Value) : (mixKind prog w).is k v = keyIs k v := rfl
theorem mixKind_int (prog : Program) (w : World) (i : Int) (t : Tok) : (mixKind prog w).is (.inl i) (.int i t) = true := keyIs_int i t
theorem mixKind_str (prog : Program) (w : World) (x : Str) (t : Tok) : (mixKind prog w).is (.inr x) (.str x t) = true := keyIs_str x t
end L2

namespace L2
open PySem PySem.Spec PyProof.Rows

/-- a value, without the heap -/
inductive V where
  | non | bl (b : Bool) | int (i : Int) | str (x : Str) | byt (b : Array UInt8) | flt (b : UInt64) | ref (a : Addr) | ty (n : String)
  deriving DecidableEq

def RelV : V → Value → Prop
  | .non, u => u = Value.none
  | .bl b, u => u = Value.bool b
  | .int i, u => ∃ t, u = Value.int i t
  | .str x, u => ∃ t, u = Value.str x t
  | .byt b, u => ∃ t, u = Value.bytes b t
  | .flt b, u => ∃ t, u = Value.float b t
  | .ref a, u => u = Value.ref a
  | .ty n, u => u = Value.type n

abbrev Vals : List V → List Value → Prop := Paired RelV
theorem Vals.length {xs : List V} {us : List Value} (r : Vals xs us) : xs.length = us.length := Paired.length r
theorem Vals.get : ∀ {xs : List V} {us : List Value} {i : Nat} {x : V}, Vals xs us → xs[i]? = some x → ∃ u, us[i]? = some u ∧ RelV x u
  | _, _, _, _, .nil, e => by simp at e
  | _, _, 0, _, .cons r _, e => by simp at e; subst e; exact ⟨_, rfl, r⟩
  | _, _, i + 1, x, .cons _ t, e => by
    obtain ⟨u, h1, h2⟩ := Vals.get (i := i) (x := x) t (by simpa using e)
    exact ⟨u, by simpa using h1, h2⟩
theorem Vals.set {x : V} {u : Value} (r : RelV x u) : ∀ {xs : List V} {us : List Value} (i : Nat), Vals xs us → Vals (xs.set i x) (us.set i u)
  | _, _, _, .nil => .nil
  | _, _, 0, .cons _ t => .cons r t
  | _, _, i + 1, .cons q t => .cons q (Vals.set r i t)
theorem Vals.append : ∀ {xs ys : List V} {us ws : List Value}, Vals xs us → Vals ys ws → Vals (xs ++ ys) (us ++ ws)
  | _, _, _, _, .nil, s => s
  | _, _, _, _, .cons r t, s => .cons r (Vals.append t s)
theorem Vals.take : ∀ {xs : List V} {us : List Value} (n : Nat), Vals xs us → Vals (xs.take n) (us.take n)
  | _, _, 0, _ => .nil
  | _, _, _ + 1, .nil => .nil
  | _, _, n + 1, .cons r t => .cons r (Vals.take n t)
theorem Vals.drop : ∀ {xs : List V} {us : List Value} (n : Nat), Vals xs us → Vals (xs.drop n) (us.drop n)
  | _, _, 0, r => r
  | _, _, _ + 1, .nil => .nil
  | _, _, n + 1, .cons _ t => Vals.drop n t
theorem Vals.none_of : ∀ {xs : List V} {us : List Value} {i : Nat}, Vals xs us → xs[i]? = none → us[i]? = none := fun {xs us i} r e => by
  have h1 := r.length
  have h2 : xs.length ≤ i := List.getElem?_eq_none_iff.mp e
  exact List.getElem?_eq_none_iff.mpr (by omega)

def RelO : Option V → Option Value → Prop
  | some v, some u => RelV v u
  | none, none => True
  | _, _ => False
def KV {κ : Type} : List (κ × V) → List (κ × Value) → Prop := Paired fun (p : κ × V) (q : κ × Value) => p.1 = q.1 ∧ RelV p.2 q.2

/-- a key of a dict (00_mix): an int or a text -/
def kV : Key → V
  | .inl i => .int i
  | .inr x => .str x

/-- what stands at a tracked address -/
inductive HO where
  /-- a list -/
  | lst (xs : List V)
  /-- a tuple (never changes) -/
  | tup (xs : List V)
  /-- a dict whose keys are ints and texts; one whose keys are tuples of ints and texts (the empty one is both) -/
  | dK (kvs : List (Key × V)) | dT (kvs : List (List Key × V))
  /-- a set of ints: its members, its size -/
  | set (S : Int → Bool) (n : Nat)
  /-- an instance of the class at C, its dict at dx, its attributes -/
  | ins (C dx : Addr) (fs : List (Str × V))
  /-- the dict of the instance at x -/
  | own (x : Addr)
  /-- the dict of an exception -/
  | xd (fs : List (Str × V))
  /-- a bound method, f of x -/
  | met (f x : Addr)
  /-- a range object lo, lo + 1, .. below hi -/
  | rng (lo hi : Int)
  /-- a thing that is known to the object (the script; a dict while a loop walks it): read, never written while it is so -/
  | frz (o : Obj) (u : HO)
  /-- a code object's table -/
  | tbl (ps : Array Value)
  /-- any other thing, by what is true of its one object (a def of one's own: SetO a S n := HO.ext fun h => ..) -/
  | ext (φ : Heap → Prop)

abbrev Hp := Addr → Option HO
def upd (H : Hp) (a : Addr) (o : HO) : Hp := fun b => if b = a then some o else H b
theorem upd_same {H : Hp} {a : Addr} {o : HO} : upd H a o a = some o := by unfold upd; rw [if_pos rfl]
theorem upd_ne {H : Hp} {a b : Addr} {o : HO} (h : b ≠ a) : upd H a o b = H b := by unfold upd; rw [if_neg h]
theorem upd_upd {H : Hp} {a : Addr} {o u : HO} : upd (upd H a o) a u = upd H a u := by
  funext b; unfold upd; split <;> rfl
/-- two objects of different content stand apart -/
theorem ne_of {H : Hp} {a b : Addr} {o u : HO} (h : H a = some o) (h' : H b = some u) (d : o ≠ u) : a ≠ b := by
  intro e; subst e; rw [h] at h'; exact d (Option.some.inj h')
theorem ne_of_none {H : Hp} {a b : Addr} {o : HO} (h : H a = some o) (h' : H b = none) : a ≠ b := by
  intro e; subst e; rw [h] at h'; cases h'

section
variable (P : Program) (w : World)
def ObjOk (H : Hp) (h : Heap) (a : Addr) : HO → Prop
  | .lst xs => xs.length ≤ sizeLine ∧ ∃ (its : List Value) (n : Nat), Vals xs its ∧ h.get? a = some { cls := .type "list", data := .seq its.toArray n }
  | .tup xs => xs.length ≤ sizeLine ∧ ∃ its : List Value, Vals xs its ∧ IsTup h a its.toArray
  | .dK kvs => kvs.length ≤ sizeLine ∧ (a == sysModules) = false ∧ ∃ vs, KV kvs vs ∧ h.DictOf (mixKind P w) a vs
  | .dT kvs => kvs.length ≤ sizeLine ∧ (a == sysModules) = false ∧ ∃ xs : List (List Key × Addr × Value),
      Paired (fun (p : List Key × V) (q : List Key × Addr × Value) => p.1 = q.1 ∧ H q.2.1 = some (.tup (p.1.map kV)) ∧ RelV p.2 q.2.2) kvs xs ∧
      ∃ o es ep, h.get? a = some o ∧ o.ExactDict ∧ o.data = .dict es ep ∧ es.toList = xs.map (entryOfKey (tupleKind (mixKind P w))) ∧ (xs.map (·.1)).Nodup
  | .set S n => h.SetOf (intKind P w) a S n
  | .ins C dx fs => H dx = some (.own a) ∧ fs.length ≤ 1000 ∧ dx ≠ a ∧ h.get? a = some (PySem.W.instObj C dx) ∧
      ∃ mA, h.Ns1 dx mA ∧ (∀ f, RelO (fs.lookup f) (mA f)) ∧ PySem.Within mA (fs.map (·.1))
  | .own _ => ∃ o, h.get? a = some o
  | .xd fs => ∃ mA, h.Ns1 a mA ∧ ∀ f, RelO (fs.lookup f) (mA f)
  | .rng lo hi => ∃ t u v, h.get? a = some { cls := .type "range", data := .fields #[.int lo t, .int hi u, .int 1 v] }
  | .frz o u => h.get? a = some o ∧ ObjOk H h a u
  | .tbl ps => h.get? a = some { cls := .none, data := .fields ps }
  | .met f x => h.get? a = some (PySem.W.methodObj (.ref f) (.ref x))
  | .ext φ => φ h ∧ (∃ o, h.get? a = some o) ∧ ∀ h1 h2 : Heap, φ h1 → (∀ o, h1.get? a = some o → h2.get? a = some o) → φ h2
/-- the abstract heap is held -/
def HOk (H : Hp) (h : Heap) : Prop := ∀ a o, H a = some o → ObjOk P w H h a o
end

section
variable {P : Program} {w : World} {H H' : Hp} {h h' : Heap} {a : Addr} {o : HO}
theorem ObjOk.lt (x : ObjOk P w H h a o) : a < h.objs.size := by
  cases o with
  | lst xs => obtain ⟨_, _, _, _, e⟩ := x; exact Heap.lt_size e
  | tup xs => obtain ⟨_, _, _, p⟩ := x; exact p.lt
  | dK kvs => obtain ⟨_, _, _, _, o, _, _, e, _⟩ := x; exact Heap.lt_size e
  | dT kvs => obtain ⟨_, _, _, _, o, _, _, e, _⟩ := x; exact Heap.lt_size e
  | set S n => obtain ⟨o, _, _, _, e, _⟩ := x; exact Heap.lt_size e
  | ins C dx fs => obtain ⟨_, _, _, e, _⟩ := x; exact Heap.lt_size e
  | own y => obtain ⟨_, e⟩ := x; exact Heap.lt_size e
  | xd fs => obtain ⟨_, ⟨_, _, _, e, _⟩, _⟩ := x; exact Heap.lt_size e
  | rng lo hi => obtain ⟨_, _, _, e⟩ := x; exact Heap.lt_size e
  | frz ob u => obtain ⟨e, _⟩ := x; exact Heap.lt_size e
  | tbl ps => exact Heap.lt_size (show h.get? a = some _ from x)
  | met f y => exact Heap.lt_size (show h.get? a = some _ from x)
  | ext φ => obtain ⟨_, ⟨_, e⟩, _⟩ := x; exact Heap.lt_size e
theorem Paired.mapP {α β : Type} {F G : α → β → Prop} : ∀ {l₁ : List α} {l₂ : List β}, Paired F l₁ l₂ → (∀ a b, F a b → G a b) → Paired G l₁ l₂
  | _, _, .nil, _ => .nil
  | _, _, .cons r t, f => .cons (f _ _ r) (Paired.mapP t f)
theorem Paired.imp' {α β : Type} {F G : α → β → Prop} (f : ∀ a b, F a b → G a b) {l₁ : List α} {l₂ : List β} (r : Paired F l₁ l₂) : Paired G l₁ l₂ := Paired.mapP r f
/-- what an object's description leans on: its own object, its own dict, the tuples -/
theorem ObjOk.stay (x : ObjOk P w H h a o) (k : ∀ b u, (b = a ∨ H b = some (.own a)) → h.get? b = some u → h'.get? b = some u)
    (ho : ∀ b, H b = some (.own a) → H' b = some (.own a)) (ht : ∀ b xs, H b = some (.tup xs) → H' b = some (.tup xs)) : ObjOk P w H' h' a o := by
  induction o with
  | lst xs => obtain ⟨z, its, n, r, e⟩ := x; exact ⟨z, its, n, r, k _ _ (.inl rfl) e⟩
  | tup xs => obtain ⟨z, its, r, ob, e, c⟩ := x; exact ⟨z, its, r, ob, k _ _ (.inl rfl) e, c⟩
  | dK kvs => obtain ⟨z, y, vs, r, ob, es, ep, e, c⟩ := x; exact ⟨z, y, vs, r, ob, es, ep, k _ _ (.inl rfl) e, c⟩
  | dT kvs =>
    obtain ⟨z, y, xs, r, ob, es, ep, e, c⟩ := x
    exact ⟨z, y, xs, Paired.mapP r fun p q z => ⟨z.1, ht _ _ z.2.1, z.2.2⟩, ob, es, ep, k _ _ (.inl rfl) e, c⟩
  | set S n => obtain ⟨ob, es, ep, t, e, c⟩ := x; exact ⟨ob, es, ep, t, k _ _ (.inl rfl) e, c⟩
  | ins C dx fs =>
    obtain ⟨d, z, ne, e, mA, ⟨od, es, ep, e2, c⟩, r⟩ := x
    exact ⟨ho _ d, z, ne, k _ _ (.inl rfl) e, mA, ⟨od, es, ep, k _ _ (.inr d) e2, c⟩, r⟩
  | own y => obtain ⟨ob, e⟩ := x; exact ⟨ob, k _ _ (.inl rfl) e⟩
  | xd fs => obtain ⟨mA, ⟨od, es, ep, e, c⟩, r⟩ := x; exact ⟨mA, ⟨od, es, ep, k _ _ (.inl rfl) e, c⟩, r⟩
  | rng lo hi => obtain ⟨t, u, v, e⟩ := x; exact ⟨t, u, v, k _ _ (.inl rfl) e⟩
  | frz ob u ih => obtain ⟨e, q⟩ := x; exact ⟨k _ _ (.inl rfl) e, ih q⟩
  | tbl ps =>
    have e : h.get? a = some { cls := .none, data := .fields ps } := x
    show h'.get? a = some { cls := .none, data := .fields ps }
    exact k a _ (.inl rfl) e
  | met f y =>
    have e : h.get? a = some (PySem.W.methodObj (.ref f) (.ref y)) := x
    show h'.get? a = some (PySem.W.methodObj (.ref f) (.ref y))
    exact k a _ (.inl rfl) e
  | ext φ => obtain ⟨p, ⟨o, e⟩, st⟩ := x; exact ⟨st _ _ p fun o q => k _ _ (.inl rfl) q, ⟨o, k _ _ (.inl rfl) e⟩, st⟩
theorem HOk.lt (x : HOk P w H h) (e : H a = some o) : a < h.objs.size := (x a o e).lt
theorem HOk.fresh (x : HOk P w H h) (e : h.objs.size ≤ a) : H a = none := by
  cases q : H a with
  | none => rfl
  | some u => exact absurd (Nat.lt_of_lt_of_le (x.lt q) e) (Nat.lt_irrefl _)
/-- every object of the heap is kept -/
theorem HOk.kept (x : HOk P w H h) (k : ∀ b u, h.get? b = some u → h'.get? b = some u) : HOk P w H h' := fun a o e =>
  (x a o e).stay (fun b u _ q => k b u q) (fun _ q => q) fun _ _ q => q
/-- a new object is laid and tracked -/
theorem HOk.laid (x : HOk P w H h) (k : ∀ b u, h.get? b = some u → h'.get? b = some u) (hp : h.objs.size ≤ a) (new : ObjOk P w (upd H a o) h' a o) : HOk P w (upd H a o) h' := fun b u e => by
  have hn := x.fresh hp
  by_cases hb : b = a
  · subst hb; rw [upd_same] at e; cases e; exact new
  · rw [upd_ne hb] at e
    exact (x b u e).stay (fun c v _ q => k c v q) (fun c q => by rw [upd_ne (ne_of_none q hn)]; exact q) fun c xs q => by rw [upd_ne (ne_of_none q hn)]; exact q
end

/-- what may be read as u: it is u, or a known u -/
def Rd (H : Hp) (a : Addr) (u : HO) : Prop := H a = some u ∨ ∃ o, H a = some (.frz o u)
theorem Rd.of {H : Hp} {a : Addr} {u : HO} (h : H a = some u) : Rd H a u := .inl h
theorem Rd.ok {P : Program} {w : World} {H : Hp} {h : Heap} {a : Addr} {u : HO} (r : Rd H a u) (x : HOk P w H h) : ObjOk P w H h a u := by
  rcases r with r | ⟨o, r⟩
  · exact x a u r
  · obtain ⟨_, q⟩ := x a _ r
    exact q
/-- what may be written -/
def Mut : Option HO → Prop
  | some (.lst _) => True
  | some (.dK _) => True
  | some (.dT _) => True
  | some (.set _ _) => True
  | some (.ins _ _ _) => True
  | some (.ext _) => True
  | _ => False
section
variable {P : Program} {w : World} {H : Hp} {h h' : Heap} {x e : Addr} {o' : HO}
/-- the object at e is changed: x itself, or the dict of the instance x -/
theorem HOk.write (ok : HOk P w H h) (mu : Mut (H x)) (he : e = x ∨ H e = some (.own x)) (k : ∀ b u, b ≠ e → h.get? b = some u → h'.get? b = some u) (heo : ∃ u, h'.get? e = some u)
    (new : ObjOk P w (upd H x o') h' x o') : HOk P w (upd H x o') h' := fun b u q => by
  have nown : ∀ c y, H c = some (.own y) → c ≠ x := fun c y r z => by subst z; rw [r] at mu; exact mu
  have ntup : ∀ c xs, H c = some (.tup xs) → c ≠ x := fun c xs r z => by subst z; rw [r] at mu; exact mu
  by_cases hb : b = x
  · subst hb; rw [upd_same] at q; cases q; exact new
  · rw [upd_ne hb] at q
    by_cases hbe : b = e
    · have q' : H b = some (.own x) := by
        rcases he with z | z
        · exact absurd (hbe.trans z) hb
        · rw [hbe]; exact z
      rw [q] at q'; cases q'
      obtain ⟨v, hv⟩ := heo
      exact ⟨v, by rw [hbe]; exact hv⟩
    · refine (ok b u q).stay (fun c v hc r => k c v ?_ r) (fun c r => by rw [upd_ne (nown c b r)]; exact r) fun c xs r => by rw [upd_ne (ntup c xs r)]; exact r
      rcases hc with rfl | hc
      · exact hbe
      · rintro rfl
        rcases he with z | z
        · exact nown c b hc z
        · rw [hc] at z; cases z; exact hb rfl
end

/-! ### kept unless tracked; of the frames at fs (the callers') the slots may change (an exception that passes writes there); of the records at ex (iterators) nothing is said -/
structure Un (fs ex : List Addr) (H H' : Hp) (h h' : Heap) : Prop where
  keep : ∀ b o, h.get? b = some o → H b = none → b ∉ fs → b ∉ ex → h'.get? b = some o
  slot : ∀ b o, h.get? b = some o → H b = none → b ∈ fs → b ∉ ex → ∃ sl, h'.get? b = some { o with slots := sl }
  free : ∀ b o, h.get? b = some o → H b = none → b ∉ ex → H' b = none
  there : ∀ b o, h.get? b = some o → b ∉ ex → ∃ o', h'.get? b = some o'
  tups : ∀ b xs, H b = some (.tup xs) → H' b = some (.tup xs)
  frzs : ∀ b o u, H b = some (.frz o u) → H' b = some (.frz o u)
  tbls : ∀ b ps, H b = some (.tbl ps) → ∃ more, H' b = some (.tbl (ps ++ more))
section
variable {fs fs' ex ex' : List Addr} {H H1 H2 : Hp} {h h1 h2 h' : Heap} {a x e : Addr} {o : HO}
theorem Un.any (u : Un fs ex H H1 h h1) {b : Addr} {ob : Obj} (q : h.get? b = some ob) (n : H b = none) (hx : b ∉ ex) : ∃ sl, h1.get? b = some { ob with slots := sl } := by
  by_cases hb : b ∈ fs
  · exact u.slot b ob q n hb hx
  · exact ⟨ob.slots, u.keep b ob q n hb hx⟩
theorem Un.trans (a : Un fs ex H H1 h h1) (b : Un fs ex H1 H2 h1 h2) : Un fs ex H H2 h h2 where
  keep := fun c ob q n hc hx => b.keep c ob (a.keep c ob q n hc hx) (a.free c ob q n hx) hc hx
  slot := fun c ob q n hc hx => by
    obtain ⟨sl, e1⟩ := a.slot c ob q n hc hx
    obtain ⟨sl', e2⟩ := b.slot c _ e1 (a.free c ob q n hx) hc hx
    exact ⟨sl', e2⟩
  free := fun c ob q n hx => by
    obtain ⟨o', e1⟩ := a.there c ob q hx
    exact b.free c o' e1 (a.free c ob q n hx) hx
  there := fun c ob q hx => by
    obtain ⟨o', e1⟩ := a.there c ob q hx
    exact b.there c o' e1 hx
  tups := fun c xs q => b.tups c xs (a.tups c xs q)
  frzs := fun c ob xs q => b.frzs c ob xs (a.frzs c ob xs q)
  tbls := fun c ps q => by
    obtain ⟨m1, e1⟩ := a.tbls c ps q
    obtain ⟨m2, e2⟩ := b.tbls c _ e1
    exact ⟨m1 ++ m2, by rw [e2, Array.append_assoc]⟩
theorem Un.kept (k : ∀ b u, h.get? b = some u → h'.get? b = some u) : Un fs ex H H h h' :=
  ⟨fun b ob q _ _ _ => k b ob q, fun b ob q _ _ _ => ⟨ob.slots, k b ob q⟩, fun _ _ _ n _ => n, fun b ob q _ => ⟨ob, k b ob q⟩, fun _ _ q => q, fun _ _ _ q => q, fun _ ps q => ⟨#[], by rw [q]; simp⟩⟩
theorem Un.refl : Un fs ex H H h h := Un.kept fun _ _ q => q
theorem Un.laid (k : ∀ b u, h.get? b = some u → h'.get? b = some u) (hp : h.objs.size ≤ a) (hn : H a = none) : Un fs ex H (upd H a o) h h' where
  keep := fun b u q _ _ _ => k b u q
  slot := fun b u q _ _ _ => ⟨u.slots, k b u q⟩
  free := fun b u q n _ => by rw [upd_ne (Nat.ne_of_lt (Nat.lt_of_lt_of_le (Heap.lt_size q) hp))]; exact n
  there := fun b u q _ => ⟨u, k b u q⟩
  tups := fun b xs q => by rw [upd_ne (ne_of_none q hn)]; exact q
  frzs := fun b u xs q => by rw [upd_ne (ne_of_none q hn)]; exact q
  tbls := fun b ps q => ⟨#[], by rw [upd_ne (ne_of_none q hn), q]; simp⟩
theorem Un.write (mu : Mut (H x)) (he : e = x ∨ H e = some (.own x)) (k : ∀ b u, b ≠ e → h.get? b = some u → h'.get? b = some u) (heo : ∃ u, h'.get? e = some u) : Un fs ex H (upd H x o) h h' := by
  have hx : ∀ b, H b = none → b ≠ x := fun b n z => by subst z; rw [n] at mu; exact mu
  have hb : ∀ b, H b = none → b ≠ e := fun b n z => by
    subst z
    rcases he with r | r
    · exact hx b n r
    · rw [n] at r; cases r
  have hm : ∀ b u, H b = some u → ¬ Mut (some u) → b ≠ x := fun b u q nm z => by subst z; rw [q] at mu; exact nm mu
  refine ⟨fun b u q n _ _ => k b u (hb b n) q, fun b u q n _ _ => ⟨u.slots, k b u (hb b n) q⟩, fun b u q n _ => by rw [upd_ne (hx b n)]; exact n, fun b u q _ => ?_,
    fun b xs q => by rw [upd_ne (hm b _ q fun z => z)]; exact q, fun b u xs q => by rw [upd_ne (hm b _ q fun z => z)]; exact q, fun b ps q => ⟨#[], by rw [upd_ne (hm b _ q fun z => z), q]; simp⟩⟩
  by_cases hbe : b = e
  · subst hbe; exact heo
  · exact ⟨u, k b u hbe q⟩
theorem Un.mono (u : Un fs ex H H1 h h1) (hs : ∀ b ∈ fs, b ∈ fs') (hx : ∀ b ∈ ex, b ∈ ex') : Un fs' ex' H H1 h h1 :=
  ⟨fun b ob q n hb he => u.keep b ob q n (fun z => hb (hs b z)) fun z => he (hx b z), fun _ _ q n _ he => u.any q n fun z => he (hx _ z), fun b ob q n he => u.free b ob q n fun z => he (hx b z), fun b ob q he => u.there b ob q fun z => he (hx b z), u.tups, u.frzs, u.tbls⟩
end

/-! ### the heap without what is tracked -/
def trk (h : Heap) (H : Hp) : List Addr := (List.range h.objs.size).filter fun a => (H a).isSome
def hidT (h : Heap) (H : Hp) : Heap := PySem.W.hideAll h (trk h H)
theorem hidT_size (h : Heap) (H : Hp) : (hidT h H).objs.size = h.objs.size := PySem.W.hideAll_size _ _
theorem hidT_get {h : Heap} {H : Hp} {b : Addr} {o : Obj} (e : h.get? b = some o) (n : H b = none) : (hidT h H).get? b = some o :=
  PySem.W.hideAll_get _ e fun hm => by
    have q : (H b).isSome = true := (List.mem_filter.mp hm).2
    rw [n] at q; simp at q
theorem of_hidT {h : Heap} {H : Hp} {b : Addr} {o : Obj} (e : (hidT h H).get? b = some o) : h.get? b = some o ∧ H b = none := by
  have e' : h.get? b = some o := PySem.W.of_hideAll (trk h H) e
  refine ⟨e', ?_⟩
  cases q : H b with
  | none => rfl
  | some x =>
    have hm : b ∈ trk h H := List.mem_filter.mpr ⟨List.mem_range.mpr (Heap.lt_size e'), by simp [q]⟩
    have z : (hidT h H).get? b = none := PySem.W.hideAll_none (trk h H) hm
    rw [z] at e; cases e

/-! ### OpenK's ledger, filled with every new object but one -/
def allNews (g h : Heap) (L : Addr) : List (Addr × Obj) := (List.range h.objs.size).filterMap fun a => if a = L ∨ (g.get? a).isSome = true then none else (h.get? a).map fun o => (a, o)
theorem mem_allNews {g h : Heap} {L a : Addr} {o : Obj} (h1 : a ≠ L) (h2 : g.get? a = none) (h3 : h.get? a = some o) : (a, o) ∈ allNews g h L :=
  List.mem_filterMap.mpr ⟨a, List.mem_range.mpr (Heap.lt_size h3), by simp [h1, h2, h3]⟩
theorem of_mem_allNews {g h : Heap} {L : Addr} {p : Addr × Obj} (hp : p ∈ allNews g h L) : p.1 ≠ L ∧ g.get? p.1 = none ∧ h.get? p.1 = some p.2 := by
  obtain ⟨b, _, e⟩ := List.mem_filterMap.mp hp
  split at e
  · cases e
  · rename_i hn
    cases q : h.get? b with
    | none => rw [q] at e; simp at e
    | some u =>
      rw [q] at e
      simp only [Option.map_some, Option.some.injEq] at e
      subst e
      refine ⟨fun z => hn (.inl z), ?_, q⟩
      show g.get? b = none
      cases r : g.get? b with
      | none => rfl
      | some v => exact (hn (.inr (by simp [r]))).elim
def rest (g h : Heap) (L d : Addr) : List (Addr × Obj) := (allNews g h L).filter fun p => decide (p.1 ≠ d)
theorem rest_ne {g h : Heap} {L d : Addr} : ∀ p ∈ rest g h L d, p.1 ≠ d := fun p hp => of_decide_eq_true (List.mem_filter.mp hp).2
theorem mem_rest {g h : Heap} {L d a : Addr} {o : Obj} (h1 : a ≠ L) (h2 : g.get? a = none) (h3 : h.get? a = some o) (h4 : a ≠ d) : (a, o) ∈ rest g h L d :=
  List.mem_filter.mpr ⟨mem_allNews h1 h2 h3, decide_eq_true h4⟩
theorem news_all {g h : Heap} {L : Addr} : News g L h (allNews g h L) := fun p hp => let ⟨a, b, c⟩ := of_mem_allNews hp; ⟨c, a, b⟩
theorem news_at {g h : Heap} {L d : Addr} {o : Obj} (h1 : d ≠ L) (h2 : g.get? d = none) (h3 : h.get? d = some o) : News g L h ((d, o) :: rest g h L d) := fun p hp => by
  rcases List.mem_cons.mp hp with rfl | hp
  · exact ⟨h3, h1, h2⟩
  · exact news_all p (List.mem_filter.mp hp).1
/-- behind a rule that changed d alone: all else but the frame is kept -/
theorem kept_of_news {g h h' : Heap} {L d : Addr} {m : Str → Option Value} (k : ∀ b o, g.get? b = some o → h.get? b = some o) (F : Fr g L h' m) (N : News g L h' (rest g h L d)) :
    ∀ b o, b ≠ L → b ≠ d → h.get? b = some o → h'.get? b = some o := fun b o h1 h2 e => by
  cases q : g.get? b with
  | some u =>
    have := k b u q
    rw [e] at this; cases this
    exact F.keep b _ q
  | none => exact (N (b, o) (mem_rest h1 q e h2)).1
end L2

namespace L2
open PySem PySem.Spec PyProof.Rows

/-- the module's facts, over the base: the heap at the law's entry without what is tracked there -/
structure Mod (K : PySem.W.Frag) (mg : Str → Option Value) (base : Heap) : Prop where
  kin : K.In base
  glob : base.Ns mainGlobals mg
  blt : ∃ mb, base.Ns builtinsNs mb ∧ ∀ x : Str, x ≠ "__name__" → mb x = bootBuiltins x
  nolimit : base.NoLimit

/-- the context: a def's body (or a comprehension's block) running. base: fixed through the whole law; s₀, H₀: the entry; outer: the frames whose slots others may change (a def's callers); stack: all frames that run;
   ex: iterators that were made ahead of the entry and are walked here (a comprehension's); fn: the names whose cells were made at the entry (a def: all; a comprehension's block: its own); calm: not within an except suite; pn: pins that every state bears; xe: what is wanted of an exception that leaves the code -/
structure Cx where
  prog : Program
  w : World
  K : PySem.W.Frag
  mg : Str → Option Value
  base : Heap
  A : Around
  N : List Str
  s₀ : Shared
  H₀ : Hp
  env : Env
  outer : List Env
  stack : List Env
  ex : List Addr
  fn : Str → Bool
  calm : Bool
  pn : List (Addr × Obj)
  xe : Value → Shared → Prop
/-- the callers' frames -/
def frs (l : List Env) : List Addr := l.filterMap (·.frame)
abbrev Cx.fs (X : Cx) : List Addr := frs X.outer

def Vis (sc : Scope) (x : Str) : Prop := sc.names.lookup x = some .local ∨ sc.names.lookup x = some .cell ∨ sc.names.lookup x = some .free
def Loc (sc : Scope) (x : Str) : Prop := sc.names.lookup x = some .local ∨ sc.names.lookup x = some .cell
def Look (env : Env) (h : Heap) (m : Str → Option Value) (x : Str) (u : Value) : Prop :=
  (env.kindOf x = some .local ∧ m x = some u) ∨ ((env.kindOf x = some .cell ∨ env.kindOf x = some .free) ∧ ∃ c, env.cells.lookup x = some c ∧ h.IsCell c (some u))

structure Cx.Ok (X : Cx) : Prop where
  mod : Mod X.K X.mg X.base
  kind : X.env.scope.kind = .function
  glob : X.env.globals = mainGlobals
  blt : X.env.builtins = builtinsNs
  above : X.s₀.heap.objs.size ≤ X.env.locals
  inj : ∀ x y c, X.env.cells.lookup x = some c → X.env.cells.lookup y = some c → x = y
  has : ∀ x, (X.env.kindOf x = some .cell ∨ X.env.kindOf x = some .free) → ∃ c, X.env.cells.lookup x = some c
  cab : ∀ x c, X.fn x = true → X.env.cells.lookup x = some c → X.s₀.heap.objs.size ≤ c
  hd : X.calm = true → X.A.handled = none
  frames : X.A.frames = some X.stack
  stk : X.stack = X.outer ∨ (X.stack = X.env :: X.outer ∧ X.env.frame = some X.env.locals)
  exf : ∀ b ∈ X.ex, b ≠ X.env.locals ∧ ∀ x c, X.env.cells.lookup x = some c → c ≠ b
  bs : ∀ b o, X.base.get? b = some o → X.s₀.heap.get? b = some o ∧ X.H₀ b = none
  bsz : X.base.objs.size ≤ X.s₀.heap.objs.size
  noex : ∀ b o, X.base.get? b = some o → b ∉ X.ex
  exfs : ∀ b ∈ X.ex, b ∉ X.fs
  funs : X.s₀.heap.FunFrames X.base X.outer
  frf : ∀ b ∈ X.fs, X.H₀ b = none

structure Inv (X : Cx) (pins : List (Addr × Obj)) (σ : List (Option V)) (H : Hp) (s : Shared) : Prop where
  ok : X.Ok
  os : s.os = X.s₀.os
  bare : AllBare s.gens
  base : Un X.fs X.ex X.H₀ H X.s₀.heap s.heap
  loc : ∃ m, s.heap.Ns X.env.locals m ∧ ∀ (i : Nat) (x : Str) (v : V), X.N[i]? = some x → σ[i]? = some (some v) → Vis X.env.scope x → ∃ u, RelV v u ∧ Look X.env s.heap m x u
  cell : ∀ x c, X.env.cells.lookup x = some c → ∃ v, s.heap.IsCell c v
  free : H X.env.locals = none
  freeC : ∀ x c, X.env.cells.lookup x = some c → H c = none
  pin : ∀ p ∈ X.pn ++ pins, s.heap.get? p.1 = some p.2 ∧ H p.1 = none ∧ p.1 ≠ X.env.locals ∧ p.1 ∉ X.fs ∧ ∀ v, p.2.data ≠ .cell v
  hok : HOk X.prog X.w H s.heap
  len : σ.length = X.N.length

section
variable {X : Cx} {pins : List (Addr × Obj)} {σ : List (Option V)} {H H' : Hp} {s : Shared} {h' : Heap}

theorem Cx.Ok.nofr (ok : X.Ok) {b : Addr} {o : Obj} (e : X.base.get? b = some o) : b ∉ X.fs := fun hb => by
  have := (ok.funs.mem hb).1
  rw [e] at this; cases this
theorem Inv.bs (I : Inv X pins σ H s) : ∀ b o, X.base.get? b = some o → s.heap.get? b = some o ∧ H b = none := fun b o e =>
  ⟨I.base.keep b o (I.ok.bs b o e).1 (I.ok.bs b o e).2 (I.ok.nofr e) (I.ok.noex b o e), I.base.free b o (I.ok.bs b o e).1 (I.ok.bs b o e).2 (I.ok.noex b o e)⟩
theorem Inv.bk (I : Inv X pins σ H s) : ∀ b o, X.base.get? b = some o → s.heap.get? b = some o := fun b o e => (I.bs b o e).1
theorem Inv.mod (I : Inv X pins σ H s) : Mod X.K X.mg X.base := I.ok.mod
theorem Inv.kIn (I : Inv X pins σ H s) : X.K.In s.heap := I.ok.mod.kin.keeps I.bk
theorem Inv.nolimit (I : Inv X pins σ H s) : s.heap.NoLimit := I.ok.mod.nolimit.keeps I.bk
/-- the frame over the base: for OpenK's rules (K.In X.base is I.mod.kin) -/
theorem Inv.fr (I : Inv X pins σ H s) : ∃ m, Fr X.base X.env.locals s.heap m :=
  let ⟨m, hn, _⟩ := I.loc
  ⟨m, hn, I.bk, Nat.le_trans I.ok.bsz I.ok.above⟩
theorem Inv.lt (I : Inv X pins σ H s) : X.env.locals < s.heap.objs.size := let ⟨_, hn, _⟩ := I.loc; hn.lt
theorem Inv.sz (I : Inv X pins σ H s) : X.s₀.heap.objs.size ≤ s.heap.objs.size := Nat.le_trans I.ok.above (Nat.le_of_lt I.lt)
theorem Inv.nofs (I : Inv X pins σ H s) {a : Addr} (h : s.heap.objs.size ≤ a) : a ∉ X.fs := fun hb => by
  obtain ⟨_, o, ho, _⟩ := I.ok.funs.mem hb
  exact absurd (Nat.lt_of_lt_of_le (Heap.lt_size ho) (Nat.le_trans I.sz h)) (Nat.lt_irrefl _)
theorem Inv.cne (I : Inv X pins σ H s) : ∀ x c, X.env.cells.lookup x = some c → c ≠ X.env.locals := fun x c e z => by
  obtain ⟨v, o, ho, hd⟩ := I.cell x c e
  obtain ⟨m, ⟨o', es, ep, ho', hd', _⟩, _⟩ := I.loc
  rw [z, ho'] at ho; cases ho; rw [hd'] at hd; cases hd
theorem Inv.funs (I : Inv X pins σ H s) : s.heap.FunFrames X.base X.outer := by
  have all : ∀ (l : List Env), (∀ b ∈ frs l, b ∈ X.fs) → X.s₀.heap.FunFrames X.base l → s.heap.FunFrames X.base l := by
    intro l
    induction l with
    | nil => intro _ _; trivial
    | cons env r ih =>
      intro hs hl
      obtain ⟨hk, ⟨L, o, hf, hn, ho, hd⟩, hr⟩ := hl
      have hL : L ∈ X.fs := hs L (by unfold frs; rw [List.filterMap_cons, hf]; exact List.mem_cons_self)
      obtain ⟨sl, e⟩ := I.base.slot L o ho (I.ok.frf L hL) hL fun z => I.ok.exfs L z hL
      exact ⟨hk, ⟨L, _, hf, hn, e, hd⟩, ih (fun b hb => hs b (by unfold frs; rw [List.filterMap_cons, hf]; exact List.mem_cons_of_mem _ hb)) hr⟩
  exact all X.outer (fun _ hb => hb) I.ok.funs

/-- the frames that run, for a call -/
theorem Inv.stack (I : Inv X pins σ H s) : s.heap.FunFrames X.base X.stack := by
  rcases I.ok.stk with e | ⟨e, hf⟩
  · rw [e]; exact I.funs
  · rw [e]
    obtain ⟨m, hn, _⟩ := I.loc
    refine .cons (by rw [I.ok.kind]; decide) hf hn ?_ I.funs
    exact Heap.get?_none_of_le (Nat.le_trans I.ok.bsz I.ok.above)
theorem Inv.stkSub (I : Inv X pins σ H s) : ∀ b ∈ frs X.stack, b ∈ X.env.locals :: X.fs := fun b hb => by
  rcases I.ok.stk with e | ⟨e, hf⟩
  · rw [e] at hb; exact List.mem_cons_of_mem _ hb
  · rw [e] at hb
    unfold frs at hb
    rw [List.filterMap_cons, hf] at hb
    exact hb
theorem Inv.stkFree (I : Inv X pins σ H s) : ∀ b ∈ frs X.stack, H b = none := fun b hb => by
  rcases List.mem_cons.mp (I.stkSub b hb) with e | hb
  · rw [e]; exact I.free
  · obtain ⟨_, o, ho, _⟩ := I.ok.funs.mem hb
    exact I.base.free b o ho (I.ok.frf b hb) fun z => I.ok.exfs b z hb

/-- THE STEP: the untracked objects but the frame and the records at ch are kept (the callers' frames up to slots), the frame's map is kept, the new abstract heap is held -/
theorem Inv.step {g' : Array GenState} {t' : Nat} {d' : Drawn} {ch : List Addr} (I : Inv X pins σ H s)
    (hch : ∀ b ∈ ch, (b ∈ X.ex ∨ X.s₀.heap.objs.size ≤ b) ∧ b ≠ X.env.locals ∧ (∀ x c, X.env.cells.lookup x = some c → c ≠ b) ∧ ∀ p ∈ X.pn ++ pins, p.1 ≠ b)
    (keep : ∀ b o, b ≠ X.env.locals → b ∉ X.fs → b ∉ ch → s.heap.get? b = some o → H b = none → h'.get? b = some o)
    (slot : ∀ b o, b ≠ X.env.locals → b ∈ X.fs → b ∉ ch → s.heap.get? b = some o → H b = none → ∃ sl, h'.get? b = some { o with slots := sl }) (free : ∀ b o, b ∉ ch → s.heap.get? b = some o → H b = none → H' b = none)
    (there : ∀ b o, b ∉ ch → s.heap.get? b = some o → ∃ o', h'.get? b = some o')
    (tups : ∀ b xs, H b = some (.tup xs) → H' b = some (.tup xs)) (frzs : ∀ b o u, H b = some (.frz o u) → H' b = some (.frz o u)) (tbls : ∀ b ps, H b = some (.tbl ps) → ∃ more, H' b = some (.tbl (ps ++ more)))
    (ns : ∀ m, s.heap.Ns X.env.locals m → h'.Ns X.env.locals m) (hok : HOk X.prog X.w H' h') (hg : AllBare g') :
    Inv X pins σ H' { s with heap := h', gens := g', drawn := d', toks := t' } := by
  have neL : ∀ b o, X.s₀.heap.get? b = some o → b ≠ X.env.locals := fun b o e => Nat.ne_of_lt (Nat.lt_of_lt_of_le (Heap.lt_size e) I.ok.above)
  have neC : ∀ b o, X.s₀.heap.get? b = some o → b ∉ X.ex → b ∉ ch := fun b o e hx hb => by
    rcases (hch b hb).1 with z | z
    · exact hx z
    · exact absurd (Nat.lt_of_lt_of_le (Heap.lt_size e) z) (Nat.lt_irrefl _)
  have cellK : ∀ x c, X.env.cells.lookup x = some c → ∀ v, s.heap.IsCell c v → h'.IsCell c v := fun x c e v ⟨o, ho, hd⟩ => by
    have nch : c ∉ ch := fun z => (hch c z).2.2.1 x c e rfl
    by_cases hc : c ∈ X.fs
    · obtain ⟨sl, q⟩ := slot c o (I.cne x c e) hc nch ho (I.freeC x c e)
      exact ⟨_, q, hd⟩
    · exact ⟨o, keep c o (I.cne x c e) hc nch ho (I.freeC x c e), hd⟩
  refine ⟨I.ok, I.os, hg, ⟨fun b o e n hb hx => ?_, fun b o e n hb hx => ?_, fun b o e n hx => ?_, fun b o e hx => ?_, fun b xs e => tups b xs (I.base.tups b xs e), fun b o xs e => frzs b o xs (I.base.frzs b o xs e), fun b ps e => ?_⟩, ?_, fun x c e => ?_, ?_, fun x c e => ?_, fun p hp => ?_, hok, I.len⟩
  · exact keep b o (neL b o e) hb (neC b o e hx) (I.base.keep b o e n hb hx) (I.base.free b o e n hx)
  · obtain ⟨sl, e1⟩ := I.base.slot b o e n hb hx
    obtain ⟨sl', e2⟩ := slot b _ (neL b o e) hb (neC b o e hx) e1 (I.base.free b o e n hx)
    exact ⟨sl', e2⟩
  · obtain ⟨o', e1⟩ := I.base.there b o e hx
    exact free b o' (neC b o e hx) e1 (I.base.free b o e n hx)
  · obtain ⟨o', e1⟩ := I.base.there b o e hx
    exact there b o' (neC b o e hx) e1
  · obtain ⟨m1, e1⟩ := I.base.tbls b ps e
    obtain ⟨m2, e2⟩ := tbls b _ e1
    exact ⟨m1 ++ m2, by rw [e2, Array.append_assoc]⟩
  · obtain ⟨m, hn, hl⟩ := I.loc
    refine ⟨m, ns m hn, fun i x v e1 e2 e3 => ?_⟩
    obtain ⟨u, r, l⟩ := hl i x v e1 e2 e3
    refine ⟨u, r, ?_⟩
    rcases l with l | ⟨k, c, e, z⟩
    · exact .inl l
    · exact .inr ⟨k, c, e, cellK x c e _ z⟩
  · obtain ⟨v, z⟩ := I.cell x c e
    exact ⟨v, cellK x c e v z⟩
  · obtain ⟨m, ⟨o, _, _, ho, _⟩, _⟩ := I.loc
    exact free _ o (fun z => (hch _ z).2.1 rfl) ho I.free
  · obtain ⟨v, o, ho, hd⟩ := I.cell x c e
    exact free c o (fun z => (hch c z).2.2.1 x c e rfl) ho (I.freeC x c e)
  · obtain ⟨e, n, ne, nf, d⟩ := I.pin p hp
    have nch : p.1 ∉ ch := fun z => (hch p.1 z).2.2.2 p hp rfl
    exact ⟨keep p.1 p.2 ne nf nch e n, free p.1 p.2 nch e n, ne, nf, d⟩
/-- .. where the frame's own object is kept too -/
theorem Inv.un {t' : Nat} (I : Inv X pins σ H s) (u : Un X.fs [] H H' s.heap h') (hok : HOk X.prog X.w H' h') : Inv X pins σ H' { s with heap := h', toks := t' } := by
  obtain ⟨m, ⟨o, es, ep, ho, r⟩, _⟩ := id I.loc
  obtain ⟨sl, hL⟩ := u.any ho I.free (by simp)
  exact I.step (g' := s.gens) (d' := s.drawn) (ch := []) (fun _ z => nomatch z) (fun b o _ hb _ e n => u.keep b o e n hb (by simp)) (fun b o _ hb _ e n => u.slot b o e n hb (by simp)) (fun b o _ e n => u.free b o e n (by simp)) (fun b o _ e => u.there b o e (by simp)) u.tups u.frzs u.tbls (fun m' hm => by
    obtain ⟨o', es', ep', ho', r'⟩ := hm
    rw [ho] at ho'; cases ho'
    exact ⟨_, es', ep', hL, r'⟩) hok I.bare
/-- behind a call (or a comprehension's block): the slots of this frame may have changed too, the records at ch may have turned -/
theorem Inv.call {g' : Array GenState} {t' : Nat} {d' : Drawn} {ch : List Addr} (I : Inv X pins σ H s) (u : Un (frs X.stack) ch H H' s.heap h') (hok : HOk X.prog X.w H' h') (hg : AllBare g')
    (hch : ∀ b ∈ ch, (b ∈ X.ex ∨ X.s₀.heap.objs.size ≤ b) ∧ b ≠ X.env.locals ∧ (∀ x c, X.env.cells.lookup x = some c → c ≠ b) ∧ ∀ p ∈ X.pn ++ pins, p.1 ≠ b) :
    Inv X pins σ H' { s with heap := h', gens := g', drawn := d', toks := t' } := by
  obtain ⟨m, ⟨o, es, ep, ho, r⟩, _⟩ := id I.loc
  obtain ⟨sl, hL⟩ := u.any ho I.free fun z => (hch _ z).2.1 rfl
  exact I.step (ch := ch) hch (fun b o hL hb hc e n => u.keep b o e n (fun z => (List.mem_cons.mp (I.stkSub b z)).elim hL hb) hc) (fun b o _ _ hc e n => u.any e n hc) (fun b o hc e n => u.free b o e n hc) (fun b o hc e => u.there b o e hc) u.tups u.frzs u.tbls (fun m' hm => by
    obtain ⟨o', es', ep', ho', r'⟩ := hm
    rw [ho] at ho'; cases ho'
    exact ⟨_, es', ep', hL, r'⟩) hok hg
/-- an untracked record of ours (an iterator) has turned -/
theorem Inv.turned {t' : Nat} {it : Addr} (I : Inv X pins σ H s) (k : ∀ b o, b ≠ it → s.heap.get? b = some o → h'.get? b = some o) (hn : H it = none) (hL : it ≠ X.env.locals)
    (h1 : it ∈ X.ex ∨ X.s₀.heap.objs.size ≤ it) (h2 : ∀ x c, X.env.cells.lookup x = some c → c ≠ it) (h3 : ∀ p ∈ X.pn ++ pins, p.1 ≠ it) : Inv X pins σ H { s with heap := h', toks := t' } := by
  have nit : ∀ b u, H b = some u → b ≠ it := fun b u e z => by rw [z, hn] at e; cases e
  refine I.step (g' := s.gens) (d' := s.drawn) (ch := [it]) (fun b hb => ?_) (fun b o _ _ hc e _ => k b o (fun z => hc (by simp [z])) e) (fun b o _ _ hc e _ => ⟨o.slots, k b o (fun z => hc (by simp [z])) e⟩) (fun _ _ _ _ n => n)
    (fun b o hc e => ⟨o, k b o (fun z => hc (by simp [z])) e⟩) (fun _ _ e => e) (fun _ _ _ e => e) (fun b ps e => ⟨#[], by rw [e]; simp⟩) (fun m hm => ?_) (fun b u e => ?_) I.bare
  · have e : b = it := by simpa using hb
    subst e
    exact ⟨h1, hL, h2, h3⟩
  · obtain ⟨o, es, ep, ho, r⟩ := hm
    exact ⟨o, es, ep, k _ o (Ne.symm hL) ho, r⟩
  · refine (I.hok b u e).stay (fun c v hc q => k c v ?_ q) (fun _ q => q) fun _ _ q => q
    rcases hc with z | z
    · rw [z]; exact nit b u e
    · exact nit c _ z
theorem Inv.tok (I : Inv X pins σ H s) (t : Nat) : Inv X pins σ H { s with toks := t } := I.un (h' := s.heap) (t' := t) Un.refl I.hok
/-- all objects kept -/
theorem Inv.kept {t' : Nat} (I : Inv X pins σ H s) (k : ∀ b u, s.heap.get? b = some u → h'.get? b = some u) : Inv X pins σ H { s with heap := h', toks := t' } := I.un (Un.kept k) (I.hok.kept k)
/-- a new object laid and tracked -/
theorem Inv.laid {a : Addr} {o : HO} {t' : Nat} (I : Inv X pins σ H s) (k : ∀ b u, s.heap.get? b = some u → h'.get? b = some u) (hp : s.heap.objs.size ≤ a) (new : ObjOk X.prog X.w (upd H a o) h' a o) :
    Inv X pins σ (upd H a o) { s with heap := h', toks := t' } := I.un (Un.laid k hp (I.hok.fresh hp)) (I.hok.laid k hp new)
/-- an object written -/
theorem Inv.write {x e : Addr} {o : HO} {t' : Nat} (I : Inv X pins σ H s) (mu : Mut (H x)) (he : e = x ∨ H e = some (.own x)) (k : ∀ b u, b ≠ e → s.heap.get? b = some u → h'.get? b = some u) (heo : ∃ u, h'.get? e = some u)
    (new : ObjOk X.prog X.w (upd H x o) h' x o) : Inv X pins σ (upd H x o) { s with heap := h', toks := t' } := I.un (Un.write mu he k heo) (I.hok.write mu he k heo new)
/-- forgetting slots, pins -/
theorem Inv.weak {σ' : List (Option V)} (I : Inv X pins σ H s) (hl : σ'.length = σ.length) (w : ∀ (i : Nat) v, σ'[i]? = some (some v) → σ[i]? = some (some v)) : Inv X pins σ' H s :=
  ⟨I.ok, I.os, I.bare, I.base, let ⟨m, hn, hl'⟩ := I.loc; ⟨m, hn, fun i x v e1 e2 e3 => hl' i x v e1 (w i v e2) e3⟩, I.cell, I.free, I.freeC, I.pin, I.hok, hl.trans I.len⟩
theorem Inv.pins_of {pins' : List (Addr × Obj)} (I : Inv X pins σ H s) (h : ∀ p ∈ pins', s.heap.get? p.1 = some p.2 ∧ H p.1 = none ∧ p.1 ≠ X.env.locals ∧ p.1 ∉ X.fs ∧ ∀ v, p.2.data ≠ .cell v) : Inv X pins' σ H s :=
  ⟨I.ok, I.os, I.bare, I.base, I.loc, I.cell, I.free, I.freeC, fun p hp => (List.mem_append.mp hp).elim (fun z => I.pin p (List.mem_append_left _ z)) (h p), I.hok, I.len⟩

theorem nodup_ix {N : List Str} (hN : N.Nodup) {i j : Nat} {x : Str} (a : N[i]? = some x) (b : N[j]? = some x) : i = j := by
  obtain ⟨h1, e1⟩ := List.getElem?_eq_some_iff.mp a
  obtain ⟨h2, e2⟩ := List.getElem?_eq_some_iff.mp b
  exact (List.getElem_inj hN).mp (e1.trans e2.symm)

/-- a name is stored; what changed -/
theorem store_ok2 {M : Model} {A : Around} {E : Value → Shared → Prop} {i : Nat} {x : Str} {v : V} {u : Value} {Q : Unit → Shared → Prop} (I : Inv X pins σ H s) (hN : X.N.Nodup) (hi : X.N[i]? = some x) (hx : Loc X.env.scope x) (r : RelV v u)
    (h : ∀ s', Inv X pins (σ.set i (some v)) H s' → (∃ a, Heap.SameBut a s.heap s'.heap ∧ (a = X.env.locals ∨ X.env.cells.lookup x = some a)) → Q () s') (hf : X.fn x = true ∨ X.env.scope.names.lookup x = some .local := by first | exact .inl rfl | exact .inr rfl | assumption) : wpAny M A (storeName X.env x u) Q E s := by
  obtain ⟨m, hn, hl⟩ := id I.loc
  have hcls : (X.env.scope.kind == .class || (X.env.scope.kind == .module && X.env.locals != X.env.globals)) = false := by rw [I.ok.kind]; rfl
  have hiσ : i < σ.length := by rw [I.len]; exact (List.getElem?_eq_some_iff.mp hi).1
  have cne := I.cne
  have tracked : ∀ {a : Addr} {h' : Heap}, (∃ o, s.heap.get? a = some o ∧ H a = none) → Heap.SameBut a s.heap h' → HOk X.prog X.w H h' := fun {a h'} ha hs b ob e => by
    obtain ⟨_, _, hfree⟩ := ha
    refine (I.hok b ob e).stay (fun c w' hc q => (hs.2 c ?_).trans q) (fun _ q => q) fun _ _ q => q
    rintro rfl
    rcases hc with rfl | hc
    · rw [hfree] at e; cases e
    · rw [hfree] at hc; cases hc
  rcases hx with hk | hk
  · refine wpAny_storeName_local hk hn (fun h' hn' hs => ?_) hcls
    obtain ⟨oL, _, _, hoL, _⟩ := id hn
    refine h _ ⟨I.ok, I.os, I.bare, ⟨fun b o e n hb hx => ?_, fun b o e n hb hx => ?_, I.base.free, fun b o e hx => ?_, I.base.tups, I.base.frzs, I.base.tbls⟩, ⟨_, hn', fun j y v' e1 e2 e3 => ?_⟩, fun y c e => ?_, I.free, I.freeC, fun p hp => ?_, tracked ⟨oL, hoL, I.free⟩ hs, by simpa using I.len⟩ ⟨_, hs, .inl rfl⟩
    · exact (hs.2 b (Nat.ne_of_lt (Nat.lt_of_lt_of_le (Heap.lt_size e) I.ok.above))).trans (I.base.keep b o e n hb hx)
    · obtain ⟨sl, e1⟩ := I.base.slot b o e n hb hx
      exact ⟨sl, (hs.2 b (Nat.ne_of_lt (Nat.lt_of_lt_of_le (Heap.lt_size e) I.ok.above))).trans e1⟩
    · obtain ⟨o', e1⟩ := I.base.there b o e hx
      exact ⟨o', (hs.2 b (Nat.ne_of_lt (Nat.lt_of_lt_of_le (Heap.lt_size e) I.ok.above))).trans e1⟩
    · by_cases hj : j = i
      · subst hj
        rw [hi] at e1; cases e1
        rw [List.getElem?_set_self hiσ] at e2
        cases e2
        exact ⟨u, r, .inl ⟨hk, by simp⟩⟩
      · rw [List.getElem?_set_ne (Ne.symm hj)] at e2
        obtain ⟨u', r', q⟩ := hl j y v' e1 e2 e3
        refine ⟨u', r', ?_⟩
        rcases q with ⟨k, e⟩ | ⟨k, c, e, z⟩
        · refine .inl ⟨k, ?_⟩
          have : y ≠ x := fun e => hj (nodup_ix hN e1 (e ▸ hi))
          simp [this, e]
        · exact .inr ⟨k, c, e, z.sameBut hs (cne y c e)⟩
    · obtain ⟨w', z⟩ := I.cell y c e
      exact ⟨w', z.sameBut hs (cne y c e)⟩
    · obtain ⟨e, n, ne, nf, d⟩ := I.pin p hp
      exact ⟨(hs.2 p.1 ne).trans e, n, ne, nf, d⟩
  · have hfn : X.fn x = true := by
      rcases hf with z | z
      · exact z
      · rw [z] at hk; cases hk
    obtain ⟨c, hc⟩ := I.ok.has x (.inl hk)
    obtain ⟨w', z⟩ := I.cell x c hc
    refine wpAny_storeName_cell I.ok.kind hk hc z (fun h' hc' hs => ?_)
    obtain ⟨oc, hoc, hocd⟩ := id z
    refine h { s with heap := h' } ⟨I.ok, I.os, I.bare, ⟨fun b o e n hb hx => ?_, fun b o e n hb hx => ?_, I.base.free, fun b o e hx => ?_, I.base.tups, I.base.frzs, I.base.tbls⟩, ⟨m, hn.sameBut hs (Ne.symm (cne x c hc)), fun j y v' e1 e2 e3 => ?_⟩, fun y c' e => ?_, I.free, I.freeC, fun p hp => ?_, tracked ⟨oc, hoc, I.freeC x c hc⟩ hs, by simpa using I.len⟩ ⟨c, hs, .inr hc⟩
    · exact (hs.2 b (Nat.ne_of_lt (Nat.lt_of_lt_of_le (Heap.lt_size e) (I.ok.cab x c hfn hc)))).trans (I.base.keep b o e n hb hx)
    · obtain ⟨sl, e1⟩ := I.base.slot b o e n hb hx
      exact ⟨sl, (hs.2 b (Nat.ne_of_lt (Nat.lt_of_lt_of_le (Heap.lt_size e) (I.ok.cab x c hfn hc)))).trans e1⟩
    · obtain ⟨o', e1⟩ := I.base.there b o e hx
      exact ⟨o', (hs.2 b (Nat.ne_of_lt (Nat.lt_of_lt_of_le (Heap.lt_size e) (I.ok.cab x c hfn hc)))).trans e1⟩
    · by_cases hj : j = i
      · subst hj
        rw [hi] at e1; cases e1
        rw [List.getElem?_set_self hiσ] at e2
        cases e2
        exact ⟨u, r, .inr ⟨.inl hk, c, hc, hc'⟩⟩
      · rw [List.getElem?_set_ne (Ne.symm hj)] at e2
        obtain ⟨u', r', q⟩ := hl j y v' e1 e2 e3
        refine ⟨u', r', ?_⟩
        rcases q with q | ⟨k, c', e, z'⟩
        · exact .inl q
        · refine .inr ⟨k, c', e, z'.sameBut hs ?_⟩
          rintro rfl
          exact hj (nodup_ix hN e1 (I.ok.inj _ _ _ e hc ▸ hi))
    · by_cases hcc : c' = c
      · subst hcc; exact ⟨_, hc'⟩
      · obtain ⟨w2, z2⟩ := I.cell y c' e
        exact ⟨w2, z2.sameBut hs hcc⟩
    · obtain ⟨e, n, ne, nf, d⟩ := I.pin p hp
      refine ⟨(hs.2 p.1 ?_).trans e, n, ne, nf, d⟩
      intro q
      rw [q, hoc] at e
      have q' : oc = p.2 := Option.some.inj e
      exact d w' (by rw [← q']; exact hocd)
theorem store_ok {M : Model} {A : Around} {E : Value → Shared → Prop} {i : Nat} {x : Str} {v : V} {u : Value} {Q : Unit → Shared → Prop} (I : Inv X pins σ H s) (hN : X.N.Nodup) (hi : X.N[i]? = some x) (hx : Loc X.env.scope x) (r : RelV v u)
    (h : ∀ s', Inv X pins (σ.set i (some v)) H s' → Q () s') (hf : X.fn x = true ∨ X.env.scope.names.lookup x = some .local := by first | exact .inl rfl | exact .inr rfl | assumption) : wpAny M A (storeName X.env x u) Q E s :=
  store_ok2 I hN hi hx r (fun s' I' _ => h s' I') hf
/-- behind a call or a block, the state as it is -/
theorem Inv.call' {s' : Shared} {ch : List Addr} (I : Inv X pins σ H s) (ho : s'.os = s.os) (u : Un (frs X.stack) ch H H' s.heap s'.heap) (hok : HOk X.prog X.w H' s'.heap) (hg : AllBare s'.gens)
    (hch : ∀ b ∈ ch, (b ∈ X.ex ∨ X.s₀.heap.objs.size ≤ b) ∧ b ≠ X.env.locals ∧ (∀ x c, X.env.cells.lookup x = some c → c ≠ b) ∧ ∀ p ∈ X.pn ++ pins, p.1 ≠ b) : Inv X pins σ H' s' := by
  obtain ⟨h', g', d', t', o'⟩ := s'
  have e : o' = s.os := ho
  subst e
  exact I.call (g' := g') (t' := t') (d' := d') u hok hg hch
end

/-! ### the judgements -/
/-- an exception: its class, its own dict's address (where it has one), the abstract heap behind it -/
abbrev XK := Value → Option Addr → Hp → Prop
abbrev St := List (Option V)
abbrev VK := V → Hp → Prop
/-- an expression's reading; a test's; an argument list's -/
abbrev TE := St → Hp → VK → Prop
abbrev TT := St → Hp → (Bool → Hp → Prop) → Prop
abbrev TA := St → Hp → (List V → Hp → Prop) → Prop
/-- what is wanted behind a statement -/
structure Ends where
  nx : St → Hp → Prop
  rt : VK
  bk : St → Hp → Prop := fun _ _ => False
  ct : St → Hp → Prop := fun _ _ => False
abbrev TS := Ends → St → Hp → Prop

def EP (X : Cx) (pins : List (Addr × Obj)) (σ : St) (Q : VK) (u : Value) (s' : Shared) : Prop := ∃ v H', Inv X pins σ H' s' ∧ RelV v u ∧ Q v H'
def TP (X : Cx) (pins : List (Addr × Obj)) (σ : St) (Q : Bool → Hp → Prop) (b : Bool) (s' : Shared) : Prop := ∃ H', Inv X pins σ H' s' ∧ Q b H'
def AP (X : Cx) (pins : List (Addr × Obj)) (σ : St) (Q : List V → Hp → Prop) (us : List Value) (s' : Shared) : Prop := ∃ vs H', Inv X pins σ H' s' ∧ Vals vs us ∧ Q vs H'
def SP (X : Cx) (pins : List (Addr × Obj)) (D : Ends) (f : Flow) (s' : Shared) : Prop :=
  match f with
  | .next => ∃ σ' H', Inv X pins σ' H' s' ∧ D.nx σ' H'
  | .brk => ∃ σ' H', Inv X pins σ' H' s' ∧ D.bk σ' H'
  | .cont => ∃ σ' H', Inv X pins σ' H' s' ∧ D.ct σ' H'
  | .ret u => ∃ v σ' H', Inv X pins σ' H' s' ∧ RelV v u ∧ D.rt v H'

def PE (X : Cx) (e : Expr) (t : TE) : Prop :=
  ∀ (pins : List (Addr × Obj)) (s : Shared) (σ : St) (H : Hp) (Q : VK), Inv X pins σ H s → t σ H Q → wpAny (model X.prog X.w) X.A (eval e X.env) (EP X pins σ Q) X.xe s
def PT (X : Cx) (e : Expr) (t : TT) : Prop :=
  ∀ (pins : List (Addr × Obj)) (s : Shared) (σ : St) (H : Hp) (Q : Bool → Hp → Prop), Inv X pins σ H s → t σ H Q → wpAny (model X.prog X.w) X.A (isTrue e X.env (eval e X.env)) (TP X pins σ Q) X.xe s
/-- a test whatever its 'whole' is (and, or) -/
def PW (X : Cx) (e : Expr) (t : TT) : Prop :=
  ∀ (whole : Sem Value) (pins : List (Addr × Obj)) (s : Shared) (σ : St) (H : Hp) (Q : Bool → Hp → Prop), Inv X pins σ H s → t σ H Q → wpAny (model X.prog X.w) X.A (isTrue e X.env whole) (TP X pins σ Q) X.xe s
theorem PW.pt {X : Cx} {e : Expr} {t : TT} (h : PW X e t) : PT X e t := h _
/-- an argument list (no star), from the left -/
def PA (X : Cx) (es : List Expr) (t : TA) : Prop :=
  ∀ (pos : Pos) (pins : List (Addr × Obj)) (s : Shared) (σ : St) (H : Hp) (Q : List V → Hp → Prop), Inv X pins σ H s → t σ H Q → wpAny (model X.prog X.w) X.A (spliced (backTo pos (starEach es X.env))) (AP X pins σ Q) X.xe s
def PS (X : Cx) (st : Stmt) (t : TS) : Prop :=
  ∀ (pins : List (Addr × Obj)) (s : Shared) (σ : St) (H : Hp) (D : Ends), Inv X pins σ H s → t D σ H → wpAny (model X.prog X.w) X.A (exec st X.env) (SP X pins D) X.xe s
def PSs (X : Cx) (st : List Stmt) (t : TS) : Prop :=
  ∀ (pins : List (Addr × Obj)) (s : Shared) (σ : St) (H : Hp) (D : Ends), Inv X pins σ H s → t D σ H → wpAny (model X.prog X.w) X.A (execs st X.env) (SP X pins D) X.xe s
/-- weaken the end -/
theorem thn {α : Type} {t : Sem α} {Q Q' : α → Shared → Prop} {M : Model} {A : Around} {E : Value → Shared → Prop} {s : Shared} (h : wpAny M A t Q E s) (hQ : ∀ a s, Q a s → Q' a s) : wpAny M A t Q' E s := wpAny_mono h hQ fun _ _ x => x
end L2

namespace L2
open PySem PySem.Spec PyProof.Rows
section
variable {X : Cx}

/-- two expressions in a row -/
theorem bin {a b : Expr} {ta tb : TE} (ha : PE X a ta) (hb : PE X b tb) {pins : List (Addr × Obj)} {s : Shared} {σ : St} {H : Hp} {R : V → V → Hp → Prop} (I : Inv X pins σ H s) (h : ta σ H fun x H1 => tb σ H1 fun y H2 => R x y H2)
    {α : Type} {Q : α → Shared → Prop} {f : Value → Value → Sem α}
    (hf : ∀ v u s2 x y H2, Inv X pins σ H2 s2 → RelV x v → RelV y u → R x y H2 → wpAny (model X.prog X.w) X.A (f v u) Q X.xe s2) :
    wpAny (model X.prog X.w) X.A (eval a X.env) (fun v s₁ => wpAny (model X.prog X.w) X.A (eval b X.env) (fun u s₂ => wpAny (model X.prog X.w) X.A (f v u) Q X.xe s₂) X.xe s₁) X.xe s := by
  refine thn (ha pins s σ H _ I h) fun v s1 ⟨x, H1, I1, r1, q1⟩ => ?_
  refine thn (hb pins s1 σ H1 _ I1 q1) fun u s2 ⟨y, H2, I2, r2, q2⟩ => ?_
  exact hf v u s2 x y H2 I2 r1 r2 q2

/-! ### names and constants -/
def tVar (i : Nat) : TE := fun σ H Q => ∃ v, σ[i]? = some (some v) ∧ Q v H
def tC (v : V) : TE := fun _ H Q => Q v H
theorem pe_var {i : Nat} {x : Str} {pos : Pos} (hN : X.N[i]? = some x) (hv : Vis X.env.scope x) (hd : (x == ("__debug__" : Str)) = false := by decide) (hcd : (x == ("__classdict__" : Str)) = false := by decide) : PE X (.Name x pos) (tVar i) := by
  intro pins s σ H Q I h
  obtain ⟨v, e, h⟩ := h
  obtain ⟨m, hn, hl⟩ := I.loc
  obtain ⟨u, r, l⟩ := hl i x v hN e hv
  have fin : EP X pins σ Q u s := ⟨v, H, I, r, h⟩
  rcases l with ⟨hk, hm⟩ | ⟨hk, c, hc, hcell⟩
  · exact wpAny_Name (wpAny_loadName_local I.ok.kind hk hn hm fin) hd
  · rcases hk with hk | hk
    · exact wpAny_Name (wpAny_loadName_cell I.ok.kind hk hc hcell fin) hd
    · exact wpAny_Name (wpAny_loadName_free I.ok.kind hk hc hcell fin hcd) hd
theorem pe_int {i j pos} : PE X (.Constant (.int i) j pos) (tC (.int i)) := fun _ _ _ H _ I h => wpAny_Constant_int ⟨.int i, H, I.tok _, ⟨_, rfl⟩, h⟩
theorem pe_bl {b j pos} : PE X (.Constant (.bool b) j pos) (tC (.bl b)) := fun _ _ _ H _ I h => Constant_bool ⟨.bl b, H, I, rfl, h⟩
theorem pe_non {j pos} : PE X (.Constant .none j pos) (tC .non) := fun _ _ _ H _ I h => Constant_none ⟨.non, H, I, rfl, h⟩
theorem pe_str {x j pos} : PE X (.Constant (.str x) j pos) (tC (.str x)) := fun _ _ _ H _ I h => Calls.Constant_str ⟨.str x, H, I.tok _, ⟨_, rfl⟩, h⟩

/-- a global name of the def -/
def Gl (X : Cx) (x : Str) : Prop := X.env.kindOf x = some .globalImplicit
theorem ld_glob {E : Value → Shared → Prop} {pins : List (Addr × Obj)} {s : Shared} {σ : St} {H : Hp} {x : Str} {u : Value} {pos : Pos} {Q : Value → Shared → Prop} (I : Inv X pins σ H s) (hg : Gl X x) (hm : X.mg x = some u) (h : Q u s)
    (hd : (x == ("__debug__" : Str)) = false := by decide) : wpAny (model X.prog X.w) X.A (eval (.Name x pos) X.env) Q E s :=
  Calls.Name_function_global I.ok.kind hg (Calls.loadGlobal_global (by rw [I.ok.glob]; exact I.mod.glob.keeps I.bk) hm h) hd
theorem ld_blt {E : Value → Shared → Prop} {pins : List (Addr × Obj)} {s : Shared} {σ : St} {H : Hp} {x : Str} {u : Value} {pos : Pos} {Q : Value → Shared → Prop} (I : Inv X pins σ H s) (hg : Gl X x) (hm : X.mg x = none) (hv : bootBuiltins x = some u) (h : Q u s)
    (hn : x ≠ "__name__" := by decide) (hd : (x == ("__debug__" : Str)) = false := by decide) : wpAny (model X.prog X.w) X.A (eval (.Name x pos) X.env) Q E s := by
  obtain ⟨mb, h1, h2⟩ := I.mod.blt
  exact Calls.Name_function_global I.ok.kind hg (Calls.loadGlobal_builtin (by rw [I.ok.glob]; exact I.mod.glob.keeps I.bk) hm (by rw [I.ok.blt]; exact h1.keeps I.bk) ((h2 x hn).trans hv) h) hd
/-- a module's constant, a class, a function, as a value -/
theorem pe_glob {x : Str} {v : V} {u : Value} {pos : Pos} (hg : Gl X x) (hm : X.mg x = some u) (r : RelV v u) (hd : (x == ("__debug__" : Str)) = false := by decide) : PE X (.Name x pos) (tC v) :=
  fun _ _ _ H _ I h => ld_glob I hg hm ⟨v, H, I, r, h⟩ hd
theorem pe_bltn {x : Str} {v : V} {u : Value} {pos : Pos} (hg : Gl X x) (hm : X.mg x = none) (hv : bootBuiltins x = some u) (r : RelV v u) (hn : x ≠ "__name__" := by decide) (hd : (x == ("__debug__" : Str)) = false := by decide) : PE X (.Name x pos) (tC v) :=
  fun _ _ _ H _ I h => ld_blt I hg hm hv ⟨v, H, I, r, h⟩ hn hd

/-! ### arithmetic -/
/-- two ints -/
def t2I (ta tb : TE) (k : Int → Int → Hp → Prop) : St → Hp → Prop := fun σ H => ta σ H fun x H1 => tb σ H1 fun y H2 => ∃ i j, x = .int i ∧ y = .int j ∧ k i j H2
def tAdd (ta tb : TE) : TE := fun σ H Q => t2I ta tb (fun i j H2 => Q (.int (i + j)) H2) σ H
def tSub (ta tb : TE) : TE := fun σ H Q => t2I ta tb (fun i j H2 => Q (.int (i - j)) H2) σ H
/-- the left factor below 2^64 -/
def tMul (ta tb : TE) : TE := fun σ H Q => t2I ta tb (fun i j H2 => (-(2 ^ 64) < i ∧ i < 2 ^ 64) ∧ Q (.int (i * j)) H2) σ H
variable {a b : Expr} {ta tb : TE} {pos : Pos}
theorem pe_add (ha : PE X a ta) (hb : PE X b tb) : PE X (.BinOp a .Add b pos) (tAdd ta tb) := by
  intro pins s σ H Q I h
  refine wpAny_BinOp (bin ha hb I h fun v u s2 x y H2 I2 rx ry q => ?_)
  obtain ⟨i, j, rfl, rfl, q⟩ := q
  obtain ⟨t, rfl⟩ := rx
  obtain ⟨t', rfl⟩ := ry
  exact add_int ⟨.int _, H2, I2.tok _, ⟨_, rfl⟩, q⟩
theorem pe_sub (ha : PE X a ta) (hb : PE X b tb) : PE X (.BinOp a .Sub b pos) (tSub ta tb) := by
  intro pins s σ H Q I h
  refine wpAny_BinOp (bin ha hb I h fun v u s2 x y H2 I2 rx ry q => ?_)
  obtain ⟨i, j, rfl, rfl, q⟩ := q
  obtain ⟨t, rfl⟩ := rx
  obtain ⟨t', rfl⟩ := ry
  exact sub_int ⟨.int _, H2, I2.tok _, ⟨_, rfl⟩, q⟩
theorem pe_mul (ha : PE X a ta) (hb : PE X b tb) : PE X (.BinOp a .Mult b pos) (tMul ta tb) := by
  intro pins s σ H Q I h
  refine wpAny_BinOp (bin ha hb I h fun v u s2 x y H2 I2 rx ry q => ?_)
  obtain ⟨i, j, rfl, rfl, ⟨q1, q2⟩, q⟩ := q
  obtain ⟨t, rfl⟩ := rx
  obtain ⟨t', rfl⟩ := ry
  exact mul_int ⟨.int _, H2, I2.tok _, ⟨_, rfl⟩, q⟩ (.of_left (intBits_le_64 q1 q2))

/-! ### comparisons -/
def PC (X : Cx) (op : CmpOp) (a b : Expr) (t : TE) : Prop :=
  ∀ (pins : List (Addr × Obj)) (s : Shared) (σ : St) (H : Hp) (Q : VK), Inv X pins σ H s → t σ H Q →
    wpAny (model X.prog X.w) X.A (eval a X.env) (fun v s₁ => wpAny (model X.prog X.w) X.A (eval b X.env) (fun u s₂ => wpAny (model X.prog X.w) X.A (compareOp op v u) (EP X pins σ Q) X.xe s₂) X.xe s₁) X.xe s
theorem nobehind (b : Expr) {op : CmpOp} (h : op ≠ .In) (h2 : op ≠ .NotIn) : behindInMarks op b = false := by
  have e1 : (op == CmpOp.In) = false := by cases op <;> first | rfl | exact absurd rfl h
  have e2 : (op == CmpOp.NotIn) = false := by cases op <;> first | rfl | exact absurd rfl h2
  cases b <;> simp [behindInMarks, e1, e2]
def tCmp (p : Int → Int → Bool) (ta tb : TE) : TE := fun σ H Q => t2I ta tb (fun i j H2 => Q (.bl (p i j)) H2) σ H
abbrev tLt : TE → TE → TE := tCmp fun i j => decide (i < j)
abbrev tLe : TE → TE → TE := tCmp fun i j => decide (i ≤ j)
abbrev tGt : TE → TE → TE := tCmp fun i j => decide (j < i)
abbrev tGe : TE → TE → TE := tCmp fun i j => decide (j ≤ i)
abbrev tEqI : TE → TE → TE := tCmp fun i j => decide (i = j)
abbrev tNeI : TE → TE → TE := tCmp fun i j => !decide (i = j)
/-- a comparison of two ints, by its rule -/
theorem pc_int {op : CmpOp} {p : Int → Int → Bool} (ha : PE X a ta) (hb : PE X b tb)
    (rule : ∀ (i j : Int) (t u : Tok) (Q : Value → Shared → Prop) (s : Shared), Q (.bool (p i j)) s → wpAny (model X.prog X.w) X.A (compareOp op (.int i t) (.int j u)) Q X.xe s) : PC X op a b (tCmp p ta tb) := by
  intro pins s σ H Q I h
  refine bin ha hb I h fun v u s2 x y H2 I2 rx ry q => ?_
  obtain ⟨i, j, rfl, rfl, q⟩ := q
  obtain ⟨t, rfl⟩ := rx
  obtain ⟨t', rfl⟩ := ry
  exact rule i j t t' _ s2 ⟨.bl _, H2, I2, rfl, q⟩
theorem pc_lt (ha : PE X a ta) (hb : PE X b tb) : PC X .Lt a b (tLt ta tb) := pc_int ha hb fun _ _ _ _ _ _ h => lt_int h
theorem pc_le (ha : PE X a ta) (hb : PE X b tb) : PC X .LtE a b (tLe ta tb) := pc_int ha hb fun _ _ _ _ _ _ h => le_int h
theorem pc_gt (ha : PE X a ta) (hb : PE X b tb) : PC X .Gt a b (tGt ta tb) := pc_int ha hb fun _ _ _ _ _ _ h => gt_int h
theorem pc_ge (ha : PE X a ta) (hb : PE X b tb) : PC X .GtE a b (tGe ta tb) := pc_int ha hb fun _ _ _ _ _ _ h => ge_int h
theorem pc_eqI (ha : PE X a ta) (hb : PE X b tb) : PC X .Eq a b (tEqI ta tb) := pc_int ha hb fun _ _ _ _ _ _ h => eq_int (by rw [Bool.beq_eq_decide_eq]; exact h)
theorem pc_neI (ha : PE X a ta) (hb : PE X b tb) : PC X .NotEq a b (tNeI ta tb) := pc_int ha hb fun _ _ _ _ _ _ h => ne_int (by rw [bne, Bool.beq_eq_decide_eq]; exact h)
/-- is None -/
def tIsN (ta : TE) : TE := fun σ H Q => ta σ H fun x H1 => Q (.bl (decide (x = .non))) H1
def tNotN (ta : TE) : TE := fun σ H Q => ta σ H fun x H1 => Q (.bl (!decide (x = .non))) H1
theorem RelV.none_iff {x : V} {v : Value} (r : RelV x v) : (v == Value.none) = decide (x = .non) := by
  cases x with
  | non => cases r; rfl
  | bl _ => cases r; rfl
  | int _ => obtain ⟨t, rfl⟩ := r; rfl
  | str _ => obtain ⟨t, rfl⟩ := r; rfl
  | byt _ => obtain ⟨t, rfl⟩ := r; rfl
  | flt _ => obtain ⟨t, rfl⟩ := r; rfl
  | ref _ => cases r; rfl
  | ty _ => cases r; rfl
theorem pc_isN {j pos'} (ha : PE X a ta) : PC X .Is a (.Constant .none j pos') (tIsN ta) := by
  intro pins s σ H Q I h
  refine thn (ha pins s σ H _ I h) fun v s1 ⟨x, H1, I1, r1, q1⟩ => ?_
  exact Constant_none (is_none_gen ⟨.bl _, H1, I1, by rw [r1.none_iff]; rfl, q1⟩)
theorem pc_notN {j pos'} (ha : PE X a ta) : PC X .IsNot a (.Constant .none j pos') (tNotN ta) := by
  intro pins s σ H Q I h
  refine thn (ha pins s σ H _ I h) fun v s1 ⟨x, H1, I1, r1, q1⟩ => ?_
  exact Constant_none (isnot_none_gen ⟨.bl _, H1, I1, by rw [r1.none_iff]; rfl, q1⟩)
/-- a comparison as a value, as a test -/
def tB (t : TE) : TT := fun σ H Q => t σ H fun x H1 => ∃ c, x = .bl c ∧ Q c H1
theorem pe_cmp {op : CmpOp} {t : TE} (h : PC X op a b t) (h1 : behindInMarks op b = false := by first | exact nobehind _ (by decide) (by decide) | rfl) : PE X (.Compare a [op] [b] pos) t := fun pins s σ H Q I hw => wpAny_Compare1 (h pins s σ H Q I hw) h1
theorem pt_cmp {op : CmpOp} {t : TE} (h : PC X op a b t) (h1 : behindInMarks op b = false := by first | exact nobehind _ (by decide) (by decide) | rfl) : PT X (.Compare a [op] [b] pos) (tB t) := by
  intro pins s σ H Q I hw
  refine wpAny_isTrue_Compare1 (thn (h pins s σ H _ I hw) fun v s1 h1 => thn h1 fun u s2 h2 => thn h2 fun c s3 ⟨x, H1, I1, r1, q1⟩ => ?_) h1
  obtain ⟨d, rfl, q⟩ := q1
  cases r1
  exact wpAny_truthy_bool ⟨H1, I1, q⟩
/-- an expression whose value is a bool, as a test -/
theorem pt_val {e : Expr} {t : TE} (h : PE X e t) (he : ∀ whole, isTrue e X.env whole = (do let v ← whole; standAt e.pos; holding [v] (truthy v)) := by intro _; rfl) : PT X e (tB t) := by
  intro pins s σ H Q I hw
  refine isTrue_plain (thn (h pins s σ H _ I hw) fun v s1 ⟨x, H1, I1, r1, q1⟩ => ?_) (he _)
  obtain ⟨d, rfl, q⟩ := q1
  cases r1
  exact wpAny_truthy_bool ⟨H1, I1, q⟩

/-! ### and, or, not -/
variable {tA tB' : TT} {rest : List Expr}
def tAnd (t u : TT) : TT := fun σ H Q => t σ H fun c H1 => if c = true then u σ H1 Q else Q false H1
def tOr (t u : TT) : TT := fun σ H Q => t σ H fun c H1 => if c = true then Q true H1 else u σ H1 Q
def tNot (t : TT) : TT := fun σ H Q => t σ H fun c H1 => Q (!c) H1
theorem pw_and1 (ha : PT X a tA) : PW X (.BoolOp .And [a] pos) tA := by
  intro wh pins s σ H Q I h
  refine isTrue_and (thn (ha pins s σ H Q I h) fun c s1 e => ?_)
  cases c with
  | true => exact isTrue_and_nil e
  | false => exact e
theorem pw_or1 (ha : PT X a tA) : PW X (.BoolOp .Or [a] pos) tA := by
  intro wh pins s σ H Q I h
  refine isTrue_or (thn (ha pins s σ H Q I h) fun c s1 e => ?_)
  cases c with
  | false => exact isTrue_or_nil e
  | true => exact e
theorem pw_and (ha : PT X a tA) (hb : PW X (.BoolOp .And (b :: rest) pos) tB') : PW X (.BoolOp .And (a :: b :: rest) pos) (tAnd tA tB') := by
  intro wh pins s σ H Q I h
  refine isTrue_and (thn (ha pins s σ H _ I h) fun c s1 ⟨H1, I1, q1⟩ => ?_)
  cases c with
  | true => exact hb wh pins s1 σ H1 Q I1 q1
  | false => exact ⟨H1, I1, q1⟩
theorem pw_or (ha : PT X a tA) (hb : PW X (.BoolOp .Or (b :: rest) pos) tB') : PW X (.BoolOp .Or (a :: b :: rest) pos) (tOr tA tB') := by
  intro wh pins s σ H Q I h
  refine isTrue_or (thn (ha pins s σ H _ I h) fun c s1 ⟨H1, I1, q1⟩ => ?_)
  cases c with
  | true => exact ⟨H1, I1, q1⟩
  | false => exact hb wh pins s1 σ H1 Q I1 q1
theorem pt_not (ha : PT X a tA) : PT X (.UnaryOp .Not a pos) (tNot tA) := by
  intro pins s σ H Q I h
  exact isTrue_not (ha pins s σ H (fun c H1 => Q (!c) H1) I h)
/-- .. as values (bools) -/
def tAndV (ta tb : TE) : TE := fun σ H Q => ta σ H fun x H1 => ∃ c, x = .bl c ∧ if c = true then tb σ H1 Q else Q (.bl false) H1
def tOrV (ta tb : TE) : TE := fun σ H Q => ta σ H fun x H1 => ∃ c, x = .bl c ∧ if c = true then Q (.bl true) H1 else tb σ H1 Q
def tNotV (ta : TE) : TE := fun σ H Q => ta σ H fun x H1 => ∃ c, x = .bl c ∧ Q (.bl (!c)) H1
theorem pe_one {op} {t : TE} (h : PE X a t) : PE X (.BoolOp op [a] pos) t := fun pins s σ H Q I hw => BoolOp_one (h pins s σ H Q I hw)
theorem pe_and (ha : PE X a ta) (hb : PE X (.BoolOp .And (b :: rest) pos) tb) : PE X (.BoolOp .And (a :: b :: rest) pos) (tAndV ta tb) := by
  intro pins s σ H Q I h
  refine BoolOp_and (thn (ha pins s σ H _ I h) fun v s1 ⟨x, H1, I1, r1, q1⟩ => ?_)
  obtain ⟨c, rfl, q1⟩ := q1
  cases r1
  refine wpAny_truthy_bool ?_
  cases c with
  | true => exact hb pins s1 σ H1 Q I1 q1
  | false => exact ⟨.bl false, H1, I1, rfl, q1⟩
theorem pe_or (ha : PE X a ta) (hb : PE X (.BoolOp .Or (b :: rest) pos) tb) : PE X (.BoolOp .Or (a :: b :: rest) pos) (tOrV ta tb) := by
  intro pins s σ H Q I h
  refine BoolOp_or (thn (ha pins s σ H _ I h) fun v s1 ⟨x, H1, I1, r1, q1⟩ => ?_)
  obtain ⟨c, rfl, q1⟩ := q1
  cases r1
  refine wpAny_truthy_bool ?_
  cases c with
  | false => exact hb pins s1 σ H1 Q I1 q1
  | true => exact ⟨.bl true, H1, I1, rfl, q1⟩
theorem pe_not (ha : PE X a ta) : PE X (.UnaryOp .Not a pos) (tNotV ta) := by
  intro pins s σ H Q I h
  refine UnaryOp_ (thn (ha pins s σ H _ I h) fun v s1 ⟨x, H1, I1, r1, q1⟩ => ?_)
  obtain ⟨c, rfl, q1⟩ := q1
  cases r1
  exact not_of (wpAny_truthy_bool ⟨.bl (!c), H1, I1, rfl, q1⟩)
/-- a if t else b -/
def tIf (t : TT) (ta tb : TE) : TE := fun σ H Q => t σ H fun c H1 => if c = true then ta σ H1 Q else tb σ H1 Q
theorem pe_ifExp {c : Expr} (hc : PT X c tA) (ha : PE X a ta) (hb : PE X b tb) : PE X (.IfExp c a b pos) (tIf tA ta tb) := by
  intro pins s σ H Q I h
  refine wpAny_IfExp (thn (hc pins s σ H _ I h) fun d s1 ⟨H1, I1, q1⟩ => ?_)
  cases d with
  | true => exact ha pins s1 σ H1 Q I1 q1
  | false => exact hb pins s1 σ H1 Q I1 q1
end
end L2

namespace L2
open PySem PySem.Spec PyProof.Rows

/-! ### a list, a tuple that is read: tracked, frozen, or an object of the module -/
def SqL (K : PySem.W.Frag) (H : Hp) (a : Addr) (xs : List V) : Prop :=
  Rd H a (.lst xs) ∨
    ∃ (o : Obj) (its : Array Value) (n : Nat), K.lookup a = some o ∧ o.cls = .type "list" ∧ o.dict = none ∧ o.data = .seq its n ∧ its.size ≤ sizeLine ∧ Vals xs its.toList
def SqT (K : PySem.W.Frag) (H : Hp) (a : Addr) (xs : List V) : Prop :=
  Rd H a (.tup xs) ∨
    ∃ (o : Obj) (its : Array Value) (n : Nat), K.lookup a = some o ∧ o.cls = .type "tuple" ∧ o.data = .seq its n ∧ its.size ≤ sizeLine ∧ Vals xs its.toList
def absV : Value → Option V
  | .none => some .non
  | .bool b => some (.bl b)
  | .int i _ => some (.int i)
  | .str x _ => some (.str x)
  | .bytes b _ => some (.byt b)
  | .float b _ => some (.flt b)
  | .ref a => some (.ref a)
  | .type n => some (.ty n)
  | _ => none
theorem RelV.abs {x : V} {u : Value} (r : RelV x u) : absV u = some x := by
  cases x with
  | non => cases r; rfl
  | bl _ => cases r; rfl
  | int _ => obtain ⟨t, rfl⟩ := r; rfl
  | str _ => obtain ⟨t, rfl⟩ := r; rfl
  | byt _ => obtain ⟨t, rfl⟩ := r; rfl
  | flt _ => obtain ⟨t, rfl⟩ := r; rfl
  | ref _ => cases r; rfl
  | ty _ => cases r; rfl
theorem RelV.inj {x y : V} {u : Value} (r : RelV x u) (q : RelV y u) : x = y := Option.some.inj (r.abs.symm.trans q.abs)
theorem Vals.inj : ∀ {xs ys : List V} {us : List Value}, Vals xs us → Vals ys us → xs = ys
  | _, _, _, .nil, .nil => rfl
  | _, _, _, .cons r t, .cons r' t' => by rw [r.inj r', Vals.inj t t']
section
variable {X : Cx} {pins : List (Addr × Obj)} {σ : St} {H : Hp} {s : Shared} {a : Addr} {xs ys : List V}
theorem SqL.of {K : PySem.W.Frag} (h : H a = some (.lst xs)) : SqL K H a xs := .inl (.inl h)
theorem SqT.of {K : PySem.W.Frag} (h : H a = some (.tup xs)) : SqT K H a xs := .inl (.inl h)
theorem Inv.list (I : Inv X pins σ H s) (h : SqL X.K H a xs) : ∃ its : List Value, Vals xs its ∧ PlainL s.heap a its.toArray ∧ xs.length ≤ sizeLine := by
  rcases h with h | ⟨o, its, n, hk, hc, hd, hs, hz, r⟩
  · obtain ⟨z, its, n, r, e⟩ := h.ok I.hok
    exact ⟨its, r, ⟨_, n, e, rfl, rfl, rfl⟩, z⟩
  · refine ⟨its.toList, r, ⟨o, n, I.kIn a o hk, hc, hd, by simpa using hs⟩, ?_⟩
    have e := r.length
    simp only [Array.length_toList] at e
    omega
theorem Inv.tuple (I : Inv X pins σ H s) (h : SqT X.K H a xs) : ∃ its : List Value, Vals xs its ∧ IsTup s.heap a its.toArray ∧ xs.length ≤ sizeLine := by
  rcases h with h | ⟨o, its, n, hk, hc, hs, hz, r⟩
  · obtain ⟨z, its, r, p⟩ := h.ok I.hok
    exact ⟨its, r, p, z⟩
  · refine ⟨its.toList, r, ⟨o, I.kIn a o hk, hc, n, by simpa using hs⟩, ?_⟩
    have e := r.length
    simp only [Array.length_toList] at e
    omega
theorem Inv.list_inj (I : Inv X pins σ H s) (h : SqL X.K H a xs) (h' : SqL X.K H a ys) : xs = ys := by
  obtain ⟨its, r, ⟨o, n, e, _, _, d⟩, _⟩ := I.list h
  obtain ⟨its', r', ⟨o', n', e', _, _, d'⟩, _⟩ := I.list h'
  rw [e] at e'; cases e'
  rw [d] at d'
  injection d' with d1 _
  have : its = its' := by simpa using congrArg Array.toList d1
  subst this
  exact r.inj r'
theorem Inv.tuple_inj (I : Inv X pins σ H s) (h : SqT X.K H a xs) (h' : SqT X.K H a ys) : xs = ys := by
  obtain ⟨its, r, ⟨o, e, _, n, d⟩, _⟩ := I.tuple h
  obtain ⟨its', r', ⟨o', e', _, n', d'⟩, _⟩ := I.tuple h'
  rw [e] at e'; cases e'
  rw [d] at d'
  injection d' with d1 _
  have : its = its' := by simpa using congrArg Array.toList d1
  subst this
  exact r.inj r'
end

/-! ### another wish about exceptions -/
abbrev Cx.wish (X : Cx) (E : Value → Shared → Prop) : Cx := { X with xe := E }
/-- no exception leaves -/
abbrev Cx.nox (X : Cx) : Cx := X.wish fun _ _ => False
theorem Cx.Ok.wish {X : Cx} (ok : X.Ok) (E : Value → Shared → Prop) : (X.wish E).Ok :=
  ⟨ok.mod, ok.kind, ok.glob, ok.blt, ok.above, ok.inj, ok.has, ok.cab, ok.hd, ok.frames, ok.stk, ok.exf, ok.bs, ok.bsz, ok.noex, ok.exfs, ok.funs, ok.frf⟩
theorem Cx.Ok.unwish {X : Cx} {E : Value → Shared → Prop} (ok : (X.wish E).Ok) : X.Ok :=
  ⟨ok.mod, ok.kind, ok.glob, ok.blt, ok.above, ok.inj, ok.has, ok.cab, ok.hd, ok.frames, ok.stk, ok.exf, ok.bs, ok.bsz, ok.noex, ok.exfs, ok.funs, ok.frf⟩
section
variable {X : Cx} {pins : List (Addr × Obj)} {σ : St} {H : Hp} {s : Shared} {E : Value → Shared → Prop}
theorem Inv.wish (I : Inv X pins σ H s) (E : Value → Shared → Prop) : Inv (X.wish E) pins σ H s := ⟨I.ok.wish E, I.os, I.bare, I.base, I.loc, I.cell, I.free, I.freeC, I.pin, I.hok, I.len⟩
theorem Inv.unwish (I : Inv (X.wish E) pins σ H s) : Inv X pins σ H s := ⟨I.ok.unwish, I.os, I.bare, I.base, I.loc, I.cell, I.free, I.freeC, I.pin, I.hok, I.len⟩
theorem SP.unwish {D : Ends} {f : Flow} {s' : Shared} (h : SP (X.wish E) pins D f s') : SP X pins D f s' := by
  cases f with
  | next => obtain ⟨σ', H', I, q⟩ := h; exact ⟨σ', H', I.unwish, q⟩
  | brk => obtain ⟨σ', H', I, q⟩ := h; exact ⟨σ', H', I.unwish, q⟩
  | cont => obtain ⟨σ', H', I, q⟩ := h; exact ⟨σ', H', I.unwish, q⟩
  | ret u => obtain ⟨v, σ', H', I, r, q⟩ := h; exact ⟨v, σ', H', I.unwish, r, q⟩
theorem PE.nox {e : Expr} {t : TE} (h : PE X.nox e t) : PE X e t := fun pins s σ H Q I hw =>
  wpAny_mono (h pins s σ H Q (I.wish _) hw) (fun _ _ ⟨v, H', I', r, q⟩ => ⟨v, H', I'.unwish, r, q⟩) fun _ _ z => False.elim z
theorem PT.nox {e : Expr} {t : TT} (h : PT X.nox e t) : PT X e t := fun pins s σ H Q I hw =>
  wpAny_mono (h pins s σ H Q (I.wish _) hw) (fun _ _ ⟨H', I', q⟩ => ⟨H', I'.unwish, q⟩) fun _ _ z => False.elim z
theorem PSs.nox {st : List Stmt} {t : TS} (h : PSs X.nox st t) : PSs X st t := fun pins s σ H D I hw =>
  wpAny_mono (h pins s σ H D (I.wish _) hw) (fun _ _ q => q.unwish) fun _ _ z => False.elim z
end

/-! ### blocks and small statements -/
section
variable {X : Cx} {st : Stmt} {rest : List Stmt} {t u : TS} {e : Expr} {te : TE} {pos : Pos}
def tNext : TS := fun D σ H => D.nx σ H
def tSeq (t u : TS) : TS := fun D σ H => t { D with nx := u D } σ H
theorem pss_nil : PSs X [] tNext := fun _ _ σ H _ I h => wpAny_execs_nil ⟨σ, H, I, h⟩
theorem pss_cons (h1 : PS X st t) (h2 : PSs X rest u) : PSs X (st :: rest) (tSeq t u) := by
  intro pins s σ H D I h
  refine wpAny_execs_cons (thn (h1 pins s σ H { D with nx := u D } I h) fun f s1 q => ?_)
  cases f with
  | next =>
    obtain ⟨σ', H', I', q⟩ := q
    exact h2 pins s1 σ' H' D I' q
  | ret v => exact q
  | brk => exact q
  | cont => exact q
theorem pss_one (h1 : PS X st t) : PSs X [st] t := by
  intro pins s σ H D I h
  refine wpAny_execs_cons (thn (h1 pins s σ H D I h) fun f s1 q => ?_)
  cases f with
  | next => exact wpAny_execs_nil q
  | ret v => exact q
  | brk => exact q
  | cont => exact q
def tBreak : TS := fun D σ H => D.bk σ H
def tCont : TS := fun D σ H => D.ct σ H
theorem ps_pass : PS X (.Pass pos) tNext := fun _ _ σ H _ I h => wpAny_Pass ⟨σ, H, I, h⟩
theorem ps_break : PS X (.Break pos) tBreak := fun _ _ σ H _ I h => wpAny_Break ⟨σ, H, I, h⟩
theorem ps_continue : PS X (.Continue pos) tCont := fun _ _ σ H _ I h => wpAny_Continue ⟨σ, H, I, h⟩
/-- in a def's body nothing is shown -/
theorem Inv.quiet {pins : List (Addr × Obj)} {σ : St} {H : Hp} {s : Shared} (I : Inv X pins σ H s) : interactive X.env = false := by simp [interactive, I.ok.kind]
/-- a docstring -/
theorem ps_doc {x j pos pos'} : PS X (.Expr (.Constant (.str x) j pos) pos') tNext := fun _ s σ H _ I h => wpAny_Expr (Calls.Constant_str (show SP X _ _ .next { s with toks := s.toks + 1 } from ⟨σ, H, I.tok _, h⟩)) I.quiet
/-- an expression whose value is dropped -/
def tDrop (te : TE) : TS := fun D σ H => te σ H fun _ H1 => D.nx σ H1
theorem ps_expr (he : PE X e te) (hs : swapsWith e none pos.line X.env = pure false := by rfl) : PS X (.Expr e pos) (tDrop te) := by
  intro pins s σ H D I h
  exact wpAny_Expr_any (thn (he pins s σ H _ I h) fun v s1 ⟨x, H1, I1, r1, q1⟩ => ⟨σ, H1, I1, q1⟩) I.quiet hs
def tRet (te : TE) : TS := fun D σ H => te σ H D.rt
theorem ps_ret (he : PE X e te) : PS X (.Return (some e) pos) (tRet te) := by
  intro pins s σ H D I h
  exact wpAny_Return_some (thn (he pins s σ H _ I h) fun v s1 ⟨x, H1, I1, r1, q1⟩ => ⟨x, σ, H1, I1, r1, q1⟩)
def tRetN : TS := fun D _ H => D.rt .non H
theorem ps_retN : PS X (.Return none pos) tRetN := fun _ _ σ H _ I h => wpAny_Return_none ⟨.non, σ, H, I, rfl, h⟩
def tIfS (c : TT) (t u : TS) : TS := fun D σ H => c σ H fun b H1 => if b = true then t D σ H1 else u D σ H1
theorem ps_if {c : Expr} {a b : List Stmt} {tc : TT} (hc : PT X c tc) (ha : PSs X a t) (hb : PSs X b u) : PS X (.If c a b pos) (tIfS tc t u) := by
  intro pins s σ H D I h
  refine wpAny_If (thn (hc pins s σ H _ I h) fun d s1 ⟨H1, I1, q1⟩ => ?_)
  cases d with
  | true => exact ha pins s1 σ H1 D I1 q1
  | false => exact hb pins s1 σ H1 D I1 q1
/-- code that the proof never comes to -/
def tNever : TS := fun _ _ _ => False
theorem ps_never : PS X st tNever := fun _ _ _ _ _ _ h => h.elim
theorem pss_never {sts : List Stmt} : PSs X sts tNever := fun _ _ _ _ _ _ h => h.elim
end

/-! ### targets -/
abbrev TG := V → St → Hp → (St → Hp → Prop) → Prop
abbrev TGs := List V → St → Hp → (St → Hp → Prop) → Prop
def PG (X : Cx) (target : Expr) (t : TG) : Prop :=
  ∀ (pins : List (Addr × Obj)) (s : Shared) (σ : St) (H : Hp) (v : V) (u : Value) (Q : St → Hp → Prop), Inv X pins σ H s → RelV v u → t v σ H Q →
    wpAny (model X.prog X.w) X.A (assign target X.env u) (fun _ s' => ∃ σ' H', Inv X pins σ' H' s' ∧ Q σ' H') X.xe s
/-- several targets, one after another -/
def PGs (X : Cx) (ts : List Expr) (t : TGs) : Prop :=
  ∀ (pins : List (Addr × Obj)) (s : Shared) (σ : St) (H : Hp) (vs : List V) (us : List Value) (Q : St → Hp → Prop), Inv X pins σ H s → Vals vs us → t vs σ H Q →
    wpAny (model X.prog X.w) X.A (assignInOrder ((assignEach ts X.env).map (·.2)) us) (fun _ s' => ∃ σ' H', Inv X pins σ' H' s' ∧ Q σ' H') X.xe s
/-- o[i] = v, by values -/
abbrev TSet := V → V → V → Hp → (Hp → Prop) → Prop
def PSet (X : Cx) (t : TSet) : Prop :=
  ∀ (pins : List (Addr × Obj)) (s : Shared) (σ : St) (H : Hp) (o i v : V) (ov iv u : Value) (Q : Hp → Prop), Inv X pins σ H s → RelV o ov → RelV i iv → RelV v u → t o i v H Q →
    wpAny (model X.prog X.w) X.A (setItem ov iv u) (fun _ s' => ∃ H', Inv X pins σ H' s' ∧ Q H') X.xe s
/-- a op= b, by values -/
abbrev TIp := V → V → Hp → VK → Prop
def PIp (X : Cx) (op : Operator) (t : TIp) : Prop :=
  ∀ (pins : List (Addr × Obj)) (s : Shared) (σ : St) (H : Hp) (x y : V) (v u : Value) (Q : VK), Inv X pins σ H s → RelV x v → RelV y u → t x y H Q →
    wpAny (model X.prog X.w) X.A (inplaceOp op v u) (EP X pins σ Q) X.xe s
section
variable {X : Cx} {pos : Pos}
def gName (i : Nat) : TG := fun v σ H Q => Q (σ.set i (some v)) H
theorem pg_name {i : Nat} {x : Str} (hN : X.N.Nodup) (hi : X.N[i]? = some x) (hx : Loc X.env.scope x) (hf : X.fn x = true ∨ X.env.scope.names.lookup x = some .local := by first | exact .inl rfl | exact .inr rfl | assumption) : PG X (.Name x pos) (gName i) := by
  intro pins s σ H v u Q I r h
  exact wpAny_assign_Name (store_ok I hN hi hx r (fun s' I' => ⟨_, H, I', h⟩) hf)
def gNil : TGs := fun vs σ H Q => vs = [] ∧ Q σ H
def gCons (t : TG) (u : TGs) : TGs := fun vs σ H Q => ∃ v r, vs = v :: r ∧ t v σ H fun σ' H' => u r σ' H' Q
theorem pgs_nil : PGs X [] gNil := by
  intro pins s σ H vs us Q I r h
  obtain ⟨e, h⟩ := h
  subst e
  cases r
  exact assignInOrder_nil ⟨σ, H, I, h⟩
theorem pgs_cons {e : Expr} {es : List Expr} {t : TG} {u : TGs} (h1 : PG X e t) (h2 : PGs X es u)
    (hs : (assignEach (e :: es) X.env).map (·.2) = assign e X.env :: (assignEach es X.env).map (·.2) := by rfl) : PGs X (e :: es) (gCons t u) := by
  intro pins s σ H vs us Q I r h
  obtain ⟨v, vr, e1, h⟩ := h
  subst e1
  cases r with
  | cons r rr =>
    rw [hs]
    refine assignInOrder_cons (thn (h1 pins s σ H _ _ _ I r h) fun _ s1 ⟨σ1, H1, I1, q1⟩ => ?_)
    exact h2 pins s1 σ1 H1 _ _ Q I1 rr q1
/-- (a, b, ..) = a tuple of that length -/
def gTup (K : PySem.W.Frag) (n : Nat) (t : TGs) : TG := fun v σ H Q => ∃ a xs, v = .ref a ∧ SqT K H a xs ∧ xs.length = n ∧ t xs σ H Q
theorem pg_tup {es : List Expr} {k : Nat} {t : TGs} {n : Nat} (hc : X.calm = true) (h : PGs X es t)
    (hn : (assignEach es X.env).length = n := by rfl) (hst : (assignEach es X.env).findIdx? (·.1) = none := by rfl) : PG X (.Tuple es k pos) (gTup X.K n t) := by
  intro pins s σ H v u Q I r hw
  obtain ⟨a, xs, e1, hq, hl, hw⟩ := hw
  subst e1
  cases r
  obtain ⟨its, rv, ht, hz⟩ := I.tuple hq
  refine assign_Tuple_tuple (I.ok.hd hc) ht (by simp [hn, ← hl, rv.length]) hst fun h' hx => ?_
  have I1 : Inv X pins σ H { s with heap := h' } := I.kept (t' := s.toks) fun b o e => hx b o (Nat.ne_of_lt (Heap.lt_size e)) e
  exact h pins _ σ H xs _ Q I1 (by simpa using rv) hw
/-- o[i] = .. -/
def gSub (to ti : TE) (t : TSet) : TG := fun v σ H Q => to σ H fun o H1 => ti σ H1 fun i H2 => t o i v H2 fun H3 => Q σ H3
theorem pg_sub {o i : Expr} {to ti : TE} {t : TSet} (ho : PE X o to) (hi : PE X i ti) (hs : PSet X t)
    (ha : ∀ v, assign (.Subscript o i pos) X.env v = (do
      let ov ← holding [v] (eval o X.env)
      let iv ← holding [v, ov] (eval i X.env)
      standAt pos
      holding [v, ov, iv] (setItem ov iv v)
      release [v, ov, iv] []) := by intro _; rfl) : PG X (.Subscript o i pos) (gSub to ti t) := by
  intro pins s σ H v u Q I r h
  rw [ha]
  refine wpAny_bind (wpAny_holding (thn (ho pins s σ H _ I h) fun ov s1 ⟨x, H1, I1, r1, q1⟩ => ?_))
  refine wpAny_bind (wpAny_holding (thn (hi pins s1 σ H1 _ I1 q1) fun iv s2 ⟨y, H2, I2, r2, q2⟩ => ?_))
  refine wpAny_bind (wpAny_standAt (wpAny_bind (wpAny_holding (thn (hs pins s2 σ H2 x y v ov iv u _ I2 r1 r2 r q2) fun _ s3 ⟨H3, I3, q3⟩ => ?_))))
  exact wpAny_release ⟨σ, H3, I3, q3⟩
/-- target = value -/
def tAsg (te : TE) (g : TG) : TS := fun D σ H => te σ H fun x H1 => g x σ H1 D.nx
theorem ps_asg {tg e : Expr} {te : TE} {g : TG} (he : PE X e te) (hg : PG X tg g) (hs : swapsWithSole [tg] e pos.line X.env = pure false := by rfl) (hw : swappedStores [tg] e X.env = pure none := by rfl)
    (h1 : (assignEach [tg] X.env).map (·.2) = [assign tg X.env] := by rfl) : PS X (.Assign [tg] e pos) (tAsg te g) := by
  intro pins s σ H D I h
  refine wpAny_Assign_stores (thn (he pins s σ H _ I h) fun v s1 ⟨x, H1, I1, r1, q1⟩ => ?_) hs hw
  rw [h1]
  exact thn (hg pins s1 σ H1 x v _ I1 r1 q1) fun _ s2 q => q
/-- name = value -/
theorem ps_set {i : Nat} {x : Str} {e : Expr} {te : TE} {pos' : Pos} (hN : X.N.Nodup) (hi : X.N[i]? = some x) (hx : Loc X.env.scope x) (he : PE X e te) (hs : swapsWith e (some (.Name x pos')) pos.line X.env = pure false := by rfl) (hf : X.fn x = true ∨ X.env.scope.names.lookup x = some .local := by first | exact .inl rfl | exact .inr rfl | assumption) :
    PS X (.Assign [.Name x pos'] e pos) (tAsg te (gName i)) := by
  intro pins s σ H D I h
  refine wpAny_Assign_Name (thn (he pins s σ H _ I h) fun v s1 ⟨y, H1, I1, r1, q1⟩ => ?_) hs
  exact store_ok I1 hN hi hx r1 (fun s2 I2 => ⟨_, H1, I2, q1⟩) hf
/-- a, b = x, y with plain local names: stored from the right; the pair itself is not tracked (the opening rows as in PyProof/Rows/TupAssign.lean:23) -/
def tPar (i j : Nat) (ta : TA) : TS := fun D σ H => ta σ H fun vs H1 => ∃ v w, vs = [v, w] ∧ D.nx ((σ.set i (some v)).set j (some w)) H1
theorem ps_par {i j : Nat} {x y : Str} {a b : Expr} {ta : TA} {px py pt : Pos} {kt k2 pt2} (hc : X.calm = true) (hN : X.N.Nodup) (hi : X.N[i]? = some x) (hj : X.N[j]? = some y) (hij : i ≠ j)
    (hx : X.env.scope.names.lookup x = some .local) (hy : X.env.scope.names.lookup y = some .local) (ha : PA X [a, b] ta)
    (hw : swappedStores [.Tuple [.Name x px, .Name y py] kt pt] (.Tuple [a, b] k2 pt2) X.env = pure (some [x, y]))
    (hs : swapsWithSole [.Tuple [.Name x px, .Name y py] kt pt] (.Tuple [a, b] k2 pt2) pos.line X.env = pure false := by rfl) :
    PS X (.Assign [.Tuple [.Name x px, .Name y py] kt pt] (.Tuple [a, b] k2 pt2) pos) (tPar i j ta) := by
  intro pins s σ H D I h
  rw [exec_Assign_arm]
  refine wpAny_bind (wpAny_standAt ?_)
  rw [hs]
  refine wpAny_bind (wpAny_pure ?_)
  rw [if_neg (by decide)]
  refine wpAny_bind (Tuple_ (thn (ha _ pins s σ H _ I h) fun us s1 ⟨vs, H1, I1, r1, q1⟩ => ?_))
  obtain ⟨v, w, e1, q1⟩ := q1
  subst e1
  obtain ⟨u1, u2, rfl, rv, rw'⟩ : ∃ u1 u2, us = [u1, u2] ∧ RelV v u1 ∧ RelV w u2 := by
    cases r1 with
    | cons p q =>
      cases q with
      | cons p' q' =>
        cases q'
        exact ⟨_, _, rfl, p, p'⟩
  refine wpAny_newObj_type ?_ (by show 2 ≤ sizeLine; decide)
  have I2 : Inv X pins σ H1 { s1 with heap := s1.heap.push { cls := .type "tuple", data := .seq [u1, u2].toArray } } := I1.kept (t' := s1.toks) fun b o e => Heap.get?_push_of_some _ e
  rw [hw]
  refine wpAny_bind (wpAny_pure ?_)
  show wpAny (model X.prog X.w) X.A (do rule "assign.swapped-stores"; let items ← unpackItems (.ref s1.heap.objs.size) 2 none; assignInOrder [fun v => bindName X.env y v, fun v => bindName X.env x v] items.reverse; pure Flow.next) _ _ _
  refine wpAny_bind (wpAny_rule (wpAny_bind (unpackItems_tuple (items := #[u1, u2]) (I.ok.hd hc) (IsTup.new s1.heap _) fun h' hx' => ?_)))
  have I3 := I2.kept (h' := h') (t' := s1.toks) fun b o e => hx' b o (Nat.ne_of_lt (Heap.lt_size e)) e
  show wpAny _ _ (assignInOrder [fun v => bindName X.env y v, fun v => bindName X.env x v] [u2, u1] >>= fun _ => pure Flow.next) _ _ _
  refine wpAny_bind (assignInOrder_cons (wpAny_bindName (store_ok I3 hN hj (.inl hy) rw' (fun s2 I4 => ?_) (.inr hy))))
  refine assignInOrder_cons (wpAny_bindName (store_ok I4 hN hi (.inl hx) rv (fun s3 I5 => assignInOrder_nil (wpAny_pure ?_)) (.inr hx)))
  rw [List.set_comm _ _ (Ne.symm hij)] at I5
  exact ⟨_, H1, I5, q1⟩
/-- name op= e -/
def tAug (i : Nat) (te : TE) (ti : TIp) : TS := fun D σ H => ∃ x, σ[i]? = some (some x) ∧ te σ H fun y H1 => ti x y H1 fun z H2 => D.nx (σ.set i (some z)) H2
theorem ps_aug {i : Nat} {x : Str} {e : Expr} {te : TE} {op : Operator} {ti : TIp} {pos' : Pos} (hN : X.N.Nodup) (hi : X.N[i]? = some x) (hx : Loc X.env.scope x) (he : PE X e te) (ho : PIp X op ti) (hf : X.fn x = true ∨ X.env.scope.names.lookup x = some .local := by first | exact .inl rfl | exact .inr rfl | assumption) :
    PS X (.AugAssign (.Name x pos') op e pos) (tAug i te ti) := by
  intro pins s σ H D I h
  obtain ⟨v, e1, h⟩ := h
  obtain ⟨m, hn, hl⟩ := I.loc
  have vis : Vis X.env.scope x := by rcases hx with k | k; exact .inl k; exact .inr (.inl k)
  obtain ⟨u, r, l⟩ := hl i x v hi e1 vis
  refine wpAny_AugAssign_Name ?_
  have go : wpAny (model X.prog X.w) X.A (eval e X.env) (fun w s₂ => wpAny (model X.prog X.w) X.A (inplaceOp op u w) (fun r s₃ => wpAny (model X.prog X.w) X.A (storeName X.env x r) (fun _ => SP X pins D .next) X.xe s₃) X.xe s₂) X.xe s := by
    refine thn (he pins s σ H _ I h) fun w s1 ⟨y, H1, I1, r1, q1⟩ => ?_
    refine thn (ho pins s1 σ H1 v y u w _ I1 r r1 q1) fun z s2 ⟨zv, H2, I2, r2, q2⟩ => ?_
    exact store_ok I2 hN hi hx r2 (fun s3 I3 => ⟨_, H2, I3, q2⟩) hf
  rcases l with ⟨hk, hm⟩ | ⟨hk, c, hc, hcell⟩
  · exact wpAny_loadName_local I.ok.kind hk hn hm go
  · rcases hk with hk | hk
    · exact wpAny_loadName_cell I.ok.kind hk hc hcell go
    · rcases hx with k | k
      · have : X.env.scope.names.lookup x = some .free := hk
        rw [k] at this; cases this
      · have : X.env.scope.names.lookup x = some .free := hk
        rw [k] at this; cases this
/-- o[i] op= e -/
def tAugS (to ti te : TE) (tget : V → V → Hp → VK → Prop) (tip : TIp) (tset : TSet) : TS := fun D σ H => to σ H fun o H1 => ti σ H1 fun i H2 => tget o i H2 fun x H3 => te σ H3 fun y H4 => tip x y H4 fun z H5 => tset o i z H5 fun H6 => D.nx σ H6
/-- o[i], by values -/
def PGet (X : Cx) (t : V → V → Hp → VK → Prop) : Prop :=
  ∀ (pins : List (Addr × Obj)) (s : Shared) (σ : St) (H : Hp) (o i : V) (ov iv : Value) (Q : VK), Inv X pins σ H s → RelV o ov → RelV i iv → t o i H Q →
    wpAny (model X.prog X.w) X.A (getItem ov iv) (EP X pins σ Q) X.xe s
theorem ps_augS {o i e : Expr} {to ti te : TE} {tget : V → V → Hp → VK → Prop} {tip : TIp} {tset : TSet} {op : Operator} {tpos : Pos} (ho : PE X o to) (hi : PE X i ti) (hg : PGet X tget) (he : PE X e te) (hp : PIp X op tip) (hs : PSet X tset)
    (ha : ∀ ov iv new, augStore i ov iv new = (do holding [new, ov, iv] (setItem ov iv new); release [new, ov, iv] []; pure .next) := by intros; rfl) : PS X (.AugAssign (.Subscript o i tpos) op e pos) (tAugS to ti te tget tip tset) := by
  intro pins s σ H D I h
  refine wpAny_AugAssign_SubscriptAny (thn (ho pins s σ H _ I h) fun ov s1 ⟨x1, H1, I1, r1, q1⟩ => ?_) ha
  refine thn (hi pins s1 σ H1 _ I1 q1) fun iv s2 ⟨x2, H2, I2, r2, q2⟩ => ?_
  refine thn (hg pins s2 σ H2 x1 x2 ov iv _ I2 r1 r2 q2) fun old s3 ⟨x3, H3, I3, r3, q3⟩ => ?_
  refine thn (he pins s3 σ H3 _ I3 q3) fun v s4 ⟨x4, H4, I4, r4, q4⟩ => ?_
  refine thn (hp pins s4 σ H4 x3 x4 old v _ I4 r3 r4 q4) fun new s5 ⟨x5, H5, I5, r5, q5⟩ => ?_
  exact thn (hs pins s5 σ H5 x1 x2 x5 ov iv new _ I5 r1 r2 r5 q5) fun _ s6 ⟨H6, I6, q6⟩ => ⟨σ, H6, I6, q6⟩
/-- ints -/
def ipI (f : Int → Int → Int) : TIp := fun x y H Q => ∃ i j, x = .int i ∧ y = .int j ∧ Q (.int (f i j)) H
theorem ip_add : PIp X .Add (ipI fun i j => i + j) := by
  intro pins s σ H x y v u Q I r1 r2 h
  obtain ⟨i, j, e1, e2, q⟩ := h
  subst e1; subst e2
  obtain ⟨t, rfl⟩ := r1
  obtain ⟨t', rfl⟩ := r2
  exact iadd_int ⟨.int _, H, I.tok _, ⟨_, rfl⟩, q⟩
theorem ip_sub : PIp X .Sub (ipI fun i j => i - j) := by
  intro pins s σ H x y v u Q I r1 r2 h
  obtain ⟨i, j, e1, e2, q⟩ := h
  subst e1; subst e2
  obtain ⟨t, rfl⟩ := r1
  obtain ⟨t', rfl⟩ := r2
  exact isub_int ⟨.int _, H, I.tok _, ⟨_, rfl⟩, q⟩
end

/-! ### while -/
section
variable {X : Cx} {pos : Pos}
/-- the invariant W with its measure -/
def tWhile (c : TT) (tb : TS) : TS := fun D σ H => ∃ W : Nat → St → Hp → Prop, (∃ m, W m σ H) ∧ ∀ m σ H, W m σ H →
  c σ H fun b H1 => if b = true then ∃ N : St → Hp → Prop, (∀ σ' H', N σ' H' → ∃ m', m' < m ∧ W m' σ' H') ∧ tb { D with nx := N, ct := N, bk := D.nx } σ H1 else D.nx σ H1
theorem ps_while {c : Expr} {body : List Stmt} {tc : TT} {tb : TS} (hp : PassesOwn (model X.prog X.w) X.A X.env X.xe) (hc : PT X c tc) (hb : PSs X body tb) : PS X (.While c body [] pos) (tWhile tc tb) := by
  intro pins s σ H D I h
  obtain ⟨W, ⟨m0, w0⟩, turn⟩ := h
  refine wpAny_While (codeAny_whileLoop (fun n s' => ∃ σ' H', Inv X pins σ' H' s' ∧ W n σ' H') ?_ m0 ⟨σ, H, I, w0⟩)
  rintro n s1 ⟨σ1, H1, I1, w1⟩
  refine wpAny_passesOwn hp (thn (hc pins s1 σ1 H1 _ I1 (turn n σ1 H1 w1)) fun b s2 ⟨H2, I2, q2⟩ => ?_)
  cases b with
  | true =>
    obtain ⟨N, hN, q2⟩ := q2
    rw [if_pos rfl]
    refine wpAny_passesOwn hp (thn (hb pins s2 σ1 H2 _ I2 q2) fun f s3 q3 => ?_)
    cases f with
    | next =>
      obtain ⟨σ3, H3, I3, n3⟩ := q3
      obtain ⟨m', hm, w3⟩ := hN σ3 H3 n3
      exact ⟨m', hm, σ3, H3, I3, w3⟩
    | cont =>
      obtain ⟨σ3, H3, I3, n3⟩ := q3
      obtain ⟨m', hm, w3⟩ := hN σ3 H3 n3
      exact ⟨m', hm, σ3, H3, I3, w3⟩
    | brk => exact q3
    | ret v => exact q3
  | false =>
    rw [if_neg Bool.false_ne_true]
    exact wpAny_execs_nil ⟨σ1, H2, I2, q2⟩
end

/-! ### what a loop or a comprehension walks -/
/-- at turn i: it yields x (the heap may grow), or it stops -/
structure It where
  go : Nat → Hp → Prop
  yld : Nat → Hp → V → Hp → Prop
  stop : Nat → Hp → Prop
/-- the iterator's own objects may turn: they are not the frame's, not pinned, younger than the entry (or a comprehension's own) -/
def FpOk (X : Cx) (pins : List (Addr × Obj)) (H : Hp) (b : Addr) : Prop :=
  H b = none ∧ b ≠ X.env.locals ∧ b ∉ X.fs ∧ (b ∈ X.ex ∨ X.s₀.heap.objs.size ≤ b) ∧ (∀ x c, X.env.cells.lookup x = some c → c ≠ b) ∧ ∀ p ∈ X.pn ++ pins, p.1 ≠ b
theorem Inv.fpOk {X : Cx} {pins : List (Addr × Obj)} {σ : St} {H H' : Hp} {s : Shared} {b : Addr} (I : Inv X pins σ H s) (hb : s.heap.objs.size ≤ b) (hn : H' b = none) : FpOk X pins H' b := by
  refine ⟨hn, Nat.ne_of_gt (Nat.lt_of_lt_of_le I.lt hb), I.nofs hb, .inr (Nat.le_trans I.sz hb), fun x c e z => ?_, fun p hp z => ?_⟩
  · obtain ⟨v, q⟩ := I.cell x c e
    exact absurd (Nat.lt_of_lt_of_le q.lt (by rw [z]; exact hb)) (Nat.lt_irrefl _)
  · exact absurd (Nat.lt_of_lt_of_le (Heap.lt_size (I.pin p hp).1) (by rw [z]; exact hb)) (Nat.lt_irrefl _)
structure Turn (P : Program) (w : World) (K : PySem.W.Frag) (tg : Expr) (J : It) (fp : List Addr) (it : Addr) (tn : Nat → Heap → Prop) : Prop where
  mem : it ∈ fp
  obj : ∀ i h, tn i h → ∀ b ∈ fp, ∃ o, h.get? b = some o ∧ ∀ v, o.data ≠ .cell v
  keep : ∀ i h h', tn i h → (∀ b ∈ fp, ∀ o, h.get? b = some o → h'.get? b = some o) → tn i h'
  item : ∀ (X : Cx), X.prog = P → X.w = w → X.K = K → X.calm = true → ∀ (i : Nat) (pins : List (Addr × Obj)) (s : Shared) (σ : St) (H : Hp) (E : Value → Shared → Prop), Inv X pins σ H s → (∀ b ∈ fp, FpOk X pins H b) → tn i s.heap → J.go i H →
    wpAny (model P w) X.A (pyNext (.ref it)) (fun r s1 => ∃ u, r = some u ∧
      wpAny (model P w) X.A (letOwnedTupleGo tg (.ref it) u) (fun _ s2 => ∃ x H', Inv X pins σ H' s2 ∧ RelV x u ∧ J.yld i H x H' ∧ tn (i + 1) s2.heap ∧ ∀ b ∈ fp, H' b = none) E s1) E s
  done : ∀ (X : Cx), X.prog = P → X.w = w → X.K = K → X.calm = true → ∀ (i : Nat) (pins : List (Addr × Obj)) (s : Shared) (σ : St) (H : Hp) (E : Value → Shared → Prop), Inv X pins σ H s → (∀ b ∈ fp, FpOk X pins H b) → tn i s.heap → J.stop i H →
    wpAny (model P w) X.A (pyNext (.ref it)) (fun r s1 => r = none ∧ Inv X pins σ H s1) E s
  self : ∀ (A : Around) (i : Nat) (s : Shared) (Q : Value → Shared → Prop) (E : Value → Shared → Prop), tn i s.heap → Q (.ref it) s → wpAny (model P w) A (pyIter (.ref it)) Q E s
abbrev TI := St → Hp → (It → Hp → Prop) → Prop
/-- an iterator has come -/
def PIE (X : Cx) (pins : List (Addr × Obj)) (σ : St) (tg : Expr) (R : It → Hp → Prop) (itv : Value) (s2 : Shared) : Prop :=
  ∃ (it : Addr) (fp : List Addr) (tn : Nat → Heap → Prop) (J : It) (H' : Hp), itv = .ref it ∧ Inv X pins σ H' s2 ∧ Turn X.prog X.w X.K tg J fp it tn ∧ tn 0 s2.heap ∧ (∀ b ∈ fp, FpOk X pins H' b) ∧ R J H'
def PI (X : Cx) (tg iter : Expr) (wi : TI) : Prop :=
  ∀ (pins : List (Addr × Obj)) (s : Shared) (σ : St) (H : Hp) (R : It → Hp → Prop), Inv X pins σ H s → wi σ H R →
    wpAny (model X.prog X.w) X.A (eval iter X.env) (fun v s1 => wpAny (model X.prog X.w) X.A (pyIter v) (PIE X pins σ tg R) X.xe s1) X.xe s

/-- the step ahead of the store is nothing for an iterator that keeps no tuple -/
theorem go_of {M : Model} {A : Around} {E : Value → Shared → Prop} {s : Shared} {tg : Expr} {it : Addr} {u : Value} {o : Obj} {n : String} {vs : Array Value} {Q : Unit → Shared → Prop} (ho : s.heap.get? it = some o) (hc : o.cls = .type n) (hd : o.data = .fields vs)
    (hn : ["enumerate", "zip", "dict_itemiterator", "dict_reverseitemiterator", "odict_iterator", "itertools.zip_longest", "itertools.pairwise"].contains n = false) (hQ : Q () s) : wpAny M A (letOwnedTupleGo tg (.ref it) u) Q E s := by
  unfold letOwnedTupleGo
  cases tg <;> first
    | exact wpAny_pure hQ
    | (cases u <;> first
        | exact wpAny_pure hQ
        | (refine wpAny_bind (wpAny_load ho ?_)
           rw [hc, hd]
           show wpAny M A (if (["enumerate", "zip", "dict_itemiterator", "dict_reverseitemiterator", "odict_iterator", "itertools.zip_longest", "itertools.pairwise"].contains n && vs[0]? == some (rawInt _)) = true then _ else _) Q E s
           rw [if_neg (by intro h; rw [hn, Bool.false_and] at h; cases h)]
           exact wpAny_pure hQ))

/-- the list at a, as it stands at each turn (a loop may append to it) -/
def Itl (K : PySem.W.Frag) (a : Addr) : It :=
  ⟨fun i H => ∃ xs x, SqL K H a xs ∧ xs[i]? = some x, fun i H x H' => H' = H ∧ ∀ xs, SqL K H a xs → xs[i]? = some x, fun i H => ∃ xs, SqL K H a xs ∧ xs.length ≤ i⟩
def Itt (K : PySem.W.Frag) (a : Addr) : It :=
  ⟨fun i H => ∃ xs x, SqT K H a xs ∧ xs[i]? = some x, fun i H x H' => H' = H ∧ ∀ xs, SqT K H a xs → xs[i]? = some x, fun i H => ∃ xs, SqT K H a xs ∧ xs.length ≤ i⟩
/-- lo, lo + 1, .. (n of them) -/
def Itr (lo : Int) (n : Nat) : It := ⟨fun i _ => i < n, fun i H x H' => H' = H ∧ x = .int (lo + i), fun i _ => n ≤ i⟩
theorem turn_list {P : Program} {w : World} {K : PySem.W.Frag} {tg : Expr} (a it : Addr) : Turn P w K tg (Itl K a) [it] it (fun i h => h.IsListIter it a i) where
  mem := by simp
  obj := fun i h st b hb => by
    have e : b = it := by simpa using hb
    subst e
    obtain ⟨o, e, c, d⟩ := st
    exact ⟨o, e, fun v z => by rw [d] at z; cases z⟩
  keep := fun i h h' st k => st.at fun o e => k it (by simp) o e
  item := by
    intro X hP hw hK hc i pins s σ H E I hf st hg
    subst hP hw hK
    obtain ⟨xs, x, hq, hx⟩ := hg
    obtain ⟨its, rv, p, hz⟩ := I.list hq
    obtain ⟨u, hu, ru⟩ := rv.get hx
    obtain ⟨f0, f1, f2, f3, f4, f5⟩ := hf it (by simp)
    refine wpAny_pyNext_list_item st p.isList (x := u) (by simpa using hu) fun h' st' sb => ?_
    have I1 : Inv X pins σ H { s with heap := h' } := I.turned (t' := s.toks) (fun b o hb e => (sb.2 b hb).trans e) f0 f1 f3 f4 f5
    obtain ⟨o, e, c, d⟩ := id st'
    exact ⟨u, rfl, go_of (s := { s with heap := h' }) e c d (by decide) ⟨x, H, I1, ru, ⟨rfl, fun ys hy => by rw [I.list_inj hy hq]; exact hx⟩, st', fun b hb => (hf b hb).1⟩⟩
  done := by
    intro X hP hw hK hc i pins s σ H E I hf st hg
    subst hP hw hK
    obtain ⟨xs, hq, hx⟩ := hg
    obtain ⟨its, rv, p, hz⟩ := I.list hq
    obtain ⟨f0, f1, f2, f3, f4, f5⟩ := hf it (by simp)
    have hl := rv.length
    exact wpAny_pyNext_list_end (I.ok.hd hc) st p.isList (by simp; omega) fun h' eb => ⟨rfl, I.turned (t' := s.toks) (fun b o hb e => eb b o hb e) f0 f1 f3 f4 f5⟩
  self := fun _ _ _ _ _ st h => wpAny_pyIter_listiter st h
theorem turn_tuple {P : Program} {w : World} {K : PySem.W.Frag} {tg : Expr} (a it : Addr) : Turn P w K tg (Itt K a) [it] it (fun i h => h.IsTupleIter it a i) where
  mem := by simp
  obj := fun i h st b hb => by
    have e : b = it := by simpa using hb
    subst e
    obtain ⟨o, e, c, d⟩ := st
    exact ⟨o, e, fun v z => by rw [d] at z; cases z⟩
  keep := fun i h h' st k => st.at fun o e => k it (by simp) o e
  item := by
    intro X hP hw hK hc i pins s σ H E I hf st hg
    subst hP hw hK
    obtain ⟨xs, x, hq, hx⟩ := hg
    obtain ⟨its, rv, p, hz⟩ := I.tuple hq
    obtain ⟨u, hu, ru⟩ := rv.get hx
    obtain ⟨f0, f1, f2, f3, f4, f5⟩ := hf it (by simp)
    refine wpAny_pyNext_tuple_item st (show s.heap.IsTuple a its.toArray from p) (x := u) (by simpa using hu) fun h' st' sb => ?_
    have I1 : Inv X pins σ H { s with heap := h' } := I.turned (t' := s.toks) (fun b o hb e => (sb.2 b hb).trans e) f0 f1 f3 f4 f5
    obtain ⟨o, e, c, d⟩ := id st'
    exact ⟨u, rfl, go_of (s := { s with heap := h' }) e c d (by decide) ⟨x, H, I1, ru, ⟨rfl, fun ys hy => by rw [I.tuple_inj hy hq]; exact hx⟩, st', fun b hb => (hf b hb).1⟩⟩
  done := by
    intro X hP hw hK hc i pins s σ H E I hf st hg
    subst hP hw hK
    obtain ⟨xs, hq, hx⟩ := hg
    obtain ⟨its, rv, p, hz⟩ := I.tuple hq
    obtain ⟨f0, f1, f2, f3, f4, f5⟩ := hf it (by simp)
    have hl := rv.length
    exact wpAny_pyNext_tuple_end (I.ok.hd hc) st (show s.heap.IsTuple a its.toArray from p) (by simp; omega) fun h' eb => ⟨rfl, I.turned (t' := s.toks) (fun b o hb e => eb b o hb e) f0 f1 f3 f4 f5⟩
  self := fun _ _ _ _ _ st h => wpAny_pyIter_tupleiter st h
theorem turn_range {P : Program} {w : World} {K : PySem.W.Frag} {tg : Expr} (it : Addr) (lo : Int) (n : Nat) : Turn P w K tg (Itr lo n) [it] it (fun i h => IsRangeIter h it (lo + (i : Nat) * 1) ((n : Int) - (i : Nat)) 1) where
  mem := by simp
  obj := fun i h st b hb => by
    have e : b = it := by simpa using hb
    subst e
    exact ⟨_, st, fun v z => by
      have z' : Data.fields _ = Data.cell v := z
      cases z'⟩
  keep := fun i h h' st k => k it (by simp) _ st
  item := by
    intro X hP hw hK hc i pins s σ H E I hf st hg
    subst hP hw hK
    obtain ⟨f0, f1, f2, f3, f4, f5⟩ := hf it (by simp)
    have W := Walks.range (prog := X.prog) (w := X.w) (I.ok.hd hc) it lo 1 n
    refine W.item i s _ _ hg st fun v h' tk hv st' kk => ?_
    obtain ⟨t, rfl⟩ := hv
    have I1 : Inv X pins σ H { s with heap := h', toks := tk } := I.turned (fun b o hb e => kk b o (by simpa using hb) e) f0 f1 f3 f4 f5
    refine ⟨_, rfl, go_of (s := { s with heap := h', toks := tk }) (n := "range_iterator") st' rfl rfl (by decide) ⟨.int (lo + i), H, I1, ⟨t, ?_⟩, ⟨rfl, rfl⟩, st', fun b hb => (hf b hb).1⟩⟩
    rw [Int.mul_one]
  done := by
    intro X hP hw hK hc i pins s σ H E I hf st hg
    subst hP hw hK
    obtain ⟨f0, f1, f2, f3, f4, f5⟩ := hf it (by simp)
    exact wpAny_pyNext_range_end (I.ok.hd hc) st (by have : n ≤ i := hg; omega) fun h' eb => ⟨rfl, I.turned (t' := s.toks) (fun b o hb e => eb b o hb e) f0 f1 f3 f4 f5⟩
  self := fun _ _ _ _ _ st h => wpAny_pyIter_rangeiter st h
end L2

namespace L2
open PySem PySem.Spec PyProof.Rows
section
variable {X : Cx} {tg : Expr}
def iList (K : PySem.W.Frag) (tl : TE) : TI := fun σ H R => tl σ H fun x H1 => ∃ a, x = .ref a ∧ (∃ xs, SqL K H1 a xs) ∧ R (Itl K a) H1
def iTup (K : PySem.W.Frag) (tl : TE) : TI := fun σ H R => tl σ H fun x H1 => ∃ a, x = .ref a ∧ (∃ xs, SqT K H1 a xs) ∧ R (Itt K a) H1
theorem pi_list {l : Expr} {tl : TE} (hl : PE X l tl) : PI X tg l (iList X.K tl) := by
  intro pins s σ H R I h
  refine thn (hl pins s σ H _ I h) fun v s1 ⟨x, H1, I1, r1, q1⟩ => ?_
  obtain ⟨a, e, ⟨xs, hq⟩, q⟩ := q1
  subst e
  cases r1
  obtain ⟨its, rv, p, hz⟩ := I1.list hq
  refine wpAny_pyIter_list p.isList ?_
  refine ⟨s1.heap.objs.size, [s1.heap.objs.size], _, _, H1, rfl, I1.kept (t' := s1.toks) fun b o e => Heap.get?_push_of_some _ e, turn_list a _, ⟨_, Heap.get?_push_size _ rfl, rfl, rfl⟩, fun b hb => ?_, q⟩
  have e : b = s1.heap.objs.size := by simpa using hb
  subst e
  exact I1.fpOk (Nat.le_refl _) (I1.hok.fresh (Nat.le_refl _))
theorem pi_tup {l : Expr} {tl : TE} (hl : PE X l tl) : PI X tg l (iTup X.K tl) := by
  intro pins s σ H R I h
  refine thn (hl pins s σ H _ I h) fun v s1 ⟨x, H1, I1, r1, q1⟩ => ?_
  obtain ⟨a, e, ⟨xs, hq⟩, q⟩ := q1
  subst e
  cases r1
  obtain ⟨its, rv, p, hz⟩ := I1.tuple hq
  refine wpAny_pyIter_tuple (show s1.heap.IsTuple a its.toArray from p) ?_
  refine ⟨s1.heap.objs.size, [s1.heap.objs.size], _, _, H1, rfl, I1.kept (t' := s1.toks) fun b o e => Heap.get?_push_of_some _ e, turn_tuple a _, ⟨_, Heap.get?_push_size _ rfl, rfl, rfl⟩, fun b hb => ?_, q⟩
  have e : b = s1.heap.objs.size := by simpa using hb
  subst e
  exact I1.fpOk (Nat.le_refl _) (I1.hok.fresh (Nat.le_refl _))
/-- a range object just made, walked -/
theorem range_it {pins : List (Addr × Obj)} {σ : St} {H : Hp} {s : Shared} {R : It → Hp → Prop} {E : Value → Shared → Prop} {lo hi : Int} {t u v : Tok} {tk : Nat} (I : Inv X pins σ H s) (h1 : -(2 ^ 62) ≤ lo) (h2 : lo < 2 ^ 62) (h3 : -(2 ^ 62) ≤ hi) (h4 : hi < 2 ^ 62)
    (q : R (Itr lo (hi - lo).toNat) H) : wpAny (model X.prog X.w) X.A (pyIter (.ref s.heap.objs.size)) (PIE X pins σ tg R) E { s with heap := s.heap.push { cls := .type "range", data := .fields #[.int lo t, .int hi u, .int 1 v] }, toks := tk } := by
  refine wpAny_pyIter_range (IsRange.new ..) (small_one h1 h2 h3 h4) ?_
  have I1 : Inv X pins σ H { s with heap := s.heap.push { cls := .type "range", data := .fields #[.int lo t, .int hi u, .int 1 v] }, toks := tk } := I.kept fun b o e => Heap.get?_push_of_some _ e
  refine ⟨(s.heap.push { cls := .type "range", data := .fields #[.int lo t, .int hi u, .int 1 v] }).objs.size, [(s.heap.push { cls := .type "range", data := .fields #[.int lo t, .int hi u, .int 1 v] }).objs.size], _, _, H, rfl,
    I1.kept (t' := tk) fun b o e => Heap.get?_push_of_some _ e, turn_range _ lo (hi - lo).toNat, ?_, fun b hb => ?_, q⟩
  · have e1 : lo + ((0 : Nat) : Int) * 1 = lo := by simp
    have e2 : (((hi - lo).toNat : Nat) : Int) - ((0 : Nat) : Int) = Builtin.Range.rangeSize lo hi 1 := by rw [rangeSize_one]; split <;> omega
    show IsRangeIter _ _ (lo + ((0 : Nat) : Int) * 1) ((((hi - lo).toNat : Nat) : Int) - ((0 : Nat) : Int)) 1
    rw [e1, e2]
    exact Heap.get?_push_size _ rfl
  · have e : b = (s.heap.push { cls := .type "range", data := .fields #[.int lo t, .int hi u, .int 1 v] }).objs.size := by simpa using hb
    subst e
    exact I1.fpOk (Nat.le_refl _) (I1.hok.fresh (Nat.le_refl _))
def iRng1 (ta : TA) : TI := fun σ H R => ta σ H fun vs H1 => ∃ j : Int, vs = [.int j] ∧ -(2 ^ 62) ≤ j ∧ j < 2 ^ 62 ∧ R (Itr 0 j.toNat) H1
def iRng2 (ta : TA) : TI := fun σ H R => ta σ H fun vs H1 => ∃ i j : Int, vs = [.int i, .int j] ∧ (-(2 ^ 62) ≤ i ∧ i < 2 ^ 62 ∧ -(2 ^ 62) ≤ j ∧ j < 2 ^ 62) ∧ R (Itr i (j - i).toNat) H1
theorem pi_range1 {a : Expr} {ta : TA} {p pos : Pos} (hg : Gl X "range") (hm : X.mg "range" = none) (ha : PA X [a] ta) (hs : starEach [a] X.env = [(false, eval a X.env)] := by rfl) : PI X tg (.Call (.Name "range" p) [a] [] pos) (iRng1 ta) := by
  intro pins s σ H R I h
  refine Call_ (ld_blt I hg hm boot_range (PyProof.Rows.callWith_type1 (thn (ha pos pins s σ H _ I h) fun us s1 ⟨vs, H1, I1, r1, q1⟩ => ?_) hs rfl))
  obtain ⟨j, e, q1, q2, q⟩ := q1
  subst e
  cases r1 with
  | cons r rr =>
    cases rr
    obtain ⟨t, rfl⟩ := r
    exact call_range_1 (range_it I1 (by omega) (by omega) q1 q2 (by simpa using q))
theorem pi_range2 {a b : Expr} {ta : TA} {p pos : Pos} (hg : Gl X "range") (hm : X.mg "range" = none) (ha : PA X [a, b] ta) (hs : starEach [a, b] X.env = [(false, eval a X.env), (false, eval b X.env)] := by rfl) (hs2 : starEach [b] X.env = [(false, eval b X.env)] := by rfl) :
    PI X tg (.Call (.Name "range" p) [a, b] [] pos) (iRng2 ta) := by
  intro pins s σ H R I h
  refine Call_ (ld_blt I hg hm boot_range (PyProof.Rows.callWith_type1 (thn (ha pos pins s σ H _ I h) fun us s1 ⟨vs, H1, I1, r1, q1⟩ => ?_) (by rw [hs, hs2]) (by rw [hs2]; rfl)))
  obtain ⟨i, j, e, ⟨q1, q2, q3, q4⟩, q⟩ := q1
  subst e
  cases r1 with
  | cons r rr =>
    cases rr with
    | cons r' rr =>
      cases rr
      obtain ⟨t, rfl⟩ := r
      obtain ⟨t', rfl⟩ := r'
      exact call_range_2 (range_it I1 q1 q2 q3 q4 q)

/-! ### for -/
/-- W: the invariant by the turn and a measure; N: what the body is to reach -/
def tFor (wi : TI) (g : TG) (tb : TS) : TS := fun D σ H => wi σ H fun J H1 => ∃ W : Nat → Nat → St → Hp → Prop, (∃ m, W 0 m σ H1) ∧ ∀ i m σ H, W i m σ H →
  (J.stop i H ∧ D.nx σ H) ∨ (J.go i H ∧ ∃ N : St → Hp → Prop, (∀ σ' H', N σ' H' → ∃ m', m' < m ∧ W (i + 1) m' σ' H') ∧ ∀ x H', J.yld i H x H' → g x σ H' fun σ2 H2 => tb { D with nx := N, ct := N, bk := D.nx } σ2 H2)
/-- the records at fp as they stand -/
def pinsAt (fp : List Addr) (h : Heap) : List (Addr × Obj) := fp.filterMap fun b => (h.get? b).map fun o => (b, o)
theorem mem_pinsAt {fp : List Addr} {h : Heap} {b : Addr} {o : Obj} (hb : b ∈ fp) (e : h.get? b = some o) : (b, o) ∈ pinsAt fp h := List.mem_filterMap.mpr ⟨b, hb, by rw [e]; rfl⟩
theorem of_pinsAt {fp : List Addr} {h : Heap} {p : Addr × Obj} (hp : p ∈ pinsAt fp h) : p.1 ∈ fp ∧ h.get? p.1 = some p.2 := by
  obtain ⟨b, hb, e⟩ := List.mem_filterMap.mp hp
  cases q : h.get? b with
  | none => rw [q] at e; cases e
  | some o =>
    rw [q] at e
    have e' : (b, o) = p := Option.some.inj e
    subst e'
    exact ⟨hb, q⟩
theorem Inv.pinned {pins : List (Addr × Obj)} {σ : St} {H : Hp} {s : Shared} {fp : List Addr} (I : Inv X pins σ H s) (hf : ∀ b ∈ fp, FpOk X pins H b) (ho : ∀ b ∈ fp, ∃ o, s.heap.get? b = some o ∧ ∀ v, o.data ≠ .cell v) : Inv X (pins ++ pinsAt fp s.heap) σ H s :=
  I.pins_of fun p hp => (List.mem_append.mp hp).elim (fun z => I.pin p (List.mem_append_right _ z)) fun z => by
    obtain ⟨hb, e⟩ := of_pinsAt z
    obtain ⟨f0, f1, f2, _⟩ := hf p.1 hb
    obtain ⟨o, e', d⟩ := ho p.1 hb
    rw [e] at e'; cases e'
    exact ⟨e, f0, f1, f2, d⟩
theorem Inv.unpinned {pins pl : List (Addr × Obj)} {σ : St} {H : Hp} {s : Shared} (I : Inv X (pins ++ pl) σ H s) : Inv X pins σ H s := I.pins_of fun p hp => I.pin p (List.mem_append_right _ (List.mem_append_left _ hp))
theorem ps_for {iter : Expr} {body : List Stmt} {wi : TI} {g : TG} {tb : TS} {pos : Pos} (hp : PassesOwn (model X.prog X.w) X.A X.env X.xe) (hc : X.calm = true) (hi : PI X tg iter wi) (hg : PG X tg g) (hb : PSs X body tb)
    (hs : ∀ x, foldedSetIterable iter X.env x = pure x := by intro _; rfl) : PS X (.For tg iter body [] pos) (tFor wi g tb) := by
  intro pins s σ H D I h
  refine wpAny_For (thn (hi pins s σ H _ I h) fun v s1 h1 => thn h1 fun itv s2 h2 => ?_) hs
  obtain ⟨it, fp, tn, J, H2, e, I2, T, st2, f2, W, ⟨m0, w0⟩, turn⟩ := h2
  subst e
  -- what stays true of the iterator's objects through the loop
  have stat : ∀ {H' : Hp}, (∀ b ∈ fp, H' b = none) → ∀ b ∈ fp, FpOk X pins H' b := fun hn b hb => ⟨hn b hb, (f2 b hb).2⟩
  refine codeAny_forLoop_any (fun n s' => ∃ i σ' H', Inv X pins σ' H' s' ∧ tn i s'.heap ∧ (∀ b ∈ fp, H' b = none) ∧ W i n σ' H') ?_ m0 ⟨0, σ, H2, I2, st2, fun b hb => (f2 b hb).1, w0⟩
  rintro n s3 ⟨i, σ3, H3, I3, st3, fr3, w3⟩
  rcases turn i n σ3 H3 w3 with ⟨stop, qn⟩ | ⟨go, N, hN, step⟩
  · refine wpAny_passesOwn hp (thn (T.done X rfl rfl rfl hc i pins s3 σ3 H3 X.xe I3 (stat fr3) st3 stop) fun r s4 ⟨hr, I4⟩ => ?_)
    subst hr
    exact wpAny_execs_nil ⟨σ3, H3, I4, qn⟩
  · refine wpAny_passesOwn hp (thn (T.item X rfl rfl rfl hc i pins s3 σ3 H3 X.xe I3 (stat fr3) st3 go) fun r s4 ⟨u, hr, h4⟩ => ?_)
    subst hr
    refine wpAny_passesOwn hp (thn h4 fun _ s5 ⟨x, H5, I5, r5, y5, st5, fr5⟩ => ?_)
    have I5' := I5.pinned (stat fr5) (T.obj _ _ st5)
    refine wpAny_passesOwn hp (thn (hg _ s5 σ3 H5 x u _ I5' r5 (step x H5 y5)) fun _ s6 ⟨σ6, H6, I6, q6⟩ => ?_)
    refine wpAny_passesOwn hp (thn (hb _ s6 σ6 H6 _ I6 q6) fun f s7 q7 => ?_)
    have again : ∀ {σ7 : St} {H7 : Hp}, Inv X (pins ++ pinsAt fp s5.heap) σ7 H7 s7 → N σ7 H7 → ∃ m, m < n ∧ ∃ i σ' H', Inv X pins σ' H' s7 ∧ tn i s7.heap ∧ (∀ b ∈ fp, H' b = none) ∧ W i m σ' H' := fun {σ7 H7} I7 n7 => by
      obtain ⟨m', hm, w7⟩ := hN σ7 H7 n7
      refine ⟨m', hm, i + 1, σ7, H7, I7.unpinned, T.keep _ _ _ st5 fun b hb o e => (I7.pin (b, o) (List.mem_append_right _ (List.mem_append_right _ (mem_pinsAt hb e)))).1, fun b hb => ?_, w7⟩
      obtain ⟨o, e, d⟩ := T.obj _ _ st5 b hb
      exact (I7.pin (b, o) (List.mem_append_right _ (List.mem_append_right _ (mem_pinsAt hb e)))).2.1
    cases f with
    | next => obtain ⟨σ7, H7, I7, n7⟩ := q7; exact again I7 n7
    | cont => obtain ⟨σ7, H7, I7, n7⟩ := q7; exact again I7 n7
    | brk => obtain ⟨σ7, H7, I7, q7⟩ := q7; exact ⟨σ7, H7, I7.unpinned, q7⟩
    | ret v => obtain ⟨x7, σ7, H7, I7, r7, q7⟩ := q7; exact ⟨x7, σ7, H7, I7.unpinned, r7, q7⟩
end

/-! ### the forms one uses -/
/-- over a list that the body leaves as it is -/
theorem for_list {K : PySem.W.Frag} {a : Addr} {xs : List V} {g : TG} {tb : TS} {D : Ends} {σ : St} {H : Hp} (Pv : Nat → St → Hp → Prop) (h0 : Pv 0 σ H) (hl : ∀ i σ H, i ≤ xs.length → Pv i σ H → SqL K H a xs)
    (hs : ∀ i x σ H, xs[i]? = some x → Pv i σ H → g x σ H fun σ2 H2 => tb { D with nx := Pv (i + 1), ct := Pv (i + 1), bk := D.nx } σ2 H2) (hd : ∀ σ H, Pv xs.length σ H → D.nx σ H) :
    ∃ W : Nat → Nat → St → Hp → Prop, (∃ m, W 0 m σ H) ∧ ∀ i m σ H, W i m σ H →
      ((Itl K a).stop i H ∧ D.nx σ H) ∨ ((Itl K a).go i H ∧ ∃ N : St → Hp → Prop, (∀ σ' H', N σ' H' → ∃ m', m' < m ∧ W (i + 1) m' σ' H') ∧ ∀ x H', (Itl K a).yld i H x H' → g x σ H' fun σ2 H2 => tb { D with nx := N, ct := N, bk := D.nx } σ2 H2) := by
  refine ⟨fun i m σ H => m = xs.length - i ∧ i ≤ xs.length ∧ Pv i σ H, ⟨xs.length, by simp, Nat.zero_le _, h0⟩, ?_⟩
  rintro i m σ H ⟨rfl, hi, p⟩
  have q := hl i σ H hi p
  by_cases hlt : i < xs.length
  · refine .inr ⟨⟨xs, xs[i], q, by simp [hlt]⟩, Pv (i + 1), fun σ' H' p' => ⟨xs.length - (i + 1), by omega, rfl, hlt, p'⟩, fun x H' y => ?_⟩
    obtain ⟨e, y⟩ := y
    subst e
    exact hs i x σ _ (y xs q) p
  · have e : i = xs.length := by omega
    subst e
    exact .inl ⟨⟨xs, q, Nat.le_refl _⟩, hd σ H p⟩
theorem for_tup {K : PySem.W.Frag} {a : Addr} {xs : List V} {g : TG} {tb : TS} {D : Ends} {σ : St} {H : Hp} (Pv : Nat → St → Hp → Prop) (h0 : Pv 0 σ H) (hl : ∀ i σ H, i ≤ xs.length → Pv i σ H → SqT K H a xs)
    (hs : ∀ i x σ H, xs[i]? = some x → Pv i σ H → g x σ H fun σ2 H2 => tb { D with nx := Pv (i + 1), ct := Pv (i + 1), bk := D.nx } σ2 H2) (hd : ∀ σ H, Pv xs.length σ H → D.nx σ H) :
    ∃ W : Nat → Nat → St → Hp → Prop, (∃ m, W 0 m σ H) ∧ ∀ i m σ H, W i m σ H →
      ((Itt K a).stop i H ∧ D.nx σ H) ∨ ((Itt K a).go i H ∧ ∃ N : St → Hp → Prop, (∀ σ' H', N σ' H' → ∃ m', m' < m ∧ W (i + 1) m' σ' H') ∧ ∀ x H', (Itt K a).yld i H x H' → g x σ H' fun σ2 H2 => tb { D with nx := N, ct := N, bk := D.nx } σ2 H2) := by
  refine ⟨fun i m σ H => m = xs.length - i ∧ i ≤ xs.length ∧ Pv i σ H, ⟨xs.length, by simp, Nat.zero_le _, h0⟩, ?_⟩
  rintro i m σ H ⟨rfl, hi, p⟩
  have q := hl i σ H hi p
  by_cases hlt : i < xs.length
  · refine .inr ⟨⟨xs, xs[i], q, by simp [hlt]⟩, Pv (i + 1), fun σ' H' p' => ⟨xs.length - (i + 1), by omega, rfl, hlt, p'⟩, fun x H' y => ?_⟩
    obtain ⟨e, y⟩ := y
    subst e
    exact hs i x σ _ (y xs q) p
  · have e : i = xs.length := by omega
    subst e
    exact .inl ⟨⟨xs, q, Nat.le_refl _⟩, hd σ H p⟩
theorem for_range {lo : Int} {n : Nat} {g : TG} {tb : TS} {D : Ends} {σ : St} {H : Hp} (Pv : Nat → St → Hp → Prop) (h0 : Pv 0 σ H)
    (hs : ∀ i σ H, i < n → Pv i σ H → g (.int (lo + i)) σ H fun σ2 H2 => tb { D with nx := Pv (i + 1), ct := Pv (i + 1), bk := D.nx } σ2 H2) (hd : ∀ σ H, Pv n σ H → D.nx σ H) :
    ∃ W : Nat → Nat → St → Hp → Prop, (∃ m, W 0 m σ H) ∧ ∀ i m σ H, W i m σ H →
      ((Itr lo n).stop i H ∧ D.nx σ H) ∨ ((Itr lo n).go i H ∧ ∃ N : St → Hp → Prop, (∀ σ' H', N σ' H' → ∃ m', m' < m ∧ W (i + 1) m' σ' H') ∧ ∀ x H', (Itr lo n).yld i H x H' → g x σ H' fun σ2 H2 => tb { D with nx := N, ct := N, bk := D.nx } σ2 H2) := by
  refine ⟨fun i m σ H => m = n - i ∧ i ≤ n ∧ Pv i σ H, ⟨n, by simp, Nat.zero_le _, h0⟩, ?_⟩
  rintro i m σ H ⟨rfl, hi, p⟩
  by_cases hlt : i < n
  · refine .inr ⟨hlt, Pv (i + 1), fun σ' H' p' => ⟨n - (i + 1), by omega, rfl, hlt, p'⟩, fun x H' y => ?_⟩
    obtain ⟨e, y⟩ := y
    subst e y
    exact hs i σ _ hlt p
  · have e : i = n := by omega
    subst e
    exact .inl ⟨Nat.le_refl _, hd σ H p⟩
/-- while, by a word and a measure of the state -/
theorem while_by {c : TT} {tb : TS} {D : Ends} {σ : St} {H : Hp} (Pv : St → Hp → Prop) (μ : St → Hp → Nat) (h0 : Pv σ H)
    (hs : ∀ σ H, Pv σ H → c σ H fun b H1 => if b = true then tb { D with nx := fun σ' H' => Pv σ' H' ∧ μ σ' H' < μ σ H, ct := fun σ' H' => Pv σ' H' ∧ μ σ' H' < μ σ H, bk := D.nx } σ H1 else D.nx σ H1)
    (mono : ∀ σ H Q Q', (∀ b H1, Q b H1 → Q' b H1) → c σ H Q → c σ H Q') : tWhile c tb D σ H := by
  refine ⟨fun m σ H => m = μ σ H ∧ Pv σ H, ⟨_, rfl, h0⟩, ?_⟩
  rintro m σ H ⟨rfl, p⟩
  refine mono σ H _ _ (fun b H1 q => ?_) (hs σ H p)
  cases b with
  | true => exact ⟨_, fun σ' H' ⟨p', l⟩ => ⟨_, l, rfl, p'⟩, q⟩
  | false => exact q
end L2

namespace L2
open PySem PySem.Spec PyProof.Rows

abbrev R2 := V → V → Hp → VK → Prop
/-- a two-place operation on values: f is binaryOp op, inplaceOp op or compareOp op -/
def OpR (X : Cx) (f : Value → Value → Sem Value) (r : R2) : Prop :=
  ∀ (pins : List (Addr × Obj)) (s : Shared) (σ : St) (H : Hp) (x y : V) (v u : Value) (Q : VK), Inv X pins σ H s → RelV x v → RelV y u → r x y H Q →
    wpAny (model X.prog X.w) X.A (f v u) (EP X pins σ Q) X.xe s
/-- a one-place operation -/
def UnR (X : Cx) (f : Value → Sem Value) (r : V → Hp → VK → Prop) : Prop :=
  ∀ (pins : List (Addr × Obj)) (s : Shared) (σ : St) (H : Hp) (x : V) (v : Value) (Q : VK), Inv X pins σ H s → RelV x v → r x H Q →
    wpAny (model X.prog X.w) X.A (f v) (EP X pins σ Q) X.xe s
/-- a call of a value that is known (a builtin, a type) with values -/
def CallR (X : Cx) (f : Value) (r : List V → Hp → VK → Prop) : Prop :=
  ∀ (pins : List (Addr × Obj)) (s : Shared) (σ : St) (H : Hp) (xs : List V) (us : List Value) (Q : VK), Inv X pins σ H s → Vals xs us → r xs H Q →
    wpAny (model X.prog X.w) X.A (call f us) (EP X pins σ Q) X.xe s
/-- a value's truth -/
def TruR (X : Cx) (r : V → Hp → (Bool → Hp → Prop) → Prop) : Prop :=
  ∀ (pins : List (Addr × Obj)) (s : Shared) (σ : St) (H : Hp) (x : V) (v : Value) (Q : Bool → Hp → Prop), Inv X pins σ H s → RelV x v → r x H Q →
    wpAny (model X.prog X.w) X.A (truthy v) (TP X pins σ Q) X.xe s

def tOp (r : R2) (ta tb : TE) : TE := fun σ H Q => ta σ H fun x H1 => tb σ H1 fun y H2 => r x y H2 Q
def tUn (r : V → Hp → VK → Prop) (ta : TE) : TE := fun σ H Q => ta σ H fun x H1 => r x H1 Q
/-- ints in, under C, and a value out -/
def rI (C : Int → Int → Prop) (g : Int → Int → V) : R2 := fun x y H Q => ∃ i j, x = .int i ∧ y = .int j ∧ C i j ∧ Q (g i j) H
def rI0 (g : Int → Int → V) : R2 := fun x y H Q => ∃ i j, x = .int i ∧ y = .int j ∧ Q (g i j) H
def rU (g : Int → V) : V → Hp → VK → Prop := fun x H Q => ∃ i, x = .int i ∧ Q (g i) H

section
variable {X : Cx} {a b c : Expr} {ta tb tc : TE} {pos : Pos}

theorem binT (ha : PE X a ta) (hb : PE X b tb) {pins : List (Addr × Obj)} {s : Shared} {σ : St} {H : Hp} {R : V → V → Hp → Prop} (I : Inv X pins σ H s)
    (h : ta σ H fun x H1 => tb σ H1 fun y H2 => R x y H2) {Q : Value → Shared → Prop} {f : Value → Value → Sem Value}
    (hf : ∀ v u s2 x y H2, Inv X pins σ H2 s2 → RelV x v → RelV y u → R x y H2 → wpAny (model X.prog X.w) X.A (f v u) Q X.xe s2) :
    wpAny (model X.prog X.w) X.A (eval a X.env) (fun v s₁ => wpAny (model X.prog X.w) X.A (eval b X.env) (fun u s₂ => wpAny (model X.prog X.w) X.A (f v u) Q X.xe s₂) X.xe s₁) X.xe s := by
  refine thn (ha pins s σ H _ I h) fun v s1 ⟨x, H1, I1, r1, q1⟩ => ?_
  refine thn (hb pins s1 σ H1 _ I1 q1) fun u s2 ⟨y, H2, I2, r2, q2⟩ => ?_
  exact hf v u s2 x y H2 I2 r1 r2 q2

theorem pe_op {op : Operator} {r : R2} (ho : OpR X (binaryOp op) r) (ha : PE X a ta) (hb : PE X b tb) : PE X (.BinOp a op b pos) (tOp r ta tb) := by
  intro pins s σ H Q I h
  exact wpAny_BinOp (binT ha hb I h fun v u s2 x y H2 I2 rx ry q => ho pins s2 σ H2 x y v u Q I2 rx ry q)
theorem pe_un {op : UnaryOp} {r : V → Hp → VK → Prop} (ho : UnR X (unaryOp op) r) (ha : PE X a ta) : PE X (.UnaryOp op a pos) (tUn r ta) := by
  intro pins s σ H Q I h
  exact UnaryOp_ (thn (ha pins s σ H _ I h) fun v s1 ⟨x, H1, I1, r1, q1⟩ => ho pins s1 σ H1 x v Q I1 r1 q1)
/-- a op= e at a name: the name's slot i -/
theorem augR {op : Operator} {r : R2} (ho : OpR X (inplaceOp op) r) {pins : List (Addr × Obj)} {s : Shared} {σ : St} {H : Hp} {x y : V} {v u : Value} {Q : VK} (I : Inv X pins σ H s)
    (rx : RelV x v) (ry : RelV y u) (q : r x y H Q) : wpAny (model X.prog X.w) X.A (inplaceOp op v u) (EP X pins σ Q) X.xe s := ho pins s σ H x y v u Q I rx ry q

/-! ### ints -/
theorem opI {f : Value → Value → Sem Value} {C : Int → Int → Prop} {g : Int → Int → Int}
    (rule : ∀ (i j : Int) (t u : Tok) (s : Shared) (Q : Value → Shared → Prop) (E : Value → Shared → Prop), C i j → Q (.int (g i j) s.toks) { s with toks := s.toks + 1 } → wpAny (model X.prog X.w) X.A (f (.int i t) (.int j u)) Q E s) :
    OpR X f (rI C fun i j => .int (g i j)) := by
  intro pins s σ H x y v u Q I rx ry h
  obtain ⟨i, j, rfl, rfl, hc, q⟩ := h
  obtain ⟨t, rfl⟩ := rx
  obtain ⟨t', rfl⟩ := ry
  exact rule i j t t' s _ _ hc ⟨.int (g i j), H, I.tok _, ⟨_, rfl⟩, q⟩
theorem opI0 {f : Value → Value → Sem Value} {g : Int → Int → Int}
    (rule : ∀ (i j : Int) (t u : Tok) (s : Shared) (Q : Value → Shared → Prop) (E : Value → Shared → Prop), Q (.int (g i j) s.toks) { s with toks := s.toks + 1 } → wpAny (model X.prog X.w) X.A (f (.int i t) (.int j u)) Q E s) :
    OpR X f (rI0 fun i j => .int (g i j)) := by
  intro pins s σ H x y v u Q I rx ry h
  obtain ⟨i, j, rfl, rfl, q⟩ := h
  obtain ⟨t, rfl⟩ := rx
  obtain ⟨t', rfl⟩ := ry
  exact rule i j t t' s _ _ ⟨.int (g i j), H, I.tok _, ⟨_, rfl⟩, q⟩
theorem opB0 {f : Value → Value → Sem Value} {g : Int → Int → Bool}
    (rule : ∀ (i j : Int) (t u : Tok) (s : Shared) (Q : Value → Shared → Prop) (E : Value → Shared → Prop), Q (.bool (g i j)) s → wpAny (model X.prog X.w) X.A (f (.int i t) (.int j u)) Q E s) :
    OpR X f (rI0 fun i j => .bl (g i j)) := by
  intro pins s σ H x y v u Q I rx ry h
  obtain ⟨i, j, rfl, rfl, q⟩ := h
  obtain ⟨t, rfl⟩ := rx
  obtain ⟨t', rfl⟩ := ry
  exact rule i j t t' s _ _ ⟨.bl (g i j), H, I, rfl, q⟩

def CDiv (i j : Int) : Prop := 0 < j ∧ j < 1073741824
def CDivN (i j : Int) : Prop := j ≠ 0 ∧ j.natAbs < 1073741824
def CPow (i j : Int) : Prop := 0 ≤ j ∧ j ≤ 1000000 ∧ i.natAbs < 2 ^ 64
def CMul (i j : Int) : Prop := (-(2 ^ 64) < i ∧ i < 2 ^ 64) ∨ (-(2 ^ 64) < j ∧ j < 2 ^ 64)
theorem CMul.ok {i j : Int} (h : CMul i j) : IntMulOk i j := by
  rcases h with ⟨h1, h2⟩ | ⟨h1, h2⟩
  · exact .of_left (intBits_le_64 h1 h2)
  · exact .of_right (intBits_le_64 h1 h2)
theorem two_pow_nn (k : Nat) : (0 : Int) ≤ 2 ^ k := by
  rw [two_pow_cast]
  exact Int.natCast_nonneg _

theorem op_add : OpR X (binaryOp .Add) (rI0 fun i j => .int (i + j)) := opI0 fun _ _ _ _ _ _ _ q => add_int q
theorem op_sub : OpR X (binaryOp .Sub) (rI0 fun i j => .int (i - j)) := opI0 fun _ _ _ _ _ _ _ q => sub_int q
theorem op_mul : OpR X (binaryOp .Mult) (rI CMul fun i j => .int (i * j)) := opI fun _ _ _ _ _ _ _ hc q => mul_int q hc.ok
/-- // by a positive divisor -/
theorem op_fdiv : OpR X (binaryOp .FloorDiv) (rI CDiv fun i j => .int (i / j)) := opI fun i j _ _ _ _ _ hc q => by
  have h1 : (0 : Int) < j := hc.1
  have h2 : j < 1073741824 := hc.2
  exact floordiv_int (by omega) (by rw [Int.fdiv_eq_ediv_of_nonneg i (by omega)]; exact q) (.inl (PyProof.noPylong_small (by omega)))
theorem op_fdivN : OpR X (binaryOp .FloorDiv) (rI CDivN fun i j => .int (i.fdiv j)) := opI fun _ _ _ _ _ _ _ hc q => floordiv_int hc.1 q (.inl (PyProof.noPylong_small hc.2))
/-- % by a positive divisor of any size -/
theorem op_mod : OpR X (binaryOp .Mod) (rI (fun _ j => 0 < j) fun i j => .int (i % j)) := opI fun i j _ _ _ _ _ hc q => by
  have h1 : (0 : Int) < j := hc
  exact mod_int' (by omega) (by rw [Int.fmod_eq_emod_of_nonneg i (by omega)]; exact q)
theorem op_modN : OpR X (binaryOp .Mod) (rI (fun _ j => j ≠ 0) fun i j => .int (i.fmod j)) := opI fun _ _ _ _ _ _ _ hc q => mod_int' hc q
theorem op_pow : OpR X (binaryOp .Pow) (rI CPow fun i j => .int (i ^ j.toNat)) := opI fun _ _ _ _ _ _ _ hc q => pow_int_small hc.1 hc.2.1 hc.2.2 q
theorem op_shl : OpR X (binaryOp .LShift) (rI CPow fun i j => .int (i * 2 ^ j.toNat)) := opI fun _ _ _ _ _ _ _ hc q => lshift_int_small hc.1 hc.2.1 hc.2.2 q
theorem op_shr : OpR X (binaryOp .RShift) (rI (fun _ j => 0 ≤ j) fun i j => .int (i / 2 ^ j.toNat)) := opI fun i j _ _ _ _ _ hc q =>
  rshift_int hc (by rw [Int.fdiv_eq_ediv_of_nonneg i (two_pow_nn _)]; exact q)
theorem op_and : OpR X (binaryOp .BitAnd) (rI0 fun i j => .int (Builtin.bitAnd i j)) := opI0 fun _ _ _ _ _ _ _ q => and_int q
theorem op_or : OpR X (binaryOp .BitOr) (rI0 fun i j => .int (Builtin.bitOr i j)) := opI0 fun _ _ _ _ _ _ _ q => or_int q
theorem op_xor : OpR X (binaryOp .BitXor) (rI0 fun i j => .int (Builtin.bitXor i j)) := opI0 fun _ _ _ _ _ _ _ q => xor_int q

theorem iop_add : OpR X (inplaceOp .Add) (rI0 fun i j => .int (i + j)) := opI0 fun _ _ _ _ _ _ _ q => iadd_int q
theorem iop_sub : OpR X (inplaceOp .Sub) (rI0 fun i j => .int (i - j)) := opI0 fun _ _ _ _ _ _ _ q => isub_int q
theorem iop_mul : OpR X (inplaceOp .Mult) (rI CMul fun i j => .int (i * j)) := opI fun _ _ _ _ _ _ _ hc q => imul_int q hc.ok
theorem iop_fdiv : OpR X (inplaceOp .FloorDiv) (rI CDiv fun i j => .int (i / j)) := opI fun i j _ _ _ _ _ hc q => by
  have h1 : (0 : Int) < j := hc.1
  have h2 : j < 1073741824 := hc.2
  exact ifloordiv_int (by omega) (by rw [Int.fdiv_eq_ediv_of_nonneg i (by omega)]; exact q) (.inl (PyProof.noPylong_small (by omega)))
theorem iop_mod : OpR X (inplaceOp .Mod) (rI (fun _ j => 0 < j) fun i j => .int (i % j)) := opI fun i j _ _ _ _ _ hc q => by
  have h1 : (0 : Int) < j := hc
  exact imod_int (by omega) (by rw [Int.fmod_eq_emod_of_nonneg i (by omega)]; exact q)
theorem iop_shl : OpR X (inplaceOp .LShift) (rI CPow fun i j => .int (i * 2 ^ j.toNat)) := opI fun _ _ _ _ _ _ _ hc q => ilshift_int_small hc.1 hc.2.1 hc.2.2 q
theorem iop_shr : OpR X (inplaceOp .RShift) (rI (fun _ j => 0 ≤ j) fun i j => .int (i / 2 ^ j.toNat)) := opI fun i j _ _ _ _ _ hc q =>
  irshift_int hc (by rw [Int.fdiv_eq_ediv_of_nonneg i (two_pow_nn _)]; exact q)
theorem iop_and : OpR X (inplaceOp .BitAnd) (rI0 fun i j => .int (Builtin.bitAnd i j)) := opI0 fun _ _ _ _ _ _ _ q => iand_int q
theorem iop_or : OpR X (inplaceOp .BitOr) (rI0 fun i j => .int (Builtin.bitOr i j)) := opI0 fun _ _ _ _ _ _ _ q => ior_int q
theorem iop_xor : OpR X (inplaceOp .BitXor) (rI0 fun i j => .int (Builtin.bitXor i j)) := opI0 fun _ _ _ _ _ _ _ q => ixor_int q

theorem unI {f : Value → Sem Value} {g : Int → Int}
    (rule : ∀ (i : Int) (t : Tok) (s : Shared) (Q : Value → Shared → Prop) (E : Value → Shared → Prop), Q (.int (g i) s.toks) { s with toks := s.toks + 1 } → wpAny (model X.prog X.w) X.A (f (.int i t)) Q E s) :
    UnR X f (rU fun i => .int (g i)) := by
  intro pins s σ H x v Q I rx h
  obtain ⟨i, rfl, q⟩ := h
  obtain ⟨t, rfl⟩ := rx
  exact rule i t s _ _ ⟨.int (g i), H, I.tok _, ⟨_, rfl⟩, q⟩
theorem un_neg : UnR X (unaryOp .USub) (rU fun i => .int (-i)) := unI fun _ _ _ _ _ q => neg_int q
theorem un_inv : UnR X (unaryOp .Invert) (rU fun i => .int (Builtin.bitNot i)) := unI fun _ _ _ _ _ q => invert_int q

/-! ### bools among ints: n += (a < b) -/
theorem op_add_ib : OpR X (binaryOp .Add) (fun x y H Q => ∃ i k, x = .int i ∧ y = .bl k ∧ Q (.int (i + b2i k)) H) := by
  intro pins s σ H x y v u Q I rx ry h
  obtain ⟨i, k, rfl, rfl, q⟩ := h
  obtain ⟨t, rfl⟩ := rx
  cases ry
  exact add_int_bool ⟨.int (i + b2i k), H, I.tok _, ⟨_, rfl⟩, q⟩
end

/-! ### comparisons -/
/-- the scalars that == tells apart as data does -/
def scal : V → V → Bool
  | .non, .non => true | .non, .int _ => true | .int _, .non => true | .non, .bl _ => true | .bl _, .non => true | .non, .str _ => true | .str _, .non => true
  | .int _, .int _ => true | .bl _, .bl _ => true | .str _, .str _ => true | .byt _, .byt _ => true
  | .int _, .str _ => true | .str _, .int _ => true | .bl _, .str _ => true | .str _, .bl _ => true
  | _, _ => false
def rEq : R2 := fun x y H Q => scal x y = true ∧ Q (.bl (decide (x = y))) H
def rNe : R2 := fun x y H Q => scal x y = true ∧ Q (.bl (!decide (x = y))) H

theorem dec_int {i j : Int} : decide (V.int i = V.int j) = (i == j) := by
  rw [Bool.eq_iff_iff]
  simp
theorem dec_bl {i j : Bool} : decide (V.bl i = V.bl j) = (i == j) := by
  rw [Bool.eq_iff_iff]
  simp
theorem dec_str {i j : Str} : decide (V.str i = V.str j) = (i == j) := by
  rw [Bool.eq_iff_iff]
  simp
theorem dec_byt {i j : Array UInt8} : decide (V.byt i = V.byt j) = (i.toList == j.toList) := by
  rw [Bool.eq_iff_iff]
  cases i
  cases j
  simp

section
variable {X : Cx} {a b c : Expr} {ta tb tc : TE} {pos : Pos}
theorem fin_bl {pins : List (Addr × Obj)} {σ : St} {H : Hp} {s : Shared} {Q : VK} {k k' : Bool} (I : Inv X pins σ H s) (q : Q (.bl k) H) (e : k = k') : EP X pins σ Q (.bool k') s := by
  subst e
  exact ⟨.bl k, H, I, rfl, q⟩
theorem op_eq : OpR X (compareOp .Eq) rEq := by
  intro pins s σ H x y v u Q I rx ry h
  obtain ⟨hs, q⟩ := h
  cases x with
  | non =>
    cases rx
    cases y with
    | non => cases ry; exact PySem.EqNone.eq_none_none (fin_bl I q (by simp))
    | bl j => cases ry; exact PySem.EqNone.eq_none_bool (fin_bl I q (by simp))
    | int j => obtain ⟨t', rfl⟩ := ry; exact PySem.EqNone.eq_none_int (fin_bl I q (by simp))
    | str j => obtain ⟨t', rfl⟩ := ry; exact PySem.EqNone.eq_none_str (fin_bl I q (by simp))
    | _ => exact absurd (show false = true from hs) Bool.false_ne_true
  | bl i =>
    cases rx
    cases y with
    | non => cases ry; exact PySem.EqNone.eq_bool_none (fin_bl I q (by simp))
    | bl j => cases ry; exact eq_bool (fin_bl I q dec_bl)
    | str j => obtain ⟨t', rfl⟩ := ry; exact PySem.EqMixed.eq_bool_str (fin_bl I q (by simp))
    | _ => exact absurd (show false = true from hs) Bool.false_ne_true
  | int i =>
    obtain ⟨t, rfl⟩ := rx
    cases y with
    | non => cases ry; exact PySem.EqNone.eq_int_none (fin_bl I q (by simp))
    | int j => obtain ⟨t', rfl⟩ := ry; exact eq_int (fin_bl I q dec_int)
    | str j => obtain ⟨t', rfl⟩ := ry; exact PySem.EqMixed.eq_int_str (fin_bl I q (by simp))
    | _ => exact absurd (show false = true from hs) Bool.false_ne_true
  | str i =>
    obtain ⟨t, rfl⟩ := rx
    cases y with
    | non => cases ry; exact PySem.EqNone.eq_str_none (fin_bl I q (by simp))
    | bl j => cases ry; exact PySem.EqMixed.eq_str_bool (fin_bl I q (by simp))
    | int j => obtain ⟨t', rfl⟩ := ry; exact PySem.EqMixed.eq_str_int (fin_bl I q (by simp))
    | str j => obtain ⟨t', rfl⟩ := ry; exact eq_str (fin_bl I q dec_str)
    | _ => exact absurd (show false = true from hs) Bool.false_ne_true
  | byt i =>
    obtain ⟨t, rfl⟩ := rx
    cases y with
    | byt j => obtain ⟨t', rfl⟩ := ry; exact PySem.W.eq_bytes (fin_bl I q dec_byt)
    | _ => exact absurd (show false = true from hs) Bool.false_ne_true
  | _ => cases y <;> exact absurd (show false = true from hs) Bool.false_ne_true
theorem op_ne : OpR X (compareOp .NotEq) rNe := by
  intro pins s σ H x y v u Q I rx ry h
  obtain ⟨hs, q⟩ := h
  cases x with
  | non =>
    cases rx
    cases y with
    | non => cases ry; exact PySem.EqNone.ne_none_none (fin_bl I q (by simp))
    | bl j => cases ry; exact PySem.EqNone.ne_none_bool (fin_bl I q (by simp))
    | int j => obtain ⟨t', rfl⟩ := ry; exact PySem.EqNone.ne_none_int (fin_bl I q (by simp))
    | str j => obtain ⟨t', rfl⟩ := ry; exact PySem.EqNone.ne_none_str (fin_bl I q (by simp))
    | _ => exact absurd (show false = true from hs) Bool.false_ne_true
  | bl i =>
    cases rx
    cases y with
    | non => cases ry; exact PySem.EqNone.ne_bool_none (fin_bl I q (by simp))
    | bl j => cases ry; exact ne_bool (fin_bl I q (congrArg not dec_bl))
    | str j => obtain ⟨t', rfl⟩ := ry; exact PySem.EqMixed.ne_bool_str (fin_bl I q (by simp))
    | _ => exact absurd (show false = true from hs) Bool.false_ne_true
  | int i =>
    obtain ⟨t, rfl⟩ := rx
    cases y with
    | non => cases ry; exact PySem.EqNone.ne_int_none (fin_bl I q (by simp))
    | int j => obtain ⟨t', rfl⟩ := ry; exact ne_int (fin_bl I q (congrArg not dec_int))
    | str j => obtain ⟨t', rfl⟩ := ry; exact PySem.EqMixed.ne_int_str (fin_bl I q (by simp))
    | _ => exact absurd (show false = true from hs) Bool.false_ne_true
  | str i =>
    obtain ⟨t, rfl⟩ := rx
    cases y with
    | non => cases ry; exact PySem.EqNone.ne_str_none (fin_bl I q (by simp))
    | bl j => cases ry; exact PySem.EqMixed.ne_str_bool (fin_bl I q (by simp))
    | int j => obtain ⟨t', rfl⟩ := ry; exact PySem.EqMixed.ne_str_int (fin_bl I q (by simp))
    | str j => obtain ⟨t', rfl⟩ := ry; exact ne_str (fin_bl I q (congrArg not dec_str))
    | _ => exact absurd (show false = true from hs) Bool.false_ne_true
  | byt i =>
    obtain ⟨t, rfl⟩ := rx
    cases y with
    | byt j => obtain ⟨t', rfl⟩ := ry; exact PySem.W.ne_bytes (fin_bl I q (congrArg not dec_byt))
    | _ => exact absurd (show false = true from hs) Bool.false_ne_true
  | _ => cases y <;> exact absurd (show false = true from hs) Bool.false_ne_true

theorem op_lt : OpR X (compareOp .Lt) (rI0 fun i j => .bl (decide (i < j))) := opB0 fun _ _ _ _ _ _ _ q => lt_int q
theorem op_le : OpR X (compareOp .LtE) (rI0 fun i j => .bl (decide (i ≤ j))) := opB0 fun _ _ _ _ _ _ _ q => le_int q
theorem op_gt : OpR X (compareOp .Gt) (rI0 fun i j => .bl (decide (j < i))) := opB0 fun _ _ _ _ _ _ _ q => gt_int q
theorem op_ge : OpR X (compareOp .GtE) (rI0 fun i j => .bl (decide (j ≤ i))) := opB0 fun _ _ _ _ _ _ _ q => ge_int q
theorem op_lt_str : OpR X (compareOp .Lt) (fun x y H Q => ∃ i j, x = .str i ∧ y = .str j ∧ Q (.bl (decide (i.cps.toList < j.cps.toList))) H) := by
  intro pins s σ H x y v u Q I rx ry h
  obtain ⟨i, j, rfl, rfl, q⟩ := h
  obtain ⟨t, rfl⟩ := rx
  obtain ⟨t', rfl⟩ := ry
  exact lt_str (fin_bl I q rfl)
/-- the one string within the other -/
theorem op_in_str : OpR X (compareOp .In) (fun x y H Q => ∃ i j, x = .str i ∧ y = .str j ∧ Q (.bl (!(Builtin.Str.occurrences j i 0 j.length 1).isEmpty)) H) := by
  intro pins s σ H x y v u Q I rx ry h
  obtain ⟨i, j, rfl, rfl, q⟩ := h
  obtain ⟨t, rfl⟩ := rx
  obtain ⟨t', rfl⟩ := ry
  exact in_str (fin_bl I q rfl)

/-- is None, is not None: the right side a value none -/
theorem op_isN : OpR X (compareOp .Is) (fun x y H Q => y = .non ∧ Q (.bl (decide (x = .non))) H) := by
  intro pins s σ H x y v u Q I rx ry h
  obtain ⟨rfl, q⟩ := h
  cases ry
  refine is_none_gen (fin_bl I q ?_)
  cases x <;> first
    | (cases rx; rfl)
    | (obtain ⟨t, rfl⟩ := rx; rfl)
theorem op_notN : OpR X (compareOp .IsNot) (fun x y H Q => y = .non ∧ Q (.bl (!decide (x = .non))) H) := by
  intro pins s σ H x y v u Q I rx ry h
  obtain ⟨rfl, q⟩ := h
  cases ry
  refine isnot_none_gen (fin_bl I q ?_)
  cases x <;> first
    | (cases rx; rfl)
    | (obtain ⟨t, rfl⟩ := rx; rfl)

theorem op_notin_str : OpR X (compareOp .NotIn) (fun x y H Q => ∃ i j, x = .str i ∧ y = .str j ∧ Q (.bl (!(!(Builtin.Str.occurrences j i 0 j.length 1).isEmpty))) H) := by
  intro pins s σ H x y v u Q I rx ry h
  obtain ⟨i, j, rfl, rfl, q⟩ := h
  obtain ⟨t, rfl⟩ := rx
  obtain ⟨t', rfl⟩ := ry
  exact notIn_str (fin_bl I q rfl)
/-- is, is not of two objects that are tracked lists or instances -/
def isObj : HO → Bool
  | .lst _ => true
  | .ins _ _ _ => true
  | _ => false
theorem obj_there {pins : List (Addr × Obj)} {s : Shared} {σ : St} {H : Hp} {a : Addr} {o : HO} (I : Inv X pins σ H s) (h : H a = some o) (p : isObj o = true) : ∃ ob, s.heap.get? a = some ob ∧ ob.cls ≠ .type "tuple" := by
  cases o with
  | lst xs =>
    obtain ⟨_, its, n, _, e⟩ : xs.length ≤ sizeLine ∧ ∃ (its : List Value) (n : Nat), Vals xs its ∧ s.heap.get? a = some { cls := .type "list", data := .seq its.toArray n } := I.hok a _ h
    exact ⟨_, e, (by show Value.type "list" ≠ .type "tuple"; decide +kernel)⟩
  | ins C dx fs =>
    have x := I.hok a _ h
    obtain ⟨_, _, _, e, _⟩ := x
    exact ⟨_, e, (by show Value.ref C ≠ .type "tuple"; exact fun z => by cases z)⟩
  | _ => exact absurd (show false = true from p) Bool.false_ne_true
theorem op_is_ref : OpR X (compareOp .Is) (fun x y H Q => ∃ a b oa ob, x = .ref a ∧ y = .ref b ∧ H a = some oa ∧ isObj oa = true ∧ H b = some ob ∧ isObj ob = true ∧ Q (.bl (decide (a = b))) H) := by
  intro pins s σ H x y v u Q I rx ry h
  obtain ⟨a, b, oa, ob, rfl, rfl, ha, pa, hb, pb, q⟩ := h
  cases rx
  cases ry
  obtain ⟨o1, e1, n1⟩ := obj_there I ha pa
  obtain ⟨o2, e2, _⟩ := obj_there I hb pb
  by_cases z : a = b
  · subst z
    exact wpAny_is_ref_self (fin_bl I q (by simp))
  · exact wpAny_is_ref_other z e1 e2 n1 (fin_bl I q (by simp [z]))
theorem op_isnot_ref : OpR X (compareOp .IsNot) (fun x y H Q => ∃ a b oa ob, x = .ref a ∧ y = .ref b ∧ H a = some oa ∧ isObj oa = true ∧ H b = some ob ∧ isObj ob = true ∧ Q (.bl (!decide (a = b))) H) := by
  intro pins s σ H x y v u Q I rx ry h
  obtain ⟨a, b, oa, ob, rfl, rfl, ha, pa, hb, pb, q⟩ := h
  cases rx
  cases ry
  obtain ⟨o1, e1, n1⟩ := obj_there I ha pa
  obtain ⟨o2, e2, _⟩ := obj_there I hb pb
  by_cases z : a = b
  · subst z
    exact wpAny_isNot_ref_self (fin_bl I q (by simp))
  · exact wpAny_isNot_ref_other z e1 e2 n1 (fin_bl I q (by simp [z]))

/-- two rules for one operation: by cases -/
theorem OpR.or {f : Value → Value → Sem Value} {r r' : R2} (h : OpR X f r) (h' : OpR X f r') : OpR X f (fun x y H Q => r x y H Q ∨ r' x y H Q) := by
  intro pins s σ H x y v u Q I rx ry q
  rcases q with q | q
  · exact h pins s σ H x y v u Q I rx ry q
  · exact h' pins s σ H x y v u Q I rx ry q

theorem nomark (b : Expr) {op : CmpOp} (h : op ≠ .In := by decide) (h2 : op ≠ .NotIn := by decide) : behindInMarks op b = false := by
  have e1 : (op == CmpOp.In) = false := by cases op <;> first | rfl | exact absurd rfl h
  have e2 : (op == CmpOp.NotIn) = false := by cases op <;> first | rfl | exact absurd rfl h2
  cases b <;> simp [behindInMarks, e1, e2]
/-- a comparison as a value; hm: nomark b, or (for in, not in) by with_unfolding_all rfl -/
theorem pe_cmpR {op : CmpOp} {r : R2} (ho : OpR X (compareOp op) r) (ha : PE X a ta) (hb : PE X b tb) (hm : behindInMarks op b = false) : PE X (.Compare a [op] [b] pos) (tOp r ta tb) := by
  intro pins s σ H Q I h
  exact wpAny_Compare1 (binT ha hb I h fun v u s2 x y H2 I2 rx ry q => ho pins s2 σ H2 x y v u Q I2 rx ry q) hm
/-- a reading of a value as a test -/
def tTest (t : TE) : TT := fun σ H Q => t σ H fun x H' => ∃ k, x = .bl k ∧ Q k H'
theorem pt_cmpR {op : CmpOp} {r : R2} (ho : OpR X (compareOp op) r) (ha : PE X a ta) (hb : PE X b tb) (hm : behindInMarks op b = false) : PT X (.Compare a [op] [b] pos) (tTest (tOp r ta tb)) := by
  intro pins s σ H Q I h
  refine wpAny_isTrue_Compare1 (thn (ha pins s σ H _ I h) fun v s1 ⟨x, H1, I1, r1, q1⟩ => thn (hb pins s1 σ H1 _ I1 q1) fun u s2 ⟨y, H2, I2, r2, q2⟩ =>
    thn (ho pins s2 σ H2 x y v u _ I2 r1 r2 q2) fun c s3 ⟨z, H3, I3, r3, k, e, q3⟩ => ?_) hm
  subst e
  cases r3
  exact wpAny_truthy_bool ⟨H3, I3, q3⟩
/-- a op1 b op2 c -/
def tChain (r r' : R2) (ta tb tc : TE) : TE := fun σ H Q => ta σ H fun x H1 => tb σ H1 fun y H2 => r x y H2 fun z H3 => ∃ k, z = .bl k ∧
  (if k = true then tc σ H3 fun w' H4 => r' y w' H4 Q else Q (.bl false) H3)
theorem pe_chain {op op' : CmpOp} {r r' : R2} (ho : OpR X (compareOp op) r) (ho' : OpR X (compareOp op') r') (ha : PE X a ta) (hb : PE X b tb) (hc : PE X c tc)
    (hm : lastMarks [op, op'] [b, c] = false := by with_unfolding_all rfl) : PE X (.Compare a [op, op'] [b, c] pos) (tChain r r' ta tb tc) := by
  intro pins s σ H Q I h
  refine Compare_chain (thn (ha pins s σ H _ I h) fun v s1 ⟨x, H1, I1, r1, q1⟩ => chain_link (thn (hb pins s1 σ H1 _ I1 q1) fun u s2 ⟨y, H2, I2, r2, q2⟩ =>
    thn (ho pins s2 σ H2 x y v u _ I2 r1 r2 q2) fun d s3 ⟨z, H3, I3, r3, k, e, q3⟩ => ?_)) hm
  subst e
  cases r3
  refine wpAny_truthy_bool ?_
  cases k with
  | false => exact ite_ff ⟨.bl false, H3, I3, rfl, q3⟩
  | true => exact ite_tt (chain_last (thn (hc pins s3 σ H3 _ I3 q3) fun w' s4 ⟨z', H4, I4, r4, q4⟩ => ho' pins s4 σ H4 y z' u w' Q I4 r2 r4 q4))
theorem pt_chain {op op' : CmpOp} {r r' : R2} (ho : OpR X (compareOp op) r) (ho' : OpR X (compareOp op') r') (ha : PE X a ta) (hb : PE X b tb) (hc : PE X c tc)
    (hm : lastMarks [op, op'] [b, c] = false := by with_unfolding_all rfl) : PT X (.Compare a [op, op'] [b, c] pos) (tTest (tChain r r' ta tb tc)) := by
  intro pins s σ H Q I h
  refine isTrue_chain (thn (ha pins s σ H _ I h) fun v s1 ⟨x, H1, I1, r1, q1⟩ => test_link (thn (hb pins s1 σ H1 _ I1 q1) fun u s2 ⟨y, H2, I2, r2, q2⟩ =>
    thn (ho pins s2 σ H2 x y v u _ I2 r1 r2 q2) fun d s3 ⟨z, H3, I3, r3, k, e, q3⟩ => ?_)) hm
  subst e
  cases r3
  refine wpAny_truthy_bool ?_
  cases k with
  | false =>
    obtain ⟨k', e', q'⟩ := q3
    cases e'
    exact ite_ff ⟨H3, I3, q'⟩
  | true =>
    refine ite_tt (test_last (thn (hc pins s3 σ H3 _ I3 q3) fun w' s4 ⟨z', H4, I4, r4, q4⟩ => thn (ho' pins s4 σ H4 y z' u w' _ I4 r2 r4 q4) fun d' s5 ⟨z2, H5, I5, r5, k2, e2, q5⟩ => ?_))
    subst e2
    cases r5
    exact wpAny_truthy_bool ⟨H5, I5, q5⟩

/-! ### truth -/
/-- a value's truth by the abstract heap -/
def TruV (K : PySem.W.Frag) (x : V) (H : Hp) (k : Bool) : Prop :=
  match x with
  | .non => k = false
  | .bl b => k = b
  | .int i => k = (i != 0)
  | .str y => y.length ≤ sizeLine ∧ k = ((y.length : Int) != 0)
  | .byt y => y.size ≤ sizeLine ∧ k = ((y.size : Int) != 0)
  | .ref p => (∃ xs, SqL K H p xs ∧ k = !xs.isEmpty) ∨ (∃ xs, SqT K H p xs ∧ k = !xs.isEmpty) ∨ ∃ kvs, H p = some (.dK kvs) ∧ k = !kvs.isEmpty
  | _ => False
theorem isEmpty_kv {κ : Type} {kvs : List (κ × V)} {vs : List (κ × Value)} (r : KV kvs vs) : (!vs.isEmpty) = !kvs.isEmpty := by
  cases r <;> rfl
theorem isEmpty_of {xs : List V} {its : List Value} (r : Vals xs its) : (!its.toArray.isEmpty) = !xs.isEmpty := by
  cases r <;> simp
theorem line63 : (sizeLine : Nat) < 2 ^ 63 := by rw [sizeLine_eq]; decide
theorem tru_ok : TruR X (fun x H Q => ∃ k, TruV X.K x H k ∧ Q k H) := by
  intro pins s σ H x v Q I rx h
  obtain ⟨k, e, q⟩ := h
  have hl := line63
  have hs : sizeLine = 16777216 := sizeLine_eq
  cases x with
  | non =>
    cases rx
    have e' : k = false := e
    subst e'
    exact truthy_none ⟨H, I, q⟩
  | bl b =>
    cases rx
    have e' : k = b := e
    subst e'
    exact wpAny_truthy_bool ⟨H, I, q⟩
  | int i =>
    obtain ⟨t, rfl⟩ := rx
    have e' : k = (i != 0) := e
    subst e'
    exact PySem.P.truthy_int ⟨H, I, q⟩
  | str y =>
    obtain ⟨t, rfl⟩ := rx
    obtain ⟨hy, e'⟩ : y.length ≤ sizeLine ∧ k = ((y.length : Int) != 0) := e
    subst e'
    exact PySem.P.truthy_str (by omega) ⟨H, I.tok _, q⟩
  | byt y =>
    obtain ⟨t, rfl⟩ := rx
    obtain ⟨hy, e'⟩ : y.size ≤ sizeLine ∧ k = ((y.size : Int) != 0) := e
    subst e'
    exact PySem.W.truthy_bytes (by omega) ⟨H, I.tok _, q⟩
  | ref p =>
    cases rx
    have e' : (∃ xs, SqL X.K H p xs ∧ k = !xs.isEmpty) ∨ (∃ xs, SqT X.K H p xs ∧ k = !xs.isEmpty) ∨ ∃ kvs, H p = some (.dK kvs) ∧ k = !kvs.isEmpty := e
    rcases e' with ⟨xs, hx, e'⟩ | ⟨xs, hx, e'⟩ | ⟨kvs, hx, e'⟩
    · subst e'
      obtain ⟨its, r, pl, hz⟩ := I.list hx
      have hlen := r.length
      exact wpAny_truthy_list pl.isList (by simp only [List.size_toArray]; omega) ⟨H, I.tok _, by rw [isEmpty_of r]; exact q⟩
    · subst e'
      obtain ⟨its, r, pl, hz⟩ := I.tuple hx
      have hlen := r.length
      exact truthy_tuple pl (by simp only [List.size_toArray]; omega) ⟨H, I.tok _, by rw [isEmpty_of r]; exact q⟩
    · subst e'
      obtain ⟨hz, hS, vs, r, m⟩ : kvs.length ≤ sizeLine ∧ (p == sysModules) = false ∧ ∃ vs, KV kvs vs ∧ s.heap.DictOf (mixKind X.prog X.w) p vs := I.hok p _ hx
      have hlen : kvs.length = vs.length := Paired.length r
      exact wpAny_truthy_dict hS m (by omega) ⟨H, I.tok _, by rw [isEmpty_kv r]; exact q⟩
  | _ => exact (show False from e).elim
/-- any expression whose test is its value's truth (a name, a call, a subscript, a field ..: he by fun _ => rfl) -/
theorem pt_truth (ha : PE X a ta) (he : ∀ whole, isTrue a X.env whole = (do let v ← whole; standAt a.pos; holding [v] (truthy v))) :
    PT X a (fun σ H Q => ta σ H fun x H' => ∃ k, TruV X.K x H' k ∧ Q k H') := by
  intro pins s σ H Q I h
  exact isTrue_plain (thn (ha pins s σ H _ I h) fun v s1 ⟨x, H1, I1, r1, q1⟩ => tru_ok pins s1 σ H1 x v Q I1 r1 q1) (he _)

/-! ### strs and bytes -/
theorem pe_byt {x : List UInt8} {k : Nat} : PE X (.Constant (.bytes x) k pos) (fun _ H Q => Q (.byt x.toArray) H) := fun _ _ _ H _ I h => PySem.W.Constant_bytes ⟨.byt x.toArray, H, I.tok _, ⟨_, rfl⟩, h⟩
theorem op_add_str : OpR X (binaryOp .Add) (fun x y H Q => ∃ i j, x = .str i ∧ y = .str j ∧ i.length + j.length ≤ sizeLine ∧ Q (.str (i ++ j)) H) := by
  intro pins s σ H x y v u Q I rx ry h
  obtain ⟨i, j, rfl, rfl, hz, q⟩ := h
  obtain ⟨t, rfl⟩ := rx
  obtain ⟨t', rfl⟩ := ry
  exact add_str (fun t' tk => ⟨.str (i ++ j), H, I.tok _, ⟨_, rfl⟩, q⟩) hz
theorem iop_add_str : OpR X (inplaceOp .Add) (fun x y H Q => ∃ i j, x = .str i ∧ y = .str j ∧ i.length + j.length ≤ sizeLine ∧ Q (.str (i ++ j)) H) := by
  intro pins s σ H x y v u Q I rx ry h
  obtain ⟨i, j, rfl, rfl, hz, q⟩ := h
  obtain ⟨t, rfl⟩ := rx
  obtain ⟨t', rfl⟩ := ry
  exact iadd_str (fun t' tk => ⟨.str (i ++ j), H, I.tok _, ⟨_, rfl⟩, q⟩) hz
theorem op_add_byt : OpR X (binaryOp .Add) (fun x y H Q => ∃ i j, x = .byt i ∧ y = .byt j ∧ i.size + j.size ≤ 16777216 ∧ Q (.byt (i ++ j)) H) := by
  intro pins s σ H x y v u Q I rx ry h
  obtain ⟨i, j, rfl, rfl, hz, q⟩ := h
  obtain ⟨t, rfl⟩ := rx
  obtain ⟨t', rfl⟩ := ry
  exact PySem.W.KBy.add_bytes hz (fun t' tk => ⟨.byt (i ++ j), H, I.tok _, ⟨_, rfl⟩, q⟩)

def PlainIxT (b : Expr) : Prop := ∀ o i, subscripted b false o i = operate [o, i] (getItem o i)
/-- s[i], 0 ≤ i < len -/
theorem pe_item_str (ha : PE X a ta) (hb : PE X b tb) (hs : PlainIxT b) :
    PE X (.Subscript a b pos) (tOp (fun x y H Q => ∃ z i c, x = .str z ∧ y = .int i ∧ 0 ≤ i ∧ i < 2 ^ 63 ∧ i < z.length ∧ z.cps[i.toNat]? = some c ∧ Q (.str ⟨#[c]⟩) H) ta tb) := by
  intro pins s σ H Q I h
  refine Subscript_ (binT ha hb I h fun v u s2 x y H2 I2 rx ry q => ?_)
  obtain ⟨z, i, c, rfl, rfl, h0, h63, h1, hc, q⟩ := q
  obtain ⟨t, rfl⟩ := rx
  obtain ⟨t', rfl⟩ := ry
  have e : seqIndex? i z.length = some i.toNat := PySem.StrLaws.seqIndex_nonneg h0 h1
  exact tail_any (typeIs_str s2 z t) slot_str_getitem.lookup (getItem_str (c := c) (by
    have e1 : decide (i < -(2 ^ 63 : Int)) = false := decide_eq_false (by omega)
    have e2 : decide (i ≥ 2 ^ 63) = false := decide_eq_false (by omega)
    rw [e1, e2] <;> rfl) (by rw [e]; exact hc) ⟨.str ⟨#[c]⟩, H2, I2.tok _, ⟨_, rfl⟩, q⟩) (hs _ _)
/-- b[i], 0 ≤ i < len -/
theorem pe_item_byt (ha : PE X a ta) (hb : PE X b tb) (hs : PlainIxT b) :
    PE X (.Subscript a b pos) (tOp (fun x y H Q => ∃ (z : List UInt8) (i : Int), x = .byt z.toArray ∧ y = .int i ∧ z.length ≤ sizeLine ∧ 0 ≤ i ∧ i < z.length ∧ Q (.int ((z.getD i.toNat 0).toNat : Nat)) H) ta tb) := by
  intro pins s σ H Q I h
  refine Subscript_ (binT ha hb I h fun v u s2 x y H2 I2 rx ry q => ?_)
  obtain ⟨z, i, rfl, rfl, hz, h0, h1, q⟩ := q
  obtain ⟨t, rfl⟩ := rx
  obtain ⟨t', rfl⟩ := ry
  have hl : sizeLine = 16777216 := sizeLine_eq
  exact tail_any (PySem.W.typeIs_bytes s2 z.toArray t) PySem.W.FB.slot_bytes_getitem.lookup (PySem.W.getItem_bytes (by omega) h0 h1 ⟨.int ((z.getD i.toNat 0).toNat : Nat), H2, I2.tok _, ⟨_, rfl⟩, q⟩) (hs _ _)

/-! ### scalar builtins, by CallR -/
theorem vals1 {x : V} {us : List Value} (r : Vals [x] us) : ∃ u, us = [u] ∧ RelV x u := by
  cases r with
  | cons r1 r2 => cases r2; exact ⟨_, rfl, r1⟩
theorem vals2 {x y : V} {us : List Value} (r : Vals [x, y] us) : ∃ u w', us = [u, w'] ∧ RelV x u ∧ RelV y w' := by
  cases r with
  | cons r1 r2 =>
    cases r2 with
    | cons r3 r4 => cases r4; exact ⟨_, _, rfl, r1, r3⟩
theorem call_abs : CallR X (.builtin "abs") (fun xs H Q => ∃ i, xs = [.int i] ∧ Q (.int (if i < 0 then -i else i)) H) := by
  intro pins s σ H xs us Q I r h
  obtain ⟨i, rfl, q⟩ := h
  obtain ⟨u, rfl, t, rfl⟩ := vals1 r
  exact call_abs_int fun u tk => ⟨.int (if i < 0 then -i else i), H, I.tok _, ⟨_, rfl⟩, q⟩
theorem call_max2 (hc : X.calm = true) : CallR X (.builtin "max") (fun xs H Q => ∃ i j, xs = [.int i, .int j] ∧ Q (.int (if j > i then j else i)) H) := by
  intro pins s σ H xs us Q I r h
  obtain ⟨i, j, rfl, q⟩ := h
  obtain ⟨u, w', rfl, ⟨t, rfl⟩, ⟨t', rfl⟩⟩ := vals2 r
  refine max_two_ints (I.ok.hd hc) fun h' tk k => ⟨_, H, I.kept k, ?_, q⟩
  by_cases hj : j > i
  · rw [if_pos hj, if_pos hj]; exact ⟨_, rfl⟩
  · rw [if_neg hj, if_neg hj]; exact ⟨_, rfl⟩
theorem call_min2 (hc : X.calm = true) : CallR X (.builtin "min") (fun xs H Q => ∃ i j, xs = [.int i, .int j] ∧ Q (.int (if j < i then j else i)) H) := by
  intro pins s σ H xs us Q I r h
  obtain ⟨i, j, rfl, q⟩ := h
  obtain ⟨u, w', rfl, ⟨t, rfl⟩, ⟨t', rfl⟩⟩ := vals2 r
  refine min_two_ints (I.ok.hd hc) fun h' tk k => ⟨_, H, I.kept k, ?_, q⟩
  by_cases hj : j < i
  · rw [if_pos hj, if_pos hj]; exact ⟨_, rfl⟩
  · rw [if_neg hj, if_neg hj]; exact ⟨_, rfl⟩
theorem call_int1 : CallR X (.type "int") (fun xs H Q => (∃ i, xs = [.int i] ∧ Q (.int i) H) ∨ ∃ k, xs = [.bl k] ∧ Q (.int (if k then 1 else 0)) H) := by
  intro pins s σ H xs us Q I r h
  rcases h with ⟨i, rfl, q⟩ | ⟨k, rfl, q⟩
  · obtain ⟨u, rfl, t, rfl⟩ := vals1 r
    exact call_int_int ⟨.int i, H, I, ⟨_, rfl⟩, q⟩
  · obtain ⟨u, rfl, r1⟩ := vals1 r
    cases r1
    exact call_int_bool ⟨.int (if k then 1 else 0), H, I.tok _, ⟨_, rfl⟩, q⟩
theorem call_bool1 : CallR X (.type "bool") (fun xs H Q => (∃ i, xs = [.int i] ∧ Q (.bl (i != 0)) H) ∨ ∃ k, xs = [.bl k] ∧ Q (.bl k) H) := by
  intro pins s σ H xs us Q I r h
  rcases h with ⟨i, rfl, q⟩ | ⟨k, rfl, q⟩
  · obtain ⟨u, rfl, t, rfl⟩ := vals1 r
    exact call_bool_int ⟨.bl (i != 0), H, I, rfl, q⟩
  · obtain ⟨u, rfl, r1⟩ := vals1 r
    cases r1
    exact call_bool_bool ⟨.bl k, H, I, rfl, q⟩
theorem call_str_int : CallR X (.type "str") (fun xs H Q => ∃ i, xs = [.int i] ∧ i.natAbs.log2 < 1920 ∧ Q (.str (toString i)) H) := by
  intro pins s σ H xs us Q I r h
  obtain ⟨i, rfl, hz, q⟩ := h
  obtain ⟨u, rfl, t, rfl⟩ := vals1 r
  exact PySem.P.str_of_int hz ⟨.str _, H, I.tok _, ⟨_, rfl⟩, q⟩
theorem call_ord : CallR X (.builtin "ord") (fun xs H Q => ∃ x, xs = [.str x] ∧ x.length = 1 ∧ Q (.int (x.cps.getD 0 0 : Nat)) H) := by
  intro pins s σ H xs us Q I r h
  obtain ⟨x, rfl, hz, q⟩ := h
  obtain ⟨u, rfl, t, rfl⟩ := vals1 r
  exact ord_of_one hz ⟨.int _, H, I.tok _, ⟨_, rfl⟩, q⟩
theorem call_chr : CallR X (.builtin "chr") (fun xs H Q => ∃ i, xs = [.int i] ∧ 0 ≤ i ∧ i ≤ 1114111 ∧ Q (.str ⟨#[i.toNat]⟩) H) := by
  intro pins s σ H xs us Q I r h
  obtain ⟨i, rfl, h0, h1, q⟩ := h
  obtain ⟨u, rfl, t, rfl⟩ := vals1 r
  exact chr_of_range h0 h1 ⟨.str _, H, I.tok _, ⟨_, rfl⟩, q⟩
/-- len of a str, a bytes, a list, a tuple -/
def LenV (K : PySem.W.Frag) (x : V) (H : Hp) (n : Nat) : Prop :=
  match x with
  | .str y => y.length ≤ sizeLine ∧ n = y.length
  | .byt y => y.size ≤ sizeLine ∧ n = y.size
  | .ref p => (∃ xs, SqL K H p xs ∧ n = xs.length) ∨ ∃ xs, SqT K H p xs ∧ n = xs.length
  | _ => False
theorem call_len : CallR X (.builtin "len") (fun xs H Q => ∃ x n, xs = [x] ∧ LenV X.K x H n ∧ Q (.int n) H) := by
  intro pins s σ H xs us Q I r h
  obtain ⟨x, n, rfl, e, q⟩ := h
  obtain ⟨u, rfl, rx⟩ := vals1 r
  have hl := line63
  have hs : sizeLine = 16777216 := sizeLine_eq
  cases x with
  | str y =>
    obtain ⟨t, rfl⟩ := rx
    obtain ⟨hy, e'⟩ : y.length ≤ sizeLine ∧ n = y.length := e
    subst e'
    exact len_str (by omega) ⟨.int _, H, I.tok _, ⟨_, rfl⟩, q⟩
  | byt y =>
    obtain ⟨t, rfl⟩ := rx
    obtain ⟨hy, e'⟩ : y.size ≤ sizeLine ∧ n = y.size := e
    subst e'
    exact PySem.W.len_bytes (by omega) ⟨.int _, H, I.tok _, ⟨_, rfl⟩, q⟩
  | ref p =>
    cases rx
    have e' : (∃ xs, SqL X.K H p xs ∧ n = xs.length) ∨ ∃ xs, SqT X.K H p xs ∧ n = xs.length := e
    rcases e' with ⟨xs, hx, e'⟩ | ⟨xs, hx, e'⟩
    · subst e'
      obtain ⟨its, r', pl, hz⟩ := I.list hx
      have hlen := r'.length
      exact Calls.call_len_list pl.isList (by simp only [List.size_toArray]; omega) ⟨.int xs.length, H, I.tok _, ⟨_, by simp only [List.size_toArray]; rw [hlen]⟩, q⟩
    · subst e'
      obtain ⟨its, r', pl, hz⟩ := I.tuple hx
      have hlen := r'.length
      exact len_tuple pl (by simp only [List.size_toArray]; omega) ⟨.int xs.length, H, I.tok _, ⟨_, by simp only [List.size_toArray]; rw [hlen]⟩, q⟩
  | _ => exact (show False from e).elim
/-- divmod: a new tuple -/
theorem call_divmod : CallR X (.builtin "divmod") (fun xs H Q => ∃ i j, xs = [.int i, .int j] ∧ CDiv i j ∧ ∀ p, H p = none → Q (.ref p) (upd H p (.tup [.int (i / j), .int (i % j)]))) := by
  intro pins s σ H xs us Q I r h
  obtain ⟨i, j, rfl, ⟨h1, h2⟩, q⟩ := h
  obtain ⟨u, w', rfl, ⟨t, rfl⟩, ⟨t', rfl⟩⟩ := vals2 r
  refine divmod_int (by omega) ?_ (.inl (PyProof.noPylong_small (by omega)))
  rw [Int.fdiv_eq_ediv_of_nonneg i (by omega), Int.fmod_eq_emod_of_nonneg i (by omega)]
  have hn : H s.heap.objs.size = none := I.hok.fresh (Nat.le_refl _)
  refine ⟨.ref s.heap.objs.size, _, ?_, rfl, q _ hn⟩
  refine I.laid (fun b o e => Heap.get?_push_of_some _ e) (Nat.le_refl _) ⟨by simp only [List.length_cons, List.length_nil]; rw [sizeLine_eq]; decide, [.int (i / j) s.toks, .int (i % j) (s.toks + 1)], .cons ⟨_, rfl⟩ (.cons ⟨_, rfl⟩ .nil), ?_⟩
  exact ⟨_, Heap.get?_push_size s.heap rfl, rfl, 0, rfl⟩
end
end L2

namespace L2
open PySem PySem.Spec PyProof.Rows

/-! ### an instance, its attributes a map -/
structure ObjM (h : Heap) (x dx C : Addr) (mA : Str → Option Value) : Prop where
  obj : h.get? x = some (PySem.W.instObj C dx)
  ns : h.Ns1 dx mA
  ne : dx ≠ x

theorem lookIn_ns {h : Heap} {dx : Addr} {mA : Str → Option Value} (n : h.Ns1 dx mA) : ∃ od, h.get? dx = some od ∧ ∀ name, PySem.W.lookIn name od = some (mA name) := by
  obtain ⟨o, es, ep, ho, hd, hk, _, hm⟩ := n
  refine ⟨o, ho, fun name => ?_⟩
  have e := hm name
  unfold nsFind findBy at e
  rw [← Array.find?_toList] at e
  unfold PySem.W.lookIn
  rw [hd]
  dsimp only
  split
  · rename_i y q
    rw [q] at e
    exact congrArg some e
  · rename_i q
    rw [q] at e
    have a : es.toList.any (·.refKey) = false := by
      rw [List.any_eq_false]
      intro y hy
      obtain ⟨z, t, hkey⟩ := hk y (Array.mem_toList_iff.mp hy)
      simp [DictEntry.refKey, hkey]
    have a' : ¬ es.toList.any (·.refKey) = true := by rw [a]; exact Bool.false_ne_true
    rw [if_neg a']
    exact congrArg some e

theorem ObjM.look {h : Heap} {x dx C : Addr} {mA : Str → Option Value} (I : ObjM h x dx C mA) : ∃ od, PySem.W.InstAt h x (PySem.W.instObj C dx) C (some od) ∧ ∀ name, PySem.W.lookIn name od = some (mA name) :=
  let ⟨od, ho, hl⟩ := lookIn_ns I.ns
  ⟨od, ⟨I.obj, rfl, rfl, ho⟩, hl⟩

section
variable {prog : Program} {w : World} {A : Around} {E : Value → Shared → Prop} {s : Shared} {K : PySem.W.Frag} {x dx C f : Addr} {mA : Str → Option Value} {name : Str} {v : Value}

theorem get_map {expr : Bool} {Q : Value → Shared → Prop} (X : K.In s.heap) (I : ObjM s.heap x dx C mA) (hg : PySem.W.plainGet K C name = true) (hh : PySem.W.hasDictIn K C = true)
    (ha : PySem.W.findIn K (.ref C) name = some none) (hv : mA name = some v) (hv' : PySem.W.handedIn v = true) (h : Q v { s with toks := s.toks + 1 }) :
    wpAny (model prog w) A (getAttr (.ref x) name expr) Q E s := by
  obtain ⟨od, J, hl⟩ := I.look
  exact PySem.W.get_value X J (PySem.W.plainGet_of hg).1 (PySem.W.findObj_own hh ha rfl (by rw [hl, hv])) hv' h

theorem get_const {expr : Bool} {a : Value} {Q : Value → Shared → Prop} (X : K.In s.heap) (I : ObjM s.heap x dx C mA) (hg : PySem.W.plainGet K C name = true) (hh : PySem.W.hasDictIn K C = true)
    (ha : PySem.W.findIn K (.ref C) name = some (some a)) (hn : PySem.W.specialIn K a "__get__" = some none) (hc : PySem.W.copiedNames.contains name = false) (hv : mA name = none) (hv' : PySem.W.handedIn a = true)
    (h : Q a { s with toks := s.toks + 1 }) : wpAny (model prog w) A (getAttr (.ref x) name expr) Q E s := by
  obtain ⟨od, J, hl⟩ := I.look
  exact PySem.W.get_value X J (PySem.W.plainGet_of hg).1 (PySem.W.findObj_cls hh ha hn hv' hc (by rw [hl, hv])) hv' h

theorem get_meth {pl : Sem Bool} {Q : Value × List Value → Shared → Prop} (X : K.In s.heap) (I : ObjM s.heap x dx C mA) (hg : PySem.W.plainGet K C name = true)
    (hf : PySem.W.findIn K (.ref C) name = some (some (.ref f))) (ht : PySem.W.isFn K (.ref f) = true) (hv : mA name = none) (h : Q (.ref f, [.ref x]) s) :
    wpAny (model prog w) A (getMethod (.ref x) name pl) Q E s := by
  obtain ⟨od, J, hl⟩ := I.look
  exact PySem.W.method_fn X J (PySem.W.plainGet_of hg).1 (PySem.W.plainGet_of hg).2 hf (beq_iff_eq.mp ht) (by show (PySem.W.lookIn name od).map (·.isSome) = some false; rw [hl, hv]; rfl) h

theorem set_map {ns : List Str} {Q : Unit → Shared → Prop} (X : K.In s.heap) (I : ObjM s.heap x dx C mA)
    (hs : PySem.W.findIn K (.ref C) "__setattr__" = some (some (.builtin "object.__setattr__"))) (hp : PySem.W.plainOver K C = true) (ht : PySem.W.takerIn K C name = some none) (hh : PySem.W.hasDictIn K C = true)
    (hw : PySem.Within mA ns) (hsz : ns.length ≤ sizeLine)
    (h : ∀ h', ObjM h' x dx C (fun y => if y = name then some v else mA y) → Heap.SameBut dx s.heap h' → Q () { s with heap := h', toks := s.toks + 2 }) :
    wpAny (model prog w) A (setAttr (.ref x) name v) Q E s := by
  obtain ⟨od, J, hl⟩ := I.look
  refine PySem.W.set_plain X J hs (PySem.W.osa_open (s := { s with toks := s.toks + 1 }) (r := none) X J hp ht fun b => ?_)
  obtain ⟨cd, hc, hd'⟩ := PySem.W.any_some hh
  have hx : s.heap.get? x = some ⟨.ref C, some dx, .plain, #[]⟩ := I.obj
  refine wpAny_bind (wpAny_pure (wpAny_bind (wpAny_bind (wpAny_loadPart hx (wpAny_bind (PySem.W.Looks.here (s := { s with toks := s.toks + 1 }) (PySem.W.looks_clsIn X hc) ?_))))))
  rw [hd']
  refine wpAny_pure (a := some dx) (wpAny_bind (wpAny_pure (wpAny_bind ?_)))
  refine wpAny_nsSet1 (s := { s with toks := s.toks + 1 }) I.ns fun h' hn2 hs2 => ?_
  obtain ⟨oD, esD, epD, hoD, hdD, hcD⟩ := hn2.count (PySem.Within.cons name v hw)
  refine wpAny_bind (wpAny_lookBehind hoD (by rw [hdD]; exact pastItsLine_dict (Nat.le_trans hcD (by rw [List.length_cons]; omega))) ?_)
  exact wpAny_pure (h _ ⟨(hs2.2 _ (Ne.symm I.ne)).trans I.obj, hn2, I.ne⟩ hs2)

/-- C(..): the dict at the heap's end, the instance behind it; then its __init__ -/
theorem make_map {R : Result → Shared → Prop} {vs : List Value} {kw : List (Str × Value)} (X : K.In s.heap) (hm : PySem.W.makesIn K C = true)
    (hi : PySem.W.findIn K (.ref C) "__init__" = some (some (.ref f))) (hf : PySem.W.typeIn K (.ref f) = some (.type "function"))
    (h : codeAny (model prog w) (A.under (.builtin "type.__call__" ⟨.ref C :: vs, kw⟩)) (.call (.ref f) ⟨.ref (s.heap.objs.size + 1) :: vs, kw⟩) (PySem.W.InitBack (s.heap.objs.size + 1) R)
      { s with heap := (s.heap.push PySem.W.emptyDict).push (PySem.W.instObj C s.heap.objs.size) }) :
    codeAny (model prog w) A (.call (.ref C) ⟨vs, kw⟩) R s := by
  obtain ⟨hh, g, d, t, os⟩ := s
  exact PySem.W.make_core (PySem.W.makes_of X hm) (PySem.W.looks_findIn X hi) (fun self => PySem.W.bind_fn X self hf) (.inl rfl) h
/-- C() where there is no __init__ but object's -/
theorem make_map0 {R : Result → Shared → Prop} (X : K.In s.heap) (hm : PySem.W.makesIn K C = true)
    (hi : PySem.W.findIn K (.ref C) "__init__" = some (some (.builtin "object.__init__")))
    (hb : ∀ self, PySem.W.Looks (model prog w) s.heap (bindSpecial (.builtin "object.__init__") self) (.builtin "object.__init__", [self]))
    (h : codeAny (model prog w) (A.under (.builtin "type.__call__" ⟨[.ref C], []⟩)) (.call (.builtin "object.__init__") ⟨[.ref (s.heap.objs.size + 1)], []⟩) (PySem.W.InitBack (s.heap.objs.size + 1) R)
      { s with heap := (s.heap.push PySem.W.emptyDict).push (PySem.W.instObj C s.heap.objs.size) }) :
    codeAny (model prog w) A (.call (.ref C) ⟨[], []⟩) R s := by
  obtain ⟨hh, g, d, t, os⟩ := s
  exact PySem.W.make_core (PySem.W.makes_of X hm) (PySem.W.looks_findIn X hi) hb (.inr ⟨rfl, rfl⟩) h
end

/-! ### the attributes as a list of pairs -/
def putF (f : Str) (v : V) : List (Str × V) → List (Str × V)
  | [] => [(f, v)]
  | (g, x) :: r => if g = f then (g, v) :: r else (g, x) :: putF f v r
theorem lookup_putF (f g : Str) (v : V) : ∀ fs : List (Str × V), (putF f v fs).lookup g = if g = f then some v else fs.lookup g
  | [] => by
    show List.lookup g [(f, v)] = _
    by_cases h : g = f
    · have hb : (g == f) = true := beq_iff_eq.mpr h
      simp only [List.lookup, hb, if_pos h]
    · have hb : (g == f) = false := beq_eq_false_iff_ne.mpr h
      simp only [List.lookup, hb, if_neg h]
  | (k, x) :: r => by
    have ih := lookup_putF f g v r
    rw [show putF f v ((k, x) :: r) = (if k = f then (k, v) :: r else (k, x) :: putF f v r) from rfl]
    by_cases hk : k = f
    · rw [if_pos hk]
      by_cases h : g = k
      · have hb : (g == k) = true := beq_iff_eq.mpr h
        simp only [List.lookup, hb, if_pos (h.trans hk)]
      · have hb : (g == k) = false := beq_eq_false_iff_ne.mpr h
        simp only [List.lookup, hb, if_neg (fun e : g = f => h (e.trans hk.symm))]
    · rw [if_neg hk]
      by_cases h : g = k
      · have hb : (g == k) = true := beq_iff_eq.mpr h
        simp only [List.lookup, hb, if_neg (fun e : g = f => hk (h.symm.trans e))]
      · have hb : (g == k) = false := beq_eq_false_iff_ne.mpr h
        simp only [List.lookup, hb]
        exact ih
theorem keys_putF (f : Str) (v : V) : ∀ fs : List (Str × V), f ∈ (putF f v fs).map (·.1) ∧ ∀ g, g ∈ fs.map (·.1) → g ∈ (putF f v fs).map (·.1)
  | [] => ⟨by simp [putF], fun g h => by simp at h⟩
  | (k, x) :: r => by
    obtain ⟨i1, i2⟩ := keys_putF f v r
    rw [show putF f v ((k, x) :: r) = (if k = f then (k, v) :: r else (k, x) :: putF f v r) from rfl]
    by_cases hk : k = f
    · rw [if_pos hk]
      subst hk
      exact ⟨by simp, fun g h => by simpa using h⟩
    · rw [if_neg hk]
      refine ⟨?_, fun g h => ?_⟩
      · rw [List.map_cons]
        exact List.mem_cons_of_mem _ i1
      · rw [List.map_cons] at h ⊢
        rcases List.mem_cons.mp h with e | e
        · exact List.mem_cons.mpr (.inl e)
        · exact List.mem_cons_of_mem _ (i2 g e)
theorem length_putF (f : Str) (v : V) : ∀ fs : List (Str × V), (putF f v fs).length ≤ fs.length + 1
  | [] => by simp [putF]
  | (k, x) :: r => by
    have ih := length_putF f v r
    rw [show putF f v ((k, x) :: r) = (if k = f then (k, v) :: r else (k, x) :: putF f v r) from rfl]
    by_cases hk : k = f
    · rw [if_pos hk, List.length_cons, List.length_cons]; omega
    · rw [if_neg hk, List.length_cons, List.length_cons]; omega

theorem RelO.some_of {v : V} {o : Option Value} (r : RelO (some v) o) : ∃ u, o = some u ∧ RelV v u := by
  cases o with
  | none => exact (show False from r).elim
  | some u => exact ⟨u, rfl, r⟩
theorem RelO.none_of {o : Option Value} (r : RelO none o) : o = none := by
  cases o with
  | none => rfl
  | some u => exact (show False from r).elim
theorem handed_of {v : V} {u : Value} (r : RelV v u) : PySem.W.handedIn u = true := by
  cases v with
  | non => cases (show u = Value.none from r); rfl
  | bl b => cases (show u = Value.bool b from r); rfl
  | int i => obtain ⟨t, e⟩ := (show ∃ t, u = Value.int i t from r); cases e; rfl
  | str x => obtain ⟨t, e⟩ := (show ∃ t, u = Value.str x t from r); cases e; rfl
  | byt b => obtain ⟨t, e⟩ := (show ∃ t, u = Value.bytes b t from r); cases e; rfl
  | flt b => obtain ⟨t, e⟩ := (show ∃ t, u = Value.float b t from r); cases e; rfl
  | ref a => cases (show u = Value.ref a from r); rfl
  | ty n => cases (show u = Value.type n from r); rfl

section
variable {P : Program} {w : World} {H H' : Hp} {h h' : Heap} {a C dx : Addr} {fs fs' : List (Str × V)}
theorem ins_get (hok : HOk P w H h) (e : H a = some (.ins C dx fs)) : ∃ mA, ObjM h a dx C mA ∧ (∀ f, RelO (fs.lookup f) (mA f)) ∧ PySem.Within mA (fs.map (·.1)) ∧ fs.length ≤ 1000 ∧ H dx = some (.own a) := by
  obtain ⟨d, z, ne, ob, mA, n, r, q⟩ := (show ObjOk P w H h a (.ins C dx fs) from hok a _ e)
  exact ⟨mA, ⟨ob, n, ne⟩, r, q, z, d⟩
end

/-! ### what of the text a class must have -/
structure Cls (K : PySem.W.Frag) (C : Addr) : Prop where
  pg : PySem.W.plainGet K C Str.empty = true
  hd : PySem.W.hasDictIn K C = true
  po : PySem.W.plainOver K C = true
  sa : PySem.W.findIn K (.ref C) "__setattr__" = some (some (.builtin "object.__setattr__"))
theorem Cls.get {K : PySem.W.Frag} {C : Addr} (c : Cls K C) (f : Str) : PySem.W.plainGet K C f = true := c.pg
/-- no class of it has the name -/
def NoAttr (K : PySem.W.Frag) (C : Addr) (f : Str) : Prop := PySem.W.findIn K (.ref C) f = some none
theorem NoAttr.taker {K : PySem.W.Frag} {C : Addr} {f : Str} (n : NoAttr K C f) : PySem.W.takerIn K C f = some none := by
  unfold PySem.W.takerIn
  rw [show PySem.W.findIn K (.ref C) f = some none from n]
  rfl
/-- a constant of the class -/
structure Con (K : PySem.W.Frag) (C : Addr) (f : Str) (v : V) (u : Value) : Prop where
  at_ : PySem.W.findIn K (.ref C) f = some (some u)
  rel : RelV v u
  get : PySem.W.specialIn K u "__get__" = some none
  cp : PySem.W.copiedNames.contains f = false
/-- a method: a plain def of the class or of one above it -/
structure Meth (K : PySem.W.Frag) (C : Addr) (m : Str) (f : Addr) : Prop where
  at_ : PySem.W.findIn K (.ref C) m = some (some (.ref f))
  fn : PySem.W.isFn K (.ref f) = true
  kp : PySem.W.keepIn K (.ref f) = true

section
variable {X : Cx} {pins : List (Addr × Obj)} {σ : St} {H : Hp} {s : Shared} {a C dx : Addr} {fs : List (Str × V)} {f : Str} {v : V} {A : Around} {E : Value → Shared → Prop}

theorem getattr_ok {b : Bool} {Q : Value → Shared → Prop} (I : Inv X pins σ H s) (e : H a = some (.ins C dx fs)) (c : Cls X.K C) (n : NoAttr X.K C f) (l : fs.lookup f = some v)
    (h : ∀ u s', Inv X pins σ H s' → RelV v u → Q u s') : wpAny (model X.prog X.w) A (getAttr (.ref a) f b) Q E s := by
  obtain ⟨mA, O, r, _, _, _⟩ := ins_get I.hok e
  obtain ⟨u, hu, ru⟩ := RelO.some_of (v := v) (o := mA f) (by rw [← l]; exact r f)
  exact get_map I.kIn O (c.get f) c.hd n hu (handed_of ru) (h u _ (I.tok _) ru)

theorem getcon_ok {b : Bool} {u : Value} {Q : Value → Shared → Prop} (I : Inv X pins σ H s) (e : H a = some (.ins C dx fs)) (c : Cls X.K C) (k : Con X.K C f v u) (l : fs.lookup f = none)
    (h : ∀ s', Inv X pins σ H s' → Q u s') : wpAny (model X.prog X.w) A (getAttr (.ref a) f b) Q E s := by
  obtain ⟨mA, O, r, _, _, _⟩ := ins_get I.hok e
  have hn : mA f = none := RelO.none_of (by rw [← l]; exact r f)
  exact get_const I.kIn O (c.get f) c.hd k.at_ k.get k.cp hn (handed_of k.rel) (h _ (I.tok _))

theorem getmeth_ok {m : Str} {g : Addr} {pl : Sem Bool} {Q : Value × List Value → Shared → Prop} (I : Inv X pins σ H s) (e : H a = some (.ins C dx fs)) (c : Cls X.K C) (k : Meth X.K C m g) (l : fs.lookup m = none)
    (h : Q (.ref g, [.ref a]) s) : wpAny (model X.prog X.w) A (getMethod (.ref a) m pl) Q E s := by
  obtain ⟨mA, O, r, _, _, _⟩ := ins_get I.hok e
  have hn : mA m = none := RelO.none_of (by rw [← l]; exact r m)
  exact get_meth I.kIn O (c.get m) k.at_ k.fn hn h

theorem setattr_ok {y : V} {u : Value} {Q : Unit → Shared → Prop} (I : Inv X pins σ H s) (e : H a = some (.ins C dx fs)) (c : Cls X.K C) (n : NoAttr X.K C f) (hl : fs.length < 1000) (ry : RelV y u)
    (h : ∀ s', Inv X pins σ (upd H a (.ins C dx (putF f y fs))) s' → Q () s') : wpAny (model X.prog X.w) A (setAttr (.ref a) f u) Q E s := by
  obtain ⟨mA, O, r, wi, _, ho⟩ := ins_get I.hok e
  have hz : (fs.map (·.1)).length ≤ sizeLine := by rw [List.length_map, sizeLine_eq]; omega
  refine set_map I.kIn O c.sa c.po n.taker c.hd wi hz fun h' O' sb => h _ ?_
  have hd : ∃ o, h'.get? dx = some o := let ⟨o, _, _, e', _⟩ := O'.ns; ⟨o, e'⟩
  refine I.write (x := a) (e := dx) (by rw [e]; exact True.intro) (.inr ho) (fun b q hb z => (sb.2 b hb).trans z) hd ?_
  refine ⟨by rw [upd_ne O.ne]; exact ho, ?_, O.ne, O'.obj, _, O'.ns, fun g => ?_, fun g hg => ?_⟩
  · have := length_putF f y fs; omega
  · show RelO ((putF f y fs).lookup g) (if g = f then some u else mA g)
    rw [lookup_putF]
    by_cases q : g = f
    · rw [if_pos q, if_pos q]; exact ry
    · rw [if_neg q, if_neg q]; exact r g
  · by_cases q : g = f
    · rw [q]; exact (keys_putF f y fs).1
    · refine (keys_putF f y fs).2 g (wi g fun z => hg ?_)
      show (if g = f then some u else mA g) = none
      rw [if_neg q]; exact z

/-- a new instance, tracked, without attributes -/
theorem Inv.made (I : Inv X pins σ H s) : Inv X pins σ (upd (upd H s.heap.objs.size (.own (s.heap.objs.size + 1))) (s.heap.objs.size + 1) (.ins C s.heap.objs.size []))
    { s with heap := (s.heap.push PySem.W.emptyDict).push (PySem.W.instObj C s.heap.objs.size) } := by
  have e1 : (s.heap.push PySem.W.emptyDict).get? s.heap.objs.size = some PySem.W.emptyDict := Heap.get?_push_size s.heap rfl
  have e2 : ((s.heap.push PySem.W.emptyDict).push (PySem.W.instObj C s.heap.objs.size)).get? (s.heap.objs.size + 1) = some (PySem.W.instObj C s.heap.objs.size) := by
    have := Heap.get?_push_size (s.heap.push PySem.W.emptyDict) (o := PySem.W.instObj C s.heap.objs.size) rfl
    rwa [Heap.size_push] at this
  have e3 : (s.heap.push PySem.W.emptyDict).Ns s.heap.objs.size (fun _ => none) := ⟨PySem.W.emptyDict, #[], _, e1, rfl, (fun e he => absurd he (by simp)), fun _ => rfl⟩
  have I1 := I.laid (a := s.heap.objs.size) (o := .own (s.heap.objs.size + 1)) (h' := s.heap.push PySem.W.emptyDict) (t' := s.toks) (fun b u q => Heap.get?_push_of_some _ q) (Nat.le_refl _) ⟨_, e1⟩
  refine I1.laid (a := s.heap.objs.size + 1) (o := .ins C s.heap.objs.size []) (t' := s.toks) (fun b u q => Heap.get?_push_of_some _ q) (Nat.le_of_eq (Heap.size_push _ _)) ?_
  have ne : s.heap.objs.size ≠ s.heap.objs.size + 1 := Nat.ne_of_lt (Nat.lt_succ_self _)
  refine ⟨by rw [upd_ne ne, upd_same], Nat.zero_le _, ne, e2, fun _ => none, (Heap.Ns1.of_empty e3).at fun o q => Heap.get?_push_of_some _ q, fun _ => True.intro, fun y hy => absurd rfl hy⟩

/-- e.f where nothing but the object is asked: through attributeBase (super) and the last hold -/
theorem attr_of {prog : Program} {w : World} {env : Env} {e : Expr} {f : Str} {pos : Pos} {s : Shared} {Q : Value → Shared → Prop} (hb : attributeBase e f env (eval e env) = eval e env)
    (h : wpAny (model prog w) A (eval e env) (fun o s₁ => wpAny (model prog w) A (getAttr o f true) Q E s₁) E s) : wpAny (model prog w) A (eval (.Attribute e f pos) env) Q E s :=
  Attribute_any_ h (by rw [arm_eval_Attribute, hb])
end

/-! ### readings and rules -/
/-- e.f, an attribute of the instance -/
def tFld (K : PySem.W.Frag) (ta : TE) (f : Str) : TE := fun σ H Q => ta σ H fun x H1 => ∃ a C dx fs v, x = .ref a ∧ H1 a = some (.ins C dx fs) ∧ Cls K C ∧ NoAttr K C f ∧ fs.lookup f = some v ∧ Q v H1
/-- e.f, a constant of the class -/
def tCon (K : PySem.W.Frag) (ta : TE) (f : Str) : TE := fun σ H Q => ta σ H fun x H1 => ∃ a C dx fs v u, x = .ref a ∧ H1 a = some (.ins C dx fs) ∧ Cls K C ∧ Con K C f v u ∧ fs.lookup f = none ∧ Q v H1
/-- e.f = value -/
def sFld (K : PySem.W.Frag) (ta tv : TE) (f : Str) : TS := fun D σ H => tv σ H fun y H1 => ta σ H1 fun x H2 => ∃ a C dx fs, x = .ref a ∧ H2 a = some (.ins C dx fs) ∧ Cls K C ∧ NoAttr K C f ∧ fs.length < 1000 ∧
  D.nx σ (upd H2 a (.ins C dx (putF f y fs)))
/-- an augmented operator on two values -/
def InOp (X : Cx) (op : Operator) (rd : V → V → Hp → VK → Prop) : Prop :=
  ∀ (pins : List (Addr × Obj)) (s : Shared) (σ : St) (H : Hp) (x y : V) (u v : Value) (Q : VK), Inv X pins σ H s → RelV x u → RelV y v → rd x y H Q → wpAny (model X.prog X.w) X.A (inplaceOp op u v) (EP X pins σ Q) X.xe s
/-- e.f op= value -/
def sFldAug (K : PySem.W.Frag) (ta tv : TE) (rd : V → V → Hp → VK → Prop) (f : Str) : TS := fun D σ H => ta σ H fun x H1 => ∃ a C dx fs v, x = .ref a ∧ H1 a = some (.ins C dx fs) ∧ Cls K C ∧ NoAttr K C f ∧ fs.lookup f = some v ∧
  tv σ H1 fun y H2 => rd v y H2 fun z H3 => ∃ dx' fs', H3 a = some (.ins C dx' fs') ∧ fs'.length < 1000 ∧ D.nx σ (upd H3 a (.ins C dx' (putF f z fs')))

section
variable {X : Cx} {o e value : Expr} {f : Str} {pos pos' tpos : Pos} {ta tv : TE}
theorem pe_fld (he : PE X e ta) (hb : attributeBase e f X.env (eval e X.env) = eval e X.env) : PE X (.Attribute e f pos) (tFld X.K ta f) := by
  intro pins s σ H Q I h
  refine attr_of hb (thn (he pins s σ H _ I h) fun u s1 ⟨x, H1, I1, rx, a, C, dx, fs, v, ex, ea, c, n, l, q⟩ => ?_)
  subst ex
  obtain rfl : u = Value.ref a := rx
  exact getattr_ok I1 ea c n l fun u' s2 I2 ru => ⟨v, H1, I2, ru, q⟩
theorem pe_con (he : PE X e ta) (hb : attributeBase e f X.env (eval e X.env) = eval e X.env) : PE X (.Attribute e f pos) (tCon X.K ta f) := by
  intro pins s σ H Q I h
  refine attr_of hb (thn (he pins s σ H _ I h) fun u s1 ⟨x, H1, I1, rx, a, C, dx, fs, v, u0, ex, ea, c, k, l, q⟩ => ?_)
  subst ex
  obtain rfl : u = Value.ref a := rx
  exact getcon_ok I1 ea c k l fun s2 I2 => ⟨v, H1, I2, k.rel, q⟩
theorem ps_fld (ha : PE X o ta) (hv : PE X value tv) (hs : swapsWith value (some (.Attribute o f pos')) pos.line X.env = pure false) : PS X (.Assign [.Attribute o f pos'] value pos) (sFld X.K ta tv f) := by
  intro pins s σ H D I h
  refine plainObj_wpAny_Assign_Attribute (thn (hv pins s σ H _ I h) fun u s1 ⟨y, H1, I1, ry, q⟩ => thn (ha pins s1 σ H1 _ I1 q) fun ov s2 ⟨x, H2, I2, rx, a, C, dx, fs, ex, ea, c, n, l, q2⟩ => ?_) hs
  subst ex
  obtain rfl : ov = Value.ref a := rx
  exact setattr_ok I2 ea c n l ry fun s3 I3 => ⟨σ, _, I3, q2⟩
theorem ps_fldaug {op : Operator} {rd : V → V → Hp → VK → Prop} (ha : PE X o ta) (hv : PE X value tv) (hop : InOp X op rd) : PS X (.AugAssign (.Attribute o f tpos) op value pos) (sFldAug X.K ta tv rd f) := by
  intro pins s σ H D I h
  refine wpAny_AugAssign_AttributeAny (thn (ha pins s σ H _ I h) fun ov s1 ⟨x, H1, I1, rx, a, C, dx, fs, v, ex, ea, c, n, l, q⟩ => ?_)
  subst ex
  obtain rfl : ov = Value.ref a := rx
  refine getattr_ok I1 ea c n l fun u s2 I2 ru => thn (hv pins s2 σ H1 _ I2 q) fun w3 s3 ⟨y, H2, I3, ry, q3⟩ => thn (hop pins s3 σ H2 v y u w3 _ I3 ru ry q3) fun w4 s4 ⟨z, H3, I4, rz, dx', fs', ea', l', q4⟩ => ?_
  exact setattr_ok I4 ea' c n l' rz fun s5 I5 => ⟨σ, _, I5, q4⟩
def rAdd : V → V → Hp → VK → Prop := fun x y H Q => ∃ i j, x = .int i ∧ y = .int j ∧ Q (.int (i + j)) H
def rSub : V → V → Hp → VK → Prop := fun x y H Q => ∃ i j, x = .int i ∧ y = .int j ∧ Q (.int (i - j)) H
theorem in_add : InOp X .Add rAdd := by
  rintro pins s σ H x y u v Q I rx ry ⟨i, j, rfl, rfl, q⟩
  obtain ⟨t, rfl⟩ := (show ∃ t, u = Value.int i t from rx)
  obtain ⟨t', rfl⟩ := (show ∃ t', v = Value.int j t' from ry)
  exact PyProof.Rows.iadd_int ⟨.int (i + j), H, I.tok _, ⟨_, rfl⟩, q⟩
theorem in_sub : InOp X .Sub rSub := by
  rintro pins s σ H x y u v Q I rx ry ⟨i, j, rfl, rfl, q⟩
  obtain ⟨t, rfl⟩ := (show ∃ t, u = Value.int i t from rx)
  obtain ⟨t', rfl⟩ := (show ∃ t', v = Value.int j t' from ry)
  exact PyProof.Rows.isub_int ⟨.int (i - j), H, I.tok _, ⟨_, rfl⟩, q⟩

/-- what is between an instance and its method: the tree of a method call -/
theorem methcall_of {pl : Sem Bool} {m : Str} {apos : Pos} {args : List Expr} {pins : List (Addr × Obj)} {s : Shared} {σ : St} {H : Hp} {Q : Value → Shared → Prop} {te : TE} (he : PE X e te) (I : Inv X pins σ H s)
    (h : te σ H fun x H1 => ∃ a C dx fs g, x = .ref a ∧ H1 a = some (.ins C dx fs) ∧ Cls X.K C ∧ Meth X.K C m g ∧ fs.lookup m = none ∧
      ∀ s1, Inv X pins σ H1 s1 → wpAny (model X.prog X.w) X.A (callWith pos (.ref g) [.ref a] (backTo pos (starEach args X.env)) (backToKw pos (keywordEach [] X.env))) Q X.xe s1)
    (ht : eval (.Call (.Attribute e m apos) args [] pos) X.env = (do
      let ov ← eval e X.env
      standAt apos.atName
      let (f, first) ← holding [ov] (getMethod ov m pl)
      callWith pos f first (backTo pos (starEach args X.env)) (backToKw pos (keywordEach [] X.env)))) :
    wpAny (model X.prog X.w) X.A (eval (.Call (.Attribute e m apos) args [] pos) X.env) Q X.xe s := by
  refine PySem.W.methodCall_KW (pl := pl) (thn (he pins s σ H _ I h) fun u s1 ⟨x, H1, I1, rx, a, C, dx, fs, g, ex, ea, c, k, l, q⟩ => ?_) ht
  subst ex
  obtain rfl : u = Value.ref a := rx
  exact getmeth_ok I1 ea c k l (q s1 I1)
end

/-! ### isinstance -/
section
variable {X : Cx} {pins : List (Addr × Obj)} {σ : St} {H : Hp} {s : Shared} {A : Around} {E : Value → Shared → Prop} {Q : Value → Shared → Prop} {c : Value} {b : Bool}
/-- the type of a value, as the fragment's deciders take it; for an instance its class -/
inductive TyOf (K : PySem.W.Frag) (H : Hp) : V → Value → Prop where
  | non : TyOf K H .non (.type "NoneType")
  | bl (x : Bool) : TyOf K H (.bl x) (.type "bool")
  | int (i : Int) : TyOf K H (.int i) (.type "int")
  | str (x : Str) : TyOf K H (.str x) (.type "str")
  | flt (x : UInt64) : TyOf K H (.flt x) (.type "float")
  | lst {a : Addr} {xs : List V} (e : H a = some (.lst xs)) : TyOf K H (.ref a) (.type "list")
  | frz {a : Addr} {o : Obj} {xs : List V} (e : H a = some (.frz o (.lst xs))) : TyOf K H (.ref a) (.type "list")
  | tup {a : Addr} {xs : List V} (e : H a = some (.tup xs)) : TyOf K H (.ref a) (.type "tuple")
  | dK {a : Addr} {kvs : List (Key × V)} (e : H a = some (.dK kvs)) : TyOf K H (.ref a) (.type "dict")
  | dT {a : Addr} {kvs : List (List Key × V)} (e : H a = some (.dT kvs)) : TyOf K H (.ref a) (.type "dict")
  | ins {a C dx : Addr} {fs : List (Str × V)} (e : H a = some (.ins C dx fs)) (cl : Cls K C) (ha : PySem.W.findIn K (.ref C) "__class__" = some (some (.builtin "object.__class__")))
      (hn : PySem.W.specialIn K (.builtin "object.__class__") "__get__" = some (some (.builtin "getset_descriptor.__get__"))) (htk : PySem.W.takesIn K (.builtin "object.__class__") = some true)
      (hm : PySem.W.mroIn K C (.type "object") = some true) : TyOf K H (.ref a) (.ref C)
/-- isinstance(x, c) for one class c, a built-in or an own one: kitOne's answer -/
theorem isinst_ok {x : V} {u t : Value} (I : Inv X pins σ H s) (rx : RelV x u) (ty : TyOf X.K H x t) (e : PySem.W.kitOne X.K t c = some b) (h : ∀ tk, Q (.bool b) { s with toks := tk }) :
    wpAny (model X.prog X.w) A (call (.builtin "isinstance") [u, c]) Q E s := by
  cases ty with
  | non => cases (show u = Value.none from rx); exact PySem.W.kia_one PySem.W.kitx_none I.kIn True.intro e (fun z => nomatch z) h
  | bl y => cases (show u = Value.bool y from rx); exact PySem.W.kia_one PySem.W.kitx_bool I.kIn True.intro e (fun z => nomatch z) h
  | int i => obtain ⟨t, q⟩ := (show ∃ t, u = Value.int i t from rx); cases q; exact PySem.W.kia_one PySem.W.kitx_int I.kIn True.intro e (fun z => nomatch z) h
  | str y => obtain ⟨t, q⟩ := (show ∃ t, u = Value.str y t from rx); cases q; exact PySem.W.kia_one PySem.W.kitx_str I.kIn True.intro e (fun z => nomatch z) h
  | flt y => obtain ⟨t, q⟩ := (show ∃ t, u = Value.float y t from rx); cases q; exact PySem.W.kia_one PySem.W.kitx_float I.kIn True.intro e (fun z => nomatch z) h
  | @lst a xs ea =>
    cases (show u = Value.ref a from rx)
    obtain ⟨_, _, n, _, h1⟩ := (show ObjOk X.prog X.w H s.heap a (.lst xs) from I.hok a _ ea)
    exact PySem.W.kia_one PySem.W.kitx_list I.kIn ⟨_, h1, rfl⟩ e (fun z => nomatch z) h
  | @frz a ob xs ea =>
    cases (show u = Value.ref a from rx)
    obtain ⟨_, _, _, n, _, h1⟩ := (show ObjOk X.prog X.w H s.heap a (.frz ob (.lst xs)) from I.hok a _ ea)
    exact PySem.W.kia_one PySem.W.kitx_list I.kIn ⟨_, h1, rfl⟩ e (fun z => nomatch z) h
  | @tup a xs ea =>
    cases (show u = Value.ref a from rx)
    obtain ⟨_, _, _, p⟩ := (show ObjOk X.prog X.w H s.heap a (.tup xs) from I.hok a _ ea)
    obtain ⟨o, h1, h2, _⟩ := p
    exact PySem.W.kia_one PySem.W.kitx_tuple I.kIn ⟨o, h1, h2⟩ e (fun z => nomatch z) h
  | @dK a kvs ea =>
    cases (show u = Value.ref a from rx)
    obtain ⟨_, _, vs, _, p⟩ := (show ObjOk X.prog X.w H s.heap a (.dK kvs) from I.hok a _ ea)
    obtain ⟨o, es, ep, h1, h2, _⟩ := p
    exact PySem.W.kia_one PySem.W.kitx_dict I.kIn ⟨o, h1, h2.1⟩ e (fun z => nomatch z) h
  | @dT a kvs ea =>
    cases (show u = Value.ref a from rx)
    obtain ⟨_, _, xs, _, o, es, ep, h1, h2, _⟩ := (show ObjOk X.prog X.w H s.heap a (.dT kvs) from I.hok a _ ea)
    exact PySem.W.kia_one PySem.W.kitx_dict I.kIn ⟨o, h1, h2.1⟩ e (fun z => nomatch z) h
  | @ins a C dx fs ea cl ha hn htk hm =>
    cases (show u = Value.ref a from rx)
    obtain ⟨mA, O, _⟩ := ins_get I.hok ea
    obtain ⟨od, J, _⟩ := O.look
    exact PySem.W.kia_one (PySem.W.kitx_own (cl.get _) cl.hd ha hn htk hm) I.kIn J e (fun z => nomatch z) h
end
end L2

namespace L2
open PySem PySem.Spec PyProof.Rows

/-! ### room -/
structure Room (k : Nat) (A : Around) : Prop where
  hd : A.handled = none
  dp : A.depth + 3 * k + 5 < recursionLimit
  un : A.units + 16 * k + 200 < cLine
theorem Room.mono {j k : Nat} {A : Around} (r : Room k A) (h : j ≤ k) : Room j A := ⟨r.hd, by have := r.dp; omega, by have := r.un; omega⟩
theorem Room.deeper {k : Nat} {A : Around} (r : Room (k + 1) A) (env : Env) : Room k (A.deeper env) :=
  ⟨r.hd, by have := r.dp; show A.depth + 1 + 3 * k + 5 < _; omega, by have := r.un; show A.units + 3 + 16 * k + 200 < _; omega⟩
theorem Room.in1 {k : Nat} {A : Around} (r : Room (k + 1) A) : Room k A.in1 :=
  ⟨r.hd, by have := r.dp; show A.depth + 3 * k + 5 < _; omega, by have := r.un; show A.units + 1 + 16 * k + 200 < _; omega⟩
theorem make_depth {A : Around} {C : Addr} {us : List Value} {kw : List (Str × Value)} : (A.under (.builtin "type.__call__" ⟨.ref C :: us, kw⟩)).depth = A.depth + 1 := by
  first | rfl | simp [Around.under, Code.weight, Code.isCreation, Code.isGuard, Code.isCaller, Code.frames, Code.isFrame, guardIds]
theorem make_units {A : Around} {C : Addr} {us : List Value} {kw : List (Str × Value)} : (A.under (.builtin "type.__call__" ⟨.ref C :: us, kw⟩)).units = A.units + 1 := by
  first | rfl | simp [Around.under, Code.cUnits, Code.frames, Code.isFrame]
theorem Room.make {k : Nat} {A : Around} (r : Room (k + 1) A) (C : Addr) (us : List Value) (kw : List (Str × Value)) : Room k (A.under (.builtin "type.__call__" ⟨.ref C :: us, kw⟩)) :=
  ⟨r.hd, by have := r.dp; rw [make_depth]; omega, by have := r.un; rw [make_units]; omega⟩
theorem Room.depth {k : Nat} {A : Around} (r : Room k A) : A.depth < recursionLimit := by have := r.dp; omega
theorem Room.units {k : Nat} {A : Around} (r : Room k A) : A.units + 64 < cLine := by have := r.un; omega
theorem Room.units0 {k : Nat} {A : Around} (r : Room k A) : A.units < cLine := by have := r.un; omega

/-! ### argument lists and displays -/
def tNil : TA := fun _ H Q => Q [] H
def tCons (ta : TE) (tr : TA) : TA := fun σ H Q => ta σ H fun x H1 => tr σ H1 fun xs H2 => Q (x :: xs) H2
section
variable {X : Cx} {e : Expr} {es : List Expr} {te : TE} {t : TA} {pos : Pos}
theorem pa_nil : PA X [] tNil := fun _ _ _ _ H Q I h => Calls.spliced_nil ⟨[], H, I, .nil, h⟩
theorem pa_cons (ha : PE X e te) (hr : PA X es t) (hs : starEach (e :: es) X.env = (false, eval e X.env) :: starEach es X.env := by rfl) : PA X (e :: es) (tCons te t) := by
  intro pos pins s σ H Q I h
  rw [hs]
  show wpAny _ _ (spliced ((false, eval e X.env) :: backTo pos (starEach es X.env))) _ _ s
  refine Calls.spliced_cons (thn (ha pins s σ H _ I h) fun u s1 ⟨x, H1, I1, r1, q1⟩ => ?_)
  exact thn (hr pos pins s1 σ H1 _ I1 q1) fun us s2 ⟨xs, H2, I2, r2, q2⟩ => ⟨x :: xs, H2, I2, .cons r1 r2, q2⟩

/-- a tuple, a list of written items -/
def tTup (t : TA) : TE := fun σ H Q => t σ H fun xs H1 => xs.length ≤ sizeLine ∧ ∀ p, H1 p = none → Q (.ref p) (upd H1 p (.tup xs))
def tLst (t : TA) : TE := fun σ H Q => t σ H fun xs H1 => xs.length ≤ sizeLine ∧ ∀ p, H1 p = none → Q (.ref p) (upd H1 p (.lst xs))
theorem pe_tup {x1} (h : PA X es t) : PE X (.Tuple es x1 pos) (tTup t) := by
  intro pins s σ H Q I hq
  refine wpAny_Tuple_spliced (thn (h pos pins s σ H _ I hq) fun us s1 ⟨xs, H1, I1, r, z, q⟩ => ⟨by rw [← r.length]; exact z, ?_⟩)
  have hf : H1 s1.heap.objs.size = none := I1.hok.fresh (Nat.le_refl _)
  refine ⟨.ref s1.heap.objs.size, upd H1 s1.heap.objs.size (.tup xs), I1.laid (t' := s1.toks) (fun b u e => Heap.get?_push_of_some _ e) (Nat.le_refl _) ?_, rfl, q _ hf⟩
  exact ⟨z, us, r, ⟨_, Heap.get?_push_size _ rfl, rfl, _, rfl⟩⟩
theorem pe_lst (h : PA X es t) : PE X (.List es pos) (tLst t) := by
  intro pins s σ H Q I hq
  refine wpAny_List_spliced (thn (h pos pins s σ H _ I hq) fun us s1 ⟨xs, H1, I1, r, z, q⟩ => ⟨by rw [← r.length]; exact z, ?_⟩)
  have hf : H1 s1.heap.objs.size = none := I1.hok.fresh (Nat.le_refl _)
  refine ⟨.ref s1.heap.objs.size, upd H1 s1.heap.objs.size (.lst xs), I1.laid (t' := s1.toks) (fun b u e => Heap.get?_push_of_some _ e) (Nat.le_refl _) ?_, rfl, q _ hf⟩
  exact ⟨z, us, 0, r, Heap.get?_push_size _ rfl⟩
end

/-! ### what a def promises -/
/-- a def's promise: the bound arguments in the parameters' order, the heap, the wanted end, the wanted exception -/
abbrev Sp := List V → Hp → VK → XK → Prop
/-- how an exception lies behind a call (file 08 gives it): the callers' frames, abstract heap and state ahead of the call, the wish, the exception, the state -/
abbrev CXT := List Env → Hp → Shared → XK → Value → Shared → Prop

/-- the state at a call -/
structure Env0 (P : Program) (w : World) (K : PySem.W.Frag) (mg : Str → Option Value) (base : Heap) (A : Around) (outer : List Env) (s : Shared) (H : Hp) : Prop where
  frames : A.frames = some outer
  mod : Mod K mg base
  bs : ∀ b o, base.get? b = some o → s.heap.get? b = some o ∧ H b = none
  bsz : base.objs.size ≤ s.heap.objs.size
  funs : s.heap.FunFrames base outer
  frf : ∀ b ∈ frs outer, H b = none
  hok : HOk P w H s.heap
  bare : AllBare s.gens
/-- a call's end -/
def CE (outer : List Env) (P : Program) (w : World) (H : Hp) (s : Shared) (Q : VK) (u : Value) (s' : Shared) : Prop :=
  ∃ v H', s'.os = s.os ∧ AllBare s'.gens ∧ Un (frs outer) [] H H' s.heap s'.heap ∧ HOk P w H' s'.heap ∧ RelV v u ∧ Q v H'
def CR (CX : CXT) (outer : List Env) (P : Program) (w : World) (H : Hp) (s : Shared) (Q : VK) (E : XK) (r : Result) (s' : Shared) : Prop :=
  match r with
  | .ok (.ret u) => CE outer P w H s Q u s'
  | .ok _ => False
  | .error e => CX outer H s E e s'
structure FnOk (P : Program) (w : World) (K : PySem.W.Frag) (mg : Str → Option Value) (base : Heap) (CX : CXT) (k : Nat) (f : Addr) (fd : FuncData) (ps : List Str) (sp : Sp) : Prop where
  len : ∀ vs H Q E, sp vs H Q E → vs.length = ps.length
  run : ∀ (A : Around) (outer : List Env) (s : Shared) (H : Hp) (args : Args) (us : List Value) (vs : List V) (Q : VK) (E : XK), Room k A → Env0 P w K mg base A outer s H → BindsTo s fd args (ps.zip us) → Vals vs us → sp vs H Q E →
    codeAny (model P w) A (.call (.ref f) args) (CR CX outer P w H s Q E) s
theorem FnOk.mono {P : Program} {w : World} {K : PySem.W.Frag} {mg : Str → Option Value} {base : Heap} {CX : CXT} {j k : Nat} {f : Addr} {fd : FuncData} {ps : List Str} {sp : Sp} (F : FnOk P w K mg base CX j f fd ps sp) (h : j ≤ k) :
    FnOk P w K mg base CX k f fd ps sp := ⟨F.len, fun A outer s H args us vs Q E hr => F.run A outer s H args us vs Q E (hr.mono h)⟩
/-- a weaker promise -/
theorem FnOk.imp {P : Program} {w : World} {K : PySem.W.Frag} {mg : Str → Option Value} {base : Heap} {CX : CXT} {k : Nat} {f : Addr} {fd : FuncData} {ps : List Str} {sp sp' : Sp} (F : FnOk P w K mg base CX k f fd ps sp)
    (h : ∀ vs H Q E, sp' vs H Q E → sp vs H Q E) : FnOk P w K mg base CX k f fd ps sp' :=
  ⟨fun vs H Q E q => F.len vs H Q E (h _ _ _ _ q), fun A outer s H args us vs Q E hr he hb hv hs => F.run A outer s H args us vs Q E hr he hb hv (h _ _ _ _ hs)⟩

theorem Env0.make {P : Program} {w : World} {K : PySem.W.Frag} {mg : Str → Option Value} {base : Heap} {A : Around} {outer : List Env} {s : Shared} {H : Hp} (e : Env0 P w K mg base A outer s H) (C : Addr) (us : List Value) (kw : List (Str × Value)) :
    Env0 P w K mg base (A.under (.builtin "type.__call__" ⟨.ref C :: us, kw⟩)) outer s H := ⟨by first | exact e.frames | (simpa [Around.under, Code.envs, Code.isFrame, pushEnvs] using e.frames), e.mod, e.bs, e.bsz, e.funs, e.frf, e.hok, e.bare⟩
theorem Env0.in1 {P : Program} {w : World} {K : PySem.W.Frag} {mg : Str → Option Value} {base : Heap} {A : Around} {outer : List Env} {s : Shared} {H : Hp} (e : Env0 P w K mg base A outer s H) :
    Env0 P w K mg base A.in1 outer s H := ⟨e.frames, e.mod, e.bs, e.bsz, e.funs, e.frf, e.hok, e.bare⟩

section
variable {X : Cx} {pins : List (Addr × Obj)} {σ : St} {H : Hp} {s s' : Shared}
/-- from a body: what a callee wants -/
theorem Inv.env0 (I : Inv X pins σ H s) : Env0 X.prog X.w X.K X.mg X.base X.A X.stack s H :=
  ⟨I.ok.frames, I.ok.mod, I.bs, Nat.le_trans I.ok.bsz I.sz, I.stack, I.stkFree, I.hok, I.bare⟩
/-- behind a call -/
theorem Inv.after {Q : VK} {u : Value} (I : Inv X pins σ H s) (h : CE X.stack X.prog X.w H s Q u s') : EP X pins σ Q u s' := by
  obtain ⟨v, H', os, bare, un, hok, r, q⟩ := h
  obtain ⟨hh, g, d, t, os'⟩ := s'
  obtain rfl : os' = s.os := os
  exact ⟨v, H', I.call (h' := hh) (g' := g) (d' := d) (t' := t) (ch := []) un hok bare (fun b z => absurd z (by simp)), r, q⟩
end

/-! ### calls -/
/-- f(..): the written arguments, then the defaults dvs; E: what is wanted of an exception -/
def tCall (sp : Sp) (dvs : List V) (E : XK) (t : TA) : TE := fun σ H Q => t σ H fun vs H1 => sp (vs ++ dvs) H1 Q E
/-- o.m(..) of an instance of the class at C -/
def tMeth (C : Addr) (m : Str) (sp : Sp) (dvs : List V) (E : XK) (ta : TE) (t : TA) : TE := fun σ H Q => ta σ H fun x H1 => ∃ a dx fs, x = .ref a ∧ H1 a = some (.ins C dx fs) ∧ fs.lookup m = none ∧
  t σ H1 fun vs H2 => sp (x :: (vs ++ dvs)) H2 Q E
/-- C(..): a new instance and its dict, then __init__ -/
def tMake (C : Addr) (sp : Sp) (dvs : List V) (E : XK) (t : TA) : TE := fun σ H Q => t σ H fun vs H1 => ∀ x dx, H1 x = none → H1 dx = none → dx ≠ x →
  sp (.ref x :: (vs ++ dvs)) (upd (upd H1 dx (.own x)) x (.ins C dx [])) (fun v H2 => v = .non ∧ Q (.ref x) H2) E

/-- how the parameters are bound: us the positional arguments, kw the keywords' values by name, ds the defaults that fill up -/
def Binds (K : PySem.W.Frag) (fd : FuncData) (ps : List Str) (ds : List Value) : Prop :=
  ∀ (s : Shared) (us : List Value), K.In s.heap → (us ++ ds).length = ps.length → BindsTo s fd ⟨us, []⟩ (ps.zip (us ++ ds))
/-- every parameter is given -/
theorem Binds.all {K : PySem.W.Frag} {fd : FuncData} {ps : List Str} (h : ∀ us : List Value, us.length = ps.length → bindArgs fd ⟨us, []⟩ = pure (ps.zip us)) : Binds K fd ps [] := fun s us _ hl => by
  rw [List.append_nil] at hl ⊢
  exact .of_eq (h us hl)

/-- an exception of a callee reaches what this body wants of exceptions -/
def Passes (CX : CXT) (X : Cx) (E : XK) : Prop := ∀ (pins : List (Addr × Obj)) (σ : St) (H : Hp) (s : Shared) (e : Value) (s' : Shared), Inv X pins σ H s → CX X.stack H s E e s' → X.xe e s'

section
variable {X : Cx} {CX : CXT} {k : Nat} {f C : Addr} {fd : FuncData} {ps : List Str} {sp : Sp} {dvs : List V} {ds : List Value} {E : XK} {x m : Str} {p pos apos : Pos} {e o : Expr} {es : List Expr} {ta : TE} {t : TA}

/-- the callee runs -/
theorem run_fn {pins : List (Addr × Obj)} {σ : St} {H : Hp} {s : Shared} {Q : VK} {us : List Value} {vs : List V} (F : FnOk X.prog X.w X.K X.mg X.base CX k f fd ps sp) (hr : Room k X.A) (hb : Binds X.K fd ps ds) (hd : Vals dvs ds) (hx : Passes CX X E)
    (I : Inv X pins σ H s) (r : Vals vs us) (h : sp (vs ++ dvs) H Q E) : wpAny (model X.prog X.w) X.A (call (.ref f) us) (EP X pins σ Q) X.xe s := by
  have r2 : Vals (vs ++ dvs) (us ++ ds) := r.append hd
  have hl : (us ++ ds).length = ps.length := by rw [← r2.length]; exact F.len _ _ _ _ h
  refine wpAny_call (codeAny_mono (F.run X.A X.stack s H ⟨us, []⟩ (us ++ ds) (vs ++ dvs) Q E hr I.env0 (hb s us I.kIn hl) r2 h) fun r s' hq => ?_)
  cases r with
  | error e => exact hx pins σ H s e s' I hq
  | ok fl =>
    cases fl with
    | ret u => exact I.after hq
    | next => exact False.elim hq
    | brk => exact False.elim hq
    | cont => exact False.elim hq

theorem pe_call (F : FnOk X.prog X.w X.K X.mg X.base CX k f fd ps sp) (hr : Room k X.A) (hg : Gl X x) (hm : X.mg x = some (.ref f)) (hk : PySem.W.keepIn X.K (.ref f) = true) (hb : Binds X.K fd ps ds) (hd : Vals dvs ds) (hx : Passes CX X E)
    (ha : PA X (e :: es) t) (hdb : (x == ("__debug__" : Str)) = false := by decide) (he : starEach (e :: es) X.env = (false, eval e X.env) :: starEach es X.env := by rfl) (hpl : (backTo pos (starEach es X.env)).any (·.1) = false := by rfl) :
    PE X (.Call (.Name x p) (e :: es) [] pos) (tCall sp dvs E t) := by
  intro pins s σ H Q I h
  refine wpAny_Call_Name_kw (ld_glob I hg hm ?_ hdb)
  refine PySem.W.callWith_K (h₀ := X.base) I.ok.mod.kin hk (thn (ha pos pins s σ H _ I h) fun us s1 ⟨vs, H1, I1, r, q⟩ => ⟨I1.kIn, ?_⟩) he hpl
  exact run_fn F hr hb hd hx I1 r q
theorem pe_call0 (F : FnOk X.prog X.w X.K X.mg X.base CX k f fd ps sp) (hr : Room k X.A) (hg : Gl X x) (hm : X.mg x = some (.ref f)) (hk : PySem.W.keepIn X.K (.ref f) = true) (hb : Binds X.K fd ps ds) (hd : Vals dvs ds) (hx : Passes CX X E)
    (hdb : (x == ("__debug__" : Str)) = false := by decide) : PE X (.Call (.Name x p) [] [] pos) (tCall sp dvs E tNil) := by
  intro pins s σ H Q I h
  refine wpAny_Call_Name_kw (ld_glob I hg hm ?_ hdb)
  exact PySem.W.callWith_K0 I.kIn hk (run_fn (us := []) F hr hb hd hx I .nil h)

/-- o.m(e, ..) -/
theorem pe_meth {pl : Sem Bool} (he : PE X o ta) (c : Cls X.K C) (hm : Meth X.K C m f) (F : FnOk X.prog X.w X.K X.mg X.base CX k f fd ps sp) (hr : Room k X.A) (hb : Binds X.K fd ps ds) (hd : Vals dvs ds) (hx : Passes CX X E) (ha : PA X (e :: es) t)
    (hst : starEach (e :: es) X.env = (false, eval e X.env) :: starEach es X.env := by rfl) (hpl : (backTo pos (starEach es X.env)).any (·.1) = false := by rfl)
    (ht : eval (.Call (.Attribute o m apos) (e :: es) [] pos) X.env = (do
      let ov ← eval o X.env
      standAt apos.atName
      let (f, first) ← holding [ov] (getMethod ov m pl)
      callWith pos f first (backTo pos (starEach (e :: es) X.env)) (backToKw pos (keywordEach [] X.env))) := by rfl) :
    PE X (.Call (.Attribute o m apos) (e :: es) [] pos) (tMeth C m sp dvs E ta t) := by
  intro pins s σ H Q I h
  refine PySem.W.methodCall_KW (pl := pl) (thn (he pins s σ H _ I h) fun u s1 ⟨x, H1, I1, rx, a, dx, fs, ex, ea, l, q⟩ => ?_) ht
  subst ex
  obtain rfl : u = Value.ref a := rx
  refine getmeth_ok I1 ea c hm l ?_
  refine PySem.W.callWith_K (first := [.ref a]) (h₀ := X.base) I.ok.mod.kin hm.kp (thn (ha pos pins s1 σ H1 _ I1 q) fun us s2 ⟨vs, H2, I2, r, q2⟩ => ⟨I2.kIn, ?_⟩) hst hpl
  exact run_fn (us := .ref a :: us) (vs := .ref a :: vs) F hr hb hd hx I2 (.cons rfl r) q2
/-- o.m() -/
theorem pe_meth0 {pl : Sem Bool} (he : PE X o ta) (c : Cls X.K C) (hm : Meth X.K C m f) (F : FnOk X.prog X.w X.K X.mg X.base CX k f fd ps sp) (hr : Room k X.A) (hb : Binds X.K fd ps ds) (hd : Vals dvs ds) (hx : Passes CX X E)
    (ht : eval (.Call (.Attribute o m apos) [] [] pos) X.env = (do
      let ov ← eval o X.env
      standAt apos.atName
      let (f, first) ← holding [ov] (getMethod ov m pl)
      callWith pos f first (backTo pos (starEach [] X.env)) (backToKw pos (keywordEach [] X.env))) := by rfl) :
    PE X (.Call (.Attribute o m apos) [] [] pos) (tMeth C m sp dvs E ta tNil) := by
  intro pins s σ H Q I h
  refine PySem.W.methodCall_KW (pl := pl) (thn (he pins s σ H _ I h) fun u s1 ⟨x, H1, I1, rx, a, dx, fs, ex, ea, l, q⟩ => ?_) ht
  subst ex
  obtain rfl : u = Value.ref a := rx
  refine getmeth_ok I1 ea c hm l ?_
  exact PySem.W.callWith_K0 (first := [.ref a]) I1.kIn hm.kp (run_fn (us := [.ref a]) (vs := [.ref a]) F hr hb hd hx I1 (.cons rfl .nil) q)

/-- what a class must have to be made -/
structure Mk (K : PySem.W.Frag) (C f : Addr) : Prop where
  makes : PySem.W.makesIn K C = true
  init : PySem.W.findIn K (.ref C) "__init__" = some (some (.ref f))
  fn : PySem.W.isFn K (.ref f) = true
  kp : PySem.W.keepIn K (.ref C) = true

theorem run_make {pins : List (Addr × Obj)} {σ : St} {H : Hp} {s : Shared} {Q : VK} {us : List Value} {vs : List V} (M : Mk X.K C f) (F : FnOk X.prog X.w X.K X.mg X.base CX k f fd ps sp) (hr : Room (k + 1) X.A) (hb : Binds X.K fd ps ds) (hd : Vals dvs ds)
    (hx : Passes CX X E) (I : Inv X pins σ H s) (r : Vals vs us)
    (h : ∀ x dx, H x = none → H dx = none → dx ≠ x → sp (.ref x :: (vs ++ dvs)) (upd (upd H dx (.own x)) x (.ins C dx [])) (fun v H2 => v = .non ∧ Q (.ref x) H2) E) :
    wpAny (model X.prog X.w) X.A (call (.ref C) us) (EP X pins σ Q) X.xe s := by
  have hq := h (s.heap.objs.size + 1) s.heap.objs.size (I.hok.fresh (Nat.le_succ _)) (I.hok.fresh (Nat.le_refl _)) (Nat.ne_of_lt (Nat.lt_succ_self _))
  have I2 := Inv.made (C := C) I
  have r2 : Vals (V.ref (s.heap.objs.size + 1) :: (vs ++ dvs)) (Value.ref (s.heap.objs.size + 1) :: (us ++ ds)) := .cons rfl (r.append hd)
  have hl : (Value.ref (s.heap.objs.size + 1) :: us ++ ds).length = ps.length := by
    have e := r2.length
    rw [F.len _ _ _ _ hq] at e
    exact e.symm
  refine wpAny_call (make_map (f := f) I.kIn M.makes M.init (beq_iff_eq.mp M.fn) (codeAny_mono (F.run _ X.stack _ _ ⟨Value.ref (s.heap.objs.size + 1) :: us, []⟩ (Value.ref (s.heap.objs.size + 1) :: (us ++ ds)) _ _ E (hr.make C us [])
    (I2.env0.make C us []) (hb _ (Value.ref (s.heap.objs.size + 1) :: us) I2.kIn hl) r2 hq) fun r s' hq' => ?_))
  cases r with
  | error e => exact hx pins σ _ _ e s' I2 hq'
  | ok fl =>
    cases fl with
    | ret u =>
      obtain ⟨v, H', I3, rv, ev, q3⟩ := I2.after hq'
      subst ev
      exact ⟨rv, ⟨V.ref (s.heap.objs.size + 1), H', I3, rfl, q3⟩⟩
    | next => exact False.elim hq'
    | brk => exact False.elim hq'
    | cont => exact False.elim hq'
theorem pe_make (M : Mk X.K C f) (F : FnOk X.prog X.w X.K X.mg X.base CX k f fd ps sp) (hr : Room (k + 1) X.A) (hg : Gl X x) (hm : X.mg x = some (.ref C)) (hb : Binds X.K fd ps ds) (hd : Vals dvs ds) (hx : Passes CX X E)
    (ha : PA X (e :: es) t) (hdb : (x == ("__debug__" : Str)) = false := by decide) (he : starEach (e :: es) X.env = (false, eval e X.env) :: starEach es X.env := by rfl) (hpl : (backTo pos (starEach es X.env)).any (·.1) = false := by rfl) :
    PE X (.Call (.Name x p) (e :: es) [] pos) (tMake C sp dvs E t) := by
  intro pins s σ H Q I h
  refine wpAny_Call_Name_kw (ld_glob I hg hm ?_ hdb)
  refine PySem.W.callWith_K (h₀ := X.base) I.ok.mod.kin M.kp (thn (ha pos pins s σ H _ I h) fun us s1 ⟨vs, H1, I1, r, q⟩ => ⟨I1.kIn, ?_⟩) he hpl
  exact run_make M F hr hb hd hx I1 r q
theorem pe_make0 (M : Mk X.K C f) (F : FnOk X.prog X.w X.K X.mg X.base CX k f fd ps sp) (hr : Room (k + 1) X.A) (hg : Gl X x) (hm : X.mg x = some (.ref C)) (hb : Binds X.K fd ps ds) (hd : Vals dvs ds) (hx : Passes CX X E)
    (hdb : (x == ("__debug__" : Str)) = false := by decide) : PE X (.Call (.Name x p) [] [] pos) (tMake C sp dvs E tNil) := by
  intro pins s σ H Q I h
  refine wpAny_Call_Name_kw (ld_glob I hg hm ?_ hdb)
  exact PySem.W.callWith_K0 I.kIn M.kp (run_make (us := []) M F hr hb hd hx I .nil h)
end

/-! ### keywords -/
/-- the values of the keywords, from the left -/
def PK (X : Cx) (kws : List Keyword) (t : TA) : Prop :=
  ∀ (pos : Pos) (pins : List (Addr × Obj)) (s : Shared) (σ : St) (H : Hp) (Q : List V → Hp → Prop), Inv X pins σ H s → t σ H Q → wpAny (model X.prog X.w) X.A (evalAll ((backToKw pos (keywordEach kws X.env)).map (·.2))) (AP X pins σ Q) X.xe s
section
variable {X : Cx} {CX : CXT} {k : Nat} {f C : Addr} {fd : FuncData} {ps ks : List Str} {sp : Sp} {E : XK} {x m : Str} {p pos apos kpos : Pos} {e o : Expr} {es : List Expr} {kws : List Keyword} {te ta : TE} {t tk : TA} {nm : Option Str}
theorem pk_nil : PK X [] tNil := fun _ _ _ _ H Q I h => wpAny_evalAll_nil ⟨[], H, I, .nil, h⟩
theorem pk_cons (ha : PE X e te) (hr : PK X kws t) : PK X (⟨nm, e, kpos⟩ :: kws) (tCons te t) := by
  intro pos pins s σ H Q I h
  show wpAny _ _ (evalAll ((do let v ← eval e X.env; standAt pos; pure v) :: (backToKw pos (keywordEach kws X.env)).map (·.2))) _ _ s
  refine wpAny_evalAll_cons (wpAny_bind (thn (ha pins s σ H _ I h) fun u s1 ⟨x, H1, I1, r1, q1⟩ => wpAny_bind (wpAny_standAt (wpAny_pure ?_))))
  exact thn (hr pos pins s1 σ H1 _ I1 q1) fun us s2 ⟨xs, H2, I2, r2, q2⟩ => ⟨x :: xs, H2, I2, .cons r1 r2, q2⟩

/-- how a call with keywords binds: g puts the positional values us and the keywords' values ws (names ks) in the parameters' order, defaults among them -/
structure KBinds (K : PySem.W.Frag) (fd : FuncData) (ps ks : List Str) (g : List Value → List Value → List Value) (gV : List V → List V → List V) : Prop where
  to : ∀ (s : Shared) (us ws : List Value), K.In s.heap → (g us ws).length = ps.length → BindsTo s fd ⟨us, ks.zip ws⟩ (ps.zip (g us ws))
  rel : ∀ {vs : List V} {us : List Value} {zs : List V} {ws : List Value}, Vals vs us → Vals zs ws → Vals (gV vs zs) (g us ws)
def tCallK (sp : Sp) (gV : List V → List V → List V) (E : XK) (t tk : TA) : TE := fun σ H Q => t σ H fun vs H1 => tk σ H1 fun zs H2 => sp (gV vs zs) H2 Q E
variable {g : List Value → List Value → List Value} {gV : List V → List V → List V}
theorem run_fnk {pins : List (Addr × Obj)} {σ : St} {H : Hp} {s : Shared} {Q : VK} {us ws : List Value} {vs zs : List V} (F : FnOk X.prog X.w X.K X.mg X.base CX k f fd ps sp) (hr : Room k X.A) (hb : KBinds X.K fd ps ks g gV) (hx : Passes CX X E)
    (I : Inv X pins σ H s) (r : Vals vs us) (rz : Vals zs ws) (h : sp (gV vs zs) H Q E) : wpAny (model X.prog X.w) X.A (call (.ref f) us (ks.zip ws)) (EP X pins σ Q) X.xe s := by
  have r2 := hb.rel r rz
  have hl : (g us ws).length = ps.length := by rw [← r2.length]; exact F.len _ _ _ _ h
  refine wpAny_call (codeAny_mono (F.run X.A X.stack s H ⟨us, ks.zip ws⟩ (g us ws) (gV vs zs) Q E hr I.env0 (hb.to s us ws I.kIn hl) r2 h) fun r s' hq => ?_)
  cases r with
  | error e => exact hx pins σ H s e s' I hq
  | ok fl =>
    cases fl with
    | ret u => exact I.after hq
    | next => exact False.elim hq
    | brk => exact False.elim hq
    | cont => exact False.elim hq
/-- f(e, .., k = v, ..) -/
theorem pe_callK (F : FnOk X.prog X.w X.K X.mg X.base CX k f fd ps sp) (hr : Room k X.A) (hg : Gl X x) (hm : X.mg x = some (.ref f)) (hk : PySem.W.keepIn X.K (.ref f) = true) (hb : KBinds X.K fd ps ks g gV) (hx : Passes CX X E)
    (ha : PA X (e :: es) t) (hkw : PK X kws tk) (hall : (backToKw pos (keywordEach kws X.env)).all (·.1.isSome) = true := by rfl) (hks : (backToKw pos (keywordEach kws X.env)).filterMap (·.1) = ks := by rfl)
    (hdb : (x == ("__debug__" : Str)) = false := by decide) (he : starEach (e :: es) X.env = (false, eval e X.env) :: starEach es X.env := by rfl)
    (hpl : ((backTo pos (starEach (e :: es) X.env)).any (·.1) || (backToKw pos (keywordEach kws X.env)).any (·.1.isNone)) = false := by rfl) :
    PE X (.Call (.Name x p) (e :: es) kws pos) (tCallK sp gV E t tk) := by
  intro pins s σ H Q I h
  refine wpAny_Call_Name_kw (ld_glob I hg hm ?_ hdb)
  refine PySem.W.callWith_KW (h₀ := X.base) I.ok.mod.kin hk hall (thn (ha pos pins s σ H _ I h) fun us s1 ⟨vs, H1, I1, r, q⟩ => ?_) hpl he
  refine thn (hkw pos pins s1 σ H1 _ I1 q) fun ws s2 ⟨zs, H2, I2, rz, q2⟩ => ⟨I2.kIn, ?_⟩
  rw [hks]
  exact run_fnk F hr hb hx I2 r rz q2
end

/-! ### a def's body keeps its promise -/
/-- names: the parameters first -/
structure FnScope (N P : List Str) (sc : Scope) : Prop where
  kind : sc.kind = .function
  co : sc.isCoroutine = false
  gen : sc.isGenerator = false
  nd : N.Nodup
  pre : N.take P.length = P
  par : ∀ x ∈ P, sc.names.lookup x = some .local ∨ sc.names.lookup x = some .cell
  nofree : ∀ y ∈ sc.names, y.2 ≠ .free

theorem bindL_out {kindOf : Str → Option NameKind} {x : Str} : ∀ {binds : List (Str × Value)} {m : Str → Option Value}, (∀ v, (x, v) ∉ binds) → bindL kindOf binds m x = m x
  | [], _, _ => rfl
  | (n, v) :: r, m, h => by
    unfold bindL
    rw [bindL_out fun w hw => h w (List.mem_cons_of_mem _ hw)]
    split
    · have : x ≠ n := by rintro rfl; exact h v List.mem_cons_self
      simp [this]
    · rfl
theorem bindC_out {kindOf : Str → Option NameKind} {x : Str} : ∀ {binds : List (Str × Value)} {m : Str → Option Value}, (∀ v, (x, v) ∉ binds) → bindC kindOf binds m x = m x
  | [], _, _ => rfl
  | (n, v) :: r, m, h => by
    unfold bindC
    rw [bindC_out fun w hw => h w (List.mem_cons_of_mem _ hw)]
    split
    · rfl
    · have : x ≠ n := by rintro rfl; exact h v List.mem_cons_self
      simp [this]
theorem bindL_get {kindOf : Str → Option NameKind} {x : Str} {v : Value} : ∀ {P : List Str} {vs : List Value} {i : Nat} {m : Str → Option Value}, P.Nodup → P[i]? = some x → vs[i]? = some v → kindOf x = some .local →
    bindL kindOf (P.zip vs) m x = some v
  | [], _, _, _, _, h, _, _ => by simp at h
  | _ :: _, [], _, _, _, _, h, _ => by simp at h
  | p :: P, w :: vs, 0, m, nd, h1, h2, hk => by
    simp at h1 h2; subst h1; subst h2
    show bindL kindOf ((p, w) :: P.zip vs) m p = _
    unfold bindL
    rw [bindL_out fun v hv => (List.nodup_cons.mp nd).1 (List.of_mem_zip hv).1, if_pos hk]
    simp
  | p :: P, w :: vs, i + 1, m, nd, h1, h2, hk => by
    show bindL kindOf ((p, w) :: P.zip vs) m x = _
    unfold bindL
    exact bindL_get (i := i) (List.nodup_cons.mp nd).2 (by simpa using h1) (by simpa using h2) hk
theorem bindC_get {kindOf : Str → Option NameKind} {x : Str} {v : Value} : ∀ {P : List Str} {vs : List Value} {i : Nat} {m : Str → Option Value}, P.Nodup → P[i]? = some x → vs[i]? = some v → kindOf x ≠ some .local →
    bindC kindOf (P.zip vs) m x = some v
  | [], _, _, _, _, h, _, _ => by simp at h
  | _ :: _, [], _, _, _, _, h, _ => by simp at h
  | p :: P, w :: vs, 0, m, nd, h1, h2, hk => by
    simp at h1 h2; subst h1; subst h2
    show bindC kindOf ((p, w) :: P.zip vs) m p = _
    unfold bindC
    rw [bindC_out fun v hv => (List.nodup_cons.mp nd).1 (List.of_mem_zip hv).1, if_neg hk]
    simp
  | p :: P, w :: vs, i + 1, m, nd, h1, h2, hk => by
    show bindC kindOf ((p, w) :: P.zip vs) m x = _
    unfold bindC
    exact bindC_get (i := i) (List.nodup_cons.mp nd).2 (by simpa using h1) (by simpa using h2) hk

/-- the names' values at the entry -/
def start (N : List Str) (vs : List V) : St := vs.map some ++ List.replicate (N.length - vs.length) none

/-- the context of a def's body, at its entry; an exception leaves the frame, then lies as CX says -/
def cxOf (CX : CXT) (P : Program) (w : World) (K : PySem.W.Frag) (mg : Str → Option Value) (base : Heap) (N : List Str) (qual : Str) (scope : Scope) (f : Addr) (cd : Value) (A : Around) (outer : List Env) (s : Shared) (H : Hp) (E : XK) : Cx where
  prog := P
  w := w
  K := K
  mg := mg
  base := base
  A := A.deeper (envOfC qual scope s.heap.objs.size f cd)
  N := N
  s₀ := s
  H₀ := H
  env := envOfC qual scope s.heap.objs.size f cd
  outer := outer
  stack := envOfC qual scope s.heap.objs.size f cd :: outer
  ex := []
  calm := true
  fn := fun _ => true
  pn := []
  xe := fun e s' => wpAny (model P w) (A.deeper (envOfC qual scope s.heap.objs.size f cd)) (leaving (envOfC qual scope s.heap.objs.size f cd) e) (fun _ s'' => CX outer H s E e s'') (fun e' s'' => CX outer H s E e' s'') s'

theorem cell_has {sc : Scope} {n : Nat} {x : Str} (h : sc.names.lookup x = some .cell) : ∃ c, (cellsFrom n sc.names []).lookup x = some c := by
  have q := PySem.W.cellsFrom_some sc.names n [] (.inl h)
  exact Option.isSome_iff_exists.mp q

theorem inv_start {CX : CXT} {P : Program} {w : World} {K : PySem.W.Frag} {mg : Str → Option Value} {base : Heap} {N ps : List Str} {qual : Str} {scope : Scope} {f : Addr} {cd : Value} {A : Around} {outer : List Env} {s s1 : Shared} {H : Hp} {E : XK} {us : List Value} {vs : List V}
    (S : FnScope N ps scope) (hd : A.handled = none) (e0 : Env0 P w K mg base A outer s H) (hl : vs.length = ps.length) (r : Vals vs us)
    (x : InCallC s s.heap.objs.size (bindL (envOfC qual scope s.heap.objs.size f cd).kindOf (ps.zip us) fun _ => none) (cellsFrom (s.heap.objs.size + 1) scope.names []) (bindC (envOfC qual scope s.heap.objs.size f cd).kindOf (ps.zip us) fun _ => none) s1) :
    Inv (cxOf CX P w K mg base N qual scope f cd A outer s H E) [] (start N vs) H s1 := by
  have hpl : ps.length ≤ N.length := by have := congrArg List.length S.pre; rw [List.length_take] at this; omega
  obtain ⟨h1, tk, rfl, hk⟩ := x.done
  have noA : ∀ b : Addr, b ∉ (cxOf CX P w K mg base N qual scope f cd A outer s H E).ex := fun b z => absurd (show b ∈ ([] : List Addr) from z) (by simp)
  refine ⟨⟨e0.mod, S.kind, rfl, rfl, Nat.le_refl _, fun y z c h1 h2 => ?_, fun y hy => ?_, fun y c _ h => ?_, fun _ => hd, Around.frames_deeper e0.frames, .inr ⟨rfl, rfl⟩, fun b z => absurd z (noA b), e0.bs, e0.bsz, fun b _ _ => noA b, fun b z => absurd z (noA b), e0.funs, e0.frf⟩,
    rfl, e0.bare, Un.kept hk, ⟨_, x.toInCall.ns, fun i y v h1 h2 h3 => ?_⟩, fun y c h => ⟨_, x.cell y c h⟩, e0.hok.fresh (Nat.le_refl _), fun y c h => ?_, fun p hp => absurd (show p ∈ ([] : List (Addr × Obj)) from hp) (by simp), e0.hok.kept hk, ?_⟩
  · exact name_of_addr x.apart (PySem.mem_of_lookup h1) (PySem.mem_of_lookup h2)
  · have hy : scope.names.lookup y = some .cell ∨ scope.names.lookup y = some .free := hy
    rcases hy with hy | hy
    · exact cell_has hy
    · exact absurd rfl (S.nofree _ (PySem.mem_of_lookup hy))
  · exact Nat.le_of_lt (x.above y c (PySem.mem_of_lookup h))
  · have hi : i < vs.length := by
      unfold start at h2
      by_cases hi : i < vs.length
      · exact hi
      · rw [List.getElem?_append_right (by simpa using hi)] at h2
        rw [List.getElem?_replicate] at h2
        split at h2 <;> cases h2
    have ha : vs[i]? = some v := by
      unfold start at h2
      rw [List.getElem?_append_left (by simpa using hi), List.getElem?_map] at h2
      cases e : vs[i]? with
      | none => rw [e] at h2; cases h2
      | some a => rw [e] at h2; cases h2; rfl
    obtain ⟨u, hu, rv⟩ := r.get ha
    have hp : ps[i]? = some y := by
      rw [← S.pre, List.getElem?_take_of_lt (by omega)]; exact h1
    have ndP : ps.Nodup := by rw [← S.pre]; exact S.nd.sublist (List.take_sublist _ _)
    refine ⟨u, rv, ?_⟩
    rcases S.par y (List.mem_of_getElem? hp) with k | k
    · exact .inl ⟨k, bindL_get ndP hp hu k⟩
    · obtain ⟨c, e⟩ := cell_has (n := s.heap.objs.size + 1) k
      refine .inr ⟨.inl k, c, e, ?_⟩
      have q := x.cell y c e
      rw [bindC_get ndP hp hu (by show scope.names.lookup y ≠ _; rw [k]; decide)] at q
      exact q
  · exact e0.hok.fresh (Nat.le_of_lt (x.above y c (PySem.mem_of_lookup h)))
  · unfold start
    show _ = N.length
    rw [List.length_append, List.length_map, List.length_replicate]
    omega

/-- THE RULE: a def (or a method) of the text, by its body. The body's reading t is chosen for each entry; it is run at the parameters' values -/
theorem fn_of {CX : CXT} {P : Program} {w : World} {K : PySem.W.Frag} {mg : Str → Option Value} {base : Heap} {k : Nat} {f : Addr} {name qual : Str} {params : Arguments} {body : List Stmt} {scope : Scope} {dV kV doc pm cdv ct oc : Value} {an od : Option Addr}
    {osl : Array (Option Value)} {N ps : List Str} {sp : Sp} (lk : K.lookup f = some ⟨oc, od, .func (PySem.W.fnOf name qual params body scope dV kV doc pm an cdv ct), osl⟩) (hcd : PySem.W.codeIn K cdv qual = true) (S : FnScope N ps scope)
    (len : ∀ vs H Q E, sp vs H Q E → vs.length = ps.length)
    (hbody : ∀ (A : Around) (outer : List Env) (s : Shared) (H : Hp) (vs : List V) (Q : VK) (E : XK), Room k (A.deeper (envOfC qual scope s.heap.objs.size f cdv)) → sp vs H Q E →
      ∃ t, PSs (cxOf CX P w K mg base N qual scope f cdv A outer s H E) body t ∧ t { nx := fun _ H' => Q .non H', rt := Q } (start N vs) H) :
    FnOk P w K mg base CX (k + 1) f (PySem.W.fnOf name qual params body scope dV kV doc pm an cdv ct) ps sp := by
  refine ⟨len, fun A outer s H args us vs Q E hr e0 hb r hsp => ?_⟩
  have hl := len _ _ _ _ hsp
  have KX : K.In s.heap := e0.mod.kin.keeps fun b o e => (e0.bs b o e).1
  have lim : s.heap.NoLimit := e0.mod.nolimit.keeps fun b o e => (e0.bs b o e).1
  have hkind : ∀ y ∈ ps.zip us, scope.names.lookup y.1 = some .local ∨ (scope.names.lookup y.1 = some .cell ∧ ((cellsFrom (s.heap.objs.size + 1) scope.names []).lookup y.1).isSome = true) := fun ⟨n, v⟩ hy => by
    rcases S.par n (List.of_mem_zip hy).1 with q | q
    · exact .inl q
    · exact .inr ⟨q, PySem.W.cellsFrom_some _ _ _ (.inl q)⟩
  refine codeAny_call_function hr.depth (KX _ _ lk) rfl S.co S.gen rfl (PySem.W.codeRec_of KX hcd) (hb _ _ _ _ ?_)
  refine wpAny_newFunctionEnv_cells S.kind hkind fun env he s1 x => ?_
  subst he
  refine ⟨lim.keeps x.toInCall.keep, codeAny_func ?_⟩
  obtain ⟨t, ht, hq⟩ := hbody A outer s H vs Q E (hr.deeper _) hsp
  have I : Inv (cxOf CX P w K mg base N qual scope f cdv A outer s H E) [] (start N vs) H s1 := inv_start S hr.hd e0 hl r x
  refine wpAny_mono (ht [] s1 (start N vs) H _ I hq) (fun fl s' hs => ?_) fun e s' hs => hs
  have fin : ∀ {σ' : St} {H' : Hp} {v : V} {u : Value}, Inv (cxOf CX P w K mg base N qual scope f cdv A outer s H E) [] σ' H' s' → RelV v u → Q v H' → CE outer P w H s Q u s' :=
    fun {σ' H' v u} J rv q => ⟨v, H', J.os, J.bare, J.base, J.hok, rv, q⟩
  cases fl with
  | ret u =>
    obtain ⟨v, σ', H', J, rv, q⟩ := hs
    exact fin J rv q
  | next =>
    obtain ⟨σ', H', J, q⟩ := hs
    exact fin (v := V.non) (u := Value.none) J rfl q
  | brk =>
    obtain ⟨_, _, _, q⟩ := hs
    exact False.elim q
  | cont =>
    obtain ⟨_, _, _, q⟩ := hs
    exact False.elim q
end L2

namespace L2
open PySem PySem.Spec PyProof.Rows
section
variable {X : Cx} {x : Str} {p pos : Pos} {e : Expr} {es : List Expr} {t : TA} {id T : String} {r : List V → Hp → VK → Prop}

def tCB (r : List V → Hp → VK → Prop) (t : TA) : TE := fun σ H Q => t σ H fun vs H1 => r vs H1 Q
/-- f(e, ..), f a built-in function -/
theorem pe_callB (hc : CallR X (.builtin id) r) (hg : Gl X x) (hm : X.mg x = none) (hv : bootBuiltins x = some (.builtin id)) (ha : PA X (e :: es) t) (hn : x ≠ "__name__" := by decide) (hdb : (x == ("__debug__" : Str)) = false := by decide)
    (he : starEach (e :: es) X.env = (false, eval e X.env) :: starEach es X.env := by rfl) (hpl : (backTo pos (starEach es X.env)).any (·.1) = false := by rfl) : PE X (.Call (.Name x p) (e :: es) [] pos) (tCB r t) := by
  intro pins s σ H Q I h
  refine wpAny_Call_Name_kw (ld_blt I hg hm hv ?_ hn hdb)
  exact PyProof.Rows.callWith_builtin1 (thn (ha pos pins s σ H _ I h) fun us s1 ⟨vs, H1, I1, r1, q1⟩ => hc pins s1 σ H1 vs us Q I1 r1 q1) he hpl
/-- T(e, ..), T a built-in type -/
theorem pe_callTy (hc : CallR X (.type T) r) (hg : Gl X x) (hm : X.mg x = none) (hv : bootBuiltins x = some (.type T)) (ha : PA X (e :: es) t) (hn : x ≠ "__name__" := by decide) (hdb : (x == ("__debug__" : Str)) = false := by decide)
    (he : starEach (e :: es) X.env = (false, eval e X.env) :: starEach es X.env := by rfl) (hpl : (backTo pos (starEach es X.env)).any (·.1) = false := by rfl) : PE X (.Call (.Name x p) (e :: es) [] pos) (tCB r t) := by
  intro pins s σ H Q I h
  refine wpAny_Call_Name_kw (ld_blt I hg hm hv ?_ hn hdb)
  exact PyProof.Rows.callWith_type1 (thn (ha pos pins s σ H _ I h) fun us s1 ⟨vs, H1, I1, r1, q1⟩ => hc pins s1 σ H1 vs us Q I1 r1 q1) he hpl
/-- T() -/
theorem pe_callTy0 (hc : CallR X (.type T) r) (hg : Gl X x) (hm : X.mg x = none) (hv : bootBuiltins x = some (.type T)) (hn : x ≠ "__name__" := by decide) (hdb : (x == ("__debug__" : Str)) = false := by decide) :
    PE X (.Call (.Name x p) [] [] pos) (tCB r tNil) := by
  intro pins s σ H Q I h
  refine wpAny_Call_Name_kw (ld_blt I hg hm hv ?_ hn hdb)
  exact PyProof.Rows.callWith_type0 (hc pins s σ H [] [] Q I .nil h)
end
end L2

namespace HT
open PySem PyProof.Rows

/-- t < u of tuples of ints -/
def lexLt : List Int → List Int → Bool
  | [], [] => false
  | [], _ :: _ => true
  | _ :: _, [] => false
  | x :: xs, y :: ys => if x = y then lexLt xs ys else decide (x < y)
theorem lexLt_cons (x y : Int) (xs ys : List Int) : lexLt (x :: xs) (y :: ys) = if x = y then lexLt xs ys else decide (x < y) := rfl
theorem lexLt_nil_nil : lexLt [] [] = false := rfl
theorem lexLt_nil_cons (y : Int) (ys : List Int) : lexLt [] (y :: ys) = true := rfl
theorem lexLt_cons_nil (x : Int) (xs : List Int) : lexLt (x :: xs) [] = false := rfl

theorem eqAt_int (A : Around) (s : Shared) (a : Int) (t : Tok) (c : Int) (u : Tok) : ∃ e, SeqAt.EqAt A s (.int a t) (.int c u) e ∧ (e = true ↔ a = c) :=
  ⟨(a == c), SeqAt.EqAt.int_int a t c u, by simp⟩
theorem rcLt_int (A : Around) (s : Shared) (a : Int) (t : Tok) (c : Int) (u : Tok) (prog : Program) (w : World) (E : Value → Shared → Prop) (Q : Value → Shared → Prop) (h : Q (.bool (decide (a < c))) s) :
    wpAny (model prog w) A (richCompare .Lt (.int a t) (.int c u)) Q E s :=
  (PyProof.Rows.lt_int h : wpAny (model prog w) A (compareOp .Lt (.int a t) (.int c u)) Q E s)

section
open PySem.SeqAt
open PySem.AutoSeq1 (wpAny_loadPart')
open PySem.MeetsSeq PySem.MeetsSeq2 PySem.MeetsSeq3

theorem tuple_lt_ints (l b : Addr) (items items2 : Array Value) (n n2 : Nat) (dd dd2 : Option Addr) (sl sl2 : Array (Option Value)) (ns ms : List Int) (hi : IntsAre items.toList ns) (hj : IntsAre items2.toList ms) :
    Meets (Builtin.«tuple.__lt__» ⟨[.ref l, .ref b], []⟩)
      (fun _ R s => s.heap.get? l = some { cls := .type "tuple", dict := dd, data := .seq items n, slots := sl } ∧ s.heap.get? b = some { cls := .type "tuple", dict := dd2, data := .seq items2 n2, slots := sl2 } ∧
        R (.ok (.ret (.bool (lexLt ns ms)))) s) :=
  .of_wp fun prog w A R s h => by
    obtain ⟨hp, g, d, tk, os⟩ := s; obtain ⟨hl, hb, h⟩ := h
    have f2 := AutoSeq1.sub_tuple_tuple
    have z1 : items.size = ns.length := by rw [← hi.length]; simp
    have z2 : items2.size = ms.length := by rw [← hj.length]; simp
    wp_walk using wpAny_loadPart' hl, wpAny_loadPart' hb, wpAny_forIn_list _ (fun rest b s' => b.1 = none ∧ s' = ⟨hp, g, d, tk, os⟩ ∧ ∃ (vs ws : List Value) (ns' ms' : List Int), rest = vs.zip ws ∧
      IntsAre vs ns' ∧ IntsAre ws ms' ∧ ns'.length + items2.size = ms'.length + items.size ∧ R (.ok (.ret (.bool (lexLt ns' ms')))) ⟨hp, g, d, tk, os⟩) _
    case turn =>
      rintro ⟨y, x⟩ rest b s' ⟨hb', rfl, vs, ws, ns', ms', hz, hvi, hwi, hlen, hR⟩
      cases hvi with
      | nil => rw [List.zip_nil_left] at hz; cases hz
      | cons a t hvi' =>
        cases hwi with
        | nil => rw [List.zip_nil_right] at hz; cases hz
        | cons c u hwi' =>
          rw [List.zip_cons_cons] at hz
          injection hz with hyx hrest
          injection hyx with hy hx
          subst hy hx
          rw [lexLt_cons] at hR
          simp only [List.length_cons] at hlen
          obtain ⟨e, he, hiff⟩ := eqAt_int A.in1 ⟨hp, g, d, tk, os⟩ a t c u
          refine wpAny_bind (he prog w _ _ ?_)
          cases e with
          | true =>
            rw [if_pos (hiff.mp rfl)] at hR
            wp_walk
            exact ⟨rfl, rfl, _, _, _, _, hrest, hvi', hwi', by omega, hR⟩
          | false =>
            rw [if_neg (fun q => absurd (hiff.mpr q) Bool.false_ne_true)] at hR
            have hri := rcLt_int A.in1 ⟨hp, g, d, tk, os⟩ a t c u prog w
            wp_walk using hri
            exact ⟨_, rfl, by simpa using hR⟩
    case fin =>
      rintro ⟨b1, b2⟩ s' ⟨hb', rfl, vs, ws, ns', ms', hz, hvi, hwi, hlen, hR⟩
      simp only at hb'
      subst hb'
      have hv : lexLt ns' ms' = decide (items.size < items2.size) := by
        cases hvi with
        | nil =>
          cases hwi with
          | nil =>
            simp only [List.length_nil] at hlen
            rw [lexLt_nil_nil]
            exact (decide_eq_false (by omega)).symm
          | cons c u hw =>
            simp only [List.length_nil, List.length_cons] at hlen
            rw [lexLt_nil_cons]
            exact (decide_eq_true (by omega)).symm
        | cons a t hv =>
          cases hwi with
          | nil =>
            simp only [List.length_nil, List.length_cons] at hlen
            rw [lexLt_cons_nil]
            exact (decide_eq_false (by omega)).symm
          | cons c u hw =>
            rw [List.zip_cons_cons] at hz
            cases hz
      rw [hv] at hR
      wp_walk
      exact ⟨_, rfl, by simpa [Builtin.Tuple.tupleCompareSizes] using hR⟩
    case h =>
      exact ⟨rfl, rfl, items.toList, items2.toList, ns, ms, rfl, hi, hj, by omega, h⟩
end

section
variable {prog : Program} {w : World} {A : Around} {E : Value → Shared → Prop} {s : Shared}

theorem lt_tupInts {l b : Addr} {items items2 : Array Value} {ns ms : List Int} {Q : Value → Shared → Prop} (hl : IsTup s.heap l items) (hb : IsTup s.heap b items2) (hi : IntsAre items.toList ns) (hj : IntsAre items2.toList ms)
    (hu : A.units < cLine) (h : Q (.bool (lexLt ns ms)) s) : wpAny (model prog w) A (compareOp .Lt (.ref l) (.ref b)) Q E s := by
  obtain ⟨⟨cls, dd, data, sl⟩, ho, hc, n, hd⟩ := id hl
  obtain ⟨⟨cls2, dd2, data2, sl2⟩, ho2, hc2, n2, hd2⟩ := id hb
  simp only at hc hd hc2 hd2
  subst hc hd hc2 hd2
  exact richCompare_meets_room (op := .Lt) ⟨_, ho, rfl⟩ ⟨_, ho2, rfl⟩ PySem.F.slot_tuple_lt PySem.F.entry_tuple_lt (PySem.F.args_tuple_lt_2 _ _) (tuple_lt_ints l b items items2 n n2 dd dd2 sl sl2 ns ms hi hj)
    ⟨ho, ho2, show Value.bool (lexLt ns ms) ≠ Value.notImplemented ∧ Q (.bool (lexLt ns ms)) s from ⟨(fun x => nomatch x), h⟩⟩ hu

/-- t + u, t not empty -/
theorem cat_tup {t b : Addr} {vs ws : List Value} {Q : Value → Shared → Prop} (ht : IsTup s.heap t vs.toArray) (hb : IsTup s.heap b ws.toArray) (hv : vs ≠ [])
    (h1 : ws = [] → Q (.ref t) s) (h2 : ws ≠ [] → Q (.ref s.heap.objs.size) { s with heap := s.heap.push { cls := .type "tuple", data := .seq (vs ++ ws).toArray } })
    (hsz : vs.length + ws.length ≤ sizeLine) : wpAny (model prog w) A (binaryOp .Add (.ref t) (.ref b)) Q E s := by
  obtain ⟨⟨cls, dd, data, sl⟩, ho, hc, n, hd⟩ := id ht
  obtain ⟨⟨cls2, dd2, data2, sl2⟩, ho2, hc2, n2, hd2⟩ := id hb
  simp only at hc hd hc2 hd2
  subst hc hd hc2 hd2
  have e : vs.toArray ++ ws.toArray = (vs ++ ws).toArray := by simp
  by_cases hw : ws = []
  · exact concat_meets ⟨_, ho, rfl⟩ ⟨_, ho2, rfl⟩ noFill_tuple_add seq_tuple_add PySem.F.slot_tuple_add PySem.F.entry_tuple_add (PySem.F.args_tuple_add_2 _ _)
      (tuple_addW1 t b vs.toArray ws.toArray n n2 dd dd2 sl sl2 (by simpa using hv) (by simp [hw])) ⟨ho, ho2, h1 hw⟩
  · refine concat_meets ⟨_, ho, rfl⟩ ⟨_, ho2, rfl⟩ noFill_tuple_add seq_tuple_add PySem.F.slot_tuple_add PySem.F.entry_tuple_add (PySem.F.args_tuple_add_2 _ _)
      (tuple_addW2 t b vs.toArray ws.toArray n n2 dd dd2 sl sl2 (by simpa using hv) (by simpa using hw) (by rw [List.size_toArray, List.size_toArray]; exact hsz)) ⟨ho, ho2, ?_⟩
    rw [e]
    exact h2 hw

/-! ### t[a:b], not the whole -/
/-- a slice's bound as a place among n (d where it is left out) -/
def sIx (n d : Nat) : Option Int → Nat
  | none => d
  | some v => if v < 0 then (v + (n : Int)).toNat else min v.toNat n
theorem sIx_none (n d : Nat) : sIx n d none = d := rfl
theorem sIx_nat (n d k : Nat) : sIx n d (some (k : Int)) = min k n := by
  show (if (k : Int) < 0 then ((k : Int) + (n : Int)).toNat else min (k : Int).toNat n) = min k n
  rw [if_neg (by omega), Int.toNat_natCast]
theorem sIx_le (n d : Nat) (hd : d ≤ n) (o : Option Int) : sIx n d o ≤ n := by
  cases o with
  | none => exact hd
  | some v =>
    show (if v < 0 then (v + (n : Int)).toNat else min v.toNat n) ≤ n
    by_cases hv : v < 0
    · rw [if_pos hv]; omega
    · rw [if_neg hv]; exact Nat.min_le_right _ _
theorem clip_eq (v : Int) (n d : Nat) : (if v < 0 then max (v + (n : Int)) 0 else min v (n : Int)) = ((sIx n d (some v) : Nat) : Int) := by
  show (if v < 0 then max (v + (n : Int)) 0 else min v (n : Int)) = (((if v < 0 then (v + (n : Int)).toNat else min v.toNat n) : Nat) : Int)
  by_cases hv : v < 0
  · simp only [if_pos hv]; omega
  · simp only [if_neg hv]; omega
theorem adjust_gen (lo hi : Option Int) (n : Nat) : Builtin.Slice.sliceAdjust lo hi 1 (n : Int) = (((sIx n 0 lo : Nat) : Int), ((sIx n n hi : Nat) : Int)) := by
  have h1 : ¬ ((1 : Int) < 0) := by omega
  unfold Builtin.Slice.sliceAdjust
  simp only [h1, if_false]
  refine Prod.ext ?_ ?_
  · cases lo with
    | none => rfl
    | some v => exact clip_eq v n 0
  · cases hi with
    | none => rfl
    | some v => exact clip_eq v n n
theorem places_gen (i j : Nat) : Builtin.Slice.slicePlaces (i : Int) (j : Int) 1 = j - i := by
  unfold Builtin.Slice.slicePlaces
  have h1 : (1 : Int) > 0 := by omega
  simp only [h1, if_true, Int.ediv_one]
  split <;> omega
theorem slicePart_ {v : Value} {o : Option Int} {Q : Option Int → Shared → Prop} (p : IsPart v o) (h : Q o s) : wpAny (model prog w) A (Builtin.Slice.slicePartIndex v) Q E s := by
  cases p with
  | none => exact slicePart_none h
  | int i t => exact slicePart_int h
theorem sliceApplied_gen {sl : Addr} {vl vu : Value} {lo hi : Option Int} {n : Nat} {Q : Int × Int × Nat → Shared → Prop} (hs : s.heap.IsSliceOf sl vl vu .none) (pl : IsPart vl lo) (pu : IsPart vu hi)
    (h : Q (((sIx n 0 lo : Nat) : Int), 1, sIx n n hi - sIx n 0 lo) s) : wpAny (model prog w) A (Builtin.Slice.sliceApplied (.ref sl) (pure (n : Int))) Q E s := by
  obtain ⟨os, hos, hcs, hds⟩ := id hs
  unfold Builtin.Slice.sliceApplied Builtin.Slice.sliceFields
  refine wpAny_bind (wpAny_bind (wpAny_field hos hds (x := vl) rfl (wpAny_bind (wpAny_field hos hds (x := vu) rfl (wpAny_bind (wpAny_field hos hds (x := .none) rfl (wpAny_pure ?_)))))))
  refine wpAny_bind (slicePart_none ?_)
  show wpAny _ _ (if ((1 : Int) == 0) = true then _ else _) _ _ s
  rw [if_neg (by decide)]
  refine wpAny_bind (slicePart_ pl (wpAny_bind (slicePart_ pu (wpAny_bind (wpAny_pure ?_)))))
  show wpAny _ _ (match Builtin.Slice.sliceAdjust lo hi 1 (n : Int) with | (lo, hi) => pure (lo, (1 : Int), Builtin.Slice.slicePlaces lo hi 1)) _ _ s
  rw [adjust_gen lo hi n]
  show wpAny _ _ (pure (((sIx n 0 lo : Nat) : Int), (1 : Int), Builtin.Slice.slicePlaces ((sIx n 0 lo : Nat) : Int) ((sIx n n hi : Nat) : Int) 1)) _ _ s
  rw [places_gen]
  exact wpAny_pure h
theorem pick_gen (xs : Array Value) (i k : Nat) : ((List.range k).filterMap fun (m : Nat) => xs[((i : Int) + (m : Int) * 1).toNat]?).toArray = ((xs.toList.drop i).take k).toArray := by
  have e : (fun (m : Nat) => xs[((i : Int) + (m : Int) * 1).toNat]?) = fun m => xs[i + m]? := by
    funext m
    have : ((i : Int) + (m : Int) * 1).toNat = i + m := by omega
    rw [this]
  rw [e]
  have := pick_run xs i k
  rw [List.filterMap_map] at this
  have e2 : ((fun x => xs[x]?) ∘ fun x => i + x) = fun m => xs[i + m]? := rfl
  rw [e2] at this
  rw [this]

theorem getItem_tuple_cut {t sl : Addr} {items : Array Value} {vl vu : Value} {lo hi : Option Int} {Q : Value → Shared → Prop} (ht : IsTup s.heap t items) (hs : s.heap.IsSliceOf sl vl vu .none) (pl : IsPart vl lo) (pu : IsPart vu hi)
    (hw : ¬ (sIx items.size 0 lo = 0 ∧ sIx items.size items.size hi = items.size))
    (h : Q (.ref s.heap.objs.size) { s with heap := s.heap.push { cls := .type "tuple", data := .seq ((items.toList.drop (sIx items.size 0 lo)).take (sIx items.size items.size hi - sIx items.size 0 lo)).toArray } })
    (hsz : items.size ≤ sizeLine) : wpAny (model prog w) A (getItem (.ref t) (.ref sl)) Q E s := by
  have htake : sizeOk (.seq ((items.toList.drop (sIx items.size 0 lo)).take (sIx items.size items.size hi - sIx items.size 0 lo)).toArray) := by
    show ((items.toList.drop (sIx items.size 0 lo)).take (sIx items.size items.size hi - sIx items.size 0 lo)).toArray.size ≤ sizeLine
    rw [List.size_toArray, List.length_take, List.length_drop, Array.length_toList]
    omega
  have hj : sIx items.size items.size hi ≤ items.size := sIx_le _ _ (Nat.le_refl _) hi
  obtain ⟨os, hos, hcs, hds⟩ := id hs
  have hTs : s.TypeIs (.ref sl) "slice" := ⟨os, hos, hcs⟩
  unfold getItem
  try with_reducible refine wpAny_holding ?_
  first | refine wpAny_bind (wpAny_pure ?_) | skip
  refine wpAny_bind (wpAny_sequenceKey ht.typeIs (by decide) ?_)
  refine wpAny_bind (wpAny_callSpecial?_slot (name := Str.ofString "__getitem__") ht.typeIs PyProof.Rows.slot_tuple_getitem
    (wpAny_call_entry PyProof.Rows.slot_tuple_getitem ht.typeIs entry_tuple_getitem ?_ (args_tuple_getitem _ _)))
  show wpAny _ _ (Builtin.Tuple.tupleItemsOf (.ref t) >>= _) _ _ s
  refine wpAny_bind (tupleItemsOf_ ht ?_)
  refine wpAny_bind (wpAny_typeOf hTs ?_)
  rw [if_pos (by decide)]
  refine wpAny_bind (sliceApplied_gen hs pl pu ?_)
  have hno : ¬ ((((sIx items.size 0 lo : Nat) : Int) == 0 && (1 : Int) == 1 && (sIx items.size items.size hi - sIx items.size 0 lo) == items.size) = true) := by
    intro q
    rw [Bool.and_eq_true, Bool.and_eq_true] at q
    have q1 : ((sIx items.size 0 lo : Nat) : Int) = 0 := eq_of_beq q.1.1
    have q2 : sIx items.size items.size hi - sIx items.size 0 lo = items.size := eq_of_beq q.2
    exact hw ⟨by omega, by omega⟩
  show wpAny _ _ (if (((sIx items.size 0 lo : Nat) : Int) == 0 && (1 : Int) == 1 && (sIx items.size items.size hi - sIx items.size 0 lo) == items.size) = true then _ else _) _ _ s
  rw [if_neg hno, pick_gen]
  first
    | exact wpAny_bind (m := Builtin.Tuple.tupleExact _) (wpAny_newObj_type (wpAny_pure ⟨_, rfl, wpAny_pure h⟩) htake)
    | exact wpAny_bind (m := Builtin.Tuple.tupleExact _) (wpAny_newObj_type (wpAny_bind (wpAny_pure (wpAny_pure ⟨_, rfl, wpAny_pure h⟩))) htake)
    | exact wpAny_bind (wpAny_bind (m := Builtin.Tuple.tupleExact _) (wpAny_newObj_type (wpAny_pure (wpAny_pure ⟨_, rfl, wpAny_pure h⟩)) htake))
    | exact wpAny_bind (wpAny_bind (m := Builtin.Tuple.tupleExact _) (wpAny_newObj_type (wpAny_pure ⟨_, rfl, wpAny_pure h⟩) htake))
end
end HT

namespace L2
open PySem PySem.Spec PyProof.Rows

/-! ### the parts of a slice -/
abbrev TO := St → Hp → (Option Int → Hp → Prop) → Prop
/-- a slice's part (left out, or an int) -/
def PO (X : Cx) (e : Option Expr) (t : TO) : Prop :=
  ∀ (pins : List (Addr × Obj)) (s : Shared) (σ : St) (H : Hp) (Q : Option Int → Hp → Prop), Inv X pins σ H s → t σ H Q →
    wpAny (model X.prog X.w) X.A (evalPart e X.env) (fun u s' => ∃ o H', Inv X pins σ H' s' ∧ IsPart u o ∧ Q o H') X.xe s
def tNoPart : TO := fun _ H Q => Q none H
def tPart (t : TE) : TO := fun σ H Q => t σ H fun x H1 => ∃ i, x = .int i ∧ Q (some i) H1

theorem intsAre_of {ns : List Int} : ∀ {us : List Value}, Vals (ns.map V.int) us → IntsAre us ns := by
  induction ns with
  | nil => intro us r; rw [List.map_nil] at r; cases r; exact .nil
  | cons n ns ih =>
    intro us r
    rw [List.map_cons] at r
    cases r with
    | cons r1 r2 =>
      obtain ⟨t, e⟩ := r1
      subst e
      exact .cons n t (ih r2)

section
variable {X : Cx} {e : Expr} {te : TE} {lo hi : Option Expr} {tl th : TO} {pos p2 : Pos}

theorem po_none : PO X none tNoPart := by
  intro pins s σ H Q I h
  rw [evalPart_none]
  exact wpAny_pure ⟨none, H, I, .none, h⟩
theorem po_some (h : PE X e te) : PO X (some e) (tPart te) := by
  intro pins s σ H Q I hw
  rw [evalPart_some]
  refine thn (h pins s σ H _ I hw) fun u s1 ⟨x, H1, I1, r1, q1⟩ => ?_
  obtain ⟨i, rfl, q⟩ := q1
  obtain ⟨t, rfl⟩ := r1
  exact ⟨some i, H1, I1, .int i t, q⟩

/-- what a slice of a value is, by values: the slice object stands at sl -/
def SlR (X : Cx) (r : V → Option Int → Option Int → Hp → VK → Prop) : Prop :=
  ∀ (pins : List (Addr × Obj)) (s : Shared) (σ : St) (H : Hp) (x : V) (v vl vu : Value) (lo hi : Option Int) (sl : Addr) (Q : VK), Inv X pins σ H s → RelV x v → s.heap.IsSliceOf sl vl vu .none → IsPart vl lo → IsPart vu hi → r x lo hi H Q →
    ∃ T id, typeLookup (.type T) "__getitem__" = pure (some (.builtin id)) ∧ s.TypeIs v T ∧ wpAny (model X.prog X.w) X.A (getItem v (.ref sl)) (EP X pins σ Q) X.xe s
theorem SlR.or {r r' : V → Option Int → Option Int → Hp → VK → Prop} (h : SlR X r) (h' : SlR X r') : SlR X (fun x lo hi H Q => r x lo hi H Q ∨ r' x lo hi H Q) := by
  intro pins s σ H x v vl vu lo hi sl Q I rx hs pl pu q
  rcases q with q | q
  · exact h pins s σ H x v vl vu lo hi sl Q I rx hs pl pu q
  · exact h' pins s σ H x v vl vu lo hi sl Q I rx hs pl pu q
def tSl (r : V → Option Int → Option Int → Hp → VK → Prop) (te : TE) (tl th : TO) : TE := fun σ H Q => te σ H fun x H1 => tl σ H1 fun l H2 => th σ H2 fun u H3 => r x l u H3 Q
/-- a[lo:hi], any a -/
theorem pe_slice {r : V → Option Int → Option Int → Hp → VK → Prop} (hr : SlR X r) (he : PE X e te) (hl : PO X lo tl) (hu : PO X hi th) : PE X (.Subscript e (.Slice lo hi none p2) pos) (tSl r te tl th) := by
  intro pins s σ H Q I h
  refine Subscript_ (thn (he pins s σ H _ I h) fun v s1 ⟨x, H1, I1, r1, q1⟩ => ?_)
  refine wpAny_Slice (thn (hl pins s1 σ H1 _ I1 q1) fun vl s2 ⟨l, H2, I2, pl, q2⟩ => thn (hu pins s2 σ H2 _ I2 q2) fun vu s3 ⟨u, H3, I3, pu, q3⟩ => ?_)
  rw [evalPart_none]
  refine wpAny_pure ?_
  have I4 : Inv X pins σ H3 { s3 with heap := s3.heap.push { cls := .type "slice", data := .fields #[vl, vu, .none] } } := I3.kept (t' := s3.toks) fun b ob q => Heap.get?_push_of_some _ q
  obtain ⟨T, id, hT, ht, hg⟩ := hr pins { s3 with heap := s3.heap.push { cls := .type "slice", data := .fields #[vl, vu, .none] } } σ H3 x v vl vu l u s3.heap.objs.size Q I4 r1 (Heap.IsSliceOf.new ..) pl pu q3
  show wpAny (model X.prog X.w) X.A (subscriptTail e (.Slice lo hi none p2) v (.ref s3.heap.objs.size)) (EP X pins σ Q) X.xe { s3 with heap := s3.heap.push { cls := .type "slice", data := .fields #[vl, vu, .none] } }
  exact tail_any (ops := [.ref s3.heap.objs.size, v]) ht hT hg (by with_unfolding_all rfl)

/-- the items of xs[lo:hi] -/
def cutV (xs : List V) (lo hi : Option Int) : List V := (xs.drop (HT.sIx xs.length 0 lo)).take (HT.sIx xs.length xs.length hi - HT.sIx xs.length 0 lo)
theorem cutV_length (xs : List V) (lo hi : Option Int) : (cutV xs lo hi).length ≤ xs.length := by
  unfold cutV
  rw [List.length_take, List.length_drop]
  omega
/-- t[lo:hi], not the whole of it (the whole would be t itself) -/
def rSlT (K : PySem.W.Frag) : V → Option Int → Option Int → Hp → VK → Prop := fun x lo hi H Q => ∃ a xs, x = .ref a ∧ SqT K H a xs ∧
  ¬ (HT.sIx xs.length 0 lo = 0 ∧ HT.sIx xs.length xs.length hi = xs.length) ∧ ∀ p, H p = none → Q (.ref p) (upd H p (.tup (cutV xs lo hi)))
theorem sl_tup : SlR X (rSlT X.K) := by
  intro pins s σ H x v vl vu lo hi sl Q I rx hs pl pu h
  obtain ⟨a, xs, rfl, hx, hw, q⟩ := h
  cases rx
  obtain ⟨its, r, ht, hz⟩ := I.tuple hx
  have hlen : its.toArray.size = xs.length := by rw [List.size_toArray]; exact r.length.symm
  refine ⟨"tuple", _, PyProof.Rows.slot_tuple_getitem.lookup, ht.typeIs, ?_⟩
  refine HT.getItem_tuple_cut ht hs pl pu (by rw [hlen]; exact hw) ?_ (by rw [hlen]; exact hz)
  rw [hlen]
  refine ⟨.ref s.heap.objs.size, _, I.laid (t' := s.toks) (o := .tup (cutV xs lo hi)) (fun b ob q => Heap.get?_push_of_some _ q) (Nat.le_refl _) ?_, rfl, q _ (I.hok.fresh (Nat.le_refl _))⟩
  exact ⟨Nat.le_trans (cutV_length xs lo hi) hz, _, (r.drop (HT.sIx xs.length 0 lo)).take (HT.sIx xs.length xs.length hi - HT.sIx xs.length 0 lo), IsTup.new _ _⟩

/-! ### t < u, t + u -/
def rLtT (K : PySem.W.Frag) : R2 := fun x y H Q => ∃ a b ns ms, x = .ref a ∧ y = .ref b ∧ SqT K H a (ns.map V.int) ∧ SqT K H b (ms.map V.int) ∧ Q (.bl (HT.lexLt ns ms)) H
theorem op_ltT (hu : X.A.units < cLine) : OpR X (compareOp .Lt) (rLtT X.K) := by
  intro pins s σ H x y v u Q I rx ry h
  obtain ⟨a, b, ns, ms, rfl, rfl, ha, hb, q⟩ := h
  cases rx
  cases ry
  obtain ⟨its, r1, p1, _⟩ := I.tuple ha
  obtain ⟨its2, r2, p2, _⟩ := I.tuple hb
  have i1 : IntsAre its.toArray.toList ns := intsAre_of r1
  have i2 : IntsAre its2.toArray.toList ms := intsAre_of r2
  exact HT.lt_tupInts p1 p2 i1 i2 hu ⟨.bl (HT.lexLt ns ms), H, I, rfl, q⟩
/-- t + u, t not empty: u empty gives t itself -/
def rCatT (K : PySem.W.Frag) : R2 := fun x y H Q => ∃ a b xs ys, x = .ref a ∧ y = .ref b ∧ SqT K H a xs ∧ SqT K H b ys ∧ xs ≠ [] ∧ xs.length + ys.length ≤ sizeLine ∧
  (ys = [] → Q (.ref a) H) ∧ (ys ≠ [] → ∀ p, H p = none → Q (.ref p) (upd H p (.tup (xs ++ ys))))
theorem Vals.nil_iff {xs : List V} {us : List Value} (r : Vals xs us) : us = [] ↔ xs = [] := by
  cases r with
  | nil => simp
  | cons _ _ => simp
theorem op_catT : OpR X (binaryOp .Add) (rCatT X.K) := by
  intro pins s σ H x y v u Q I rx ry h
  obtain ⟨a, b, xs, ys, rfl, rfl, ha, hb, hx, hz, q1, q2⟩ := h
  cases rx
  cases ry
  obtain ⟨its, r1, p1, _⟩ := I.tuple ha
  obtain ⟨its2, r2, p2, _⟩ := I.tuple hb
  refine HT.cat_tup p1 p2 (fun z => hx (r1.nil_iff.mp z)) (fun z => ⟨.ref a, H, I, rfl, q1 (r2.nil_iff.mp z)⟩) (fun z => ?_) (by rw [← r1.length, ← r2.length]; exact hz)
  refine ⟨.ref s.heap.objs.size, _, I.laid (t' := s.toks) (o := .tup (xs ++ ys)) (fun b ob q => Heap.get?_push_of_some _ q) (Nat.le_refl _) ?_, rfl, q2 (fun w => z (r2.nil_iff.mpr w)) _ (I.hok.fresh (Nat.le_refl _))⟩
  exact ⟨by rw [List.length_append]; exact hz, _, r1.append r2, IsTup.new _ _⟩
/-- tuple(t) -/
theorem call_tupleT : CallR X (.type "tuple") (fun xs H Q => ∃ a ys, xs = [.ref a] ∧ SqT X.K H a ys ∧ Q (.ref a) H) := by
  intro pins s σ H xs us Q I r h
  obtain ⟨a, ys, rfl, ha, q⟩ := h
  obtain ⟨u, rfl, ru⟩ := vals1 r
  cases ru
  obtain ⟨its, _, p1, _⟩ := I.tuple ha
  exact call_tuple_same (items := its.toArray) p1 ⟨.ref a, H, I, rfl, q⟩
end
end L2

namespace L2
open PySem PySem.Spec PyProof.Rows

/-! ### places -/
/-- the place that an index of any sign means -/
def ixN (n : Nat) (i : Int) : Option Nat := if 0 ≤ i then (if i < n then some i.toNat else none) else if -(n : Int) ≤ i then some (i + n).toNat else none
def atI {α : Type} (xs : List α) (i : Int) : Option α := (ixN xs.length i).bind fun j => xs[j]?
theorem ixN_seq {n : Nat} {i : Int} {j : Nat} (h : ixN n i = some j) : seqIndex? i n = some j ∧ j < n ∧ -(n : Int) ≤ i ∧ i < n := by
  unfold ixN at h
  by_cases h0 : 0 ≤ i
  · rw [if_pos h0] at h
    by_cases h1 : i < n
    · rw [if_pos h1] at h
      have e : i.toNat = j := Option.some.inj h
      exact ⟨by rw [seqIndex_of h0 h1, e], by omega, by omega, h1⟩
    · rw [if_neg h1] at h; cases h
  · rw [if_neg h0] at h
    by_cases h1 : -(n : Int) ≤ i
    · rw [if_pos h1] at h
      have e : (i + n).toNat = j := Option.some.inj h
      exact ⟨by rw [seqIndex_neg (by omega) h1, e], by omega, h1, by omega⟩
    · rw [if_neg h1] at h; cases h
theorem atI_get {α : Type} {xs : List α} {i : Int} {v : α} (h : atI xs i = some v) : ∃ j, seqIndex? i xs.length = some j ∧ xs[j]? = some v ∧ j < xs.length ∧ -(xs.length : Int) ≤ i ∧ i < xs.length := by
  unfold atI at h
  cases e : ixN xs.length i with
  | none => rw [e] at h; cases h
  | some j =>
    rw [e] at h
    obtain ⟨h1, h2, h3, h4⟩ := ixN_seq e
    exact ⟨j, h1, h, h2, h3, h4⟩
theorem atI_nat {α : Type} {xs : List α} {j : Nat} {v : α} (h : xs[j]? = some v) : atI xs (j : Int) = some v := by
  have hj : j < xs.length := (List.getElem?_eq_some_iff.mp h).1
  have e : ixN xs.length (j : Int) = some j := by
    unfold ixN
    rw [if_pos (by omega), if_pos (by omega)]; simp
  unfold atI; rw [e]; exact h
theorem atI_last {α : Type} (xs : List α) (v : α) : atI (xs ++ [v]) (-1) = some v := by
  have hl : (xs ++ [v]).length = xs.length + 1 := by simp
  have e : ixN (xs ++ [v]).length (-1) = some xs.length := by
    unfold ixN
    rw [hl, if_neg (by decide), if_pos (by omega)]
    congr 1
    omega
  unfold atI
  rw [e]
  show (xs ++ [v])[xs.length]? = some v
  simp

/-! ### what may be subscripted -/
/-- what stands as an index of a plain subscript -/
def PlainIx (b : Expr) : Prop := ∀ o i, subscripted b false o i = operate [o, i] (getItem o i)
/-- a subscript by values -/
def IxR (X : Cx) (r : R2) : Prop :=
  ∀ (value slice : Expr) (pins : List (Addr × Obj)) (s : Shared) (σ : St) (H : Hp) (x y : V) (v u : Value) (Q : VK), Inv X pins σ H s → RelV x v → RelV y u → r x y H Q →
    subscripted slice false v u = operate [v, u] (getItem v u) → wpAny (model X.prog X.w) X.A (subscriptTail value slice v u) (EP X pins σ Q) X.xe s
/-- a call of a builtin's method by values: the receiver, the arguments -/
def MtR (X : Cx) (id : String) (r : V → List V → Hp → VK → Prop) : Prop :=
  ∀ (pins : List (Addr × Obj)) (s : Shared) (σ : St) (H : Hp) (x : V) (xs : List V) (v : Value) (us : List Value) (Q : VK), Inv X pins σ H s → RelV x v → Vals xs us → r x xs H Q →
    wpAny (model X.prog X.w) X.A (call (.builtin id) (v :: us)) (EP X pins σ Q) X.xe s
section
variable {X : Cx} {a b : Expr} {ta tb : TE} {pos : Pos}
theorem IxR.or {r r' : R2} (h : IxR X r) (h' : IxR X r') : IxR X (fun x y H Q => r x y H Q ∨ r' x y H Q) := by
  intro value slice pins s σ H x y v u Q I rx ry q hs
  rcases q with q | q
  · exact h value slice pins s σ H x y v u Q I rx ry q hs
  · exact h' value slice pins s σ H x y v u Q I rx ry q hs
theorem MtR.or {id : String} {r r' : V → List V → Hp → VK → Prop} (h : MtR X id r) (h' : MtR X id r') : MtR X id (fun x xs H Q => r x xs H Q ∨ r' x xs H Q) := by
  intro pins s σ H x xs v us Q I rx rs q
  rcases q with q | q
  · exact h pins s σ H x xs v us Q I rx rs q
  · exact h' pins s σ H x xs v us Q I rx rs q
/-- a[b] -/
theorem pe_ix {r : R2} (hr : IxR X r) (ha : PE X a ta) (hb : PE X b tb) (hs : PlainIx b) : PE X (.Subscript a b pos) (tOp r ta tb) := by
  intro pins s σ H Q I h
  exact Subscript_ (binT ha hb I h fun v u s2 x y H2 I2 rx ry q => hr a b pins s2 σ H2 x y v u Q I2 rx ry q (hs _ _))

def rIxL (K : PySem.W.Frag) : R2 := fun x y H Q => ∃ p xs i v, x = .ref p ∧ y = .int i ∧ SqL K H p xs ∧ atI xs i = some v ∧ Q v H
def rIxT (K : PySem.W.Frag) : R2 := fun x y H Q => ∃ p xs i v, x = .ref p ∧ y = .int i ∧ SqT K H p xs ∧ atI xs i = some v ∧ Q v H
def rIxS : R2 := fun x y H Q => ∃ z i c, x = .str z ∧ y = .int i ∧ z.length ≤ sizeLine ∧ atI z.cps.toList i = some c ∧ Q (.str ⟨#[c]⟩) H
theorem ix_list : IxR X (rIxL X.K) := by
  intro value slice pins s σ H x y v u Q I rx ry h hs
  obtain ⟨p, xs, i, z, rfl, rfl, hq, he, q⟩ := h
  cases rx
  obtain ⟨t, rfl⟩ := ry
  obtain ⟨its, r, pl, hz⟩ := I.list hq
  obtain ⟨j, h1, h2, h3, h4, h5⟩ := atI_get he
  obtain ⟨w, ew, rw'⟩ := r.get h2
  have hl := r.length
  have hn := line63
  have fin : EP X pins σ Q w s := ⟨z, H, I, rw', q⟩
  by_cases h0 : 0 ≤ i
  · have hj : i.toNat = j := by
      rw [seqIndex_of h0 h5] at h1
      exact Option.some.inj h1
    exact item_listR pl.isList h0 (by omega) (by rw [hj]; simpa using ew) fin hs
  · have hj : (i + (its.toArray.size : Int)).toNat = j := by
      rw [seqIndex_neg (by omega) h4] at h1
      rw [List.size_toArray, ← hl]
      exact Option.some.inj h1
    exact subscriptTail_builtinR (x := w) pl.isList.typeIs slot_list_getitem.lookup
      (wpAny_getItem_list_neg (Q := fun r s' => r = w ∧ EP X pins σ Q r s') pl.isList (by omega) (by rw [List.size_toArray] <;> omega) (by omega) (by rw [hj]; simpa using ew) ⟨rfl, fin⟩) hs
theorem ix_tup : IxR X (rIxT X.K) := by
  intro value slice pins s σ H x y v u Q I rx ry h hs
  obtain ⟨p, xs, i, z, rfl, rfl, hq, he, q⟩ := h
  cases rx
  obtain ⟨t, rfl⟩ := ry
  obtain ⟨its, r, pl, hz⟩ := I.tuple hq
  obtain ⟨j, h1, h2, h3, h4, h5⟩ := atI_get he
  obtain ⟨w, ew, rw'⟩ := r.get h2
  have hl := r.length
  have hn := line63
  have fin : EP X pins σ Q w s := ⟨z, H, I, rw', q⟩
  exact subscriptTail_builtinR (x := w) pl.typeIs slot_tuple_getitem.lookup
    (getItem_tuple (j := j) (Q := fun r s' => r = w ∧ EP X pins σ Q r s') pl (by omega) (by omega) (by rw [List.size_toArray, ← hl]; exact h1) (by simpa using ew) ⟨rfl, fin⟩) hs
theorem ix_str : IxR X rIxS := by
  intro value slice pins s σ H x y v u Q I rx ry h hs
  obtain ⟨z, i, c, rfl, rfl, hz, he, q⟩ := h
  obtain ⟨t, rfl⟩ := rx
  obtain ⟨t', rfl⟩ := ry
  obtain ⟨j, h1, h2, h3, h4, h5⟩ := atI_get he
  have hl : z.cps.toList.length = z.length := by simp [Str.length]
  rw [hl] at h1 h4 h5
  have hn := line63
  exact tail_any (typeIs_str s z t) slot_str_getitem.lookup (getItem_str (c := c) (by
    have e1 : decide (i < -(2 ^ 63 : Int)) = false := decide_eq_false (by omega)
    have e2 : decide (i ≥ 2 ^ 63) = false := decide_eq_false (by omega)
    rw [e1, e2, Bool.or_false]) (by rw [h1]; simpa using h2) ⟨.str ⟨#[c]⟩, H, I.tok _, ⟨_, rfl⟩, q⟩) hs
/-- list, tuple or str -/
def rIx (K : PySem.W.Frag) : R2 := fun x y H Q => rIxL K x y H Q ∨ rIxT K x y H Q ∨ rIxS x y H Q
theorem ix_seq : IxR X (rIx X.K) := ix_list.or (ix_tup.or ix_str)

/-! ### xs[i] = v, any sign -/
/-- the list's object behind a store -/
theorem mapSeq_set (its : List Value) (n j : Nat) (u : Value) : Obj.mapSeq (·.setIfInBounds j u) { cls := .type "list", data := .seq its.toArray n } = { cls := .type "list", data := .seq (its.set j u).toArray n } := by
  simp [Obj.mapSeq]
theorem Inv.lst {pins : List (Addr × Obj)} {σ : St} {H : Hp} {s : Shared} {p : Addr} {xs : List V} (I : Inv X pins σ H s) (h : H p = some (.lst xs)) :
    ∃ (its : List Value) (n : Nat), Vals xs its ∧ s.heap.get? p = some { cls := .type "list", data := .seq its.toArray n } ∧ xs.length ≤ sizeLine := by
  obtain ⟨z, its, n, r, e⟩ := I.hok p _ h
  exact ⟨its, n, r, e, z⟩
/-- the list at p is written by an update of its object -/
theorem Inv.lstUpd {pins : List (Addr × Obj)} {σ : St} {H : Hp} {s : Shared} {p : Addr} {xs ys : List V} {its its' : List Value} {n n' : Nat} {f : Obj → Obj} (I : Inv X pins σ H s) (h : H p = some (.lst xs))
    (ho : s.heap.get? p = some { cls := .type "list", data := .seq its.toArray n }) (hf : f { cls := .type "list", data := .seq its.toArray n } = { cls := .type "list", data := .seq its'.toArray n' }) (r : Vals ys its') (hz : ys.length ≤ sizeLine) (t : Nat) :
    Inv X pins σ (upd H p (.lst ys)) { s with heap := s.heap.update p f, toks := t } := by
  have e : (s.heap.update p f).get? p = some { cls := .type "list", data := .seq its'.toArray n' } := by
    rw [Heap.get?_update_self f ho (by rw [hf] <;> rfl), hf]
  refine I.write (x := p) (e := p) (by rw [h]; trivial) (.inl rfl) (fun b u hb q => (Heap.get?_update_other _ _ (Ne.symm hb)).trans q) ⟨_, e⟩ ?_
  exact ⟨hz, its', n', r, e⟩
def rSetL : V → V → V → Hp → (Hp → Prop) → Prop := fun o i v H Q => ∃ p xs k j, o = .ref p ∧ i = .int k ∧ H p = some (.lst xs) ∧ ixN xs.length k = some j ∧ Q (upd H p (.lst (xs.set j v)))
theorem set_list : PSet X rSetL := by
  intro pins s σ H o i v ov iv u Q I ro ri rv h
  obtain ⟨p, xs, k, j, rfl, rfl, hp, hj, q⟩ := h
  cases ro
  obtain ⟨t, rfl⟩ := ri
  obtain ⟨its, n, r, ho, hz⟩ := I.lst hp
  obtain ⟨h1, h2, h3, h4⟩ := ixN_seq hj
  have hl := r.length
  have hn := line63
  have I' : Inv X pins σ (upd H p (.lst (xs.set j v))) { s with heap := s.heap.update p (Obj.mapSeq (·.setIfInBounds j u)) } :=
    I.lstUpd hp ho (mapSeq_set its n j u) (r.set rv j) (by rw [List.length_set]; exact hz) s.toks
  by_cases h0 : 0 ≤ k
  · have hk : k.toNat = j := by
      rw [seqIndex_of h0 h4] at h1
      exact Option.some.inj h1
    exact PySem.W.ki_setAt ho h0 (by omega) (by rw [List.size_toArray, ← hl]; exact h4) (by rw [hk]; exact ⟨_, I', q⟩)
  · have hk : (k + (its.toArray.size : Int)).toNat = j := by
      rw [seqIndex_neg (by omega) h3] at h1
      rw [List.size_toArray, ← hl]
      exact Option.some.inj h1
    exact PySem.W.ki_setBack ho (by omega) (by rw [List.size_toArray, ← hl]; exact h3) (by omega) (by rw [hk]; exact ⟨_, I', q⟩)

/-! ### slices -/
theorem slice_bounds (lo hi : Option Int) (n : Nat) : (sliceBounds lo hi none n).1 = ((HT.sIx n 0 lo : Nat) : Int) ∧ (sliceBounds lo hi none n).2.1 = ((HT.sIx n n hi : Nat) : Int) ∧ (sliceBounds lo hi none n).2.2 = 1 := by
  refine ⟨?_, ?_, rfl⟩
  · cases lo with
    | none => simp [sliceBounds, HT.sIx]
    | some i =>
      simp only [sliceBounds, HT.sIx, Option.getD_none, show (1 : Int) > 0 by decide, if_true]
      by_cases h : i < 0
      · simp only [h, if_true] <;> omega
      · simp only [h, if_false] <;> omega
  · cases hi with
    | none => simp [sliceBounds, HT.sIx]
    | some i =>
      simp only [sliceBounds, HT.sIx, Option.getD_none, show (1 : Int) > 0 by decide, if_true]
      by_cases h : i < 0
      · simp only [h, if_true] <;> omega
      · simp only [h, if_false] <;> omega
theorem slicePick_cut (its : List Value) (lo hi : Option Int) : slicePick its.toArray lo hi none = ((its.drop (HT.sIx its.length 0 lo)).take (HT.sIx its.length its.length hi - HT.sIx its.length 0 lo)).toArray := by
  obtain ⟨h1, h2, h3⟩ := slice_bounds lo hi its.toArray.size
  unfold slicePick
  rw [h1, h2, h3]
  simp only [sliceRange_one, pick_run, List.size_toArray] <;> rfl
/-- xs[lo:hi] of a list: a new list -/
def rSlL (K : PySem.W.Frag) : V → Option Int → Option Int → Hp → VK → Prop := fun x lo hi H Q => ∃ a xs, x = .ref a ∧ SqL K H a xs ∧ ∀ p, H p = none → Q (.ref p) (upd H p (.lst (cutV xs lo hi)))
theorem sl_list : SlR X (rSlL X.K) := by
  intro pins s σ H x v vl vu lo hi sl Q I rx hs pl pu h
  obtain ⟨a, xs, rfl, hx, q⟩ := h
  cases rx
  obtain ⟨its, r, ht, hz⟩ := I.list hx
  have hlen := r.length
  refine ⟨"list", _, slot_list_getitem.lookup, ht.isList.typeIs, ?_⟩
  refine wpAny_getItem_list_slice ht.isList hs pl pu .none (by simp) ?_ (by rw [List.size_toArray] <;> omega)
  rw [slicePick_cut, ← hlen]
  refine ⟨.ref s.heap.objs.size, _, I.laid (t' := s.toks) (o := .lst (cutV xs lo hi)) (fun b ob q => Heap.get?_push_of_some _ q) (Nat.le_refl _) ?_, rfl, q _ (I.hok.fresh (Nat.le_refl _))⟩
  exact ⟨Nat.le_trans (cutV_length xs lo hi) hz, _, 0, (r.drop (HT.sIx xs.length 0 lo)).take (HT.sIx xs.length xs.length hi - HT.sIx xs.length 0 lo), Heap.get?_push_size _ rfl⟩

/-! ### in, not in: flat items -/
def flatV : V → Bool
  | .non => true
  | .bl _ => true
  | .int _ => true
  | .str _ => true
  | _ => false
/-- == of flat values -/
def eqV : V → V → Bool
  | .non, .non => true
  | .bl a, .bl b => a == b
  | .bl a, .int b => (if a then 1 else 0) == b
  | .int a, .bl b => a == (if b then 1 else 0)
  | .int a, .int b => a == b
  | .str a, .str b => a == b
  | _, _ => false
theorem eqAt_V {A : Around} {s : Shared} {y x : V} {u v : Value} (ry : RelV y u) (rx : RelV x v) (fy : flatV y = true) (fx : flatV x = true) : SeqAt.EqAt A s u v (eqV y x) := by
  cases y with
  | non =>
    cases ry
    cases x with
    | non => cases rx; exact SeqAt.EqAt.same _
    | bl b => cases rx; exact SeqAt.EqAt.none_bool b
    | int b => obtain ⟨t, rfl⟩ := rx; exact SeqAt.EqAt.none_int b t
    | str b => obtain ⟨t, rfl⟩ := rx; exact SeqAt.EqAt.none_str b t
    | _ => exact absurd (show false = true from fx) Bool.false_ne_true
  | bl a =>
    cases ry
    cases x with
    | non => cases rx; exact SeqAt.EqAt.bool_none a
    | bl b => cases rx; exact SeqAt.EqAt.bool_bool a b
    | int b => obtain ⟨t, rfl⟩ := rx; exact SeqAt.EqAt.bool_int a b t
    | str b => obtain ⟨t, rfl⟩ := rx; exact SeqAt.EqAt.bool_str a b t
    | _ => exact absurd (show false = true from fx) Bool.false_ne_true
  | int a =>
    obtain ⟨t', rfl⟩ := ry
    cases x with
    | non => cases rx; exact SeqAt.EqAt.int_none a t'
    | bl b => cases rx; exact SeqAt.EqAt.int_bool a t' b
    | int b => obtain ⟨t, rfl⟩ := rx; exact SeqAt.EqAt.int_int a t' b t
    | str b => obtain ⟨t, rfl⟩ := rx; exact SeqAt.EqAt.int_str a t' b t
    | _ => exact absurd (show false = true from fx) Bool.false_ne_true
  | str a =>
    obtain ⟨t', rfl⟩ := ry
    cases x with
    | non => cases rx; exact SeqAt.EqAt.str_none a t'
    | bl b => cases rx; exact SeqAt.EqAt.str_bool a t' b
    | int b => obtain ⟨t, rfl⟩ := rx; exact SeqAt.EqAt.str_int a t' b t
    | str b => obtain ⟨t, rfl⟩ := rx; exact SeqAt.EqAt.str_str a t' b t
    | _ => exact absurd (show false = true from fx) Bool.false_ne_true
  | _ => exact absurd (show false = true from fy) Bool.false_ne_true
/-- the items' answers, read off the values (a value's own answer does not lean on its token) -/
def eqU (x : V) (u : Value) : Bool := match u with
  | .none => eqV .non x
  | .bool b => eqV (.bl b) x
  | .int i _ => eqV (.int i) x
  | .str z _ => eqV (.str z) x
  | _ => false
theorem eqU_of {x y : V} {u : Value} (r : RelV y u) (f : flatV y = true) : eqU x u = eqV y x := by
  cases y with
  | non => cases r; rfl
  | bl b => cases r; rfl
  | int i => obtain ⟨t, rfl⟩ := r; rfl
  | str z => obtain ⟨t, rfl⟩ := r; rfl
  | _ => exact absurd (show false = true from f) Bool.false_ne_true
theorem any_eqU {x : V} : ∀ {xs : List V} {us : List Value}, Vals xs us → xs.all flatV = true → us.any (eqU x) = xs.any fun y => eqV y x
  | _, _, .nil, _ => rfl
  | y :: xs, u :: us, .cons r t, f => by
    rw [List.all_cons, Bool.and_eq_true] at f
    rw [List.any_cons, List.any_cons, eqU_of r f.1, any_eqU t f.2]
theorem mem_eqAt {A : Around} {s : Shared} {x : V} {v : Value} (rx : RelV x v) (fx : flatV x = true) : ∀ {xs : List V} {us : List Value}, Vals xs us → xs.all flatV = true → ∀ u ∈ us, SeqAt.EqAt A s u v (eqU x u)
  | _, _, .nil, _ => fun u hu => by cases hu
  | y :: xs, u :: us, .cons r t, f => fun u' hu => by
    rw [List.all_cons, Bool.and_eq_true] at f
    rcases List.mem_cons.mp hu with rfl | hu
    · rw [eqU_of r f.1]; exact eqAt_V r rx f.1 fx
    · exact mem_eqAt rx fx t f.2 u' hu
def inV (x : V) (xs : List V) : Bool := xs.any fun y => eqV y x
/-- x in a list or tuple of flat items -/
def rIn (K : PySem.W.Frag) (neg : Bool) : R2 := fun x y H Q => ∃ p xs, y = .ref p ∧ (SqL K H p xs ∨ SqT K H p xs) ∧ flatV x = true ∧ xs.all flatV = true ∧ Q (.bl (if neg then !inV x xs else inV x xs)) H
theorem op_in_seq : OpR X (compareOp .In) (rIn X.K false) := by
  intro pins s σ H x y v u Q I rx ry h
  obtain ⟨p, xs, rfl, hq, fx, fs, q⟩ := h
  cases ry
  rcases hq with hq | hq
  · obtain ⟨its, r, pl, hz⟩ := I.list hq
    refine SeqAt.in_listAt (eqU x) pl.isList (fun w hw => mem_eqAt rx fx r fs w (by simpa using hw)) ⟨.bl _, H, I, rfl, ?_⟩
    rw [show its.toArray.any (eqU x) = its.any (eqU x) by simp, any_eqU r fs]
    exact q
  · obtain ⟨its, r, pl, hz⟩ := I.tuple hq
    refine SeqAt.in_tupleAt (eqU x) pl (fun w hw => mem_eqAt rx fx r fs w (by simpa using hw)) ⟨.bl _, H, I, rfl, ?_⟩
    rw [show its.toArray.any (eqU x) = its.any (eqU x) by simp, any_eqU r fs]
    exact q
theorem op_notIn_seq : OpR X (compareOp .NotIn) (rIn X.K true) := by
  intro pins s σ H x y v u Q I rx ry h
  obtain ⟨p, xs, rfl, hq, fx, fs, q⟩ := h
  cases ry
  rcases hq with hq | hq
  · obtain ⟨its, r, pl, hz⟩ := I.list hq
    refine SeqAt.notIn_listAt (eqU x) pl.isList (fun w hw => mem_eqAt rx fx r fs w (by simpa using hw)) ⟨.bl _, H, I, rfl, ?_⟩
    rw [show its.toArray.any (eqU x) = its.any (eqU x) by simp, any_eqU r fs]
    exact q
  · obtain ⟨its, r, pl, hz⟩ := I.tuple hq
    refine SeqAt.notIn_tupleAt (eqU x) pl (fun w hw => mem_eqAt rx fx r fs w (by simpa using hw)) ⟨.bl _, H, I, rfl, ?_⟩
    rw [show its.toArray.any (eqU x) = its.any (eqU x) by simp, any_eqU r fs]
    exact q
theorem op_notIn_str : OpR X (compareOp .NotIn) (fun x y H Q => ∃ i j, x = .str i ∧ y = .str j ∧ Q (.bl (!(!(Builtin.Str.occurrences j i 0 j.length 1).isEmpty))) H) := by
  intro pins s σ H x y v u Q I rx ry h
  obtain ⟨i, j, rfl, rfl, q⟩ := h
  obtain ⟨t, rfl⟩ := rx
  obtain ⟨t', rfl⟩ := ry
  exact notIn_str ⟨.bl _, H, I, rfl, q⟩

/-! ### len, list(x), tuple(x) of any list or tuple that is read -/
theorem call_len_seq : CallR X (.builtin "len") (fun xs H Q => ∃ p ys, xs = [.ref p] ∧ (SqL X.K H p ys ∨ SqT X.K H p ys) ∧ Q (.int ys.length) H) := by
  intro pins s σ H xs us Q I r h
  obtain ⟨p, ys, rfl, hq, q⟩ := h
  obtain ⟨u, rfl, rx⟩ := vals1 r
  cases rx
  have hn := line63
  rcases hq with hq | hq
  · obtain ⟨its, r', pl, hz⟩ := I.list hq
    have hlen := r'.length
    exact Calls.call_len_list pl.isList (by simp only [List.size_toArray] <;> omega) ⟨.int ys.length, H, I.tok _, ⟨s.toks + 1, by rw [List.size_toArray, hlen]⟩, q⟩
  · obtain ⟨its, r', pl, hz⟩ := I.tuple hq
    have hlen := r'.length
    exact len_tuple pl (by simp only [List.size_toArray] <;> omega) ⟨.int ys.length, H, I.tok _, ⟨s.toks + 1, by rw [List.size_toArray, hlen]⟩, q⟩
theorem call_len_str : CallR X (.builtin "len") (fun xs H Q => ∃ z, xs = [.str z] ∧ z.length ≤ sizeLine ∧ Q (.int z.length) H) := by
  intro pins s σ H xs us Q I r h
  obtain ⟨z, rfl, hz, q⟩ := h
  obtain ⟨u, rfl, t, rfl⟩ := vals1 r
  have hn := line63
  exact len_str (by omega) ⟨.int z.length, H, I.tok _, ⟨_, rfl⟩, q⟩
theorem CallR.or {f : Value} {r r' : List V → Hp → VK → Prop} (h : CallR X f r) (h' : CallR X f r') : CallR X f (fun xs H Q => r xs H Q ∨ r' xs H Q) := by
  intro pins s σ H xs us Q I rs q
  rcases q with q | q
  · exact h pins s σ H xs us Q I rs q
  · exact h' pins s σ H xs us Q I rs q
theorem call_list_of : CallR X (.type "list") (fun xs H Q => ∃ p ys, xs = [.ref p] ∧ (SqL X.K H p ys ∨ SqT X.K H p ys) ∧ ∀ l, H l = none → Q (.ref l) (upd H l (.lst ys))) := by
  intro pins s σ H xs us Q I r h
  obtain ⟨p, ys, rfl, hq, q⟩ := h
  obtain ⟨u, rfl, rx⟩ := vals1 r
  cases rx
  have fin : ∀ (its : List Value), Vals ys its → ys.length ≤ sizeLine → ∀ (h' : Heap) (c' : Nat), (∀ b o', s.heap.get? b = some o' → h'.get? b = some o') →
      h'.get? s.heap.objs.size = some { cls := .type "list", dict := none, data := .seq its.toArray c', slots := #[] } → EP X pins σ Q (.ref s.heap.objs.size) { s with heap := h' } := fun its r' hz h' c' kp e =>
    ⟨.ref s.heap.objs.size, _, I.laid (t' := s.toks) kp (Nat.le_refl _) (show ObjOk X.prog X.w _ h' _ (.lst ys) from ⟨hz, its, c', r', e⟩), rfl, q _ (I.hok.fresh (Nat.le_refl _))⟩
  rcases hq with hq | hq
  · obtain ⟨its, r', pl, hz⟩ := I.list hq
    have hlen := r'.length
    obtain ⟨o, ho, hc, n, hd⟩ := pl.isList
    exact call_list_seq p (.inl rfl) ho hc hd (fun h' c' kp e => fin its r' hz h' c' kp e) (by simp only [List.size_toArray] <;> omega)
  · obtain ⟨its, r', pl, hz⟩ := I.tuple hq
    have hlen := r'.length
    obtain ⟨o, ho, hc, n, hd⟩ := pl
    exact call_list_seq p (.inr rfl) ho hc hd (fun h' c' kp e => fin its r' hz h' c' kp e) (by simp only [List.size_toArray] <;> omega)
theorem call_tuple_of : CallR X (.type "tuple") (fun xs H Q => ∃ p ys, xs = [.ref p] ∧ ((SqL X.K H p ys ∧ ∀ l, H l = none → Q (.ref l) (upd H l (.tup ys))) ∨ (SqT X.K H p ys ∧ Q (.ref p) H))) := by
  intro pins s σ H xs us Q I r h
  obtain ⟨p, ys, rfl, h⟩ := h
  obtain ⟨u, rfl, rx⟩ := vals1 r
  cases rx
  rcases h with ⟨hq, q⟩ | ⟨hq, q⟩
  · obtain ⟨its, r', pl, hz⟩ := I.list hq
    have hlen := r'.length
    refine call_tuple_list pl.isList (fun h' kp => ?_) (by simp only [List.size_toArray] <;> omega)
    have I1 : Inv X pins σ H { s with heap := h' } := I.kept (t' := s.toks) kp
    have I2 : Inv X pins σ (upd H h'.objs.size (.tup ys)) { s with heap := h'.push { cls := .type "tuple", data := .seq its.toArray } } :=
      I1.laid (t' := s.toks) (fun b o e => Heap.get?_push_of_some _ e) (Nat.le_refl _) (show ObjOk X.prog X.w _ _ _ (.tup ys) from ⟨hz, its, r', IsTup.new _ _⟩)
    exact ⟨.ref h'.objs.size, _, I2, rfl, q _ (I1.hok.fresh (Nat.le_refl _))⟩
  · obtain ⟨its, r', pl, hz⟩ := I.tuple hq
    exact call_tuple_same pl ⟨.ref p, H, I, rfl, q⟩

/-! ### the call of a builtin's method: o.m(..) -/
/-- the value is of that builtin type -/
def tyV (K : PySem.W.Frag) (T : String) (x : V) (H : Hp) : Prop := match x with
  | .str _ => T = "str"
  | .int _ => T = "int"
  | .ref p => (T = "list" ∧ ∃ xs, SqL K H p xs) ∨ (T = "tuple" ∧ ∃ o, K.lookup p = some o ∧ o.cls = .type "tuple" ∧ o.dict = none) ∨
      (T = "dict" ∧ ((∃ kvs, H p = some (.dK kvs)) ∨ ∃ kvs, H p = some (.dT kvs))) ∨ (T = "set" ∧ ∃ S n, H p = some (.set S n))
  | _ => False
theorem tyV_is {pins : List (Addr × Obj)} {σ : St} {H : Hp} {s : Shared} {T : String} {x : V} {v : Value} (I : Inv X pins σ H s) (r : RelV x v) (ty : tyV X.K T x H) :
    s.TypeIs v T ∧ ∀ a, v = .ref a → ∃ ob, s.heap.get? a = some ob ∧ ob.dict = none := by
  cases x with
  | str z =>
    obtain ⟨t, rfl⟩ := r
    cases (show T = "str" from ty)
    exact ⟨typeIs_str s z t, fun _ e => nomatch e⟩
  | int i =>
    obtain ⟨t, rfl⟩ := r
    cases (show T = "int" from ty)
    exact ⟨typeIs_int s i t, fun _ e => nomatch e⟩
  | ref p =>
    cases r
    rcases ty with ⟨rfl, xs, hq⟩ | ⟨rfl, o, hk, hc, hd⟩ | ⟨rfl, hk⟩ | ⟨rfl, S, n, hk⟩
    · obtain ⟨its, _, pl, _⟩ := I.list hq
      refine ⟨pl.isList.typeIs, fun a e => ?_⟩
      cases e
      obtain ⟨o, n, e, c, hd, _⟩ := pl
      exact ⟨o, e, hd⟩
    · refine ⟨⟨o, I.kIn p o hk, hc⟩, fun a e => ?_⟩
      cases e
      exact ⟨o, I.kIn _ o hk, hd⟩
    · have z : ∃ o, s.heap.get? p = some o ∧ o.ExactDict := by
        rcases hk with ⟨kvs, hk⟩ | ⟨kvs, hk⟩
        · obtain ⟨_, _, _, _, o, _, _, e, ex, _⟩ := I.hok p _ hk
          exact ⟨o, e, ex⟩
        · obtain ⟨_, _, _, _, o, _, _, e, ex, _⟩ := I.hok p _ hk
          exact ⟨o, e, ex⟩
      obtain ⟨o, e, ex⟩ := z
      refine ⟨⟨o, e, ex.1⟩, fun a e2 => ?_⟩
      cases e2
      exact ⟨o, e, ex.2.1⟩
    · obtain ⟨o, _, _, _, e, ex, _⟩ := I.hok p _ hk
      refine ⟨⟨o, e, ex.1⟩, fun a e2 => ?_⟩
      cases e2
      exact ⟨o, e, ex.2.1⟩
  | _ => exact False.elim ty
def tBM0 (K : PySem.W.Frag) (T : String) (r : V → List V → Hp → VK → Prop) (to : TE) : TE := fun σ H Q => to σ H fun x H1 => tyV K T x H1 ∧ r x [] H1 Q
def tBM (K : PySem.W.Frag) (T : String) (r : V → List V → Hp → VK → Prop) (to : TE) (t : TA) : TE := fun σ H Q => to σ H fun x H1 => tyV K T x H1 ∧ t σ H1 fun xs H2 => r x xs H2 Q
variable {o e : Expr} {es : List Expr} {to : TE} {t : TA} {name : Str} {apos cpos : Pos} {T id : String} {r : V → List V → Hp → VK → Prop}
theorem pe_bm0 (pa : PlainAttrs T) (slot : Slot T name id) (hty : typeOf (.builtin id) = pure (.type "method_descriptor")) (hm : MtR X id r) (ho : PE X o to)
    (hbase : attributeBase o name X.env (eval o X.env) = eval o X.env := by rfl) (hline : (apos.endLine == cpos.line) = true := by rfl) : PE X (.Call (.Attribute o name apos) [] [] cpos) (tBM0 X.K T r to) := by
  intro pins s σ H Q I h
  refine wpAny_Call_method0_late hbase hline (thn (ho pins s σ H _ I h) fun v s1 ⟨x, H1, I1, r1, ty, q1⟩ => ?_)
  obtain ⟨h1, h2⟩ := tyV_is I1 r1 ty
  exact ⟨T, id, pa, slot, hty, h1, h2, Calls.callWith_builtin rfl (PySem.evalArgs_none (hm pins s1 σ H1 x [] v [] Q I1 r1 .nil q1))⟩
theorem pe_bm (pa : PlainAttrs T) (slot : Slot T name id) (hty : typeOf (.builtin id) = pure (.type "method_descriptor")) (hm : MtR X id r) (ho : PE X o to) (ha : PA X (e :: es) t)
    (hbase : attributeBase o name X.env (eval o X.env) = eval o X.env := by rfl)
    (hfew : ((backTo cpos (starEach (e :: es) X.env)).all (fun x => !x.1) && (backToKw cpos (keywordEach [] X.env)).all (fun x => x.1.isSome)
      && decide ((e :: es).length + ([] : List Keyword).length + (if ([] : List Keyword).isEmpty then 0 else 1) < 30)) = true := by rfl)
    (hline : (apos.endLine == cpos.line) = true := by rfl) (hs : starEach (e :: es) X.env = (false, eval e X.env) :: starEach es X.env := by rfl) (hplain : (backTo cpos (starEach es X.env)).any (·.1) = false := by rfl) :
    PE X (.Call (.Attribute o name apos) (e :: es) [] cpos) (tBM X.K T r to t) := by
  intro pins s σ H Q I h
  refine wpAny_Call_method_late hbase hfew hline rfl (thn (ho pins s σ H _ I h) fun v s1 ⟨x, H1, I1, r1, ty, q1⟩ => ?_)
  obtain ⟨h1, h2⟩ := tyV_is I1 r1 ty
  refine ⟨T, id, pa, slot, hty, h1, h2, ?_⟩
  have hA := ha cpos pins s1 σ H1 _ I1 q1
  rw [hs] at hA ⊢
  refine Calls.callWith_builtin (by show (false || (backTo cpos (starEach es X.env)).any (·.1)) = false; rw [hplain] <;> rfl) (Calls.evalArgs_plain ?_)
  exact thn hA fun us s2 ⟨vs, H2, I2, r2, q2⟩ => hm pins s2 σ H2 x vs v us Q I2 r1 r2 q2
/- xs.append(e), list.index on a module's tuple .. are MtR facts of 06m -/
end
end L2

namespace L2
open PySem PySem.Spec PyProof.Rows

def MtM (X : Cx) (id : String) (r : V → List V → Hp → VK → Prop) : Prop :=
  ∀ (pins : List (Addr × Obj)) (s : Shared) (σ : St) (H : Hp) (x : V) (xs : List V) (v : Value) (us : List Value) (Q : VK), Inv X pins σ H s → RelV x v → Vals xs us → r x xs H Q →
    wpAny (model X.prog X.w) X.A (call (.builtin id) (v :: us)) (EP X pins σ Q) X.xe s

/-! ### lists of values -/
theorem Vals.one : ∀ {x : V} {us : List Value}, Vals [x] us → ∃ u, us = [u] ∧ RelV x u
  | _, _, .cons r .nil => ⟨_, rfl, r⟩
theorem Vals.two : ∀ {x y : V} {us : List Value}, Vals [x, y] us → ∃ u v, us = [u, v] ∧ RelV x u ∧ RelV y v
  | _, _, _, .cons r (.cons q .nil) => ⟨_, _, rfl, r, q⟩
theorem Vals.zero : ∀ {us : List Value}, Vals [] us → us = []
  | _, .nil => rfl
theorem Vals.dropLast {xs : List V} {us : List Value} (h : Vals xs us) : Vals xs.dropLast us.dropLast := by
  induction h with
  | nil => exact .nil
  | cons r t ih =>
    cases t with
    | nil => exact .nil
    | cons q t' => exact .cons r ih
theorem Vals.eraseIdx : ∀ {xs : List V} {us : List Value} (i : Nat), Vals xs us → Vals (xs.eraseIdx i) (us.eraseIdx i)
  | _, _, _, .nil => .nil
  | _, _, 0, .cons _ t => t
  | _, _, i + 1, .cons r t => .cons r (Vals.eraseIdx i t)
theorem Vals.reverse {xs : List V} {us : List Value} (h : Vals xs us) : Vals xs.reverse us.reverse := by
  induction h with
  | nil => exact .nil
  | cons r t ih => rw [List.reverse_cons, List.reverse_cons]; exact Vals.append ih (.cons r .nil)
theorem Vals.rep {xs : List V} {us : List Value} (h : Vals xs us) : ∀ k : Nat, Vals (List.replicate k xs).flatten (List.replicate k us).flatten
  | 0 => .nil
  | k + 1 => by
    rw [List.replicate_succ, List.replicate_succ, List.flatten_cons, List.flatten_cons]
    exact Vals.append h (Vals.rep h k)
theorem erase_last {α : Type} (l : List α) : l.eraseIdx (l.length - 1) = l.dropLast := by
  induction l with
  | nil => rfl
  | cons a r ih =>
    cases r with
    | nil => rfl
    | cons b r =>
      have e : (a :: b :: r).length - 1 = ((b :: r).length - 1) + 1 := by
        have h1 : (a :: b :: r).length = r.length + 2 := rfl
        have h2 : (b :: r).length = r.length + 1 := rfl
        omega
      rw [e, List.eraseIdx_cons_succ, ih]
      all_goals rfl
theorem len_erase {α : Type} : ∀ (l : List α) (i : Nat), (l.eraseIdx i).length ≤ l.length
  | [], _ => Nat.le_refl _
  | _ :: _, 0 => Nat.le_succ _
  | _ :: r, i + 1 => Nat.succ_le_succ (len_erase r i)
theorem foldl_rep (its : List Value) : ∀ (k : Nat) (acc : List Value),
    List.foldl (fun x1 x2 => x1 ++ x2) acc.toArray (List.replicate k its.toArray) = (acc ++ (List.replicate k its).flatten).toArray
  | 0, acc => by simp
  | k + 1, acc => by
    have e : acc.toArray ++ its.toArray = (acc ++ its).toArray := by simp
    have e2 : (acc ++ its) ++ (List.replicate k its).flatten = acc ++ (List.replicate (k + 1) its).flatten := by
      rw [List.replicate_succ, List.flatten_cons, List.append_assoc]
    rw [← e2, ← foldl_rep its k (acc ++ its), ← e, List.replicate_succ, List.foldl_cons]

section
variable {X : Cx} {pins : List (Addr × Obj)} {σ : St} {H : Hp} {s : Shared} {l b : Addr} {xs ys zs : List V}

/-! ### the two steps: a tracked list is rewritten, a new list is laid -/
theorem Inv.lset {its its' : List Value} {n : Nat} {f : Array Value → Array Value} {t' : Nat} (I : Inv X pins σ H s) (hH : H l = some (.lst xs))
    (e : s.heap.get? l = some { cls := .type "list", data := .seq its.toArray n }) (hf : f its.toArray = its'.toArray) (hv : Vals ys its') (hz : ys.length ≤ sizeLine) :
    Inv X pins σ (upd H l (.lst ys)) { s with heap := s.heap.update l (Obj.mapSeq f), toks := t' } := by
  have q := PySem.IsL.update e f
  rw [hf] at q
  refine I.write (x := l) (e := l) (by rw [hH]; exact trivial) (.inl rfl) (fun b' u hb hu => (Heap.get?_update_other s.heap (Obj.mapSeq f) (Ne.symm hb)).trans hu) ⟨_, q⟩ ?_
  exact ⟨hz, its', _, hv, q⟩
theorem Inv.lnew {its : List Value} {t' : Nat} (I : Inv X pins σ H s) (hv : Vals ys its) (hz : ys.length ≤ sizeLine) :
    Inv X pins σ (upd H s.heap.objs.size (.lst ys)) { s with heap := s.heap.push { cls := .type "list", data := .seq its.toArray }, toks := t' } :=
  I.laid (fun _ _ q => Heap.get?_push_of_some _ q) (Nat.le_refl _) ⟨hz, its, 0, hv, Heap.get?_push_size _ rfl⟩
theorem Inv.fresh (I : Inv X pins σ H s) : H s.heap.objs.size = none := I.hok.fresh (Nat.le_refl _)
theorem Inv.lstM (I : Inv X pins σ H s) (hH : H l = some (.lst xs)) : xs.length ≤ sizeLine ∧ ∃ (its : List Value) (n : Nat), Vals xs its ∧ xs.length = its.length ∧ s.heap.get? l = some { cls := .type "list", data := .seq its.toArray n } := by
  obtain ⟨z, its, n, r, e⟩ := I.hok l _ hH
  exact ⟨z, its, n, r, r.length, e⟩

theorem notLongL {n : Nat} (h : n ≤ sizeLine) : Builtin.List.listTooLong n = false := by
  unfold Builtin.List.listTooLong
  exact decide_eq_false (by omega)
end

section
variable {X : Cx}

/-! ### methods -/
def rAppend : V → List V → Hp → VK → Prop := fun x vs H Q => ∃ l xs y, x = .ref l ∧ vs = [y] ∧ H l = some (.lst xs) ∧ xs.length < sizeLine ∧ Q .non (upd H l (.lst (xs ++ [y])))
theorem mt_append : MtM X "list.append" rAppend := by
  intro pins s σ H x vs v us Q I rx rv h
  obtain ⟨l, xs, y, rfl, rfl, hH, hz, q⟩ := h
  cases rx
  obtain ⟨u, rfl, ru⟩ := rv.one
  obtain ⟨z, its, n, r, hl, e⟩ := I.lstM hH
  refine call_meets F.slot_list_append ⟨_, e, rfl⟩ F.entry_list_append (F.args_list_append_2 _ _) (PySem.list_append l its.toArray n u (by rw [List.size_toArray]; omega)) ⟨e, ?_⟩
  refine ⟨.non, _, I.lset (its' := its ++ [u]) hH e (by simp) (r.append (.cons ru .nil)) ?_, rfl, q⟩
  rw [List.length_append, List.length_singleton]
  omega

def rExtend : V → List V → Hp → VK → Prop := fun x vs H Q => ∃ l b xs zs, x = .ref l ∧ vs = [.ref b] ∧ H l = some (.lst xs) ∧ H b = some (.lst zs) ∧ xs.length + zs.length ≤ sizeLine ∧ Q .non (upd H l (.lst (xs ++ zs)))
theorem mt_extend : MtM X "list.extend" rExtend := by
  intro pins s σ H x vs v us Q I rx rv h
  obtain ⟨l, b, xs, zs, rfl, rfl, hH, hB, hz, q⟩ := h
  cases rx
  obtain ⟨u, rfl, ru⟩ := rv.one
  cases ru
  obtain ⟨z, its, n, r, hl, e⟩ := I.lstM hH
  obtain ⟨z2, its2, n2, r2, hl2, e2⟩ := I.lstM hB
  have hsz : its.toArray.size + its2.toArray.size ≤ sizeLine := by rw [List.size_toArray, List.size_toArray]; omega
  have hlong : ¬ (!its.toArray.isEmpty && Builtin.List.listTooLong (its.toArray.size + its2.toArray.size)) = true := by
    rw [notLongL hsz, Bool.and_false]
    exact Bool.false_ne_true
  refine call_meets F.slot_list_extend ⟨_, e, rfl⟩ F.entry_list_extend (F.args_list_extend_2 _ _)
    (AutoSeq1.list_extend_list_list_0 l its.toArray n b its2.toArray n2 hlong (by rw [List.size_toArray]; omega) (by omega)) ⟨e, e2, ?_⟩
  refine ⟨.non, _, I.lset (its' := its ++ its2) hH e (by simp) (r.append r2) ?_, rfl, q⟩
  rw [List.length_append]
  omega

def rPop : V → List V → Hp → VK → Prop := fun x vs H Q => ∃ l xs y, x = .ref l ∧ vs = [] ∧ H l = some (.lst xs) ∧ xs[xs.length - 1]? = some y ∧ Q y (upd H l (.lst xs.dropLast))
theorem mt_pop : MtM X "list.pop" rPop := by
  intro pins s σ H x vs v us Q I rx rv h
  obtain ⟨l, xs, y, rfl, rfl, hH, hy, q⟩ := h
  cases rx
  have hus := rv.zero
  subst hus
  obtain ⟨z, its, n, r, hl, e⟩ := I.lstM hH
  obtain ⟨u, hu, ru⟩ := r.get hy
  have hy' : its.toArray[its.toArray.size - 1]? = some u := by
    show its.toArray[its.length - 1]? = some u
    rw [← Array.getElem?_toList, ← hl]
    exact hu
  refine call_meets F.slot_list_pop ⟨_, e, rfl⟩ F.entry_list_pop (F.args_list_pop_1 _) (MeetsSeq.list_pop_last l its.toArray n u hy' (by rw [List.size_toArray]; omega)) ⟨e, ?_⟩
  refine ⟨y, _, I.lset (its' := its.dropLast) hH e ?_ r.dropLast ?_, ru, q⟩
  · show its.toArray.eraseIdxIfInBounds (its.toArray.size - 1) = its.dropLast.toArray
    rw [List.size_toArray, List.eraseIdxIfInBounds_toArray, erase_last]
  · rw [List.length_dropLast]
    omega

def rPopAt : V → List V → Hp → VK → Prop := fun x vs H Q => ∃ l xs i k y, x = .ref l ∧ vs = [.int i] ∧ H l = some (.lst xs) ∧ -(2 ^ 63) ≤ i ∧ i < 2 ^ 63 ∧ seqIndex? i xs.length = some k ∧ xs[k]? = some y ∧ Q y (upd H l (.lst (xs.eraseIdx k)))
theorem mt_popAt : MtM X "list.pop" rPopAt := by
  intro pins s σ H x vs v us Q I rx rv h
  obtain ⟨l, xs, i, k, y, rfl, rfl, hH, h1, h2, hk, hy, q⟩ := h
  cases rx
  obtain ⟨u, rfl, ru⟩ := rv.one
  obtain ⟨t, rfl⟩ := ru
  obtain ⟨z, its, n, r, hl, e⟩ := I.lstM hH
  obtain ⟨w, hw, rw'⟩ := r.get hy
  refine call_meets F.slot_list_pop ⟨_, e, rfl⟩ F.entry_list_pop (F.args_list_pop_2 _ _)
    (MeetsSeq.list_pop_at l its.toArray n i t k w (fitsIndex_both h1 h2) (by rw [List.size_toArray, ← hl]; exact hk) (by rw [← Array.getElem?_toList]; exact hw) (by rw [List.size_toArray]; omega)) ⟨e, ?_⟩
  refine ⟨y, _, I.lset (its' := its.eraseIdx k) hH e ?_ (r.eraseIdx k) ?_, rw', q⟩
  · show its.toArray.eraseIdxIfInBounds k = (its.eraseIdx k).toArray
    rw [List.eraseIdxIfInBounds_toArray]
  · have := len_erase xs k
    omega

def rReverse : V → List V → Hp → VK → Prop := fun x vs H Q => ∃ l xs, x = .ref l ∧ vs = [] ∧ H l = some (.lst xs) ∧ Q .non (upd H l (.lst xs.reverse))
theorem mt_reverse : MtM X "list.reverse" rReverse := by
  intro pins s σ H x vs v us Q I rx rv h
  obtain ⟨l, xs, rfl, rfl, hH, q⟩ := h
  cases rx
  have hus := rv.zero
  subst hus
  obtain ⟨z, its, n, r, hl, e⟩ := I.lstM hH
  refine call_meets F.slot_list_reverse ⟨_, e, rfl⟩ F.entry_list_reverse (F.args_list_reverse_1 _) (AutoSeq1.list_reverse_list_0 l its.toArray n (by rw [List.size_toArray]; omega)) ⟨e, ?_⟩
  refine ⟨.non, _, I.lset (its' := its.reverse) hH e (by simp) r.reverse ?_, rfl, q⟩
  rw [List.length_reverse]
  omega

def rClear : V → List V → Hp → VK → Prop := fun x vs H Q => ∃ l xs, x = .ref l ∧ vs = [] ∧ H l = some (.lst xs) ∧ Q .non (upd H l (.lst []))
theorem mt_clear : MtM X "list.clear" rClear := by
  intro pins s σ H x vs v us Q I rx rv h
  obtain ⟨l, xs, rfl, rfl, hH, q⟩ := h
  cases rx
  have hus := rv.zero
  subst hus
  obtain ⟨z, its, n, r, hl, e⟩ := I.lstM hH
  refine call_meets F.slot_list_clear ⟨_, e, rfl⟩ F.entry_list_clear (F.args_list_clear_1 _) (AutoSeq1.list_clear_list_0 l its.toArray n (by rw [List.size_toArray]; omega)) ⟨e, ?_⟩
  exact ⟨.non, _, I.lset (its' := []) (ys := []) hH e rfl .nil (Nat.zero_le _), rfl, q⟩

/-! ### list + list, list += list, list * int -/
def rCat : R2 := fun x y H Q => ∃ l b xs zs, x = .ref l ∧ y = .ref b ∧ H l = some (.lst xs) ∧ H b = some (.lst zs) ∧ xs.length + zs.length ≤ sizeLine ∧ ∀ p, H p = none → Q (.ref p) (upd H p (.lst (xs ++ zs)))
theorem op_cat : OpR X (binaryOp .Add) rCat := by
  intro pins s σ H x y v u Q I rx ry h
  obtain ⟨l, b, xs, zs, rfl, rfl, hH, hB, hz, q⟩ := h
  cases rx
  cases ry
  obtain ⟨z, its, n, r, hl, e⟩ := I.lstM hH
  obtain ⟨z2, its2, n2, r2, hl2, e2⟩ := I.lstM hB
  refine PySem.P.add_list e e2 ?_ (by rw [List.size_toArray, List.size_toArray]; omega)
  have ea : its.toArray ++ its2.toArray = (its ++ its2).toArray := by simp
  rw [ea]
  exact ⟨.ref _, _, I.lnew (t' := s.toks) (r.append r2) (by rw [List.length_append]; omega), rfl, q _ I.fresh⟩
/-- a list times an int (a negative one is nothing) -/
def rRep : R2 := fun x y H Q => ∃ l k xs, x = .ref l ∧ y = .int k ∧ H l = some (.lst xs) ∧ -(2 ^ 63) ≤ k ∧ k < 2 ^ 63 ∧ xs.length * k.toNat ≤ sizeLine ∧
  ∀ p, H p = none → Q (.ref p) (upd H p (.lst (List.replicate k.toNat xs).flatten))
theorem len_rep {α : Type} (xs : List α) (k : Nat) : (List.replicate k xs).flatten.length = k * xs.length := by
  induction k with
  | zero => simp
  | succ k ih => rw [List.replicate_succ, List.flatten_cons, List.length_append, ih, Nat.succ_mul, Nat.add_comm]
theorem op_rep : OpR X (binaryOp .Mult) rRep := by
  intro pins s σ H x y v u Q I rx ry h
  obtain ⟨l, k, xs, rfl, rfl, hH, h1, h2, hz, q⟩ := h
  cases rx
  obtain ⟨t, rfl⟩ := ry
  obtain ⟨z, its, n, r, hl, e⟩ := I.lstM hH
  have hlen : its.toArray.size * k.toNat ≤ sizeLine := by rw [List.size_toArray, ← hl]; exact hz
  have hcap : ¬ its.toArray.size * k.toNat > (2 ^ 63 - 1) / 8 := by
    have : (sizeLine : Nat) ≤ (2 ^ 63 - 1) / 8 := by decide
    omega
  have hfit : ¬ (!Builtin.List.listFitsIndex k) = true := by
    rw [fitsIndex_both h1 h2]
    exact Bool.false_ne_true
  have hlong : ¬ Builtin.List.listTooLong (its.toArray.size * k.toNat) = true := by
    rw [notLongL hlen]
    exact Bool.false_ne_true
  have hnew : List.foldl (fun x1 x2 => x1 ++ x2) #[] (List.replicate (if its.toArray.isEmpty = true then 0 else k.toNat) its.toArray) = (List.replicate k.toNat its).flatten.toArray := by
    have f0 : ∀ m : Nat, List.foldl (fun x1 x2 => x1 ++ x2) #[] (List.replicate m its.toArray) = (List.replicate m its).flatten.toArray := fun m => by
      have := foldl_rep its m []
      rw [List.nil_append] at this
      exact this
    rw [f0]
    cases its with
    | nil => simp
    | cons a r' => rw [if_neg (by simp)]
  refine wpAny_binaryOp_repeat_ref (T := "list") (U := "int") (by decide) ⟨_, e, rfl⟩ (fun s' => typeIs_int s' k t) noFill_list_mul F.fills_int_mul F.slot_int_rmul repeat_list F.slot_int_index.lookup
    (call_meets F.slot_int_rmul (typeIs_int s k t) F.entry_int_rmul (F.args_int_rmul_2 _ _) (int___rmul___int_list k t l its.toArray n)
      ⟨e, rfl, ⟨_, e, rfl⟩, call_meets F.slot_list_mul ⟨_, e, rfl⟩ F.entry_list_mul (F.args_list_mul_2 _ _) (AutoListH.list___mul___list_int_3 l its.toArray n k t hfit hcap hlong) ⟨e, ?_⟩⟩)
  rw [hnew]
  exact ⟨.ref _, _, I.lnew (t' := s.toks) (r.rep k.toNat) (by rw [len_rep, Nat.mul_comm]; exact hz), rfl, q _ I.fresh⟩

/-! ### del xs[i] -/
theorem del_list {pins : List (Addr × Obj)} {s : Shared} {σ : St} {H : Hp} {l : Addr} {xs : List V} {i : Int} {t : Tok} {k : Nat} {Q : Unit → Shared → Prop} (I : Inv X pins σ H s) (hH : H l = some (.lst xs))
    (h1 : -(2 ^ 63) ≤ i) (h2 : i < 2 ^ 63) (hk : seqIndex? i xs.length = some k) (h : ∀ s', Inv X pins σ (upd H l (.lst (xs.eraseIdx k))) s' → Q () s') :
    wpAny (model X.prog X.w) X.A (delItem (.ref l) (.int i t)) Q X.xe s := by
  obtain ⟨z, its, n, r, hl, e⟩ := I.lstM hH
  refine PySem.P.delItem_list (k := k) e (fitsIndex_both h1 h2) (by rw [List.size_toArray, ← hl]; exact hk) (h _ ?_) (by rw [List.size_toArray]; omega)
  refine I.lset (its' := its.eraseIdx k) (t' := s.toks) hH e ?_ (r.eraseIdx k) ?_
  · show its.toArray.eraseIdxIfInBounds k = (its.eraseIdx k).toArray
    rw [List.eraseIdxIfInBounds_toArray]
  · have := len_erase xs k
    omega
end

/-! ### xs[a:b] = ys -/
section
variable {prog : Program} {w : World} {A : Around} {E : Value → Shared → Prop} {s : Shared}
theorem splice_eq (its its2 : List Value) (a c : Nat) : its.toArray.extract 0 a ++ its2.toArray ++ its.toArray.extract c its.toArray.size = (its.take a ++ its2 ++ its.drop c).toArray := by
  apply Array.toList_inj.mp
  first
    | (simp
       exact List.take_of_length_le (by simp))
    | simp [List.take_of_length_le]
    | simp
theorem bounds_run {a c n : Nat} (hac : a ≤ c) (hc : c ≤ n) : sliceBounds (some (a : Int)) (some (c : Int)) none n = ((a : Int), (c : Int), 1) := by
  simp only [sliceBounds, Option.getD_none]
  have h1 : ¬ ((a : Int) < 0) := by omega
  have h2 : ¬ ((c : Int) < 0) := by omega
  simp only [h1, h2, if_false, show (1 : Int) > 0 by decide, if_true]
  congr 1
  · omega
  · congr 1; omega
set_option maxRecDepth 100000 in
/-- list.__setitem__ with a slice of step one and another list -/
theorem setItem_slice {l b sl : Addr} {items new : Array Value} {n n2 : Nat} {vl vu : Value} {a c : Nat} {Q : Unit → Shared → Prop}
    (e : s.heap.get? l = some { cls := .type "list", data := .seq items n }) (e2 : s.heap.get? b = some { cls := .type "list", data := .seq new n2 }) (hne : l ≠ b)
    (hs : s.heap.IsSliceOf sl vl vu .none) (pl : IsPart vl (some (a : Int))) (pu : IsPart vu (some (c : Int))) (hac : a ≤ c) (hc : c ≤ items.size)
    (hsz : items.size + new.size ≤ sizeLine) (h : Q () { s with heap := s.heap.update l (Obj.mapSeq fun xs => xs.extract 0 a ++ new ++ xs.extract c xs.size) }) :
    wpAny (model prog w) A (setItem (.ref l) (.ref sl) (.ref b)) Q E s := by
  have hl : s.heap.IsList l items := PySem.IsL.isList e
  have hb : s.heap.IsList b new := PySem.IsL.isList e2
  obtain ⟨os, hos, hcs, hds⟩ := id hs
  have hTs : s.TypeIs (.ref sl) "slice" := ⟨os, hos, hcs⟩
  have hstep : ¬ ((rawPart none == rawInt 0) = true) := Bool.false_ne_true
  have hsame : Builtin.List.listSameRef (.ref l) (.ref b) = false := by
    unfold Builtin.List.listSameRef
    exact beq_eq_false_iff_ne.mpr hne
  have hmax : (max (a : Int) (c : Int)).toNat = c := by omega
  have hz' : ((fun xs : Array Value => xs.extract 0 a ++ new ++ xs.extract c xs.size) items).size ≤ sizeLine + 1 := by
    simp only [Array.size_append, Array.size_extract]
    omega
  unfold setItem
  try with_reducible refine wpAny_holding ?_
  first | refine wpAny_bind (wpAny_pure ?_) | skip
  refine wpAny_bind (wpAny_sequenceKey hl.typeIs (by decide) ?_)
  refine wpAny_bind (wpAny_callSpecial?_slot (name := Str.ofString "__setitem__") hl.typeIs slot_list_setitem
    (wpAny_call_entry slot_list_setitem hl.typeIs entry_list_setitem ?_ (args_list_setitem _ _ _)))
  show wpAny _ _ (Builtin.List.listSubscript? (.ref sl) >>= _) _ _ s
  refine wpAny_bind ?_
  unfold Builtin.List.listSubscript?
  refine wpAny_bind (wpAny_specialOf hTs slice_no_index ?_)
  simp only [Option.isNone_none, if_true]
  refine wpAny_pure ?_
  show wpAny _ _ (typeOf (.ref sl) >>= _) _ _ s
  refine wpAny_bind (wpAny_typeOf hTs ?_)
  first
    | rw [if_neg (by decide)]
    | refine PySem.W.KFB.if_not (by decide) ?_
  rw [listSliceParts_eq]
  refine wpAny_bind (wpAny_bind (wpAny_field hos hds (x := .none) rfl (wpAny_bind (wpAny_listPart .none ?_))))
  rw [if_neg hstep]
  refine wpAny_bind (wpAny_field hos hds (x := vl) rfl (wpAny_bind (wpAny_listPart pl ?_)))
  refine wpAny_bind (wpAny_field hos hds (x := vu) rfl (wpAny_bind (wpAny_listPart pu (wpAny_pure ?_))))
  first
    | simp only [hsame, Bool.false_eq_true, if_false]
    | refine PySem.W.KFB.if_not hsame ?_
    | (dsimp only
       rw [if_neg (by rw [hsame]; exact Bool.false_ne_true)])
  refine wpAny_bind (m := Builtin.List.listAllItems (.ref b) "must assign iterable to extended slice") ?_
  unfold Builtin.List.listAllItems
  refine wpAny_bind (wpAny_typeOf hb.typeIs ?_)
  first
    | refine PySem.W.KFB.if_so (by decide) ?_
    | rw [if_pos (by decide)]
    | simp only [beq_self_eq_true, Bool.true_or, if_true]
  unfold Builtin.List.listItems
  refine wpAny_bind (wpAny_seqItems e2 rfl (wpAny_pure ?_))
  refine wpAny_bind (wpAny_bind (wpAny_seqItems e rfl (wpAny_pure ?_)))
  refine wpAny_bind (wpAny_of_eq ((sliceIndices_raw (some (a : Int)) (some (c : Int)) none items.size (by simp)).trans (congrArg (pure : Int × Int × Int → Sem (Int × Int × Int)) (bounds_run hac hc))) ?_)
  show wpAny _ _ (if ((1 : Int) == 1) = true then _ else _) _ _ s
  rw [if_pos (by decide)]
  refine wpAny_bind (wpAny_rule ?_)
  first
    | simp only [notLongL hsz, Bool.false_eq_true, if_false]
    | refine PySem.W.KFB.if_not (notLongL hsz) ?_
  first | refine wpAny_bind (wpAny_pure ?_) | skip
  show wpAny _ _ (updateSeq l (fun xs => xs.extract 0 ((a : Int)).toNat ++ new ++ xs.extract (max (a : Int) (c : Int)).toNat xs.size) >>= _) _ _ s
  rw [hmax, Int.toNat_natCast]
  refine wpAny_bind (wpAny_updateSeq (hz := Nat.le_trans (Nat.le_add_right _ _) hsz) (_hz' := hz') e rfl ?_)
  refine wpAny_bind (wpAny_letGo ?_)
  first
    | exact wpAny_bind (wpAny_pure (wpAny_pure ⟨.none, rfl, wpAny_pure h⟩))
    | exact wpAny_pure ⟨.none, rfl, wpAny_pure h⟩
end

section
variable {X : Cx}
/-- xs[a:c] = ys of another list, at the value level: sl is the slice object that was just made -/
theorem set_slice {pins : List (Addr × Obj)} {s : Shared} {σ : St} {H : Hp} {l b sl : Addr} {xs ys : List V} {a c : Int} {vl vu : Value} {Q : Unit → Shared → Prop} (I : Inv X pins σ H s)
    (hH : H l = some (.lst xs)) (hB : H b = some (.lst ys)) (hne : l ≠ b) (hs : s.heap.IsSliceOf sl vl vu .none) (ra : RelV (.int a) vl) (rc : RelV (.int c) vu) (h0 : 0 ≤ a) (hac : a ≤ c) (hc : c ≤ xs.length)
    (hz : xs.length + ys.length ≤ sizeLine) (h : ∀ s', Inv X pins σ (upd H l (.lst (xs.take a.toNat ++ ys ++ xs.drop c.toNat))) s' → Q () s') :
    wpAny (model X.prog X.w) X.A (setItem (.ref l) (.ref sl) (.ref b)) Q X.xe s := by
  obtain ⟨ta, rfl⟩ := ra
  obtain ⟨tc, rfl⟩ := rc
  obtain ⟨z, its, n, r, hl, e⟩ := I.lstM hH
  obtain ⟨z2, its2, n2, r2, hl2, e2⟩ := I.lstM hB
  obtain ⟨a', rfl⟩ := Int.eq_ofNat_of_zero_le h0
  obtain ⟨c', rfl⟩ := Int.eq_ofNat_of_zero_le (Int.le_trans h0 hac)
  simp only [Int.toNat_natCast] at h
  refine setItem_slice (a := a') (c := c') e e2 hne hs (.int _ _) (.int _ _) (by omega) (by rw [List.size_toArray]; omega) (by rw [List.size_toArray, List.size_toArray]; omega) (h _ ?_)
  refine I.lset (its' := its.take a' ++ its2 ++ its.drop c') (t' := s.toks) hH e ?_ (Vals.append (Vals.append (r.take _) r2) (r.drop _)) ?_
  · exact splice_eq its its2 a' c'
  · rw [List.length_append, List.length_append, List.length_take, List.length_drop]
    omega
end
end L2

namespace L2
open PySem PySem.Spec PyProof.Rows

/-! ### lists of pairs as tables -/
section
variable {κ : Type} [DecidableEq κ]
def valV (kvs : List (κ × V)) (k : κ) : Option V := (kvs.find? fun kv => decide (kv.1 = k)).map (·.2)
/-- in its place, or at the end -/
def putK (kvs : List (κ × V)) (k : κ) (v : V) : List (κ × V) :=
  if (kvs.any fun kv => decide (kv.1 = k)) = true then kvs.map (fun kv => if kv.1 = k then (kv.1, v) else kv) else kvs ++ [(k, v)]
def dropK (kvs : List (κ × V)) (k : κ) : List (κ × V) := kvs.filter fun kv => decide (kv.1 ≠ k)

theorem valV_nil {k : κ} : valV ([] : List (κ × V)) k = none := rfl
theorem valV_pos {p : κ × V} {r : List (κ × V)} {k : κ} (e : p.1 = k) : valV (p :: r) k = some p.2 := by simp [valV, List.find?_cons, e]
theorem valV_neg {p : κ × V} {r : List (κ × V)} {k : κ} (e : ¬ p.1 = k) : valV (p :: r) k = valV r k := by simp [valV, List.find?_cons, e]
theorem valV_any (k : κ) : ∀ kvs : List (κ × V), (kvs.any fun kv => decide (kv.1 = k)) = (valV kvs k).isSome
  | [] => rfl
  | p :: r => by
    rw [List.any_cons]
    by_cases e : p.1 = k
    · simp only [valV_pos e, decide_eq_true e, Bool.true_or, Option.isSome_some]
    · rw [valV_neg e, decide_eq_false e, Bool.false_or]; exact valV_any k r
theorem valV_map (k j : κ) (y : V) : ∀ kvs : List (κ × V), valV (kvs.map fun kv => if kv.1 = k then (kv.1, y) else kv) j = (valV kvs j).map fun x => if j = k then y else x
  | [] => rfl
  | p :: r => by
    have ih := valV_map k j y r
    rw [List.map_cons]
    by_cases h : p.1 = k
    · rw [if_pos h]
      by_cases e : p.1 = j
      · rw [valV_pos (p := (p.1, y)) e, valV_pos e, Option.map_some, if_pos (e.symm.trans h)]
      · rw [valV_neg (p := (p.1, y)) e, valV_neg e, ih]
    · rw [if_neg h]
      by_cases e : p.1 = j
      · rw [valV_pos (p := p) e, valV_pos e, Option.map_some, if_neg (fun z => h (e.trans z))]
      · rw [valV_neg (p := p) e, valV_neg e, ih]
theorem valV_snoc (k j : κ) (y : V) : ∀ kvs : List (κ × V), valV kvs k = none → valV (kvs ++ [(k, y)]) j = if j = k then some y else valV kvs j
  | [], _ => by
    by_cases e : k = j
    · rw [if_pos e.symm]; exact valV_pos (p := (k, y)) e
    · rw [if_neg (fun z => e z.symm)]; exact valV_neg (p := (k, y)) e
  | p :: r, hn => by
    rw [List.cons_append]
    have hk : ¬ p.1 = k := fun z => by rw [valV_pos z] at hn; cases hn
    rw [valV_neg hk] at hn
    have ih := valV_snoc k j y r hn
    by_cases e : p.1 = j
    · rw [valV_pos e, valV_pos e, if_neg (fun z => hk (e.trans z))]
    · rw [valV_neg e, valV_neg e, ih]
theorem valV_put (kvs : List (κ × V)) (k j : κ) (y : V) : valV (putK kvs k y) j = if j = k then some y else valV kvs j := by
  unfold putK
  by_cases a : (kvs.any fun kv => decide (kv.1 = k)) = true
  · rw [if_pos a, valV_map]
    rw [valV_any] at a
    by_cases e : j = k
    · obtain ⟨x, hx⟩ := Option.isSome_iff_exists.mp a
      rw [if_pos e, e, hx, Option.map_some, if_pos rfl]
    · rw [if_neg e]
      cases valV kvs j with
      | none => rfl
      | some x => rw [Option.map_some, if_neg e]
  · rw [if_neg a]
    refine valV_snoc k j y kvs ?_
    rw [valV_any] at a
    cases q : valV kvs k with
    | none => rfl
    | some x => rw [q] at a; exact (a rfl).elim
theorem length_putK (kvs : List (κ × V)) (k : κ) (v : V) : (putK kvs k v).length ≤ kvs.length + 1 := by
  unfold putK
  split
  · rw [List.length_map]; omega
  · rw [List.length_append, List.length_cons, List.length_nil]; omega
theorem putK_new {kvs : List (κ × V)} {k : κ} (v : V) (h : valV kvs k = none) : putK kvs k v = kvs ++ [(k, v)] := by
  unfold putK
  rw [valV_any, h]
  exact if_neg (by decide)

theorem RelO.isSome_eq {o : Option V} {u : Option Value} (r : RelO o u) : o.isSome = u.isSome := by
  cases o with
  | none => cases u with
    | none => rfl
    | some _ => exact (show False from r).elim
  | some _ => cases u with
    | none => exact (show False from r).elim
    | some _ => rfl
theorem RelO.getD {o : Option V} {u : Option Value} {d : V} {d' : Value} (r : RelO o u) (rd : RelV d d') : RelV (o.getD d) (u.getD d') := by
  cases o with
  | none => cases u with
    | none => exact rd
    | some _ => exact (show False from r).elim
  | some _ => cases u with
    | none => exact (show False from r).elim
    | some _ => exact r

/-- raw tables of the same keys -/
theorem KV.val {kvs : List (κ × V)} {vs : List (κ × Value)} (r : KV kvs vs) (k : κ) : RelO (valV kvs k) (valueAt vs k) := by
  unfold KV at r
  induction r with
  | nil => exact True.intro
  | @cons p q ps qs h t ih =>
    obtain ⟨h1, h2⟩ := h
    by_cases e : p.1 = k
    · have e' : q.1 = k := h1.symm.trans e
      have b : valueAt (q :: qs) k = some q.2 := by simp [valueAt, List.find?_cons, e']
      rw [valV_pos e, b]; exact h2
    · have e' : ¬ q.1 = k := fun z => e (h1.trans z)
      have b : valueAt (q :: qs) k = valueAt qs k := by simp [valueAt, List.find?_cons, e']
      rw [valV_neg e, b]; exact ih
theorem KV.any {kvs : List (κ × V)} {vs : List (κ × Value)} (r : KV kvs vs) (k : κ) : (kvs.any fun kv => decide (kv.1 = k)) = vs.any fun kv => decide (kv.1 = k) := by
  unfold KV at r
  induction r with
  | nil => rfl
  | cons h t ih => rw [List.any_cons, List.any_cons, ih, h.1]
theorem KV.repl {kvs : List (κ × V)} {vs : List (κ × Value)} (r : KV kvs vs) (k : κ) {y : V} {u : Value} (ry : RelV y u) :
    KV (kvs.map fun kv => if kv.1 = k then (kv.1, y) else kv) (vs.map fun kv => if kv.1 = k then (kv.1, u) else kv) := by
  unfold KV at r ⊢
  induction r with
  | nil => exact .nil
  | @cons p q ps qs h t ih =>
    rw [List.map_cons, List.map_cons]
    refine .cons ?_ ih
    obtain ⟨h1, h2⟩ := h
    by_cases e : p.1 = k
    · rw [if_pos e, if_pos (h1.symm.trans e)]; exact ⟨h1, ry⟩
    · rw [if_neg e, if_neg (fun z => e (h1.trans z))]; exact ⟨h1, h2⟩
theorem KV.put {kvs : List (κ × V)} {vs : List (κ × Value)} (r : KV kvs vs) (k : κ) {y : V} {u : Value} (ry : RelV y u) : KV (putK kvs k y) (stored vs k u) := by
  unfold putK stored
  rw [r.any k]
  by_cases e : (vs.any fun kv => decide (kv.1 = k)) = true
  · rw [if_pos e, if_pos e]; exact r.repl k ry
  · rw [if_neg e, if_neg e]; exact Paired.snoc r ⟨rfl, ry⟩
theorem KV.drop {kvs : List (κ × V)} {vs : List (κ × Value)} (r : KV kvs vs) (k : κ) : KV (dropK kvs k) (without vs k) := by
  unfold KV at r ⊢
  unfold dropK without
  induction r with
  | nil => exact .nil
  | @cons p q ps qs h t ih =>
    obtain ⟨h1, h2⟩ := h
    rw [List.filter_cons, List.filter_cons]
    by_cases e : p.1 = k
    · have a : ¬ decide (p.1 ≠ k) = true := by simp [e]
      have b : ¬ decide (q.1 ≠ k) = true := by simp [h1.symm.trans e]
      rw [if_neg a, if_neg b]; exact ih
    · have e' : ¬ q.1 = k := fun z => e (h1.trans z)
      have a : decide (p.1 ≠ k) = true := by simp [e]
      have b : decide (q.1 ≠ k) = true := by simp [e']
      rw [if_pos a, if_pos b]; exact .cons ⟨h1, h2⟩ ih
theorem KV.keys {kvs : List (κ × V)} {vs : List (κ × Value)} (r : KV kvs vs) : kvs.map (·.1) = vs.map (·.1) := by
  unfold KV at r
  induction r with
  | nil => rfl
  | cons h t ih => rw [List.map_cons, List.map_cons, ih, h.1]
theorem KV.length {kvs : List (κ × V)} {vs : List (κ × Value)} (r : KV kvs vs) : kvs.length = vs.length := Paired.length r
theorem dropK_le (kvs : List (κ × V)) (k : κ) : (dropK kvs k).length ≤ kvs.length := List.length_filter_le _ _
end


/-! ### a tracked dict, its keys ints and texts or tuples of these -/
theorem kV_is {P : Program} {w : World} {k : Key} {u : Value} (r : RelV (kV k) u) : (mixKind P w).is k u = true := by
  cases k with
  | inl i => obtain ⟨t, e⟩ := (show ∃ t, u = Value.int i t from r); subst e; exact mixKind_int P w i t
  | inr x => obtain ⟨t, e⟩ := (show ∃ t, u = Value.str x t from r); subst e; exact mixKind_str P w x t
theorem kV_inj {a b : Key} (e : kV a = kV b) : a = b := by
  cases a with
  | inl i => cases b with
    | inl j => have e' : V.int i = V.int j := e; injection e' with e'; rw [e']
    | inr y => exact nomatch (show V.int i = V.str y from e)
  | inr x => cases b with
    | inl j => exact nomatch (show V.str x = V.int j from e)
    | inr y => have e' : V.str x = V.str y := e; injection e' with e'; rw [e']
theorem kVs_inj : ∀ {a b : List Key}, a.map kV = b.map kV → a = b
  | [], [], _ => rfl
  | [], _ :: _, e => by simp at e
  | _ :: _, [], e => by simp at e
  | x :: xs, y :: ys, e => by
    rw [List.map_cons, List.map_cons] at e
    injection e with e1 e2
    rw [kV_inj e1, kVs_inj e2]
theorem items_are {P : Program} {w : World} : ∀ {ks : List Key} {us : List Value}, Vals (ks.map kV) us → ItemsAre (mixKind P w) ks us
  | [], _, r => by rw [List.map_nil] at r; cases r; exact .nil
  | k :: ks, _, r => by
    rw [List.map_cons] at r
    cases r with
    | cons h t => exact .cons (kV_is h) (items_are t)

/-- raw entries of a dict with tuple keys -/
abbrev KT (H : Hp) : List (List Key × V) → List (List Key × Addr × Value) → Prop := Paired fun p q => p.1 = q.1 ∧ H q.2.1 = some (.tup (p.1.map kV)) ∧ RelV p.2 q.2.2
theorem KT.val {H : Hp} {kvs : List (List Key × V)} {xs : List (List Key × Addr × Value)} (r : KT H kvs xs) (k : List Key) : RelO (valV kvs k) ((atKey xs k).map (·.2)) := by
  induction r with
  | nil => exact True.intro
  | @cons p q ps qs h t ih =>
    obtain ⟨h1, _, h2⟩ := h
    by_cases e : p.1 = k
    · have e' : q.1 = k := h1.symm.trans e
      have b : atKey (q :: qs) k = some q.2 := by simp [atKey, List.find?_cons, e']
      rw [valV_pos e, b]; exact h2
    · have e' : ¬ q.1 = k := fun z => e (h1.trans z)
      have b : atKey (q :: qs) k = atKey qs k := by simp [atKey, List.find?_cons, e']
      rw [valV_neg e, b]; exact ih
theorem KT.repl {H : Hp} {kvs : List (List Key × V)} {xs : List (List Key × Addr × Value)} (r : KT H kvs xs) (k : List Key) {y : V} {u : Value} (ry : RelV y u) :
    KT H (kvs.map fun kv => if kv.1 = k then (kv.1, y) else kv) (xs.map (putAt k u)) := by
  induction r with
  | nil => exact .nil
  | @cons p q ps qs h t ih =>
    rw [List.map_cons, List.map_cons]
    refine .cons ?_ ih
    obtain ⟨h1, h2, h3⟩ := h
    unfold putAt
    by_cases e : p.1 = k
    · rw [if_pos e, if_pos (h1.symm.trans e)]; exact ⟨h1, h2, ry⟩
    · rw [if_neg e, if_neg (fun z => e (h1.trans z))]; exact ⟨h1, h2, h3⟩
theorem KT.put {H : Hp} {kvs : List (List Key × V)} {xs : List (List Key × Addr × Value)} (r : KT H kvs xs) (k : List Key) {b : Addr} {y : V} {u : Value} (hb : H b = some (.tup (k.map kV))) (ry : RelV y u) :
    KT H (putK kvs k y) (storedH xs k b u) := by
  have e : (kvs.any fun kv => decide (kv.1 = k)) = (atKey xs k).isSome := by
    rw [valV_any, (r.val k).isSome_eq, Option.isSome_map]
  unfold putK storedH
  rw [e]
  by_cases q : (atKey xs k).isSome = true
  · rw [if_pos q, if_pos q]; exact r.repl k ry
  · rw [if_neg q, if_neg q]; exact Paired.snoc r ⟨rfl, hb, ry⟩
theorem KT.keeps {H H' : Hp} {kvs : List (List Key × V)} {xs : List (List Key × Addr × Value)} (r : KT H kvs xs) (ht : ∀ b ys, H b = some (.tup ys) → H' b = some (.tup ys)) : KT H' kvs xs :=
  Paired.mapP r fun _ _ z => ⟨z.1, ht _ _ z.2.1, z.2.2⟩

section
variable {P : Program} {w : World} {H : Hp} {h : Heap} {a : Addr}
theorem rd_of {u : HO} (ok : HOk P w H h) (e : Rd H a u) : ObjOk P w H h a u := e.ok ok
theorem dk_rd {kvs : List (Key × V)} (ok : HOk P w H h) (e : Rd H a (.dK kvs)) : kvs.length ≤ sizeLine ∧ (a == sysModules) = false ∧ ∃ vs, KV kvs vs ∧ h.DictOf (mixKind P w) a vs :=
  show ObjOk P w H h a (.dK kvs) from rd_of ok e
theorem dk_of {kvs : List (Key × V)} (ok : HOk P w H h) (e : H a = some (.dK kvs)) : kvs.length ≤ sizeLine ∧ (a == sysModules) = false ∧ ∃ vs, KV kvs vs ∧ h.DictOf (mixKind P w) a vs := dk_rd ok (.inl e)
/-- a tracked tuple of ints and texts is a key -/
theorem key_of {ks : List Key} (ok : HOk P w H h) (e : H a = some (.tup (ks.map kV))) : (tupleKind (mixKind P w)).is h ks a := by
  obtain ⟨_, its, r, o, h1, h2, n, h3⟩ := (show ObjOk P w H h a (.tup (ks.map kV)) from ok a _ e)
  exact ⟨o, its.toArray, n, h1, h2, h3, by simpa using items_are r⟩
theorem dt_rd {kvs : List (List Key × V)} (ok : HOk P w H h) (e : Rd H a (.dT kvs)) : kvs.length ≤ sizeLine ∧ (a == sysModules) = false ∧
    ∃ xs, KT H kvs xs ∧ h.DictOfH (tupleKind (mixKind P w)) a xs := by
  obtain ⟨z, y, xs, r, o, es, ep, h1, h2, h3, h4, h5⟩ := (show ObjOk P w H h a (.dT kvs) from rd_of ok e)
  refine ⟨z, y, xs, r, o, es, ep, h1, h2, h3, h4, fun x hx => ?_, h5⟩
  have all : ∀ {l : List (List Key × V)} {m : List (List Key × Addr × Value)}, KT H l m → ∀ x ∈ m, (tupleKind (mixKind P w)).is h x.1 x.2.1 := by
    intro l m q
    induction q with
    | nil => intro x hx; exact nomatch hx
    | @cons p q ps qs hq t ih =>
      intro x hx
      rcases List.mem_cons.mp hx with e | hx
      · subst e
        exact key_of ok (by rw [← hq.1]; exact hq.2.1)
      · exact ih x hx
  exact all r x hx
theorem dt_of {kvs : List (List Key × V)} (ok : HOk P w H h) (e : H a = some (.dT kvs)) : kvs.length ≤ sizeLine ∧ (a == sysModules) = false ∧
    ∃ xs, KT H kvs xs ∧ h.DictOfH (tupleKind (mixKind P w)) a xs := dt_rd ok (.inl e)
end

/-- what the dict at a holds at the key y -/
def DGet (H : Hp) (a : Addr) (y : V) (r : Option V) : Prop :=
  (∃ kvs k, Rd H a (.dK kvs) ∧ y = kV k ∧ r = valV kvs k) ∨ ∃ kvs k b, Rd H a (.dT kvs) ∧ y = .ref b ∧ H b = some (.tup (k.map kV)) ∧ r = valV kvs k
/-- the heap behind a[y] = v -/
def DPut (H : Hp) (a : Addr) (y v : V) (H' : Hp) : Prop :=
  (∃ kvs k, H a = some (.dK kvs) ∧ y = kV k ∧ kvs.length < sizeLine ∧ H' = upd H a (.dK (putK kvs k v))) ∨
  ∃ kvs k b, H a = some (.dT kvs) ∧ y = .ref b ∧ H b = some (.tup (k.map kV)) ∧ kvs.length < sizeLine ∧ H' = upd H a (.dT (putK kvs k v))
theorem DGet.k {H : Hp} {a : Addr} {kvs : List (Key × V)} {k : Key} (e : H a = some (.dK kvs)) : DGet H a (kV k) (valV kvs k) := .inl ⟨kvs, k, .inl e, rfl, rfl⟩
theorem DGet.t {H : Hp} {a b : Addr} {kvs : List (List Key × V)} {k : List Key} (e : H a = some (.dT kvs)) (eb : H b = some (.tup (k.map kV))) : DGet H a (.ref b) (valV kvs k) := .inr ⟨kvs, k, b, .inl e, rfl, eb, rfl⟩
theorem DPut.k {H : Hp} {a : Addr} {kvs : List (Key × V)} {k : Key} {v : V} (e : H a = some (.dK kvs)) (hl : kvs.length < sizeLine) : DPut H a (kV k) v (upd H a (.dK (putK kvs k v))) := .inl ⟨kvs, k, e, rfl, hl, rfl⟩
theorem DPut.t {H : Hp} {a b : Addr} {kvs : List (List Key × V)} {k : List Key} {v : V} (e : H a = some (.dT kvs)) (eb : H b = some (.tup (k.map kV))) (hl : kvs.length < sizeLine) :
    DPut H a (.ref b) v (upd H a (.dT (putK kvs k v))) := .inr ⟨kvs, k, b, e, rfl, eb, hl, rfl⟩


section
variable {X : Cx} {pins : List (Addr × Obj)} {σ : St} {H : Hp} {s : Shared} {a : Addr} {y v : V} {u r : Value} {o : Option V} {A : Around} {E : Value → Shared → Prop}

theorem Inv.big (I : Inv X pins σ H s) : sysModules < s.heap.objs.size := by
  have h : mainGlobals < s.heap.objs.size := (I.mod.glob.keeps I.bk).lt
  exact Nat.lt_trans (by decide) h

/-- d[y], there -/
theorem d_getItem {Q : Value → Shared → Prop} (hu : A.units + 1 < cLine) (I : Inv X pins σ H s) (g : DGet H a y (some v)) (ry : RelV y u) (h : ∀ w' s', Inv X pins σ H s' → RelV v w' → Q w' s') :
    wpAny (model X.prog X.w) A (getItem (.ref a) u) Q E s := by
  rcases g with ⟨kvs, k, e, ey, l⟩ | ⟨kvs, k, b, e, ey, eb, l⟩
  · subst ey
    obtain ⟨z, hd, vs, rel, dd⟩ := dk_rd I.hok e
    obtain ⟨w', hw, rw'⟩ := RelO.some_of (v := v) (o := valueAt vs k) (by rw [l]; exact rel.val k)
    exact wpAny_getItem_of (kV_is ry) dd.mapOf hw (h w' _ (I.tok _) rw')
  · subst ey
    cases (show u = Value.ref b from ry)
    obtain ⟨z, hd, xs, rel, dd⟩ := dt_rd I.hok e
    obtain ⟨w', hw, rw'⟩ := RelO.some_of (v := v) (o := (atKey xs k).map (·.2)) (by rw [l]; exact rel.val k)
    obtain ⟨p, hp, hp2⟩ := Option.map_eq_some_iff.mp hw
    refine wpAny_getItem_heap (tupleKind_room_in1 hu) (key_of I.hok eb) dd hp ?_
    rw [hp2]
    exact h w' _ (I.tok _) rw'
/-- y in d -/
theorem d_in {Q : Value → Shared → Prop} (hu : A.units + 1 < cLine) (I : Inv X pins σ H s) (g : DGet H a y o) (ry : RelV y u) (h : ∀ s', Inv X pins σ H s' → Q (.bool o.isSome) s') :
    wpAny (model X.prog X.w) A (compareOp .In u (.ref a)) Q E s := by
  rcases g with ⟨kvs, k, e, ey, l⟩ | ⟨kvs, k, b, e, ey, eb, l⟩
  · subst ey
    obtain ⟨z, hd, vs, rel, dd⟩ := dk_rd I.hok e
    refine wpAny_in_of (kV_is ry) hd dd.mapOf ?_
    rw [← (rel.val k).isSome_eq, ← l]
    exact h _ (I.tok _)
  · subst ey
    cases (show u = Value.ref b from ry)
    obtain ⟨z, hd, xs, rel, dd⟩ := dt_rd I.hok e
    refine wpAny_in_heap (tupleKind_room_in1 hu) (key_of I.hok eb) hd dd ?_
    have q := (rel.val k).isSome_eq
    rw [Option.isSome_map] at q
    rw [← q, ← l]
    exact h _ (I.tok _)
theorem d_notIn {Q : Value → Shared → Prop} (hu : A.units + 1 < cLine) (I : Inv X pins σ H s) (g : DGet H a y o) (ry : RelV y u) (h : ∀ s', Inv X pins σ H s' → Q (.bool (!o.isSome)) s') :
    wpAny (model X.prog X.w) A (compareOp .NotIn u (.ref a)) Q E s := by
  rcases g with ⟨kvs, k, e, ey, l⟩ | ⟨kvs, k, b, e, ey, eb, l⟩
  · subst ey
    obtain ⟨z, hd, vs, rel, dd⟩ := dk_rd I.hok e
    refine wpAny_notIn_of (kV_is ry) hd dd.mapOf ?_
    rw [← (rel.val k).isSome_eq, ← l]
    exact h _ (I.tok _)
  · subst ey
    cases (show u = Value.ref b from ry)
    obtain ⟨z, hd, xs, rel, dd⟩ := dt_rd I.hok e
    refine wpAny_notIn_heap (tupleKind_room_in1 hu) (key_of I.hok eb) hd dd ?_
    have q := (rel.val k).isSome_eq
    rw [Option.isSome_map] at q
    rw [← q, ← l]
    exact h _ (I.tok _)
/-- a dict's object is replaced -/
theorem d_write {h' : Heap} {t' : Nat} {ob : HO} (I : Inv X pins σ H s) (mu : Mut (H a)) (hs : Heap.SameBut a s.heap h') (he : ∃ q, h'.get? a = some q) (new : ObjOk X.prog X.w (upd H a ob) h' a ob) :
    Inv X pins σ (upd H a ob) { s with heap := h', toks := t' } :=
  I.write (x := a) (e := a) mu (.inl rfl) (fun b q hb z => (hs.2 b hb).trans z) he new
theorem dk_new {P : Program} {w : World} {H' : Hp} {h' : Heap} {kvs : List (Key × V)} {vs : List (Key × Value)} (z : kvs.length ≤ sizeLine) (hd : (a == sysModules) = false) (rel : KV kvs vs) (dd : h'.DictOf (mixKind P w) a vs) :
    ObjOk P w H' h' a (.dK kvs) := ⟨z, hd, vs, rel, dd⟩
/-- d[y] = v -/
theorem d_setItem {H' : Hp} {Q : Unit → Shared → Prop} (hu : A.units + 1 < cLine) (I : Inv X pins σ H s) (g : DPut H a y v H') (ry : RelV y u) (rv : RelV v r) (h : ∀ s', Inv X pins σ H' s' → Q () s') :
    wpAny (model X.prog X.w) A (setItem (.ref a) u r) Q E s := by
  rcases g with ⟨kvs, k, e, ey, l, eH⟩ | ⟨kvs, k, b, e, ey, eb, l, eH⟩
  · subst ey eH
    obtain ⟨z, hd, vs, rel, dd⟩ := dk_of I.hok e
    have hz : vs.length ≤ sizeLine := by rw [← rel.length]; exact z
    have hl : (putK kvs k v).length ≤ sizeLine := by have := length_putK kvs k v; omega
    refine wpAny_setItem_pairs (hsz := hz) (kV_is ry) dd fun h' dd' hs => h _ ?_
    have he : ∃ q, h'.get? a = some q := let ⟨q, _, _, hq, _⟩ := dd'; ⟨q, hq⟩
    exact d_write I (by rw [e]; exact True.intro) hs he (dk_new hl hd (rel.put k rv) dd')
  · subst ey eH
    cases (show u = Value.ref b from ry)
    obtain ⟨z, hd, xs, rel, dd⟩ := dt_of I.hok e
    have hz : xs.length ≤ sizeLine := by rw [← Paired.length rel]; exact z
    have hl : (putK kvs k v).length ≤ sizeLine := by have := length_putK kvs k v; omega
    refine wpAny_setItem_heap (hsz := hz) (tupleKind_room_in1 hu) (key_of I.hok eb) dd fun h' dd' hs => h _ ?_
    obtain ⟨q, es, ep, hq, h2, h3, h4, _, h5⟩ := dd'
    refine d_write I (by rw [e]; exact True.intro) hs ⟨q, hq⟩ ⟨hl, hd, _, (rel.put k eb rv).keeps fun c ys ec => ?_, q, es, ep, hq, h2, h3, h4, h5⟩
    rw [upd_ne (ne_of ec e (fun z => nomatch z))]
    exact ec
end

section
variable {X : Cx} {pins : List (Addr × Obj)} {σ : St} {H : Hp} {s : Shared} {a : Addr} {kvs : List (Key × V)} {k : Key} {u : Value} {A : Around} {E : Value → Shared → Prop}
/-- del d[k] -/
theorem d_delItem {Q : Unit → Shared → Prop} (I : Inv X pins σ H s) (e : H a = some (.dK kvs)) (ry : RelV (kV k) u) (l : (valV kvs k).isSome = true) (h : ∀ s', Inv X pins σ (upd H a (.dK (dropK kvs k))) s' → Q () s') :
    wpAny (model X.prog X.w) A (delItem (.ref a) u) Q E s := by
  obtain ⟨z, hd, vs, rel, dd⟩ := dk_of I.hok e
  refine wpAny_delItem_slot dd.typeIs (by decide) PySem.F.slot_dict_delitem
    (call_meetsIn PySem.F.slot_dict_delitem dd.typeIs PySem.F.entry_dict_delitem (PySem.F.args_dict_delitem_2 _ _) (meets_dict_delitem_pairs (mixKind X.prog X.w) a (kV_is ry)) ⟨vs, dd, by rw [← rel.length]; exact z, by rw [← (rel.val k).isSome_eq]; exact l, fun h' dd' hs => h _ ?_⟩)
  have he : ∃ q, h'.get? a = some q := let ⟨q, _, _, hq, _⟩ := dd'; ⟨q, hq⟩
  exact d_write I (by rw [e]; exact True.intro) hs he (dk_new (Nat.le_trans (dropK_le kvs k) z) hd (rel.drop k) dd')
/-- d.pop(k[, x]), there -/
theorem d_pop {v : V} {more : List Value} {Q : Value → Shared → Prop} (I : Inv X pins σ H s) (e : H a = some (.dK kvs)) (ry : RelV (kV k) u) (l : valV kvs k = some v) (hm : more = [] ∨ ∃ x, more = [x])
    (h : ∀ w' s', Inv X pins σ (upd H a (.dK (dropK kvs k))) s' → RelV v w' → Q w' s') : wpAny (model X.prog X.w) A (call (.builtin "dict.pop") (.ref a :: u :: more)) Q E s := by
  obtain ⟨z, hd, vs, rel, dd⟩ := dk_of I.hok e
  obtain ⟨w', hw, rw'⟩ := RelO.some_of (v := v) (o := valueAt vs k) (by rw [← l]; exact rel.val k)
  have hp : (keyPart u).isSome = true := by
    cases k with
    | inl i => obtain ⟨t, q⟩ := (show ∃ t, u = Value.int i t from ry); subst q; rfl
    | inr x => obtain ⟨t, q⟩ := (show ∃ t, u = Value.str x t from ry); subst q; rfl
  have ha : argsOk "dict.pop" ⟨.ref a :: u :: more, []⟩ := by
    rcases hm with q | ⟨x, q⟩
    · subst q; exact PySem.F.args_dict_pop_2 _ _
    · subst q; exact PySem.F.args_dict_pop_3 _ _ _
  refine call_meetsIn PySem.F.slot_dict_pop dd.typeIs PySem.F.entry_dict_pop ha (meets_dict_pop_there (mixKind X.prog X.w) a (kV_is ry) more hm hp)
    ⟨vs, w', dd, by rw [← rel.length]; exact z, hw, fun h' dd' hs => h w' _ ?_ rw'⟩
  have he : ∃ q, h'.get? a = some q := let ⟨q, _, _, hq, _⟩ := dd'; ⟨q, hq⟩
  exact d_write I (by rw [e]; exact True.intro) hs he (dk_new (Nat.le_trans (dropK_le kvs k) z) hd (rel.drop k) dd')
/-- d.pop(k, x), not there -/
theorem d_popD {r : Value} {Q : Value → Shared → Prop} (I : Inv X pins σ H s) (e : H a = some (.dK kvs)) (ry : RelV (kV k) u) (l : valV kvs k = none) (h : ∀ s', Inv X pins σ H s' → Q r s') :
    wpAny (model X.prog X.w) A (call (.builtin "dict.pop") [.ref a, u, r]) Q E s := by
  obtain ⟨z, hd, vs, rel, dd⟩ := dk_of I.hok e
  have hn : valueAt vs k = none := RelO.none_of (by rw [← l]; exact rel.val k)
  have hp : (keyPart u).isSome = true := by
    cases k with
    | inl i => obtain ⟨t, q⟩ := (show ∃ t, u = Value.int i t from ry); subst q; rfl
    | inr x => obtain ⟨t, q⟩ := (show ∃ t, u = Value.str x t from ry); subst q; rfl
  exact call_meetsIn PySem.F.slot_dict_pop dd.typeIs PySem.F.entry_dict_pop (PySem.F.args_dict_pop_3 _ _ _) (meets_dict_pop_default (mixKind X.prog X.w) a (kV_is ry) hd hp r) ⟨vs, dd, hn, h _ (I.tok _)⟩
/-- d.clear() -/
theorem d_clear {Q : Value → Shared → Prop} (I : Inv X pins σ H s) (e : H a = some (.dK kvs)) (h : ∀ s', Inv X pins σ (upd H a (.dK [])) s' → Q .none s') : wpAny (model X.prog X.w) A (call (.builtin "dict.clear") [.ref a]) Q E s := by
  obtain ⟨z, hd, vs, rel, dd⟩ := dk_of I.hok e
  refine call_meetsIn PySem.F.slot_dict_clear dd.typeIs PySem.F.entry_dict_clear (PySem.F.args_dict_clear_1 _) (meets_dict_clear (mixKind X.prog X.w) a) ⟨vs, dd, by rw [← rel.length]; exact z, fun h' dd' hs => h _ ?_⟩
  have he : ∃ q, h'.get? a = some q := let ⟨q, _, _, hq, _⟩ := dd'; ⟨q, hq⟩
  exact d_write (t' := s.toks) I (by rw [e]; exact True.intro) hs he (dk_new (Nat.zero_le _) hd .nil dd')
/-- len(d) -/
theorem d_len {Q : Value → Shared → Prop} (I : Inv X pins σ H s) (e : Rd H a (.dK kvs)) (h : ∀ t s', Inv X pins σ H s' → Q (.int kvs.length t) s') : wpAny (model X.prog X.w) A (call (.builtin "len") [.ref a]) Q E s := by
  obtain ⟨z, hd, vs, rel, dd⟩ := dk_rd I.hok e
  refine call_len_dict hd dd (by rw [← rel.length]; rw [sizeLine_eq] at z; omega) ?_
  rw [← rel.length]
  exact h _ _ (I.tok _)
/-- if d -/
theorem d_truth {Q : Bool → Shared → Prop} (I : Inv X pins σ H s) (e : Rd H a (.dK kvs)) (h : ∀ s', Inv X pins σ H s' → Q (!kvs.isEmpty) s') : wpAny (model X.prog X.w) A (truthy (.ref a)) Q E s := by
  obtain ⟨z, hd, vs, rel, dd⟩ := dk_rd I.hok e
  refine wpAny_truthy_dict hd dd (by rw [← rel.length]; rw [sizeLine_eq] at z; omega) ?_
  have q : kvs.isEmpty = vs.isEmpty := by cases rel <;> rfl
  rw [← q]
  exact h _ (I.tok _)
end


/-! ### readings and rules -/
/-- the element of a subscription, not a slice -/
def NoSl (i : Expr) : Prop := ∀ ov iv, subscripted i false ov iv = operate [ov, iv] (getItem ov iv)
theorem subD_of {prog : Program} {w : World} {A : Around} {E : Value → Shared → Prop} {s : Shared} {env : Env} {value slice : Expr} {pos : Pos} {T id : String} {Q : Value → Shared → Prop}
    (hl : typeLookup (.type T) "__getitem__" = pure (some (.builtin id))) (hs : NoSl slice)
    (h : wpAny (model prog w) A (eval value env) (fun o s₁ => wpAny (model prog w) A (eval slice env) (fun i s₂ => s₂.TypeIs o T ∧ wpAny (model prog w) A (getItem o i) Q E s₂) E s₁) E s) :
    wpAny (model prog w) A (eval (.Subscript value slice pos) env) Q E s := by
  refine Subscript_ (wpAny_mono h (fun o s₁ h₁ => wpAny_mono h₁ (fun i s₂ h₂ => ?_) fun _ _ x => x) fun _ _ x => x)
  obtain ⟨hT, h₂⟩ := h₂
  unfold subscriptTail
  refine wpAny_bind ?_
  rw [getitemInPython_of_ne hT.not_modules]
  refine wpAny_bind (wpAny_specialOf hT hl ?_)
  have fin : wpAny (model prog w) A (subscripted slice false o i) (fun r s₃ => wpAny (model prog w) A (letTemporaryGo value o r >>= fun _ => pure r) Q E s₃) E s₂ := by
    rw [hs o i]
    exact wpAny_operating (wpAny_mono h₂ (fun r s₃ h₃ => wpAny_bind (wpAny_letTemporaryGo (wpAny_pure h₃))) fun _ _ x => x)
  first
    | exact wpAny_pure (wpAny_bind fin)
    | exact wpAny_bind (wpAny_pure (wpAny_bind fin))
    | exact wpAny_bind fin

theorem dict_typeIs {X : Cx} {pins : List (Addr × Obj)} {σ : St} {H : Hp} {s : Shared} {a : Addr} {y : V} {o : Option V} (I : Inv X pins σ H s) (g : DGet H a y o) : s.TypeIs (.ref a) "dict" := by
  rcases g with ⟨kvs, k, e, _, _⟩ | ⟨kvs, k, b, e, _, _, _⟩
  · obtain ⟨_, _, vs, _, dd⟩ := dk_rd I.hok e
    exact dd.typeIs
  · obtain ⟨_, _, xs, _, dd⟩ := dt_rd I.hok e
    exact dd.typeIs
theorem dict_noDict {X : Cx} {pins : List (Addr × Obj)} {σ : St} {H : Hp} {s : Shared} {a : Addr} {y : V} {o : Option V} (I : Inv X pins σ H s) (g : DGet H a y o) :
    ∀ b, Value.ref a = .ref b → ∃ ob, s.heap.get? b = some ob ∧ ob.dict = none := fun b q => by
  cases q
  rcases g with ⟨kvs, k, e, _, _⟩ | ⟨kvs, k, b, e, _, _, _⟩
  · obtain ⟨_, _, vs, _, ob, _, _, h1, h2, _⟩ := dk_rd I.hok e
    exact ⟨ob, h1, h2.2.1⟩
  · obtain ⟨_, _, xs, _, ob, _, _, h1, h2, _⟩ := dt_rd I.hok e
    exact ⟨ob, h1, h2.2.1⟩

/-- d[y] -/
def tDGet (td ty : TE) : TE := fun σ H Q => td σ H fun x H1 => ty σ H1 fun y H2 => ∃ a v, x = .ref a ∧ DGet H2 a y (some v) ∧ Q v H2
/-- y in d, y not in d -/
def tDIn (ty td : TE) : TE := fun σ H Q => ty σ H fun y H1 => td σ H1 fun x H2 => ∃ a o, x = .ref a ∧ DGet H2 a y o ∧ Q (.bl o.isSome) H2
def tDNotIn (ty td : TE) : TE := fun σ H Q => ty σ H fun y H1 => td σ H1 fun x H2 => ∃ a o, x = .ref a ∧ DGet H2 a y o ∧ Q (.bl (!o.isSome)) H2
/-- d[y] = v -/
def sDPut (td ty tv : TE) : TS := fun D σ H => tv σ H fun v H1 => td σ H1 fun x H2 => ty σ H2 fun y H3 => ∃ a H4, x = .ref a ∧ DPut H3 a y v H4 ∧ D.nx σ H4
/-- d[y] op= v -/
def sDAug (td ty tv : TE) (rd : V → V → Hp → VK → Prop) : TS := fun D σ H => td σ H fun x H1 => ty σ H1 fun y H2 => ∃ a v, x = .ref a ∧ DGet H2 a y (some v) ∧
  tv σ H2 fun y2 H3 => rd v y2 H3 fun z H4 => ∃ H5, DPut H4 a y z H5 ∧ D.nx σ H5
/-- del d[y] -/
def sDDel (td ty : TE) : TS := fun D σ H => td σ H fun x H1 => ty σ H1 fun y H2 => ∃ a kvs k, x = .ref a ∧ H2 a = some (.dK kvs) ∧ y = kV k ∧ (valV kvs k).isSome = true ∧ D.nx σ (upd H2 a (.dK (dropK kvs k)))

section
variable {X : Cx} {o i e value : Expr} {pos pos' tpos : Pos} {td ty tv : TE}
theorem pe_dget (hu : X.A.units + 1 < cLine) (ho : PE X o td) (hi : PE X i ty) (hs : NoSl i) : PE X (.Subscript o i pos) (tDGet td ty) := by
  intro pins s σ H Q I h
  refine subD_of PySem.F.slot_dict_getitem.lookup hs (thn (ho pins s σ H _ I h) fun u s1 ⟨x, H1, I1, rx, q1⟩ => thn (hi pins s1 σ H1 _ I1 q1) fun iv s2 ⟨y, H2, I2, ry, a, v, ex, g, q2⟩ => ?_)
  subst ex
  obtain rfl : u = Value.ref a := rx
  exact ⟨dict_typeIs I2 g, d_getItem hu I2 g ry fun w' s3 I3 rw' => ⟨v, H2, I3, rw', q2⟩⟩
theorem pc_din (hu : X.A.units + 1 < cLine) (hi : PE X i ty) (ho : PE X o td) : PC X .In i o (tDIn ty td) := by
  intro pins s σ H Q I h
  refine thn (hi pins s σ H _ I h) fun iv s1 ⟨y, H1, I1, ry, q1⟩ => thn (ho pins s1 σ H1 _ I1 q1) fun u s2 ⟨x, H2, I2, rx, a, ov, ex, g, q2⟩ => ?_
  subst ex
  obtain rfl : u = Value.ref a := rx
  exact d_in hu I2 g ry fun s3 I3 => ⟨.bl ov.isSome, H2, I3, rfl, q2⟩
theorem pc_dnotin (hu : X.A.units + 1 < cLine) (hi : PE X i ty) (ho : PE X o td) : PC X .NotIn i o (tDNotIn ty td) := by
  intro pins s σ H Q I h
  refine thn (hi pins s σ H _ I h) fun iv s1 ⟨y, H1, I1, ry, q1⟩ => thn (ho pins s1 σ H1 _ I1 q1) fun u s2 ⟨x, H2, I2, rx, a, ov, ex, g, q2⟩ => ?_
  subst ex
  obtain rfl : u = Value.ref a := rx
  exact d_notIn hu I2 g ry fun s3 I3 => ⟨.bl (!ov.isSome), H2, I3, rfl, q2⟩
theorem ps_dput (hu : X.A.units + 1 < cLine) (ho : PE X o td) (hi : PE X i ty) (hv : PE X value tv) (hs : swapsWith value (some (.Subscript o i pos')) pos.line X.env = pure false) :
    PS X (.Assign [.Subscript o i pos'] value pos) (sDPut td ty tv) := by
  intro pins s σ H D I h
  refine wpAny_Assign_Subscript (thn (hv pins s σ H _ I h) fun r s1 ⟨v, H1, I1, rv, q1⟩ => thn (ho pins s1 σ H1 _ I1 q1) fun u s2 ⟨x, H2, I2, rx, q2⟩ => thn (hi pins s2 σ H2 _ I2 q2) fun iv s3 ⟨y, H3, I3, ry, a, H4, ex, g, q3⟩ => ?_) hs
  subst ex
  obtain rfl : u = Value.ref a := rx
  exact d_setItem hu I3 g ry rv fun s4 I4 => ⟨σ, H4, I4, q3⟩
theorem ps_daug {op : Operator} {rd : V → V → Hp → VK → Prop} (hu : X.A.units + 1 < cLine) (ho : PE X o td) (hi : PE X i ty) (hv : PE X value tv) (hop : InOp X op rd)
    (ha : ∀ ov iv new, augStore i ov iv new = (do holding [new, ov, iv] (setItem ov iv new); release [new, ov, iv] []; pure .next)) : PS X (.AugAssign (.Subscript o i tpos) op value pos) (sDAug td ty tv rd) := by
  intro pins s σ H D I h
  refine wpAny_AugAssign_SubscriptAny (thn (ho pins s σ H _ I h) fun u s1 ⟨x, H1, I1, rx, q1⟩ => thn (hi pins s1 σ H1 _ I1 q1) fun iv s2 ⟨y, H2, I2, ry, a, v, ex, g, q2⟩ => ?_) ha
  subst ex
  obtain rfl : u = Value.ref a := rx
  refine d_getItem hu I2 g ry fun w' s3 I3 rw' => thn (hv pins s3 σ H2 _ I3 q2) fun w2 s4 ⟨y2, H3, I4, ry2, q3⟩ => thn (hop pins s4 σ H3 v y2 w' w2 _ I4 rw' ry2 q3) fun w3 s5 ⟨z, H4, I5, rz, H5, g5, q4⟩ => ?_
  exact d_setItem hu I5 g5 ry rz fun s6 I6 => ⟨σ, H5, I6, q4⟩
theorem ps_ddel (ho : PE X o td) (hi : PE X i ty) : PS X (.Delete [.Subscript o i tpos] pos) (sDDel td ty) := by
  intro pins s σ H D I h
  refine wpAny_Delete (wpAny_deleteEach_cons (wpAny_delete_Subscript (thn (ho pins s σ H _ I h) fun u s1 ⟨x, H1, I1, rx, q1⟩ => thn (hi pins s1 σ H1 _ I1 q1) fun iv s2 ⟨y, H2, I2, ry, a, kvs, k, ex, e, ey, l, q2⟩ => ?_)))
  subst ex ey
  obtain rfl : u = Value.ref a := rx
  exact d_delItem I2 e ry l fun s3 I3 => wpAny_deleteEach_nil ⟨σ, _, I3, q2⟩
end


/-! ### displays -/
theorem dk_empty {P : Program} {w : World} {H : Hp} (h : Heap) (hb : sysModules < h.objs.size) : ObjOk P w H (h.push { cls := .type "dict", data := .dict #[] }) h.objs.size (.dK []) :=
  ⟨Nat.zero_le _, beq_eq_false_iff_ne.mpr (Ne.symm (Nat.ne_of_lt hb)), [], .nil, Heap.DictOf.new h⟩
theorem dt_empty {P : Program} {w : World} {H : Hp} (h : Heap) (hb : sysModules < h.objs.size) : ObjOk P w H (h.push { cls := .type "dict", data := .dict #[] }) h.objs.size (.dT []) :=
  ⟨Nat.zero_le _, beq_eq_false_iff_ne.mpr (Ne.symm (Nat.ne_of_lt hb)), [], .nil, _, #[], 0, Heap.get?_push_size _ rfl, ⟨rfl, rfl, rfl⟩, rfl, rfl, List.nodup_nil⟩
/-- {}, to be a dict of the kind that is wanted -/
def tDNewK : TE := fun _ H Q => ∀ p, H p = none → Q (.ref p) (upd H p (.dK []))
def tDNewT : TE := fun _ H Q => ∀ p, H p = none → Q (.ref p) (upd H p (.dT []))
section
variable {X : Cx} {pos : Pos}
theorem pe_dnewK : PE X (.Dict [] [] pos) tDNewK := fun pins s σ H Q I h =>
  wpAny_Dict_empty ⟨.ref s.heap.objs.size, _, I.laid (a := s.heap.objs.size) (o := .dK []) (t' := s.toks) (fun _ _ q => Heap.get?_push_of_some _ q) (Nat.le_refl _) (dk_empty s.heap I.big), rfl, h _ (I.hok.fresh (Nat.le_refl _))⟩
theorem pe_dnewT : PE X (.Dict [] [] pos) tDNewT := fun pins s σ H Q I h =>
  wpAny_Dict_empty ⟨.ref s.heap.objs.size, _, I.laid (a := s.heap.objs.size) (o := .dT []) (t' := s.toks) (fun _ _ q => Heap.get?_push_of_some _ q) (Nat.le_refl _) (dt_empty s.heap I.big), rfl, h _ (I.hok.fresh (Nat.le_refl _))⟩
end

/-- the pairs of a display, from the left -/
def tPairs : List (TE × TE) → St → Hp → (List (V × V) → Hp → Prop) → Prop
  | [], _, H, Q => Q [] H
  | (tk, tv) :: r, σ, H, Q => tk σ H fun x H1 => tv σ H1 fun y H2 => tPairs r σ H2 fun ps H3 => Q ((x, y) :: ps) H3
abbrev VV : List (V × V) → List (Value × Value) → Prop := Paired fun p q => RelV p.1 q.1 ∧ RelV p.2 q.2
def PPs (X : Cx) (pos : Pos) (keys : List (Option Expr)) (values : List Expr) (trs : List (TE × TE)) : Prop :=
  ∀ (pins : List (Addr × Obj)) (s : Shared) (σ : St) (H : Hp) (Q : List (V × V) → Hp → Prop), Inv X pins σ H s → tPairs trs σ H Q →
    wpAny (model X.prog X.w) X.A (evalPairs (pairTrees keys values X.env pos)) (fun vs s' => ∃ ps H', Inv X pins σ H' s' ∧ VV ps vs ∧ Q ps H') X.xe s
theorem pps_nil {X : Cx} {pos : Pos} : PPs X pos [] [] [] := fun pins s σ H Q I h => pairTrees_nil_walk ⟨[], H, I, .nil, h⟩
theorem pps_cons {X : Cx} {pos : Pos} {k v : Expr} {ks : List (Option Expr)} {vs : List Expr} {tk tv : TE} {trs : List (TE × TE)} (hk : PE X k tk) (hv : PE X v tv) (hr : PPs X pos ks vs trs) :
    PPs X pos (some k :: ks) (v :: vs) ((tk, tv) :: trs) := fun pins s σ H Q I h =>
  pairTrees_cons_walk (thn (hk pins s σ H _ I h) fun u s1 ⟨x, H1, I1, rx, q1⟩ => thn (hv pins s1 σ H1 _ I1 q1) fun w2 s2 ⟨y, H2, I2, ry, q2⟩ =>
    thn (hr pins s2 σ H2 _ I2 q2) fun ws s3 ⟨ps, H3, I3, rel, q3⟩ => ⟨(x, y) :: ps, H3, I3, .cons ⟨rx, ry⟩ rel, q3⟩)

def mergeK (kvs more : List (Key × V)) : List (Key × V) := more.foldl (fun acc kv => putK acc kv.1 kv.2) kvs
theorem KV.merge : ∀ {more : List (Key × V)} {rs : List (Key × Value)} {kvs : List (Key × V)} {vs : List (Key × Value)}, KV more rs → KV kvs vs → KV (mergeK kvs more) (merged vs rs) := by
  intro more rs kvs vs r
  unfold KV at r
  induction r generalizing kvs vs with
  | nil => intro q; exact q
  | @cons p q ps qs h t ih =>
    intro r0
    have e : KV (putK kvs p.1 p.2) (stored vs q.1 q.2) := by
      have := r0.put p.1 h.2
      rw [← h.1]; exact this
    exact ih e
theorem length_mergeK : ∀ (more kvs : List (Key × V)), (mergeK kvs more).length ≤ kvs.length + more.length
  | [], kvs => by show kvs.length ≤ kvs.length + 0; omega
  | p :: r, kvs => by
    have h1 := length_mergeK r (putK kvs p.1 p.2)
    have h2 := length_putK kvs p.1 p.2
    show (mergeK (putK kvs p.1 p.2) r).length ≤ _
    rw [List.length_cons]; omega
theorem carries_of {P : Program} {w : World} : ∀ {kvs : List (Key × V)} {ws : List (Value × Value)}, VV (kvs.map fun kv => (kV kv.1, kv.2)) ws → ∃ rs, Carries (mixKind P w) ws rs ∧ KV kvs rs
  | [], _, r => by rw [List.map_nil] at r; cases r; exact ⟨[], True.intro, .nil⟩
  | p :: kvs, _, r => by
    rw [List.map_cons] at r
    cases r with
    | @cons a b as bs h t =>
      obtain ⟨rs, c, q⟩ := carries_of (P := P) (w := w) t
      obtain ⟨b1, b2⟩ := b
      exact ⟨(p.1, b2) :: rs, ⟨kV_is h.1, rfl, c⟩, .cons ⟨rfl, h.2⟩ q⟩
/-- {k: v, ..} with keys ints and texts; the new dict stands empty while the pairs are made -/
def tDisp (trs : List (TE × TE)) : TE := fun σ H Q => ∀ p, H p = none → tPairs trs σ (upd H p (.dK [])) fun ps H2 => H2 p = some (.dK []) ∧ ∃ kvs : List (Key × V), ps = kvs.map (fun kv => (kV kv.1, kv.2)) ∧ kvs.length ≤ 15 ∧ Q (.ref p) (upd H2 p (.dK (mergeK [] kvs)))
theorem pe_disp {X : Cx} {pos : Pos} {keys : List (Option Expr)} {values : List Expr} {trs : List (TE × TE)} (h : PPs X pos keys values trs) (hall : keys.all (·.isSome) = true) (hl : keys.length = values.length) (h0 : keys ≠ [])
    (h15 : keys.length ≤ 15) : PE X (.Dict keys values pos) (tDisp trs) := by
  intro pins s σ H Q I q
  have hn := I.hok.fresh (Nat.le_refl s.heap.objs.size)
  have I1 := I.laid (a := s.heap.objs.size) (o := .dK []) (h' := s.heap.push { cls := .type "dict", data := .dict #[] }) (t' := s.toks) (fun _ _ q => Heap.get?_push_of_some _ q) (Nat.le_refl _) (dk_empty s.heap I.big)
  refine wpAny_Dict_walk (knd := mixKind X.prog X.w) hall hl h0 h15 (thn (h pins _ σ _ _ I1 (q _ hn)) fun ws s2 ⟨ps, H2, I2, rel, e, kvs, ep, lk, q2⟩ => ?_)
  subst ep
  obtain ⟨rs, c, rk⟩ := carries_of (P := X.prog) (w := X.w) rel
  obtain ⟨z, hd, vs0, r0, dd⟩ := dk_of I2.hok e
  cases r0
  refine ⟨rs, c, dd, fun h' dd' hs => ⟨.ref s.heap.objs.size, _, ?_, rfl, q2⟩⟩
  have hz : (mergeK [] kvs).length ≤ sizeLine := by
    have h1 := length_mergeK kvs []
    rw [List.length_nil] at h1
    rw [sizeLine_eq]; omega
  have he : ∃ q, h'.get? s.heap.objs.size = some q := let ⟨q, _, _, hq, _⟩ := dd'; ⟨q, hq⟩
  exact d_write I2 (by rw [e]; exact True.intro) hs he (dk_new hz hd (rk.merge .nil) dd')


/-! ### methods -/
/-- a method call o.m(e) of a built-in, with one argument: what must be seen of the text -/
structure M1 (X : Cx) (o : Expr) (m : Str) (apos : Pos) (e : Expr) (cpos : Pos) : Prop where
  base : attributeBase o m X.env (eval o X.env) = eval o X.env
  few : ((backTo cpos (starEach [e] X.env)).all (fun x => !x.1) && (backToKw cpos (keywordEach [] X.env)).all (fun x => x.1.isSome)
    && decide (([e] : List Expr).length + ([] : List Keyword).length + (if ([] : List Keyword).isEmpty then 0 else 1) < 30)) = true
  line : (apos.endLine == cpos.line) = true
  trees : backTo cpos (starEach [e] X.env) = [(false, eval e X.env)]
structure M2 (X : Cx) (o : Expr) (m : Str) (apos : Pos) (e f : Expr) (cpos : Pos) : Prop where
  base : attributeBase o m X.env (eval o X.env) = eval o X.env
  few : ((backTo cpos (starEach [e, f] X.env)).all (fun x => !x.1) && (backToKw cpos (keywordEach [] X.env)).all (fun x => x.1.isSome)
    && decide (([e, f] : List Expr).length + ([] : List Keyword).length + (if ([] : List Keyword).isEmpty then 0 else 1) < 30)) = true
  line : (apos.endLine == cpos.line) = true
  trees : backTo cpos (starEach [e, f] X.env) = [(false, eval e X.env), (false, eval f X.env)]

/-- a is a dict, whatever its keys -/
def IsD (H : Hp) (a : Addr) : Prop := (∃ kvs, Rd H a (.dK kvs)) ∨ ∃ kvs, Rd H a (.dT kvs)
theorem isD_at {X : Cx} {pins : List (Addr × Obj)} {σ : St} {H : Hp} {s : Shared} {a : Addr} (I : Inv X pins σ H s) (d : IsD H a) :
    s.TypeIs (.ref a) "dict" ∧ (∀ b, Value.ref a = .ref b → ∃ ob, s.heap.get? b = some ob ∧ ob.dict = none) ∧ (a == sysModules) = false := by
  rcases d with ⟨kvs, e⟩ | ⟨kvs, e⟩
  · obtain ⟨_, hd, vs, _, dd⟩ := dk_rd I.hok e
    refine ⟨dd.typeIs, fun b q => ?_, hd⟩
    cases q
    obtain ⟨ob, _, _, h1, h2, _⟩ := dd
    exact ⟨ob, h1, h2.2.1⟩
  · obtain ⟨_, hd, xs, _, dd⟩ := dt_rd I.hok e
    refine ⟨dd.typeIs, fun b q => ?_, hd⟩
    cases q
    obtain ⟨ob, _, _, h1, h2, _⟩ := dd
    exact ⟨ob, h1, h2.2.1⟩

section
variable {X : Cx} {pins : List (Addr × Obj)} {σ : St} {H : Hp} {s : Shared} {a : Addr} {y d : V} {u r : Value} {o : Option V} {A : Around} {E : Value → Shared → Prop}
/-- d.get(y) -/
theorem d_get1 {Q : Value → Shared → Prop} (hu : A.units + 1 < cLine) (I : Inv X pins σ H s) (g : DGet H a y o) (ry : RelV y u) (h : ∀ w' s', Inv X pins σ H s' → RelV (o.getD .non) w' → Q w' s') :
    wpAny (model X.prog X.w) A (call (.builtin "dict.get") [.ref a, u]) Q E s := by
  rcases g with ⟨kvs, k, e, ey, l⟩ | ⟨kvs, k, b, e, ey, eb, l⟩
  · subst ey
    obtain ⟨z, hd, vs, rel, dd⟩ := dk_rd I.hok e
    refine call_meetsIn PySem.F.slot_dict_get dd.typeIs PySem.F.entry_dict_get (PySem.F.args_dict_get_2 _ _) (meets_dict_get (mixKind X.prog X.w) a (kV_is ry) hd) ⟨_, dd.mapOf, h _ _ (I.tok _) ?_⟩
    rw [l]
    exact (rel.val k).getD rfl
  · subst ey
    cases (show u = Value.ref b from ry)
    obtain ⟨z, hd, xs, rel, dd⟩ := dt_rd I.hok e
    refine call_meetsIn PySem.F.slot_dict_get dd.typeIs PySem.F.entry_dict_get (PySem.F.args_dict_get_2 _ _) (meetsH_dict_get (tupleKind (mixKind X.prog X.w)) a b hd) ⟨tupleKind_room_in1 hu, k, xs, key_of I.hok eb, dd, h _ _ (I.tok _) ?_⟩
    rw [l]
    exact (rel.val k).getD rfl
/-- d.get(y, x) -/
theorem d_get2 {Q : Value → Shared → Prop} (hu : A.units + 1 < cLine) (I : Inv X pins σ H s) (g : DGet H a y o) (ry : RelV y u) (rd : RelV d r) (h : ∀ w' s', Inv X pins σ H s' → RelV (o.getD d) w' → Q w' s') :
    wpAny (model X.prog X.w) A (call (.builtin "dict.get") [.ref a, u, r]) Q E s := by
  rcases g with ⟨kvs, k, e, ey, l⟩ | ⟨kvs, k, b, e, ey, eb, l⟩
  · subst ey
    obtain ⟨z, hd, vs, rel, dd⟩ := dk_rd I.hok e
    refine call_meetsIn PySem.F.slot_dict_get dd.typeIs PySem.F.entry_dict_get (PySem.F.args_dict_get_3 _ _ _) (meets_dict_get_default (mixKind X.prog X.w) a (kV_is ry) hd r) ⟨_, dd.mapOf, h _ _ (I.tok _) ?_⟩
    rw [l]
    exact (rel.val k).getD rd
  · subst ey
    cases (show u = Value.ref b from ry)
    obtain ⟨z, hd, xs, rel, dd⟩ := dt_rd I.hok e
    refine call_meetsIn PySem.F.slot_dict_get dd.typeIs PySem.F.entry_dict_get (PySem.F.args_dict_get_3 _ _ _) (meetsH_dict_get_default (tupleKind (mixKind X.prog X.w)) a b hd r) ⟨tupleKind_room_in1 hu, k, xs, key_of I.hok eb, dd, h _ _ (I.tok _) ?_⟩
    rw [l]
    exact (rel.val k).getD rd
end

def tDGet1 (td ty : TE) : TE := fun σ H Q => td σ H fun x H1 => ∃ a, x = .ref a ∧ IsD H1 a ∧ ty σ H1 fun y H2 => ∃ o, DGet H2 a y o ∧ Q (o.getD .non) H2
def tDGet2 (td ty tx : TE) : TE := fun σ H Q => td σ H fun x H1 => ∃ a, x = .ref a ∧ IsD H1 a ∧ ty σ H1 fun y H2 => tx σ H2 fun z H3 => ∃ o, DGet H3 a y o ∧ Q (o.getD z) H3
/-- d.pop(k): there; d.pop(k, x): there or not -/
def tDPop1 (td ty : TE) : TE := fun σ H Q => td σ H fun x H1 => ∃ a, x = .ref a ∧ IsD H1 a ∧ ty σ H1 fun y H2 => ∃ kvs k v, H2 a = some (.dK kvs) ∧ y = kV k ∧ valV kvs k = some v ∧ Q v (upd H2 a (.dK (dropK kvs k)))
def tDPop2 (td ty tx : TE) : TE := fun σ H Q => td σ H fun x H1 => ∃ a, x = .ref a ∧ IsD H1 a ∧ ty σ H1 fun y H2 => tx σ H2 fun z H3 => ∃ kvs k, H3 a = some (.dK kvs) ∧ y = kV k ∧
  (∀ v, valV kvs k = some v → Q v (upd H3 a (.dK (dropK kvs k)))) ∧ (valV kvs k = none → Q z H3)
section
variable {X : Cx} {o e f : Expr} {apos cpos : Pos} {td ty tx : TE}
theorem pe_dget1 (hu : X.A.units + 1 < cLine) (ho : PE X o td) (he : PE X e ty) (m : M1 X o "get" apos e cpos) : PE X (.Call (.Attribute o "get" apos) [e] [] cpos) (tDGet1 td ty) := by
  intro pins s σ H Q I h
  refine wpAny_Call_method m.base m.few m.line PySem.F.plainAttrs_dict PySem.F.slot_dict_get PySem.F.type_dict_get (thn (ho pins s σ H _ I h) fun u s1 ⟨x, H1, I1, rx, a, ex, d, q1⟩ => ?_)
  subst ex
  obtain rfl : u = Value.ref a := rx
  obtain ⟨t1, t2, _⟩ := isD_at I1 d
  refine ⟨t1, t2, ?_⟩
  rw [m.trees]
  refine Calls.callWith_builtin rfl (Calls.evalArgs_plain (Calls.spliced_cons (thn (he pins s1 σ H1 _ I1 q1) fun iv s2 ⟨y, H2, I2, ry, ov, g, q2⟩ => Calls.spliced_nil ?_)))
  exact d_get1 hu I2 g ry fun w' s3 I3 rw' => ⟨_, H2, I3, rw', q2⟩
theorem pe_dget2 (hu : X.A.units + 1 < cLine) (ho : PE X o td) (he : PE X e ty) (hf : PE X f tx) (m : M2 X o "get" apos e f cpos) : PE X (.Call (.Attribute o "get" apos) [e, f] [] cpos) (tDGet2 td ty tx) := by
  intro pins s σ H Q I h
  refine wpAny_Call_method m.base m.few m.line PySem.F.plainAttrs_dict PySem.F.slot_dict_get PySem.F.type_dict_get (thn (ho pins s σ H _ I h) fun u s1 ⟨x, H1, I1, rx, a, ex, d, q1⟩ => ?_)
  subst ex
  obtain rfl : u = Value.ref a := rx
  obtain ⟨t1, t2, _⟩ := isD_at I1 d
  refine ⟨t1, t2, ?_⟩
  rw [m.trees]
  refine Calls.callWith_builtin rfl (Calls.evalArgs_plain (Calls.spliced_cons (thn (he pins s1 σ H1 _ I1 q1) fun iv s2 ⟨y, H2, I2, ry, q2⟩ =>
    Calls.spliced_cons (thn (hf pins s2 σ H2 _ I2 q2) fun fv s3 ⟨z, H3, I3, rz, ov, g, q3⟩ => Calls.spliced_nil ?_))))
  exact d_get2 hu I3 g ry rz fun w' s4 I4 rw' => ⟨_, H3, I4, rw', q3⟩
theorem pe_dpop1 (ho : PE X o td) (he : PE X e ty) (m : M1 X o "pop" apos e cpos) : PE X (.Call (.Attribute o "pop" apos) [e] [] cpos) (tDPop1 td ty) := by
  intro pins s σ H Q I h
  refine wpAny_Call_method m.base m.few m.line PySem.F.plainAttrs_dict PySem.F.slot_dict_pop PySem.F.type_dict_pop (thn (ho pins s σ H _ I h) fun u s1 ⟨x, H1, I1, rx, a, ex, d, q1⟩ => ?_)
  subst ex
  obtain rfl : u = Value.ref a := rx
  obtain ⟨t1, t2, _⟩ := isD_at I1 d
  refine ⟨t1, t2, ?_⟩
  rw [m.trees]
  refine Calls.callWith_builtin rfl (Calls.evalArgs_plain (Calls.spliced_cons (thn (he pins s1 σ H1 _ I1 q1) fun iv s2 ⟨y, H2, I2, ry, kvs, k, v, ea, ey, l, q2⟩ => Calls.spliced_nil ?_)))
  subst ey
  exact d_pop I2 ea ry l (.inl rfl) fun w' s3 I3 rw' => ⟨v, _, I3, rw', q2⟩
theorem pe_dpop2 (ho : PE X o td) (he : PE X e ty) (hf : PE X f tx) (m : M2 X o "pop" apos e f cpos) : PE X (.Call (.Attribute o "pop" apos) [e, f] [] cpos) (tDPop2 td ty tx) := by
  intro pins s σ H Q I h
  refine wpAny_Call_method m.base m.few m.line PySem.F.plainAttrs_dict PySem.F.slot_dict_pop PySem.F.type_dict_pop (thn (ho pins s σ H _ I h) fun u s1 ⟨x, H1, I1, rx, a, ex, d, q1⟩ => ?_)
  subst ex
  obtain rfl : u = Value.ref a := rx
  obtain ⟨t1, t2, _⟩ := isD_at I1 d
  refine ⟨t1, t2, ?_⟩
  rw [m.trees]
  refine Calls.callWith_builtin rfl (Calls.evalArgs_plain (Calls.spliced_cons (thn (he pins s1 σ H1 _ I1 q1) fun iv s2 ⟨y, H2, I2, ry, q2⟩ =>
    Calls.spliced_cons (thn (hf pins s2 σ H2 _ I2 q2) fun fv s3 ⟨z, H3, I3, rz, kvs, k, ea, ey, q3, q4⟩ => Calls.spliced_nil ?_))))
  subst ey
  cases l : valV kvs k with
  | some v => exact d_pop I3 ea ry l (.inr ⟨fv, rfl⟩) fun w' s4 I4 rw' => ⟨v, _, I4, rw', q3 v l⟩
  | none => exact d_popD I3 ea ry l fun s4 I4 => ⟨z, H3, I4, rz, q4 l⟩
end

/-! ### dict(d): a copy -/
section
variable {X : Cx} {pins : List (Addr × Obj)} {σ : St} {H : Hp} {s : Shared} {a : Addr} {kvs : List (Key × V)} {A : Around} {E : Value → Shared → Prop}
theorem d_copyOf {Q : Value → Shared → Prop} (I : Inv X pins σ H s) (e : Rd H a (.dK kvs)) (h : ∀ p s', H p = none → Inv X pins σ (upd H p (.dK kvs)) s' → Q (.ref p) s') : wpAny (model X.prog X.w) A (call (.type "dict") [.ref a]) Q E s := by
  obtain ⟨z, hd, vs, rel, dd⟩ := dk_rd I.hok e
  refine kt_call_dict hd dd (by rw [← rel.length]; exact z) fun h' dd' hs => ?_
  refine h _ _ (I.hok.fresh (Nat.le_refl _)) (I.laid (a := s.heap.objs.size) (o := .dK kvs) (t' := s.toks) (fun b q hq => ?_) (Nat.le_refl _) (dk_new z (beq_eq_false_iff_ne.mpr (Ne.symm (Nat.ne_of_lt I.big))) rel dd'))
  exact (hs.2 b (Nat.ne_of_lt (Heap.lt_size hq))).trans (Heap.get?_push_of_some _ hq)
end


section
variable {X : Cx} {pins : List (Addr × Obj)} {σ : St} {H : Hp} {s : Shared} {a : Addr} {y : V} {u : Value} {A : Around} {E : Value → Shared → Prop}
/-- d[y], not there: a KeyError -/
theorem d_missing {Q : Value → Shared → Prop} (hu : A.units + 1 < cLine) (hh : A.handled = none) (I : Inv X pins σ H s) (g : DGet H a y none) (ry : RelV y u)
    (h : ∀ h' e t', Heap.NewExc s.heap h' e "KeyError" → E (.ref e) { s with heap := h', toks := t' }) : wpAny (model X.prog X.w) A (getItem (.ref a) u) Q E s := by
  rcases g with ⟨kvs, k, e, ey, l⟩ | ⟨kvs, k, b, e, ey, eb, l⟩
  · subst ey
    obtain ⟨z, hd, vs, rel, dd⟩ := dk_rd I.hok e
    have hn : valueAt vs k = none := RelO.none_of (by rw [l]; exact rel.val k)
    exact wpAny_getItem_missing_of (kV_is ry) hd hh dd.mapOf hn fun h' ex ne => h h' ex _ ne
  · subst ey
    cases (show u = Value.ref b from ry)
    obtain ⟨z, hd, xs, rel, dd⟩ := dt_rd I.hok e
    have hn : (atKey xs k).map (·.2) = none := RelO.none_of (by rw [l]; exact rel.val k)
    exact wpAny_getItem_missing_heap (tupleKind_room_in1 hu) (key_of I.hok eb) hd hh dd (Option.map_eq_none_iff.mp hn) fun h' ex ne => h h' ex _ ne
end
end L2

namespace Att
open PySem PySem.W PySem.Calls PyProof.Rows

/-! ### the script -/
theorem ints_of_wellAll {P : Params} {h : Heap} : ∀ (ns : List Int) (vs : List Value), WellAll P h vs (ns.map WData.int) → IntsAre vs ns := by
  intro ns
  induction ns with
  | nil =>
    intro vs w
    rw [List.map_nil] at w
    cases w
    exact .nil
  | cons n ns ih =>
    intro vs w
    rw [List.map_cons] at w
    cases w with
    | cons a b =>
      cases a
      exact .cons _ _ (ih _ b)

theorem script_of {l : OpenLaw} {n : Nat} (hn : l.most = some n) {P : Params} {h : Heap} {args : List WData} {vals : List Value}
    (hpre : l.row.toRowW.claim.pre args = true) (hwl : WellAll P h vals args) :
    ∃ a vs ns, vals = [Value.ref a] ∧ args = [WData.list (ns.map WData.int)] ∧ h.get? a = some { cls := .type "list", data := .seq vs.toArray } ∧ IntsAre vs ns ∧ ns.length ≤ n := by
  have hsh : WShape.hasAll [] args [.list .int] = true := (pre_splitW hpre).1
  have hc : l.pre.holds [] { args := args } = true := (pre_splitW hpre).2
  obtain ⟨d, r, rfl, h1, h2⟩ := hasAllW_cons hsh
  obtain rfl := hasAllW_nil h2
  obtain ⟨xs, rfl, h3⟩ := hasW_list h1
  obtain ⟨ns, rfl⟩ := items_int h3
  have hlen : ns.length ≤ n := by
    unfold OpenLaw.pre at hc
    have h4 : (WTm.not (.lt (.lit (.int (n : Int))) (.len (.arg 0)))).holds [] { args := [.list (ns.map .int)] } = true := by
      have h4 := (holds_andW hc).1
      rw [hn] at h4
      exact h4
    have h5 := condW_of h4 (w_not (w_lt w_lit (w_len_list (w_arg rfl))))
    rw [List.length_map] at h5
    refine Nat.le_of_not_lt fun q => ?_
    have q' : (n : Int) < ((ns.length : Nat) : Int) := by omega
    first
      | (rw [decide_eq_true q'] at h5; exact absurd h5 (by decide))
      | (simp at h5; omega)
  cases hwl with
  | cons w1 w2 =>
    cases w2
    cases w1 with
    | list ho hall => exact ⟨_, _, ns, rfl, rfl, ho, ints_of_wellAll ns _ hall, hlen⟩

theorem post_true (l : OpenLaw) (args : List WData) : l.row.toRowW.claim.post args (.bool true) args = true :=
  postW_of (r := l.row.toRowW) (X := (true == true))
    (show WShape.has [] (.bool true) .bool = true by first | rfl | decide | simp [WShape.has, WShape.arms, WShape.armsAll])
    (show (WTm.eq .res (.lit (.bool true))).value [] { args := args, res := some (.bool true), after := args } = some (.bool (true == true)) from w_eq_bool (w_res rfl) w_lit) rfl

/-! ### the attachment: holds_open's last premise (the goal 'hc' behind k_head) from a wpAny of the law's body -/
theorem attach {l : OpenLaw} {n : Nat} {q : Program} {loose : List Str} {XP : (Str → Option Value) → Heap → Prop} {YP : World → Heap → Prop} {d : DefRec} {x : Str}
    (hn : l.most = some n) (hdf : d.params.defaults = [])
    (hbind : ∀ pm cd doc v : Value, bindArgs (docDef d.name d.params d.body d.scope pm cd doc) ⟨[v], []⟩ = pure [(x, v)])
    (hx : d.scope.names.lookup x = some .local ∨ d.scope.names.lookup x = some .cell)
    (hk : d.scope.kind = .function) (hco : d.scope.isCoroutine = false) (hgen : d.scope.isGenerator = false)
    (body : ∀ (w : World) (s₀ s₁ s : Shared) (mg mb : Str → Option Value) (fa : Addr) (o : Obj) (pm cd doc : Value) (a : Addr) (vs : List Value) (ns : List Int),
      Ground q loose [] XP w s₀ mg mb s₁.heap → YP w s₁.heap →
      s₁.heap.get? fa = some o → o.data = .func (docDef d.name d.params d.body d.scope pm cd doc) → s₁.heap.CodeRec cd d.name → mg d.name = some (.ref fa) →
      s₁.heap.get? a = some { cls := .type "list", data := .seq vs.toArray } → IntsAre vs ns → ns.length ≤ n →
      s.gens = #[] → s.os = s₁.os →
      Fr s₁.heap s₁.heap.objs.size s.heap (bindL (envOfC d.name d.scope s₁.heap.objs.size fa cd).kindOf [(x, .ref a)] fun _ => none) →
      Cl s₁.heap.objs.size (cellsFrom (s₁.heap.objs.size + 1) d.scope.names []) s.heap (bindC (envOfC d.name d.scope s₁.heap.objs.size fa cd).kindOf [(x, .ref a)] fun _ => none) →
      wpAny (model l.prog w) (callerA.deeper (envOfC d.name d.scope s₁.heap.objs.size fa cd)) (execs d.body (envOfC d.name d.scope s₁.heap.objs.size fa cd))
        (fun f s' => f = .ret (.bool true) ∧ OldK s₁.heap s'.heap ∧ s'.os = s₁.os ∧ AllBare s'.gens) (fun _ _ => False) s) :
    WalkO q loose XP YP l.row.toRowW d [] (fun f vs => PySem.call f vs) := by
  intro w s₀ s₁ mg mb G Y fa o pm cd doc dV kV ho hd hcd hD hmg hg args vals as hpre hlay hrd hwl hlo
  obtain rfl : dV = .none := Dflts.none hD hdf
  obtain rfl : kV = .none := Dflts.noKw hD
  obtain ⟨a, vs, ns, rfl, rfl, hobj, hints, hlen⟩ := script_of hn hpre hwl
  refine enter_call ?_
  refine call_cells_ret (o := o) (by rw [depth_caller]; decide) ho (fd_plain hd) G.T.nolimit hcd (hbind pm cd doc (.ref a)) (fun y hy => ?_) (fun h₁ tk F X => ?_) hco hgen hk
  · obtain rfl : y = (x, Value.ref a) := List.mem_singleton.mp hy
    rcases hx with e | e
    · exact .inl e
    · exact .inr ⟨e, cellsFrom_some _ _ _ (.inl e)⟩
  · refine wpAny_mono (body w s₀ s₁ { s₁ with heap := h₁, toks := tk } mg mb fa o pm cd doc a vs ns G Y ho (fd_plain hd) hcd hmg hobj hints hlen hg rfl F X) (fun f s' hq => ?_) (fun _ _ hq => hq)
    obtain ⟨rfl, h2, h3, h4⟩ := hq
    exact ⟨.inl ⟨.bool true, .bool true, [], rfl, fun _ => rfl, .bool true, post_true l _, fun _ => ⟨List.Pairwise.nil, fun _ hm => (nomatch hm)⟩⟩, h2, h3, h4⟩

/-- the same from a codeAny of the CALL (for a layer whose function contracts speak of calls) -/
theorem attach_call {l : OpenLaw} {n : Nat} {q : Program} {loose : List Str} {XP : (Str → Option Value) → Heap → Prop} {YP : World → Heap → Prop} {d : DefRec}
    (hn : l.most = some n) (hdf : d.params.defaults = [])
    (call : ∀ (w : World) (s₀ s₁ : Shared) (mg mb : Str → Option Value) (fa : Addr) (o : Obj) (pm cd doc : Value) (a : Addr) (vs : List Value) (ns : List Int),
      Ground q loose [] XP w s₀ mg mb s₁.heap → YP w s₁.heap →
      s₁.heap.get? fa = some o → o.data = .func (docDef d.name d.params d.body d.scope pm cd doc) → s₁.heap.CodeRec cd d.name → mg d.name = some (.ref fa) →
      s₁.heap.get? a = some { cls := .type "list", data := .seq vs.toArray } → IntsAre vs ns → ns.length ≤ n → s₁.gens = #[] →
      codeAny (model l.prog w) callerA (.call (.ref fa) ⟨[.ref a], []⟩) (fun r s' => r = .ok (.ret (.bool true)) ∧ OldK s₁.heap s'.heap ∧ s'.os = s₁.os ∧ AllBare s'.gens) s₁) :
    WalkO q loose XP YP l.row.toRowW d [] (fun f vs => PySem.call f vs) := by
  intro w s₀ s₁ mg mb G Y fa o pm cd doc dV kV ho hd hcd hD hmg hg args vals as hpre hlay hrd hwl hlo
  obtain rfl : dV = .none := Dflts.none hD hdf
  obtain rfl : kV = .none := Dflts.noKw hD
  obtain ⟨a, vs, ns, rfl, rfl, hobj, hints, hlen⟩ := script_of hn hpre hwl
  refine enter_call (codeAny_mono (call w s₀ s₁ mg mb fa o pm cd doc a vs ns G Y ho (fd_plain hd) hcd hmg hobj hints hlen hg) fun r s' hq => ?_)
  obtain ⟨rfl, h2, h3, h4⟩ := hq
  exact ⟨.inl ⟨.bool true, .bool true, [], rfl, fun _ => rfl, .bool true, post_true l _, fun _ => ⟨List.Pairwise.nil, fun _ hm => (nomatch hm)⟩⟩, h2, h3, h4⟩

/-- the same where the top left finished generators (o_head chose holds_openN): nothing may have changed at all and no generator may be left -/
theorem attachN {l : OpenLaw} {n : Nat} {q : Program} {loose : List Str} {XP : (Str → Option Value) → Heap → Prop} {YP : World → Heap → Prop} {d : DefRec} {x : Str}
    (hn : l.most = some n) (hdf : d.params.defaults = [])
    (hbind : ∀ pm cd doc v : Value, bindArgs (docDef d.name d.params d.body d.scope pm cd doc) ⟨[v], []⟩ = pure [(x, v)])
    (hx : d.scope.names.lookup x = some .local ∨ d.scope.names.lookup x = some .cell)
    (hk : d.scope.kind = .function) (hco : d.scope.isCoroutine = false) (hgen : d.scope.isGenerator = false)
    (body : ∀ (w : World) (s₀ s₁ s : Shared) (mg mb : Str → Option Value) (fa : Addr) (o : Obj) (pm cd doc : Value) (a : Addr) (vs : List Value) (ns : List Int),
      Ground q loose [] XP w s₀ mg mb s₁.heap → YP w s₁.heap →
      s₁.heap.get? fa = some o → o.data = .func (docDef d.name d.params d.body d.scope pm cd doc) → s₁.heap.CodeRec cd d.name → mg d.name = some (.ref fa) →
      s₁.heap.get? a = some { cls := .type "list", data := .seq vs.toArray } → IntsAre vs ns → ns.length ≤ n →
      s.gens = #[] → s.os = s₁.os →
      Fr s₁.heap s₁.heap.objs.size s.heap (bindL (envOfC d.name d.scope s₁.heap.objs.size fa cd).kindOf [(x, .ref a)] fun _ => none) →
      Cl s₁.heap.objs.size (cellsFrom (s₁.heap.objs.size + 1) d.scope.names []) s.heap (bindC (envOfC d.name d.scope s₁.heap.objs.size fa cd).kindOf [(x, .ref a)] fun _ => none) →
      wpAny (model l.prog w) (callerA.deeper (envOfC d.name d.scope s₁.heap.objs.size fa cd)) (execs d.body (envOfC d.name d.scope s₁.heap.objs.size fa cd))
        (fun f s' => f = .ret (.bool true) ∧ (∀ b o, s₁.heap.get? b = some o → s'.heap.get? b = some o) ∧ s'.os = s₁.os ∧ s'.gens = #[]) (fun _ _ => False) s) :
    WalkN q loose XP YP l.row.toRowW d [] (fun f vs => PySem.call f vs) := by
  intro w s₀ s₁ mg mb G Y fa o pm cd doc dV kV ho hd hcd hD hmg hg args vals as hpre hlay hrd hwl hlo
  obtain rfl : dV = .none := Dflts.none hD hdf
  obtain rfl : kV = .none := Dflts.noKw hD
  obtain ⟨a, vs, ns, rfl, rfl, hobj, hints, hlen⟩ := script_of hn hpre hwl
  refine enter_callW ?_
  refine call_cells_ret (o := o) (by rw [depth_caller]; decide) ho (fd_plain hd) G.T.nolimit hcd (hbind pm cd doc (.ref a)) (fun y hy => ?_) (fun h₁ tk F X => ?_) hco hgen hk
  · obtain rfl : y = (x, Value.ref a) := List.mem_singleton.mp hy
    rcases hx with e | e
    · exact .inl e
    · exact .inr ⟨e, cellsFrom_some _ _ _ (.inl e)⟩
  · refine wpAny_mono (body w s₀ s₁ { s₁ with heap := h₁, toks := tk } mg mb fa o pm cd doc a vs ns G Y ho (fd_plain hd) hcd hmg hobj hints hlen hg rfl F X) (fun f s' hq => ?_) (fun _ _ hq => hq)
    obtain ⟨rfl, h2, h3, h4⟩ := hq
    exact ⟨.inl ⟨.bool true, .bool true, [], rfl, fun _ => rfl, .bool true, post_true l _, fun _ => ⟨List.Pairwise.nil, fun _ hm => (nomatch hm)⟩⟩, h2, h3, h4⟩

/-! ### rules over ANY heap (no ledger) from facts about the written part K: the library's own take a ledger (News) for what they write -/
section
variable {prog : Program} {w : World} {A : Around} {E : Value → Shared → Prop} {s : Shared} {K : Frag}

/-- a def of the module, or a method (qual 'C.m'), entered: the frame is the next address; cells behind it -/
theorem call_fn {R : Result → Shared → Prop} {name qual : Str} {params : Arguments} {body : List Stmt} {scope : Scope} {dV kV doc pm cdv ct oc : Value} {an od : Option Addr} {osl : Array (Option Value)} {f : Addr} {args : Args} {binds : List (Str × Value)}
    (X : K.In s.heap) (hlim : s.heap.NoLimit) (ho : K.lookup f = some ⟨oc, od, .func (fnOf name qual params body scope dV kV doc pm an cdv ct), osl⟩) (hcd : codeIn K cdv qual = true) (hroom : A.depth < recursionLimit)
    (hbind : BindsTo s (fnOf name qual params body scope dV kV doc pm an cdv ct) args binds)
    (hkind : (binds.all fun y => scope.names.lookup y.1 == some .local || scope.names.lookup y.1 == some .cell) = true)
    (h : ∀ s₁, InCallC s s.heap.objs.size (bindL (envOfC qual scope s.heap.objs.size f cdv).kindOf binds fun _ => none) (cellsFrom (s.heap.objs.size + 1) scope.names [])
        (bindC (envOfC qual scope s.heap.objs.size f cdv).kindOf binds fun _ => none) s₁ →
      wpAny (model prog w) (A.deeper (envOfC qual scope s.heap.objs.size f cdv)) (execs body (envOfC qual scope s.heap.objs.size f cdv))
        (fun fl s' => R (.ok (.ret (match fl with | .ret v => v | _ => .none))) s')
        (fun e s' => wpAny (model prog w) (A.deeper (envOfC qual scope s.heap.objs.size f cdv)) (leaving (envOfC qual scope s.heap.objs.size f cdv) e) (fun _ s'' => R (.error e) s'') (fun e' s'' => R (.error e') s'') s') s₁)
    (hco : scope.isCoroutine = false) (hgen : scope.isGenerator = false) (hk : scope.kind = .function) : codeAny (model prog w) A (.call (.ref f) args) R s := by
  refine codeAny_call_function hroom (X _ _ ho) rfl hco hgen rfl (codeRec_of X hcd) (hbind _ _ _ _ ?_)
  refine wpAny_newFunctionEnv_cells hk (kindsX hkind _) fun env he s₁ x => ?_
  subst he
  exact ⟨hlim.keeps x.toInCall.keep, codeAny_func (h s₁ x)⟩

/-- C(..): dict at size, instance at size + 1, then __init__ -/
theorem make_obj {R : Result → Shared → Prop} {C fI : Addr} {rest : List Value} {kw : List (Str × Value)}
    (X : K.In s.heap) (hm : makesIn K C = true) (hi : findIn K (.ref C) "__init__" = some (some (.ref fI))) (hf : isFn K (.ref fI) = true)
    (h : codeAny (model prog w) (A.under (.builtin "type.__call__" ⟨.ref C :: rest, kw⟩)) (.call (.ref fI) ⟨.ref (s.heap.objs.size + 1) :: rest, kw⟩) (InitBack (s.heap.objs.size + 1) R)
      { s with heap := (s.heap.push emptyDict).push (instObj C s.heap.objs.size) }) : codeAny (model prog w) A (.call (.ref C) ⟨rest, kw⟩) R s := by
  obtain ⟨hh, g, d, t, os⟩ := s
  exact make_core (makes_of X hm) (looks_findIn X hi) (fun self => bind_fn X self (beq_iff_eq.mp hf)) (.inl rfl) h

/-- x.name where the instance's dict holds the name and the class does not -/
theorem get_field {x C : Addr} {ox : Obj} {es : List DictEntry} {n : Nat} {name : Str} {expr : Bool} {v : Value} {Q : Value → Shared → Prop}
    (X : K.In s.heap) (I : PySem.W.InstAt s.heap x ox C (some (dictOf es n))) (hg : plainGet K C name = true) (hh : hasDictIn K C = true) (ha : findIn K (.ref C) name = some none)
    (hl : getL name es = some (some v)) (hv : handedIn v = true) (h : Q v { s with toks := s.toks + 1 }) : wpAny (model prog w) A (getAttr (.ref x) name expr) Q E s :=
  get_value X I (plainGet_of hg).1 (findObj_own hh ha rfl hl) hv h

/-- x.m(..): the method found in the class -/
theorem get_method {x C f : Addr} {ox : Obj} {es : List DictEntry} {n : Nat} {name : Str} {pl : Sem Bool} {Q : Value × List Value → Shared → Prop}
    (X : K.In s.heap) (I : PySem.W.InstAt s.heap x ox C (some (dictOf es n))) (hg : plainGet K C name = true) (hf : findIn K (.ref C) name = some (some (.ref f))) (ht : isFn K (.ref f) = true)
    (hl : getL name es = some none) (h : Q (.ref f, [.ref x]) s) : wpAny (model prog w) A (getMethod (.ref x) name pl) Q E s :=
  method_fn X I (plainGet_of hg).1 (plainGet_of hg).2 hf (beq_iff_eq.mp ht) (by show (lookIn name (dictOf es n)).map _ = _; rw [lookIn_dict, hl]; rfl) h

/-! the whole heap as the ledger: makes every rule that writes through a ledger a rule over any heap -/
def noObjs (h : Heap) : Heap := { h with objs := #[] }
theorem noObjs_get (h : Heap) (b : Addr) : (noObjs h).get? b = none := by
  cases e : (noObjs h).get? b with
  | none => rfl
  | some o => exact absurd (Heap.lt_size e) (Nat.not_lt_zero _)
def ledger (h : Heap) (L d : Addr) : List (Addr × Obj) := (List.range h.objs.size).filterMap fun a => if a = L ∨ a = d then none else (h.get? a).map fun o => (a, o)
theorem mem_ledger {h : Heap} {L d a : Addr} {o : Obj} : (a, o) ∈ ledger h L d ↔ a ≠ L ∧ a ≠ d ∧ h.get? a = some o := by
  unfold ledger
  rw [List.mem_filterMap]
  constructor
  · rintro ⟨b, _, e⟩
    split at e
    · cases e
    · rename_i hb
      obtain ⟨o', ho, e'⟩ := Option.map_eq_some_iff.mp e
      cases e'
      exact ⟨fun q => hb (.inl q), fun q => hb (.inr q), ho⟩
  · rintro ⟨n1, n2, ho⟩
    refine ⟨a, List.mem_range.mpr (Heap.lt_size ho), ?_⟩
    rw [if_neg (show ¬ (a = L ∨ a = d) from fun q => q.elim n1 n2), ho] <;> rfl
theorem news_ledger {h : Heap} {L d : Addr} {od : Obj} (hne : d ≠ L) (ho : h.get? d = some od) : News (noObjs h) L h ([] ++ (d, od) :: ledger h L d) := by
  rintro ⟨a, o⟩ hp
  rcases List.mem_cons.mp hp with e | hp
  · cases e
    exact ⟨ho, hne, noObjs_get _ _⟩
  · obtain ⟨n1, n2, e⟩ := mem_ledger.mp hp
    exact ⟨e, n1, noObjs_get _ _⟩
theorem fr_all {h : Heap} {L : Addr} {m : Str → Option Value} (n : h.Ns L m) : Fr (noObjs h) L h m :=
  ⟨n, fun b o e => (by rw [noObjs_get] at e; cases e), Nat.zero_le _⟩
/-- Upd of the head entry (for append_K, setItem_K ..) -/
theorem upd_ledger {h : Heap} {L d : Addr} {o o' : Obj} : Upd d o o' ((d, o) :: ledger h L d) ((d, o') :: ledger h L d) :=
  .head fun ⟨_, _⟩ hp => (mem_ledger.mp hp).2.1

/-- x.name = v over any heap: L is any namespace of the heap (the frame's, say): its map stays, its object is not told; all else but the dict stays -/
theorem set_field {x C dx L : Addr} {ox : Obj} {m : Str → Option Value} {es es' : List DictEntry} {n n' : Nat} {name : Str} {v : Value} {Q : Unit → Shared → Prop}
    (X : K.In s.heap) (I : PySem.W.InstAt s.heap x ox C (some (dictOf es n))) (hd : ox.dict = some dx) (hL : s.heap.Ns L m) (hne : dx ≠ L)
    (hs : findIn K (.ref C) "__setattr__" = some (some (.builtin "object.__setattr__"))) (hp : plainOver K C = true) (ht : takerIn K C name = some none) (hh : hasDictIn K C = true) (hl : (getL name es).isSome = true)
    (e : (putL name (PyData.keyHash w.params name) (.str name (s.toks + 1)) v es, putN name es n) = (es', n')) (hz : es'.length ≤ 1000)
    (h : ∀ h' : Heap, h'.Ns L m → h'.get? dx = some (dictOf es' n') → (∀ b o, b ≠ dx → b ≠ L → s.heap.get? b = some o → h'.get? b = some o) → Q () { s with heap := h', toks := s.toks + 2 }) :
    wpAny (model prog w) A (setAttr (.ref x) name v) Q E s := by
  obtain ⟨e1, e2⟩ := Prod.mk.inj e
  have hdx : s.heap.get? dx = some (dictOf es n) := by
    have := I.dict
    rw [hd] at this
    exact this
  refine set_plain X I hs (osa_dict (s := { s with toks := s.toks + 1 }) (h₀ := noObjs s.heap) (L := L) (m := m) (od := dictOf es n) (od' := dictOf es' n') (es := es') (n := n') (pre := []) (post := ledger s.heap L dx)
    (fr_all hL) (news_ledger hne hdx) X I hd hp ht hh hl (fun _ q => nomatch q) (fun ⟨_, _⟩ q => (mem_ledger.mp q).2.1) (by rw [putName_dict, e1, e2]) rfl hz fun h' F' N' => ?_)
  exact h h' F'.ns (N'.get (List.Mem.head _)) fun b o n1 n2 ho => N'.get (List.Mem.tail _ (mem_ledger.mpr ⟨n2, n1, ho⟩))
end
end Att

namespace L2
open PySem PySem.Spec PyProof.Rows

theorem vals_ints : ∀ {vs : List Value} {ns : List Int}, IntsAre vs ns → Vals (ns.map V.int) vs
  | _, _, .nil => .nil
  | _, _, .cons n t h => .cons ⟨t, rfl⟩ (vals_ints h)

/-- nothing is tracked but the script, known to the object (or it is an object of the module) -/
def Only (H : Hp) : Prop := ∀ b, H b = none ∨ ∃ o xs, H b = some (.frz o (.lst xs))

/-- THE HEAD: the law's promise, at the heap behind the top. F, the promise of the law's def, may use that base is part of the heap (so K.In base, base.Ns mainGlobals mg stand in Mod) -/
theorem law_call {P : Program} {w : World} {K : PySem.W.Frag} {mg mb : Str → Option Value} {CX : CXT} {k : Nat} {fa a : Addr} {fd : FuncData} {x : Str} {sp : Sp} {s₁ : Shared} {vs : List Value} {ns : List Int}
    (KX : K.In s₁.heap) (hns : s₁.heap.Ns mainGlobals mg) (hb : s₁.heap.Ns builtinsNs mb) (hbb : ∀ x : Str, x ≠ "__name__" → mb x = bootBuiltins x) (hlim : s₁.heap.NoLimit) (hg : s₁.gens = #[])
    (ha : s₁.heap.get? a = some { cls := .type "list", data := .seq vs.toArray }) (hi : IntsAre vs ns) (hl : ns.length ≤ sizeLine) (hr : Room k callerA)
    (F : ∀ base : Heap, K.In base → base.Ns mainGlobals mg → FnOk P w K mg base CX k fa fd [x] sp) (hbind : ∀ (s : Shared) (u : Value), BindsTo s fd ⟨[u], []⟩ [(x, u)])
    (hsp : ∀ H : Hp, Only H → SqL K H a (ns.map V.int) → sp [.ref a] H (fun v _ => v = .bl true) fun _ _ _ => False)
    (hCX : ∀ H e s', CX [] H s₁ (fun _ _ _ => False) e s' → False) :
    codeAny (model P w) callerA (.call (.ref fa) ⟨[.ref a], []⟩) (fun r s' => r = .ok (.ret (.bool true)) ∧ OldK s₁.heap s'.heap ∧ s'.os = s₁.os ∧ AllBare s'.gens) s₁ := by
  have rv := vals_ints hi
  have lenV := hi.length
  -- from an abstract heap in which nothing but the script may be tracked
  have core : ∀ H : Hp, Only H → SqL K H a (ns.map V.int) → HOk P w H s₁.heap → (∀ b, H b ≠ none → b = a) → (H a ≠ none → K.lookup a = none) →
      codeAny (model P w) callerA (.call (.ref fa) ⟨[.ref a], []⟩) (fun r s' => r = .ok (.ret (.bool true)) ∧ OldK s₁.heap s'.heap ∧ s'.os = s₁.os ∧ AllBare s'.gens) s₁ := by
    intro H hO hS hok hA hK
    have base_of : ∀ {b : Addr} {o : Obj}, s₁.heap.get? b = some o → H b = none → (hidT s₁.heap H).get? b = some o := fun e n => hidT_get e n
    have noA : ∀ {b : Addr} {o : Obj} {es : Array DictEntry} {ep : Nat}, s₁.heap.get? b = some o → o.data = .dict es ep → H b = none := fun {b o es ep} e d => by
      cases q : H b with
      | none => rfl
      | some u =>
        have e' : b = a := hA b (by rw [q]; simp)
        subst e'
        rw [ha] at e; cases e
        have d' : Data.seq vs.toArray _ = Data.dict es ep := d
        cases d'
    have nsK : ∀ {b : Addr} {m : Str → Option Value}, s₁.heap.Ns b m → (hidT s₁.heap H).Ns b m := fun {b m} ⟨o, es, ep, e, d, r⟩ => ⟨o, es, ep, base_of e (noA e d), d, r⟩
    have hKb : K.In (hidT s₁.heap H) := fun b o e => base_of (KX b o e) (by
      cases q : H b with
      | none => rfl
      | some u =>
        have e' : b = a := hA b (by rw [q]; simp)
        subst e'
        rw [hK (by rw [q]; simp)] at e; cases e)
    have hM : Mod K mg (hidT s₁.heap H) := ⟨hKb, nsK hns, ⟨mb, nsK hb, hbb⟩, let ⟨mc, h1, h2⟩ := hlim; ⟨mc, nsK h1, h2⟩⟩
    have e0 : Env0 P w K mg (hidT s₁.heap H) callerA [] s₁ H := ⟨rfl, hM, fun b o e => of_hidT e, Nat.le_of_eq (hidT_size _ _), trivial, fun b hb => absurd (show b ∈ ([] : List Addr) from hb) (by simp), hok, .of_eq hg⟩
    refine codeAny_mono ((F _ hKb (nsK hns)).run callerA [] s₁ H ⟨[.ref a], []⟩ [.ref a] [.ref a] _ _ hr e0 (hbind s₁ (.ref a)) (.cons rfl .nil) (hsp H hO hS)) fun r s' h => ?_
    cases r with
    | error e => exact (hCX H e s' h).elim
    | ok fl =>
      cases fl with
      | next => exact False.elim h
      | brk => exact False.elim h
      | cont => exact False.elim h
      | ret u =>
        obtain ⟨v, H', os, bare, un, hok', r', q⟩ := h
        have q' : v = .bl true := q
        subst q'
        obtain rfl : u = Value.bool true := r'
        refine ⟨rfl, OldK.of_keep fun b o e => ?_, os, bare⟩
        cases q : H b with
        | none => exact un.keep b o e q (by intro z; exact absurd (show b ∈ ([] : List Addr) from z) (by simp)) (by simp)
        | some u =>
          rcases hO b with z | ⟨ob, xs, z⟩
          · rw [q] at z; cases z
          · have z2 := un.frzs b ob _ z
            obtain ⟨e1, _⟩ := hok b _ z
            obtain ⟨e2, _⟩ := hok' b _ z2
            rw [e] at e1; cases e1
            exact e2
  cases hk : K.lookup a with
  | some o =>
    -- the script is one of the module's own objects
    have e := KX a o hk
    rw [ha] at e
    cases e
    refine core (fun _ => none) (fun _ => .inl rfl) (.inr ⟨_, vs.toArray, _, hk, rfl, rfl, rfl, by rw [List.size_toArray, lenV]; exact hl, by simpa using rv⟩) (fun b u z => by have z' : (none : Option HO) = some u := z; cases z') (fun b z => absurd rfl z) fun z => absurd rfl z
  | none =>
    refine core (fun b => if b = a then some (.frz { cls := .type "list", data := .seq vs.toArray } (.lst (ns.map V.int))) else none) (fun b => ?_) (.inl (.inr ⟨{ cls := .type "list", data := .seq vs.toArray }, if_pos rfl⟩)) (fun b u z => ?_) (fun b z => ?_) fun _ => hk
    · by_cases hb : b = a
      · exact .inr ⟨_, _, if_pos hb⟩
      · exact .inl (if_neg hb)
    · by_cases hb : b = a
      · have z' := (if_pos hb).symm.trans z
        cases z'
        subst hb
        exact ⟨ha, by rw [List.length_map]; exact hl, vs, _, rv, ha⟩
      · have z' := (if_neg hb).symm.trans z
        cases z'
    · by_cases hb : b = a
      · exact hb
      · exact absurd (if_neg hb) z
end L2

namespace L2
open PySem PySem.Spec PyProof.Rows

abbrev KOf {K : PySem.W.Frag} {h : Heap} (_ : K.In h) : PySem.W.Frag := K

/-- the goal that k_head leaves (case hc), from the law's promise. F gives the function object fd (K's own) once, then the promise over every base -/
theorem walk_of {l : PySem.W.OpenLaw} {n k : Nat} {q : Program} {loose : List Str} {XP : (Str → Option Value) → Heap → Prop} {YP : World → Heap → Prop} {d : DefRec} {K : Params → PySem.W.Frag} {CX : World → CXT} {sp : World → Sp} {x : Str}
    (hn : l.most = some n) (hn2 : n ≤ sizeLine) (hdf : d.params.defaults = []) (hr : Room k callerA)
    (hY : ∀ (w : World) (h : Heap), YP w h → (K w.params).In h)
    (F : ∀ (w : World) (mg : Str → Option Value) (fa : Addr) (h : Heap), (K w.params).In h → h.Ns mainGlobals mg → mg d.name = some (.ref fa) →
      ∃ fd : FuncData, (∀ (s : Shared) (u : Value), BindsTo s fd ⟨[u], []⟩ [(x, u)]) ∧
        ∀ base : Heap, (K w.params).In base → base.Ns mainGlobals mg → FnOk l.prog w (K w.params) mg base (CX w) k fa fd [x] (sp w))
    (hsp : ∀ (w : World) (H : Hp) (a : Addr) (ns : List Int), ns.length ≤ n → Only H → SqL (K w.params) H a (ns.map V.int) → sp w [.ref a] H (fun v _ => v = .bl true) fun _ _ _ => False)
    (hCX : ∀ (w : World) (H : Hp) (s : Shared) (e : Value) (s' : Shared), CX w [] H s (fun _ _ _ => False) e s' → False) :
    PySem.W.WalkO q loose XP YP l.row.toRowW d [] (fun f vs => PySem.call f vs) := by
  refine Att.attach_call hn hdf fun w s₀ s₁ mg mb fa o pm cd doc a vs ns G Y ho hd hcd hmg hobj hints hlen hg => ?_
  have KX := hY w _ Y
  obtain ⟨fd, hb, hF⟩ := F w mg fa _ KX G.T.g hmg
  exact law_call KX G.T.g G.T.b G.T.builtins G.T.nolimit hg hobj hints (Nat.le_trans hlen hn2) hr hF hb (fun H hO hS => hsp w H a ns hlen hO hS) fun H e s' => hCX w H s₁ e s'
/-- the same where the promise hangs on the written part alone: (sp := My.sp_law), no hole under a binder -/
theorem walk_ofK {l : PySem.W.OpenLaw} {n k : Nat} {q : Program} {loose : List Str} {XP : (Str → Option Value) → Heap → Prop} {YP : World → Heap → Prop} {d : DefRec} {K : Params → PySem.W.Frag} {CX : CXT} {sp : PySem.W.Frag → Sp} {x : Str}
    (hn : l.most = some n) (hn2 : n ≤ sizeLine) (hdf : d.params.defaults = []) (hr : Room k callerA)
    (hY : ∀ (w : World) (h : Heap), YP w h → (K w.params).In h)
    (F : ∀ (w : World) (mg : Str → Option Value) (fa : Addr) (h : Heap), (K w.params).In h → h.Ns mainGlobals mg → mg d.name = some (.ref fa) →
      ∃ fd : FuncData, (∀ (s : Shared) (u : Value), BindsTo s fd ⟨[u], []⟩ [(x, u)]) ∧
        ∀ base : Heap, (K w.params).In base → base.Ns mainGlobals mg → FnOk l.prog w (K w.params) mg base CX k fa fd [x] (sp (K w.params)))
    (hsp : ∀ (K : PySem.W.Frag) (H : Hp) (a : Addr) (ns : List Int), ns.length ≤ n → Only H → SqL K H a (ns.map V.int) → sp K [.ref a] H (fun v _ => v = .bl true) fun _ _ _ => False)
    (hCX : ∀ (H : Hp) (s : Shared) (e : Value) (s' : Shared), CX [] H s (fun _ _ _ => False) e s' → False) :
    PySem.W.WalkO q loose XP YP l.row.toRowW d [] (fun f vs => PySem.call f vs) :=
  walk_of (K := K) (CX := fun _ => CX) (sp := fun w => sp (K w.params)) hn hn2 hdf hr hY F (fun w H a ns h1 h2 h3 => hsp (K w.params) H a ns h1 h2 h3) fun _ H s e s' => hCX H s e s'
end L2

/- THE LAST THEOREM (shape; LID, My.* are yours):
   My.Adr: a structure of the addresses that your layer names (classes, functions); My.Txt K t: a structure (Prop) of the equations over K;
   My.txt_mk : {K} {implicit addresses ..} (e1 : nsIn K mainGlobals "law" = some (some (.ref f))) (e2 : K.lookup f = some ⟨oc, od, .func (fnOf "law" "law" params body scope dV kV doc pm an cdv ct), sl⟩) (e3 : codeIn K cdv "law" = true) .. : ∃ t, My.Txt K t

set_option maxRecDepth 100000 in
set_option maxHeartbeats 0 in
theorem PySem.Challenge.cw_LID_holds : PySem.Challenge.rw_LID.Holds := by
  w_on; o_law; k_head; (case hw => w_witness2)
  k_fill
  refine L2.walk_of (l := PySem.Challenge.rw_LID) (n := 63) (k := 40) (x := "script") (CX := fun w => ..) (sp := fun _ => My.sp_law) rfl (by decide) rfl ⟨rfl, by decide, by decide⟩ (fun w h Y => PySem.W.kIn_of Y) ?F ?S ?C
  case F =>
    intro w mg fa h KX G hmg
    have T : ∃ t, My.Txt (L2.KOf KX) t := by
      dsimp only [L2.KOf]                          -- K must stand as «<heap const> w.params» for k_is
      refine' My.txt_mk ?e1 ?e2 ?e3 ..
      (case e1 => PySem.W.k_is)                    -- in the order: a name -> its address -> its object -> its parts
      (case e2 => PySem.W.k_is)
      ..
    obtain ⟨t, T⟩ := T
    have e0 := hmg.symm.trans (PySem.W.mg_of KX G T.law)
    cases e0                                       -- fa is the law's own address
    exact ⟨_, fun s u => .of_eq rfl, fun base kb nb => My.law_fn T kb nb⟩     -- if «.of_eq rfl» comes too early: refine' ⟨_, ?b, fun base kb nb => My.law_fn T kb nb⟩; exact fun s u => .of_eq rfl
  case S => exact fun w H a ns hl hO hS => ..
  case C => exact ..
(the tactic k_is has no namespace: write k_is) -/

/-! SHORT WORDS over the layer: a def of the text, its body, what a loop and a test want. -/
namespace L2
open PySem PySem.Spec PyProof.Rows

/-! ### the text by places -/
/-! ### no exception leaves a def -/
abbrev CX0 : CXT := fun _ _ _ _ _ _ => False
abbrev E0 : XK := fun _ _ _ => False
theorem pass0 {X : Cx} : Passes CX0 X E0 := fun _ _ _ _ _ _ _ h => h.elim

/-! ### a def (or method) of the text as it stands behind the top -/
structure Fun (K : PySem.W.Frag) (x qual : Str) (st : Stmt) (f : Addr) (fd : FuncData) : Prop where
  ex : ∃ (oc : Value) (od : Option Addr) (kV doc pm : Value) (an : Option Addr) (cdv ct : Value) (osl : Array (Option Value)),
    fd = PySem.W.fnOf x qual (defArgs st) (defBody st) (defScope st) .none kV doc pm an cdv ct ∧ K.lookup f = some ⟨oc, od, .func fd, osl⟩ ∧ PySem.W.codeIn K cdv qual = true
  kp : PySem.W.keepIn K (.ref f) = true
section
variable {P : Program} {w : World} {K : PySem.W.Frag} {mg : Str → Option Value} {base : Heap}
/-- THE RULE for a def: its body as a term of rules, and the reading of that term -/
theorem Fun.ok {x qual : Str} {st : Stmt} {f : Addr} {fd : FuncData} {N ps : List Str} {k : Nat} {sp : Sp} (F : Fun K x qual st f fd) (S : FnScope N ps (defScope st)) (len : ∀ vs H Q E, sp vs H Q E → vs.length = ps.length)
    (hbody : ∀ (cdv : Value) (A : Around) (outer : List Env) (s : Shared) (H : Hp) (vs : List V) (Q : VK) (E : XK), Room k (A.deeper (envOfC qual (defScope st) s.heap.objs.size f cdv)) → sp vs H Q E →
      ∃ t, PSs (cxOf CX0 P w K mg base N qual (defScope st) f cdv A outer s H E).nox (defBody st) t ∧ t { nx := fun _ H' => Q .non H', rt := Q } (start N vs) H) : FnOk P w K mg base CX0 (k + 1) f fd ps sp := by
  obtain ⟨oc, od, kV, doc, pm, an, cdv, ct, osl, rfl, lk, hcd⟩ := F.ex
  refine fn_of lk hcd S len fun A outer s H vs Q E hr hsp => ?_
  obtain ⟨t, h, q⟩ := hbody cdv A outer s H vs Q E hr hsp
  exact ⟨t, h.nox, q⟩
/-- how its arguments bind (no defaults): h is «fun _ _ _ _ _ _ us hl => match us, hl with | [_, _], _ => rfl», one _ a parameter -/
theorem Fun.binds {x qual : Str} {st : Stmt} {f : Addr} {fd : FuncData} {ps : List Str} (F : Fun K x qual st f fd)
    (h : ∀ (kV doc pm : Value) (an : Option Addr) (cdv ct : Value) (us : List Value), us.length = ps.length → bindArgs (PySem.W.fnOf x qual (defArgs st) (defBody st) (defScope st) .none kV doc pm an cdv ct) ⟨us, []⟩ = pure (ps.zip us)) : Binds K fd ps [] := by
  obtain ⟨oc, od, kV, doc, pm, an, cdv, ct, osl, rfl, lk, hcd⟩ := F.ex
  exact .all (h kV doc pm an cdv ct)
theorem fun_mk {x qual : Str} {st : Stmt} {f : Addr} {oc : Value} {od an : Option Addr} {osl : Array (Option Value)} {kV doc pm cdv ct : Value} (l : K.lookup f = some ⟨oc, od, .func (PySem.W.fnOf x qual (defArgs st) (defBody st) (defScope st) .none kV doc pm an cdv ct), osl⟩)
    (c : PySem.W.codeIn K cdv qual = true) (k : PySem.W.keepIn K (.ref f) = true) : Fun K x qual st f (PySem.W.fnOf x qual (defArgs st) (defBody st) (defScope st) .none kV doc pm an cdv ct) := ⟨⟨oc, od, kV, doc, pm, an, cdv, ct, osl, rfl, l, c⟩, k⟩
end
theorem hu_of {A : Around} {k : Nat} (hr : Room k A) : A.units + 1 < cLine := Nat.lt_of_le_of_lt (Nat.add_le_add_left (by decide : 1 ≤ 64) _) hr.units
theorem small1000 {n : Nat} (h : n ≤ 1000) : n < sizeLine := Nat.lt_of_le_of_lt h (by decide)

/-! ### expressions in short: the name that stands in the i-th slot -/
section
variable {X : Cx}
theorem pv (i : Nat) {x : Str} {pos : Pos} (hN : X.N[i]? = some x := by rfl) (hv : Vis X.env.scope x := by first | exact Or.inl rfl | exact Or.inr (Or.inl rfl) | exact Or.inr (Or.inr rfl)) (hd : (x == ("__debug__" : Str)) = false := by decide)
    (hcd : (x == ("__classdict__" : Str)) = false := by decide) : PE X (.Name x pos) (tVar i) := pe_var hN hv hd hcd
end

/-! ### tests -/
theorem iteF {A B : Prop} (h : B) : if false = true then A else B := by
  rw [if_neg Bool.false_ne_true]
  exact h
theorem iteT {A B : Prop} (h : A) : if true = true then A else B := by
  rw [if_pos rfl]
  exact h
theorem ite2 {c A B : Prop} [Decidable c] (h1 : c → A) (h2 : ¬ c → B) : if c then A else B := by
  by_cases h : c
  · rw [if_pos h]
    exact h1 h
  · rw [if_neg h]
    exact h2 h
theorem iteNS {c A B : Prop} [Decidable c] (hc : c) (h : B) : if (!decide c) = true then A else B := by
  rw [decide_eq_true hc]
  exact iteF h

/-! ### heaps -/
/-- all that was tracked is as it was -/
def Same (H H' : Hp) : Prop := ∀ b o, H b = some o → H' b = some o
theorem Same.refl (H : Hp) : Same H H := fun _ _ h => h
theorem Same.trans {H H1 H2 : Hp} (a : Same H H1) (b : Same H1 H2) : Same H H2 := fun c o h => b c o (a c o h)
theorem Same.free {H H' : Hp} (e : Same H H') {l : Addr} (h : H' l = Option.none) : H l = Option.none := by
  cases q : H l with
  | none => rfl
  | some o =>
    rw [e l o q] at h
    cases h
theorem Same.seq {K : PySem.W.Frag} {H H' : Hp} {a : Addr} {xs : List V} (e : Same H H') (h : SqL K H a xs) : SqL K H' a xs := by
  rcases h with (h | ⟨o, h⟩) | h
  · exact .inl (.inl (e _ _ h))
  · exact .inl (.inr ⟨o, e _ _ h⟩)
  · exact .inr h

end L2

namespace L2
open PySem PySem.Spec PyProof.Rows
section
variable {X : Cx}
theorem call_lenD : CallR X (.builtin "len") (fun xs H Q => ∃ a kvs, xs = [V.ref a] ∧ H a = some (.dK kvs) ∧ Q (.int kvs.length) H) := by
  intro pins s σ H xs us Q I r h
  obtain ⟨a, kvs, rfl, ha, q⟩ := h
  obtain ⟨u, rfl, ru⟩ := vals1 r
  cases ru
  exact d_len I (.inl ha) fun t s' I' => ⟨.int kvs.length, H, I', ⟨t, rfl⟩, q⟩
end
/-! ### a dict's pairs: keys that differ -/
section
variable {κ : Type} [DecidableEq κ]
theorem valV_not {kvs : List (κ × V)} {k : κ} (h : valV kvs k = none) : ¬ k ∈ kvs.map (·.1) := by
  intro m
  obtain ⟨p, hp, e⟩ := List.mem_map.mp m
  have q : (kvs.any fun kv => decide (kv.1 = k)) = true := List.any_eq_true.mpr ⟨p, hp, decide_eq_true e⟩
  rw [valV_any, h] at q
  exact absurd q (by simp)
theorem valV_in {kvs : List (κ × V)} {k : κ} {v : V} (h : valV kvs k = some v) : k ∈ kvs.map (·.1) := by
  have q : (kvs.any fun kv => decide (kv.1 = k)) = true := by
    rw [valV_any, h]
    all_goals rfl
  obtain ⟨p, hp, e⟩ := List.any_eq_true.mp q
  exact List.mem_map.mpr ⟨p, hp, of_decide_eq_true e⟩
theorem nd_snoc : ∀ {l : List κ} {k : κ}, l.Nodup → ¬ k ∈ l → (l ++ [k]).Nodup
  | [], k, _, _ => by simp
  | a :: r, k, h, hk => by
    obtain ⟨h1, h2⟩ := List.nodup_cons.mp h
    show (a :: (r ++ [k])).Nodup
    refine List.nodup_cons.mpr ⟨fun m => ?_, nd_snoc h2 fun m => hk (List.mem_cons.mpr (Or.inr m))⟩
    rcases List.mem_append.mp m with q | q
    · exact h1 q
    · exact hk (List.mem_cons.mpr (Or.inl (List.mem_singleton.mp q).symm))
theorem nd_putK {kvs : List (κ × V)} {k : κ} (v : V) (hn : (kvs.map (·.1)).Nodup) (h : valV kvs k = none) : ((putK kvs k v).map (·.1)).Nodup := by
  rw [putK_new v h, List.map_append]
  exact nd_snoc hn (valV_not h)
theorem dropK_pos {p : κ × V} {r : List (κ × V)} {k : κ} (e : p.1 = k) : dropK (p :: r) k = dropK r k := by
  unfold dropK
  rw [List.filter_cons, if_neg (by simp [e])]
theorem dropK_neg {p : κ × V} {r : List (κ × V)} {k : κ} (e : ¬ p.1 = k) : dropK (p :: r) k = p :: dropK r k := by
  unfold dropK
  rw [List.filter_cons, if_pos (by simp [e])]
theorem dropK_no : ∀ {kvs : List (κ × V)} {k : κ}, ¬ k ∈ kvs.map (·.1) → dropK kvs k = kvs
  | [], _, _ => rfl
  | p :: r, k, h => by
    have h' : ¬ k ∈ r.map (·.1) := fun m => by
      obtain ⟨q, hq, e⟩ := List.mem_map.mp m
      exact h (List.mem_map.mpr ⟨q, List.mem_cons.mpr (Or.inr hq), e⟩)
    rw [dropK_neg fun e => h (List.mem_map.mpr ⟨p, List.mem_cons.mpr (Or.inl rfl), e⟩), dropK_no h']
theorem dropK_mem {kvs : List (κ × V)} {k : κ} {p : κ × V} (h : p ∈ dropK kvs k) : p ∈ kvs := (List.mem_filter.mp h).1
theorem nd_dropK : ∀ {kvs : List (κ × V)} {k : κ}, (kvs.map (·.1)).Nodup → ((dropK kvs k).map (·.1)).Nodup
  | [], _, _ => List.nodup_nil
  | p :: r, k, h => by
    have h : (p.1 :: r.map (·.1)).Nodup := h
    obtain ⟨h1, h2⟩ := List.nodup_cons.mp h
    by_cases e : p.1 = k
    · rw [dropK_pos e]
      exact nd_dropK h2
    · rw [dropK_neg e]
      show (p.1 :: (dropK r k).map (·.1)).Nodup
      refine List.nodup_cons.mpr ⟨fun m => h1 ?_, nd_dropK h2⟩
      obtain ⟨q, hq, eq⟩ := List.mem_map.mp m
      exact List.mem_map.mpr ⟨q, dropK_mem hq, eq⟩
theorem dropK_len : ∀ {kvs : List (κ × V)} {k : κ}, (kvs.map (·.1)).Nodup → k ∈ kvs.map (·.1) → (dropK kvs k).length + 1 = kvs.length
  | [], _, _, m => by simp at m
  | p :: r, k, h, m => by
    have h : (p.1 :: r.map (·.1)).Nodup := h
    have m : k = p.1 ∨ k ∈ r.map (·.1) := List.mem_cons.mp m
    obtain ⟨h1, h2⟩ := List.nodup_cons.mp h
    by_cases e : p.1 = k
    · subst e
      rw [dropK_pos rfl, dropK_no h1]
      all_goals rfl
    · have m' : k ∈ r.map (·.1) := m.resolve_left fun z => e z.symm
      have q := dropK_len h2 m'
      rw [dropK_neg e, List.length_cons, List.length_cons]
      omega
end
end L2

namespace Bw

/-! ### bits -/
/-- bit j of the number of point i -/
def bit (ws : List Nat) (i j : Nat) : Bool := (ws.getD i 0).testBit j

structure Web (ws : List Nat) : Prop where
  pos : 0 < ws.length
  le : ws.length ≤ 10
  lt : ∀ i, ws.getD i 0 < 2 ^ ws.length
  irr : ∀ i, bit ws i i = false
  sym : ∀ i j, bit ws i j = bit ws j i

theorem bit_out {ws : List Nat} (h : ∀ i, ws.getD i 0 < 2 ^ ws.length) {i j : Nat} (hj : ws.length ≤ j) : bit ws i j = false :=
  Nat.testBit_lt_two_pow (Nat.lt_of_lt_of_le (h i) (Nat.pow_le_pow_right (by decide) hj))
theorem bit_out' {ws : List Nat} {i j : Nat} (hi : ws.length ≤ i) : bit ws i j = false := by
  unfold bit
  rw [List.getD_eq_getElem?_getD, List.getElem?_eq_none hi]
  exact Nat.zero_testBit j
theorem Web.inl {ws : List Nat} (_ : Web ws) {i j : Nat} (h : bit ws i j = true) : i < ws.length := by
  rcases Nat.lt_or_ge i ws.length with h' | h'
  · exact h'
  · rw [bit_out' h'] at h; cases h
theorem Web.inr {ws : List Nat} (W : Web ws) {i j : Nat} (h : bit ws i j = true) : j < ws.length := by
  rcases Nat.lt_or_ge j ws.length with h' | h'
  · exact h'
  · rw [bit_out W.lt h'] at h; cases h

theorem getD_set (ws : List Nat) (a i x : Nat) (ha : a < ws.length) : (ws.set a x).getD i 0 = if i = a then x else ws.getD i 0 := by
  simp only [List.getD_eq_getElem?_getD, List.getElem?_set]
  by_cases h : i = a
  · subst h; simp [ha]
  · have h' : ¬ a = i := fun e => h e.symm
    simp [h, h']

theorem testBit_pow (b j : Nat) : (2 ^ b).testBit j = decide (b = j) := by
  rw [Nat.testBit_two_pow]

/-- a tie changed -/
def tie (ws : List Nat) (a b : Nat) : List Nat :=
  (ws.set a (ws.getD a 0 ^^^ 2 ^ b)).set b ((ws.set a (ws.getD a 0 ^^^ 2 ^ b)).getD b 0 ^^^ 2 ^ a)
theorem tie_length (ws : List Nat) (a b : Nat) : (tie ws a b).length = ws.length := by simp [tie]
theorem bit_tie {ws : List Nat} {a b : Nat} (ha : a < ws.length) (hb : b < ws.length) (i j : Nat) :
    bit (tie ws a b) i j = (bit ws i j ^^ ((decide (i = a) && decide (j = b)) ^^ (decide (i = b) && decide (j = a)))) := by
  unfold bit tie
  rw [getD_set _ _ _ _ (by simpa using hb), getD_set _ _ _ _ ha, getD_set _ _ _ _ ha]
  have e1 : decide (b = j) = decide (j = b) := by simp only [eq_comm]
  have e2 : decide (a = j) = decide (j = a) := by simp only [eq_comm]
  by_cases h1 : i = b
  · by_cases h2 : b = a
    · subst h1; subst h2
      simp [Nat.testBit_xor, testBit_pow, e1]
    · subst h1
      simp [h2, Nat.testBit_xor, testBit_pow, e2]
  · by_cases h2 : i = a
    · subst h2
      simp [h1, Nat.testBit_xor, testBit_pow, e1]
    · simp [h1, h2]
theorem tie_lt {ws : List Nat} {a b : Nat} (h : ∀ i, ws.getD i 0 < 2 ^ ws.length) (ha : a < ws.length) (hb : b < ws.length) : ∀ i, (tie ws a b).getD i 0 < 2 ^ (tie ws a b).length := by
  intro i
  rw [tie_length]
  have pa : 2 ^ a < 2 ^ ws.length := Nat.pow_lt_pow_right (by decide) ha
  have pb : 2 ^ b < 2 ^ ws.length := Nat.pow_lt_pow_right (by decide) hb
  unfold tie
  rw [getD_set _ _ _ _ (by simpa using hb), getD_set _ _ _ _ ha, getD_set _ _ _ _ ha]
  split
  · split
    · exact Nat.xor_lt_two_pow (Nat.xor_lt_two_pow (h _) pb) pa
    · exact Nat.xor_lt_two_pow (h _) pa
  · split
    · exact Nat.xor_lt_two_pow (h _) pb
    · exact h i
theorem Web.tie {ws : List Nat} (W : Web ws) {a b : Nat} (ha : a < ws.length) (hb : b < ws.length) : Web (tie ws a b) where
  pos := by rw [tie_length]; exact W.pos
  le := by rw [tie_length]; exact W.le
  lt := tie_lt W.lt ha hb
  irr := fun i => by
    rw [bit_tie ha hb, W.irr]
    by_cases h1 : i = a <;> by_cases h2 : i = b <;> simp [h1, h2]
  sym := fun i j => by
    rw [bit_tie ha hb, bit_tie ha hb, W.sym i j]
    congr 1
    generalize decide (i = a) = p
    generalize decide (i = b) = q
    generalize decide (j = a) = r
    generalize decide (j = b) = t
    cases p <;> cases q <;> cases r <;> cases t <;> rfl

theorem getD_replicate (n i : Nat) : (List.replicate n 0).getD i 0 = 0 := by
  simp only [List.getD_eq_getElem?_getD, List.getElem?_replicate]
  split <;> rfl
theorem web_zero {n : Nat} (h1 : 0 < n) (h2 : n ≤ 10) : Web (List.replicate n 0) where
  pos := by simpa using h1
  le := by simpa using h2
  lt := fun i => by rw [getD_replicate]; exact Nat.pow_pos (by decide)
  irr := fun i => by unfold bit; rw [getD_replicate]; exact Nat.zero_testBit i
  sym := fun i j => by unfold bit; rw [getD_replicate, getD_replicate, Nat.zero_testBit, Nat.zero_testBit]

theorem or_split (a b : Nat) : (a ||| b) = (a ^^^ b) + (a &&& b) := by
  induction a using Nat.strongRecOn generalizing b with
  | ind a ih =>
    by_cases h : a = 0
    · subst h; simp
    · have h1 := ih (a / 2) (by omega) (b / 2)
      have e1 := Nat.div_add_mod (a ||| b) 2
      have e2 := Nat.div_add_mod (a ^^^ b) 2
      have e3 := Nat.div_add_mod (a &&& b) 2
      have d1 : (a ||| b) / 2 = a / 2 ||| b / 2 := Nat.or_div_two
      have d2 : (a ^^^ b) / 2 = a / 2 ^^^ b / 2 := Nat.xor_div_two
      have d3 : (a &&& b) / 2 = a / 2 &&& b / 2 := Nat.and_div_two
      have t1 : ((a ||| b) % 2 = 1) ↔ (a % 2 = 1 ∨ b % 2 = 1) := by
        have t := Nat.testBit_or a b 0
        simp only [Nat.testBit_zero] at t
        rw [← decide_eq_true_iff (p := (a ||| b) % 2 = 1), t, Bool.or_eq_true, decide_eq_true_iff, decide_eq_true_iff]
      have t2 : ((a &&& b) % 2 = 1) ↔ (a % 2 = 1 ∧ b % 2 = 1) := by
        have t := Nat.testBit_and a b 0
        simp only [Nat.testBit_zero] at t
        rw [← decide_eq_true_iff (p := (a &&& b) % 2 = 1), t, Bool.and_eq_true, decide_eq_true_iff, decide_eq_true_iff]
      have t3 : ((a ^^^ b) % 2 = 1) ↔ ¬ (a % 2 = 1 ↔ b % 2 = 1) := by
        have t := Nat.testBit_xor a b 0
        simp only [Nat.testBit_zero] at t
        rw [← decide_eq_true_iff (p := (a ^^^ b) % 2 = 1), t]
        by_cases p : a % 2 = 1 <;> by_cases q : b % 2 = 1 <;> simp [p, q]
      rw [d1] at e1
      rw [d2] at e2
      rw [d3] at e3
      revert e1 e2 e3 t1 t2 t3
      generalize (a ||| b) = x
      generalize (a ^^^ b) = y
      generalize (a &&& b) = z
      intro e1 e2 e3 t1 t2 t3
      rw [h1] at e1
      by_cases p : a % 2 = 1 <;> by_cases q : b % 2 = 1 <;> simp only [p, q] at t1 t2 t3 <;> simp at t1 t2 t3 <;> omega

/-! ### sums of powers of two -/
def sumB (P : Nat → Bool) : Nat → Nat
  | 0 => 0
  | n + 1 => sumB P n + (if P n then 2 ^ n else 0)
theorem sumB_lt (P : Nat → Bool) : ∀ n, sumB P n < 2 ^ n
  | 0 => by simp [sumB]
  | n + 1 => by
    have := sumB_lt P n
    rw [sumB, Nat.pow_succ]
    split <;> omega
theorem testBit_sumB (P : Nat → Bool) : ∀ n j, (sumB P n).testBit j = (decide (j < n) && P j)
  | 0, j => by simp [sumB]
  | n + 1, j => by
    have hl := sumB_lt P n
    rw [sumB]
    cases hp : P n with
    | false =>
      rw [if_neg (by decide), Nat.add_zero, testBit_sumB P n j]
      by_cases h : j = n
      · subst h; simp [hp]
      · have : decide (j < n + 1) = decide (j < n) := by
          by_cases h2 : j < n
          · simp [h2]; omega
          · simp [h2]; omega
        rw [this]
    | true =>
      rw [if_pos rfl, Nat.add_comm]
      by_cases h : j = n
      · subst h
        rw [Nat.testBit_two_pow_add_eq, testBit_sumB P j j]
        simp [hp]
      · rcases Nat.lt_or_ge j n with h2 | h2
        · rw [Nat.testBit_two_pow_add_gt h2, testBit_sumB P n j]
          have : decide (j < n + 1) = true := by simp; omega
          rw [this]; simp [h2]
        · have h3 : n < j := by omega
          rw [Nat.testBit_lt_two_pow]
          · have : decide (j < n + 1) = false := by simp; omega
            rw [this]; rfl
          · have : 2 ^ (n + 1) ≤ 2 ^ j := Nat.pow_le_pow_right (by decide) (by omega)
            rw [Nat.pow_succ] at this
            omega
theorem sumB_or (P : Nat → Bool) (n : Nat) : sumB P n ||| 2 ^ n = sumB P n + 2 ^ n := by
  apply Nat.eq_of_testBit_eq
  intro j
  have hl := sumB_lt P n
  rw [Nat.testBit_or, testBit_pow, Nat.add_comm]
  by_cases h : j = n
  · subst h
    rw [Nat.testBit_two_pow_add_eq, testBit_sumB]
    simp
  · have e : decide (n = j) = false := by simp; omega
    rw [e, Bool.or_false]
    rcases Nat.lt_or_ge j n with h2 | h2
    · rw [Nat.testBit_two_pow_add_gt h2]
    · rw [Nat.testBit_lt_two_pow, Nat.testBit_lt_two_pow]
      · have : 2 ^ (n + 1) ≤ 2 ^ j := Nat.pow_le_pow_right (by decide) (by omega)
        rw [Nat.pow_succ] at this
        omega
      · exact Nat.lt_of_lt_of_le hl (Nat.pow_le_pow_right (by decide) h2)
theorem sumB_step (P : Nat → Bool) (n : Nat) : sumB P (n + 1) = if P n then sumB P n ||| 2 ^ n else sumB P n := by
  rw [sumB]
  split
  · rw [sumB_or]
  · rfl
theorem sumB_congr {P P' : Nat → Bool} : ∀ {n}, (∀ j, j < n → P j = P' j) → sumB P n = sumB P' n
  | 0, _ => rfl
  | n + 1, h => by
    rw [sumB, sumB, sumB_congr (n := n) fun j hj => h j (by omega), h n (by omega)]
/-- the sum of a filtered list of powers -/
theorem sum_filter (P : Nat → Bool) : ∀ n, ((((List.range n).filter P).map fun k => ((2 ^ k : Nat) : Int)).sum : Int) = (sumB P n : Nat)
  | 0 => rfl
  | n + 1 => by
    rw [List.range_succ, List.filter_append, List.map_append, List.sum_append, sum_filter P n, sumB]
    cases hp : P n with
    | false => simp [hp]
    | true => simp [hp]

/-! ### turned -/
def turnedM (ws : List Nat) : List Nat := (List.range ws.length).map fun i => (2 ^ ws.length - 1) ^^^ ws.getD i 0 ^^^ 2 ^ i
def dueM (ws : List Nat) : List Nat := (List.range ws.length).map fun i => sumB (fun j => decide (j ≠ i) && !bit ws i j) ws.length
theorem getD_map_range (f : Nat → Nat) (n i : Nat) : ((List.range n).map f).getD i 0 = if i < n then f i else 0 := by
  simp only [List.getD_eq_getElem?_getD, List.getElem?_map]
  by_cases h : i < n
  · simp [h]
  · rw [List.getElem?_eq_none (by simpa using h)]
    simp [h]
theorem testBit_ones (n j : Nat) : (2 ^ n - 1).testBit j = decide (j < n) := by
  rw [Nat.testBit_two_pow_sub_one]
theorem turned_bit {ws : List Nat} (W : Web ws) {i : Nat} (hi : i < ws.length) (j : Nat) :
    ((2 ^ ws.length - 1) ^^^ ws.getD i 0 ^^^ 2 ^ i).testBit j = (decide (j < ws.length) && (decide (j ≠ i) && !bit ws i j)) := by
  rw [Nat.testBit_xor, Nat.testBit_xor, testBit_pow, testBit_ones]
  show (decide (j < ws.length) ^^ bit ws i j ^^ decide (i = j)) = _
  by_cases h : j < ws.length
  · by_cases h2 : j = i
    · subst h2; rw [W.irr]; simp [h]
    · have h3 : ¬ i = j := fun e => h2 e.symm
      cases hb : bit ws i j <;> simp [h, h2, h3]
  · rw [bit_out W.lt (by omega)]
    have h3 : ¬ i = j := by omega
    simp [h, h3]
theorem turned_due {ws : List Nat} (W : Web ws) : turnedM ws = dueM ws := by
  unfold turnedM dueM
  apply List.map_congr_left
  intro i hi
  apply Nat.eq_of_testBit_eq
  intro j
  rw [turned_bit W (List.mem_range.mp hi), testBit_sumB]
theorem turned_length (ws : List Nat) : (turnedM ws).length = ws.length := by simp [turnedM]
theorem bit_turned {ws : List Nat} (W : Web ws) (i j : Nat) :
    bit (turnedM ws) i j = (decide (i < ws.length) && (decide (j < ws.length) && (decide (j ≠ i) && !bit ws i j))) := by
  unfold bit turnedM
  rw [getD_map_range]
  by_cases hi : i < ws.length
  · rw [if_pos hi, turned_bit W hi]
    simp [hi, bit]
  · rw [if_neg hi]
    simp [hi]
theorem Web.turned {ws : List Nat} (W : Web ws) : Web (turnedM ws) where
  pos := by rw [turned_length]; exact W.pos
  le := by rw [turned_length]; exact W.le
  lt := fun i => by
    rw [turned_length, turned_due W]
    unfold dueM
    rw [getD_map_range]
    split
    · exact sumB_lt _ _
    · exact Nat.pow_pos (by decide)
  irr := fun i => by rw [bit_turned W]; simp
  sym := fun i j => by
    rw [bit_turned W, bit_turned W, W.sym i j]
    by_cases h1 : i < ws.length <;> by_cases h2 : j < ws.length <;> by_cases h3 : i = j <;> simp [h1, h2, h3, eq_comm]
theorem turned_turned {ws : List Nat} (W : Web ws) : turnedM (turnedM ws) = ws := by
  have hl : (turnedM (turnedM ws)).length = ws.length := by rw [turned_length, turned_length]
  apply List.ext_getElem? fun i => ?_
  by_cases hi : i < ws.length
  · rw [List.getElem?_eq_getElem (by omega), List.getElem?_eq_getElem hi]
    congr 1
    apply Nat.eq_of_testBit_eq
    intro j
    have e1 : (turnedM (turnedM ws))[i]'(by omega) = (turnedM (turnedM ws)).getD i 0 := by
      rw [List.getD_eq_getElem?_getD, List.getElem?_eq_getElem (by omega)]; rfl
    have e2 : ws[i] = ws.getD i 0 := by
      rw [List.getD_eq_getElem?_getD, List.getElem?_eq_getElem hi]; rfl
    rw [e1, e2]
    show bit (turnedM (turnedM ws)) i j = bit ws i j
    rw [bit_turned W.turned, bit_turned W, turned_length]
    by_cases hj : j < ws.length
    · by_cases h3 : j = i
      · subst h3; rw [W.irr]; simp
      · simp [hi, hj, h3]
    · rw [bit_out W.lt (by omega)]; simp [hj]
  · rw [List.getElem?_eq_none (by omega), List.getElem?_eq_none (by omega)]

/-! ### among -/
def amongM (ws pts : List Nat) : List Nat := pts.map fun p => sumB (fun k => bit ws p (pts.getD k 0)) pts.length


/-! ### what hangs together -/
inductive Conn (ws : List Nat) (s : Nat) : Nat → Prop
  | refl : Conn ws s s
  | step {a b : Nat} : Conn ws s a → bit ws a b = true → Conn ws s b
theorem Conn.trans {ws : List Nat} {a b c : Nat} (h : Conn ws a b) (k : Conn ws b c) : Conn ws a c := by
  induction k with
  | refl => exact h
  | step _ e ih => exact .step ih e
theorem Conn.symm {ws : List Nat} (W : Web ws) {a b : Nat} (h : Conn ws a b) : Conn ws b a := by
  induction h with
  | refl => exact .refl
  | step _ e ih => exact (Conn.step .refl (by rw [W.sym]; exact e)).trans ih
theorem Conn.lt {ws : List Nat} (W : Web ws) {a b : Nat} (ha : a < ws.length) (h : Conn ws a b) : b < ws.length := by
  cases h with
  | refl => exact ha
  | step _ e => exact W.inr e

open Classical in
noncomputable def comp (ws : List Nat) (s : Nat) : List Nat := (List.range ws.length).filter fun b => decide (Conn ws s b)
theorem mem_comp {ws : List Nat} (W : Web ws) {s b : Nat} (hs : s < ws.length) : b ∈ comp ws s ↔ Conn ws s b := by
  unfold comp
  rw [List.mem_filter]
  constructor
  · rintro ⟨_, h⟩
    exact @of_decide_eq_true _ (Classical.propDecidable _) h
  · intro h
    exact ⟨List.mem_range.mpr (h.lt W hs), @decide_eq_true _ (Classical.propDecidable _) h⟩
theorem comp_sorted (ws : List Nat) (s : Nat) : (comp ws s).Pairwise (· < ·) := List.Pairwise.filter _ List.pairwise_lt_range
theorem comp_length (ws : List Nat) (s : Nat) : (comp ws s).length ≤ ws.length := by
  have := List.length_filter_le (fun b => @decide (Conn ws s b) (Classical.propDecidable _)) (List.range ws.length)
  rw [List.length_range] at this
  exact this
theorem comp_lt {ws : List Nat} {s b : Nat} (h : b ∈ comp ws s) : b < ws.length := List.mem_range.mp (List.mem_filter.mp h).1
theorem sorted_ext : ∀ {l l' : List Nat}, l.Pairwise (· < ·) → l'.Pairwise (· < ·) → (∀ x, x ∈ l ↔ x ∈ l') → l = l'
  | [], [], _, _, _ => rfl
  | [], b :: _, _, _, h => by have := (h b).mpr (.head _); cases this
  | a :: _, [], _, _, h => by have := (h a).mp (.head _); cases this
  | a :: l, b :: l', p, p', h => by
    rw [List.pairwise_cons] at p p'
    have e : a = b := by
      have h1 := (h a).mp (.head _)
      have h2 := (h b).mpr (.head _)
      rcases List.mem_cons.mp h1 with e | h1
      · exact e
      · rcases List.mem_cons.mp h2 with e | h2
        · exact e.symm
        · have := p.1 b h2
          have := p'.1 a h1
          omega
    subst e
    rw [sorted_ext p.2 p'.2 fun x => ?_]
    constructor
    · intro hx
      rcases List.mem_cons.mp ((h x).mp (.tail _ hx)) with e | q
      · have := p.1 x hx; omega
      · exact q
    · intro hx
      rcases List.mem_cons.mp ((h x).mpr (.tail _ hx)) with e | q
      · have := p'.1 x hx; omega
      · exact q

/-! the program's walk -/
structure Hang (ws : List Nat) (s : Nat) (reached waiting : List Nat) : Prop where
  st : s ∈ reached
  nd : reached.Nodup
  sub : ∀ p ∈ waiting, p ∈ reached
  con : ∀ p ∈ reached, Conn ws s p
  clo : ∀ p ∈ reached, p ∈ waiting ∨ ∀ q, bit ws p q = true → q ∈ reached
theorem hang_start (ws : List Nat) (s : Nat) : Hang ws s [s] [s] where
  st := List.mem_singleton.mpr rfl
  nd := (by simp)
  sub := fun _ h => h
  con := fun p h => by rw [List.mem_singleton.mp h]; exact .refl
  clo := fun p h => .inl h
/-- within the turn of p: the others below j are looked at -/
structure HangIn (ws : List Nat) (s p j : Nat) (reached waiting : List Nat) : Prop where
  st : s ∈ reached
  nd : reached.Nodup
  sub : ∀ p ∈ waiting, p ∈ reached
  con : ∀ p ∈ reached, Conn ws s p
  clo : ∀ q ∈ reached, q ∈ waiting ∨ q = p ∨ ∀ z, bit ws q z = true → z ∈ reached
  at' : p ∈ reached
  part : ∀ q, q < j → bit ws p q = true → q ∈ reached
theorem Hang.pop {ws : List Nat} {s p : Nat} {reached waiting : List Nat} (h : Hang ws s reached (waiting ++ [p])) : HangIn ws s p 0 reached waiting where
  st := h.st
  nd := h.nd
  sub := fun q hq => h.sub q (List.mem_append_left _ hq)
  con := h.con
  clo := fun q hq => by
    rcases h.clo q hq with z | z
    · rcases List.mem_append.mp z with z | z
      · exact .inl z
      · exact .inr (.inl (List.mem_singleton.mp z))
    · exact .inr (.inr z)
  at' := h.sub p (List.mem_append_right _ (List.mem_singleton.mpr rfl))
  part := fun q hq => absurd hq (Nat.not_lt_zero _)
theorem HangIn.skip {ws : List Nat} {s p j : Nat} {reached waiting : List Nat} (h : HangIn ws s p j reached waiting) (hj : bit ws p j = true → j ∈ reached) : HangIn ws s p (j + 1) reached waiting where
  st := h.st
  nd := h.nd
  sub := h.sub
  con := h.con
  clo := h.clo
  at' := h.at'
  part := fun q hq hb => by
    by_cases e : q = j
    · subst e; exact hj hb
    · exact h.part q (by omega) hb
theorem HangIn.add {ws : List Nat} {s p j : Nat} {reached waiting : List Nat} (h : HangIn ws s p j reached waiting) (hb : bit ws p j = true) (hn : j ∉ reached) : HangIn ws s p (j + 1) (reached ++ [j]) (waiting ++ [j]) where
  st := List.mem_append_left _ h.st
  nd := by
    rw [List.nodup_append]
    exact ⟨h.nd, (by simp), fun a ha b hb' e => hn (by rw [List.mem_singleton.mp hb'] at e; rw [← e]; exact ha)⟩
  sub := fun q hq => by
    rcases List.mem_append.mp hq with z | z
    · exact List.mem_append_left _ (h.sub q z)
    · exact List.mem_append_right _ z
  con := fun q hq => by
    rcases List.mem_append.mp hq with z | z
    · exact h.con q z
    · rw [List.mem_singleton.mp z]; exact .step (h.con p h.at') hb
  clo := fun q hq => by
    rcases List.mem_append.mp hq with z | z
    · rcases h.clo q z with y | y | y
      · exact .inl (List.mem_append_left _ y)
      · exact .inr (.inl y)
      · exact .inr (.inr fun x hx => List.mem_append_left _ (y x hx))
    · exact .inl (List.mem_append_right _ z)
  at' := List.mem_append_left _ h.at'
  part := fun q hq hb' => by
    by_cases e : q = j
    · subst e; exact List.mem_append_right _ (List.mem_singleton.mpr rfl)
    · exact List.mem_append_left _ (h.part q (by omega) hb')
theorem HangIn.done {ws : List Nat} (W : Web ws) {s p : Nat} {reached waiting : List Nat} (h : HangIn ws s p ws.length reached waiting) : Hang ws s reached waiting where
  st := h.st
  nd := h.nd
  sub := h.sub
  con := h.con
  clo := fun q hq => by
    rcases h.clo q hq with y | y | y
    · exact .inl y
    · subst y; exact .inr fun z hz => h.part z (W.inr hz) hz
    · exact .inr y
theorem Hang.lt {ws : List Nat} (W : Web ws) {s : Nat} {reached waiting : List Nat} (hs : s < ws.length) (h : Hang ws s reached waiting) : ∀ p ∈ reached, p < ws.length := fun p hp => (h.con p hp).lt W hs
theorem HangIn.lt {ws : List Nat} (W : Web ws) {s p j : Nat} {reached waiting : List Nat} (hs : s < ws.length) (h : HangIn ws s p j reached waiting) : ∀ p ∈ reached, p < ws.length := fun p hp => (h.con p hp).lt W hs
theorem nodup_length : ∀ {n : Nat} {l : List Nat}, l.Nodup → (∀ p ∈ l, p < n) → l.length ≤ n
  | 0, [], _, _ => Nat.le_refl _
  | 0, a :: _, _, h => absurd (h a (.head _)) (Nat.not_lt_zero _)
  | n + 1, l, nd, h => by
    by_cases hm : n ∈ l
    · have h1 := nodup_length (n := n) (nd.erase n) fun p hp => by
        have := (nd.mem_erase_iff).mp hp
        have := h p this.2
        omega
      rw [List.length_erase_of_mem hm] at h1
      omega
    · have h1 := nodup_length (n := n) nd fun p hp => by
        have := h p hp
        have : p ≠ n := fun e => hm (e ▸ hp)
        omega
      omega
theorem Hang.end {ws : List Nat} (W : Web ws) {s : Nat} {reached : List Nat} (hs : s < ws.length) (h : Hang ws s reached []) : (comp ws s).Perm reached := by
  refine (List.perm_ext_iff_of_nodup ((comp_sorted ws s).imp fun e => Nat.ne_of_lt e) h.nd).mpr fun x => ?_
  rw [mem_comp W hs]
  constructor
  · intro c
    induction c with
    | refl => exact h.st
    | step _ e ih =>
      rcases h.clo _ ih with z | z
      · cases z
      · exact z _ e
  · exact h.con x

/-! the law's rounds -/
def expand (ws left part : List Nat) : List Nat := left.filter fun p => decide (p ∈ part) || part.any fun q => bit ws p q
def rounds (ws left part : List Nat) : Nat → List Nat
  | 0 => part
  | k + 1 => expand ws left (rounds ws left part k)
structure Good (ws left : List Nat) : Prop where
  pw : left.Pairwise (· < ·)
  lt : ∀ p ∈ left, p < ws.length
  clo : ∀ p ∈ left, ∀ q, Conn ws p q → q ∈ left
def PR (ws left : List Nat) (a : Nat) : Nat → Nat → Prop
  | 0, x => x = a
  | k + 1, x => PR ws left a k x ∨ ∃ q ∈ left, PR ws left a k q ∧ bit ws x q = true
theorem mem_rounds {ws left : List Nat} {a : Nat} (ha : a ∈ left) : ∀ (k x : Nat), x ∈ rounds ws left [a] k ↔ (x ∈ left ∧ PR ws left a k x)
  | 0, x => by
    show x ∈ [a] ↔ (x ∈ left ∧ x = a)
    rw [List.mem_singleton]
    exact ⟨fun e => ⟨by rw [e]; exact ha, e⟩, fun e => e.2⟩
  | k + 1, x => by
    have ih := mem_rounds (ws := ws) ha k
    show x ∈ expand ws left (rounds ws left [a] k) ↔ _
    unfold expand
    rw [List.mem_filter, Bool.or_eq_true, decide_eq_true_eq, List.any_eq_true]
    constructor
    · rintro ⟨h1, h2 | ⟨q, hq, hb⟩⟩
      · exact ⟨h1, .inl ((ih x).mp h2).2⟩
      · exact ⟨h1, .inr ⟨q, ((ih q).mp hq).1, ((ih q).mp hq).2, hb⟩⟩
    · rintro ⟨h1, h2 | ⟨q, hq, hp, hb⟩⟩
      · exact ⟨h1, .inl ((ih x).mpr ⟨h1, h2⟩)⟩
      · exact ⟨h1, .inr ⟨q, (ih q).mpr ⟨hq, hp⟩, hb⟩⟩
open Classical in
theorem filter_grow {l : List Nat} {P Q : Nat → Prop} (h : ∀ x, P x → Q x) {x : Nat} (hx : x ∈ l) (hq : Q x) (hp : ¬ P x) :
    (l.filter fun x => decide (P x)).length < (l.filter fun x => decide (Q x)).length := by
  have e : l.filter (fun x => decide (P x)) = (l.filter fun x => decide (Q x)).filter fun x => decide (P x) := by
    rw [List.filter_filter]
    apply List.filter_congr
    intro y _
    by_cases h1 : P y
    · simp [h1, h y h1]
    · simp [h1]
  rw [e]
  exact List.length_filter_lt_length_iff_exists.mpr ⟨x, List.mem_filter.mpr ⟨hx, decide_eq_true hq⟩, by simpa using hp⟩
def Shut (ws left : List Nat) (P : Nat → Prop) : Prop := ∀ x ∈ left, ∀ q ∈ left, P q → bit ws x q = true → P x
open Classical in
theorem grows {ws left : List Nat} {a : Nat} (ha : a ∈ left) : ∀ k, Shut ws left (PR ws left a k) ∨ k + 1 ≤ (left.filter fun x => decide (PR ws left a k x)).length
  | 0 => .inr (List.length_pos_of_mem (List.mem_filter.mpr ⟨ha, decide_eq_true rfl⟩))
  | k + 1 => by
    by_cases h : Shut ws left (PR ws left a k)
    · refine .inl fun x hx q hq pq hb => ?_
      rcases pq with pq | ⟨z, hz, pz, hb'⟩
      · exact .inl (h x hx q hq pq hb)
      · exact .inl (h x hx q hq (h q hq z hz pz hb') hb)
    · rcases grows (ws := ws) ha k with z | z
      · exact absurd z h
      · refine .inr ?_
        unfold Shut at h
        simp only [Classical.not_forall] at h
        obtain ⟨x, hx, q, hq, pq, hb, np⟩ := h
        have := filter_grow (l := left) (P := PR ws left a k) (Q := PR ws left a (k + 1)) (fun _ h => .inl h) hx (.inr ⟨q, hq, pq, hb⟩) np
        omega
open Classical in
theorem rounds_comp {ws left : List Nat} (W : Web ws) (G : Good ws left) {a : Nat} (ha : a ∈ left) : rounds ws left [a] ws.length = comp ws a := by
  have hs : Shut ws left (PR ws left a ws.length) := by
    rcases grows (ws := ws) ha ws.length with z | z
    · exact z
    · have h1 := List.length_filter_le (fun x => decide (PR ws left a ws.length x)) left
      have h2 := nodup_length (G.pw.imp fun e => Nat.ne_of_lt e) G.lt
      omega
  have hsub : ∀ k x, PR ws left a k x → Conn ws a x := by
    intro k
    induction k with
    | zero => intro x h; have e : x = a := h; subst e; exact .refl
    | succ k ih =>
      rintro x (h | ⟨q, _, pq, hb⟩)
      · exact ih x h
      · exact .step (ih q pq) (by rw [W.sym]; exact hb)
  have h0 : ∀ k, PR ws left a k a := by
    intro k
    induction k with
    | zero => exact rfl
    | succ k ih => exact .inl ih
  have pos : ∃ k, ws.length = k + 1 := ⟨ws.length - 1, by have := W.pos; omega⟩
  have srt : (rounds ws left [a] ws.length).Pairwise (· < ·) := by
    obtain ⟨k, e⟩ := pos
    rw [e]
    exact List.Pairwise.filter _ G.pw
  refine sorted_ext srt (comp_sorted ws a) fun x => ?_
  rw [mem_rounds ha, mem_comp W (G.lt a ha)]
  constructor
  · intro h; exact hsub _ x h.2
  · intro c
    have : x ∈ left ∧ PR ws left a ws.length x := by
      induction c with
      | refl => exact ⟨ha, h0 _⟩
      | step c e ih => exact ⟨G.clo a ha _ (.step c e), hs _ (G.clo a ha _ (.step c e)) _ ih.1 ih.2 (by rw [W.sym]; exact e)⟩
    exact this
theorem good_range {ws : List Nat} (W : Web ws) : Good ws (List.range ws.length) where
  pw := List.pairwise_lt_range
  lt := fun _ h => List.mem_range.mp h
  clo := fun _ h _ c => List.mem_range.mpr (c.lt W (List.mem_range.mp h))
theorem Good.next {ws left : List Nat} (W : Web ws) (G : Good ws left) {a : Nat} (ha : a ∈ left) : Good ws (left.filter fun p => !decide (p ∈ comp ws a)) where
  pw := List.Pairwise.filter _ G.pw
  lt := fun p h => G.lt p (List.mem_filter.mp h).1
  clo := fun p h q c => by
    obtain ⟨h1, h2⟩ := List.mem_filter.mp h
    refine List.mem_filter.mpr ⟨G.clo p h1 q c, ?_⟩
    simp only [Bool.not_eq_true', decide_eq_false_iff_not] at h2 ⊢
    rw [mem_comp W (G.lt a ha)] at h2 ⊢
    exact fun z => h2 (z.trans (c.symm W))
/-- the point is the least that hangs with it -/
def headed (ws : List Nat) (p : Nat) : Prop := (comp ws p).head? = some p
theorem headed_iff {ws : List Nat} (W : Web ws) {p : Nat} (hp : p < ws.length) : headed ws p ↔ ∀ q, Conn ws p q → p ≤ q := by
  unfold headed
  have srt := comp_sorted ws p
  have hm : p ∈ comp ws p := (mem_comp W hp).mpr .refl
  have hq : ∀ q, q ∈ comp ws p ↔ Conn ws p q := fun q => mem_comp W hp
  revert srt hm hq
  generalize comp ws p = l
  intro srt hm hq
  cases l with
  | nil => cases hm
  | cons b r =>
    rw [List.pairwise_cons] at srt
    simp only [List.head?_cons, Option.some.injEq]
    constructor
    · rintro rfl q c
      rcases List.mem_cons.mp ((hq q).mpr c) with e | z
      · omega
      · have := srt.1 q z; omega
    · intro h
      have h1 := h b ((hq b).mp (.head _))
      rcases List.mem_cons.mp hm with e | z
      · exact e.symm
      · have := srt.1 p z; omega
noncomputable instance (ws : List Nat) (p : Nat) : Decidable (headed ws p) := by unfold headed; infer_instance
noncomputable def partsM (ws : List Nat) : List (List Nat) := ((List.range ws.length).filter fun p => decide (headed ws p)).map (comp ws)
theorem parts_step {ws : List Nat} (W : Web ws) {a : Nat} {r : List Nat} (G : Good ws (a :: r)) :
    ((a :: r).filter fun p => decide (headed ws p)) = a :: ((a :: r).filter fun p => !decide (p ∈ comp ws a)).filter fun p => decide (headed ws p) := by
  have ha : a ∈ a :: r := .head _
  have pw := G.pw
  rw [List.pairwise_cons] at pw
  have hh : headed ws a := (headed_iff W (G.lt a ha)).mpr fun q c => by
    rcases List.mem_cons.mp (G.clo a ha q c) with e | z
    · omega
    · exact Nat.le_of_lt (pw.1 q z)
  have hn : ¬ (!decide (a ∈ comp ws a)) = true := by simp [(mem_comp W (G.lt a ha)).mpr .refl]
  rw [List.filter_cons_of_pos (by simpa using hh), List.filter_cons_of_neg (p := fun p => !decide (p ∈ comp ws a)) hn, List.filter_filter]
  congr 1
  apply List.filter_congr
  intro p hp
  by_cases h : p ∈ comp ws a
  · have c := (mem_comp W (G.lt a ha)).mp h
    have : ¬ headed ws p := fun z => by
      have := (headed_iff W (G.lt p (.tail _ hp))).mp z a (c.symm W)
      have := pw.1 p hp
      omega
    simp [this]
  · simp [h]
end Bw

/-! Plain webs: no four points in a row. Mathematics alone. -/
namespace Bw

/-- four points in a row -/
def Row4 (adj : Nat → Nat → Bool) (a b c d : Nat) : Prop :=
  adj a b = true ∧ adj b c = true ∧ adj c d = true ∧ adj a c = false ∧ adj a d = false ∧ adj b d = false
def NoRow (adj : Nat → Nat → Bool) (S : List Nat) : Prop := ∀ a ∈ S, ∀ b ∈ S, ∀ c ∈ S, ∀ d ∈ S, a ≠ c → a ≠ d → b ≠ d → ¬ Row4 adj a b c d
/-- ties turned -/
def co (adj : Nat → Nat → Bool) (x y : Nat) : Bool := !adj x y && decide (x ≠ y)
structure Sym (adj : Nat → Nat → Bool) : Prop where
  sym : ∀ x y, adj x y = adj y x
  irr : ∀ x, adj x x = false
theorem Sym.co {adj : Nat → Nat → Bool} (A : Sym adj) : Sym (co adj) where
  sym := fun x y => by
    unfold Bw.co
    rw [A.sym x y]
    by_cases h : x = y
    · subst h; rfl
    · have h' : ¬ y = x := fun z => h z.symm
      simp [h, h']
  irr := fun x => by simp [Bw.co]
theorem co_ne {adj : Nat → Nat → Bool} {x y : Nat} (h : x ≠ y) : co adj x y = !adj x y := by simp [co, h]
theorem adj_ne {adj : Nat → Nat → Bool} (A : Sym adj) {x y : Nat} (h : adj x y = true) : x ≠ y := fun z => by
  rw [z, A.irr] at h
  cases h
/-- a row turned is a row -/
theorem NoRow.co {adj : Nat → Nat → Bool} (A : Sym adj) {S : List Nat} (N : NoRow adj S) : NoRow (co adj) S := by
  intro a ha b hb c hc d hd n1 n2 n3 ⟨h1, h2, h3, h4, h5, h6⟩
  have ab := adj_ne A.co h1
  have bc := adj_ne A.co h2
  have cd := adj_ne A.co h3
  rw [co_ne ab] at h1
  rw [co_ne bc] at h2
  rw [co_ne cd] at h3
  rw [co_ne n1] at h4
  rw [co_ne n2] at h5
  rw [co_ne n3] at h6
  -- b d, d a, a c in a row: b - d - a - c
  refine N b hb d hd a ha c hc (Ne.symm ab) bc (Ne.symm cd) ⟨?_, ?_, ?_, ?_, ?_, ?_⟩
  · simpa using h6
  · rw [A.sym]; simpa using h5
  · simpa using h4
  · rw [A.sym]; simpa using h1
  · simpa using h2
  · rw [A.sym]; simpa using h3
theorem NoRow.mono {adj : Nat → Nat → Bool} {S T : List Nat} (N : NoRow adj S) (h : ∀ x ∈ T, x ∈ S) : NoRow adj T :=
  fun a ha b hb c hc d hd => N a (h a ha) b (h b hb) c (h c hc) d (h d hd)
/-- S falls into two without ties between -/
def Split (adj : Nat → Nat → Bool) (S : List Nat) : Prop := ∃ f : Nat → Bool, (∃ x ∈ S, f x = true) ∧ (∃ y ∈ S, f y = false) ∧ ∀ x ∈ S, ∀ y ∈ S, f x = true → f y = false → adj x y = false

/-- one point more: where the rest falls into two -/
theorem split_step {adj : Nat → Nat → Bool} (A : Sym adj) {v : Nat} {S : List Nat} (hv : v ∉ S) (N : NoRow adj (v :: S)) (h : Split adj S) : Split adj (v :: S) ∨ Split (co adj) (v :: S) := by
  obtain ⟨f, ⟨x0, hx0, fx0⟩, ⟨y0, hy0, fy0⟩, hf⟩ := h
  have nev : ∀ z ∈ S, z ≠ v := fun z hz e => hv (e ▸ hz)
  by_cases hall : ∀ z ∈ S, adj v z = true
  · -- v is tied to all: turned, v stands alone
    refine .inr ⟨fun z => decide (z = v), ⟨v, .head _, by simp⟩, ⟨x0, .tail _ hx0, by simpa using nev x0 hx0⟩, ?_⟩
    intro x hx y hy hfx hfy
    have ex : x = v := by simpa using hfx
    have ey : y ≠ v := by simpa using hfy
    subst ex
    rcases List.mem_cons.mp hy with e | hy
    · exact absurd e ey
    · rw [co_ne (Ne.symm ey), hall y hy]; rfl
  · -- some z0 is not tied to v; g: its side
    have : ∃ z ∈ S, adj v z = false := by
      refine Classical.byContradiction fun hn => hall fun z hz => ?_
      cases q : adj v z with
      | true => rfl
      | false => exact absurd ⟨z, hz, q⟩ hn
    obtain ⟨z0, hz0, az0⟩ := this
    -- the side of z0
    have side : ∀ g : Nat → Bool, (∀ x ∈ S, ∀ y ∈ S, g x = true → g y = false → adj x y = false) → g z0 = true → (∃ w ∈ S, g w = false) → Split adj (v :: S) := by
      intro g hg gz0 ⟨w0, hw0, gw0⟩
      by_cases hz : ∃ z ∈ S, g z = false ∧ adj v z = true
      · obtain ⟨z, hz, gz, avz⟩ := hz
        -- the points of that side that are not tied to v
        refine ⟨fun x => g x && (!adj v x && decide (x ≠ v)), ⟨z0, .tail _ hz0, by simp [gz0, az0, nev z0 hz0]⟩, ⟨v, .head _, by simp⟩, ?_⟩
        intro x hx y hy hfx hfy
        simp only [Bool.and_eq_true, Bool.not_eq_true', decide_eq_true_eq] at hfx
        obtain ⟨gx, avx, nx⟩ := hfx
        have hx' : x ∈ S := (List.mem_cons.mp hx).resolve_left nx
        rcases List.mem_cons.mp hy with e | hy
        · subst e; rw [A.sym]; exact avx
        · have ny := nev y hy
          cases gy : g y with
          | false => exact hg x hx' y hy gx gy
          | true =>
            have avy : adj v y = true := by
              dsimp only at hfy
              rw [gy] at hfy
              simp only [Bool.true_and, Bool.and_eq_false_iff, Bool.not_eq_false', decide_eq_false_iff_not, Decidable.not_not] at hfy
              rcases hfy with h | h
              · exact h
              · exact absurd h ny
            cases q : adj x y with
            | false => rfl
            | true =>
              exfalso
              -- x - y - v - z
              have xz := hg x hx' z hz gx gz
              have yz := hg y hy z hz gy gz
              have n1 : x ≠ z := fun e => by rw [e, gz] at gx; cases gx
              have n2 : y ≠ z := fun e => by rw [e, gz] at gy; cases gy
              exact N x (.tail _ hx') y (.tail _ hy) v (.head _) z (.tail _ hz) nx n1 n2 ⟨q, by rw [A.sym]; exact avy, avz, by rw [A.sym]; exact avx, xz, yz⟩
      · -- v is not tied to the other side at all
        refine ⟨fun x => g x || decide (x = v), ⟨v, .head _, by simp⟩, ⟨w0, .tail _ hw0, by simp [gw0, nev w0 hw0]⟩, ?_⟩
        intro x hx y hy hfx hfy
        simp only [Bool.or_eq_false_iff, decide_eq_false_iff_not] at hfy
        obtain ⟨gy, ny⟩ := hfy
        have hy' : y ∈ S := (List.mem_cons.mp hy).resolve_left ny
        rcases List.mem_cons.mp hx with e | hx'
        · subst e
          cases q : adj x y with
          | false => rfl
          | true => exact absurd ⟨y, hy', gy, q⟩ hz
        · have nx := nev x hx'
          have gx : g x = true := by simpa [nx] using hfx
          exact hg x hx' y hy' gx gy
    cases q : f z0 with
    | true => exact .inl (side f hf q ⟨y0, hy0, fy0⟩)
    | false => exact .inl (side (fun x => !f x) (fun x hx y hy gx gy => by rw [A.sym]; exact hf y hy x hx (by simpa using gy) (by simpa using gx)) (by simp [q]) ⟨x0, hx0, by simp [fx0]⟩)

theorem co_co {adj : Nat → Nat → Bool} (A : Sym adj) : co (co adj) = adj := by
  funext x y
  by_cases h : x = y
  · subst h; rw [A.irr]; simp [co]
  · rw [co_ne h, co_ne h, Bool.not_not]

/-- a plain web of two points or more falls into two, or does so turned -/
theorem plain_split {adj : Nat → Nat → Bool} (A : Sym adj) : ∀ (S : List Nat), S.Nodup → 2 ≤ S.length → NoRow adj S → Split adj S ∨ Split (co adj) S
  | [], _, h, _ => by simp at h
  | [_], _, h, _ => by simp at h
  | [v, w], nd, _, _ => by
    have hvw : v ≠ w := by
      rw [List.nodup_cons] at nd
      exact fun e => nd.1 (by rw [e]; exact .head _)
    have nwv : ¬ w = v := fun z => hvw z.symm
    have two : ∀ ad : Nat → Nat → Bool, Sym ad → ad v w = false → Split ad [v, w] := fun ad B h => by
      refine ⟨fun x => decide (x = v), ⟨v, .head _, by simp⟩, ⟨w, .tail _ (.head _), by simp [nwv]⟩, ?_⟩
      intro x hx y hy fx fy
      have ex : x = v := by simpa using fx
      have ey : y ≠ v := by simpa using fy
      have ey' : y = w := by
        rcases List.mem_cons.mp hy with e | hy
        · exact absurd e ey
        · simpa using hy
      rw [ex, ey']; exact h
    cases q : adj v w with
    | false => exact .inl (two adj A q)
    | true => exact .inr (two (co adj) A.co (by rw [co_ne hvw, q]; rfl))
  | v :: w :: x :: S, nd, _, N => by
    rw [List.nodup_cons] at nd
    rcases plain_split A (w :: x :: S) nd.2 (by simp) (N.mono fun y hy => .tail _ hy) with h | h
    · exact split_step A nd.1 N h
    · have := split_step A.co nd.1 (N.co A) h
      rw [co_co A] at this
      exact this.symm

/-! ### twins -/
/-- x and y are tied to the same others of S -/
def Twins (adj : Nat → Nat → Bool) (S : List Nat) (x y : Nat) : Prop := ∀ z ∈ S, z ≠ x → z ≠ y → adj x z = adj y z
theorem Twins.of_co {adj : Nat → Nat → Bool} (_ : Sym adj) {S : List Nat} {x y : Nat} (h : Twins (co adj) S x y) : Twins adj S x y := fun z hz h1 h2 => by
  have := h z hz h1 h2
  rw [co_ne (Ne.symm h1), co_ne (Ne.symm h2)] at this
  cases q : adj x z <;> cases r : adj y z <;> rw [q, r] at this <;> first | rfl | cases this
theorem plain_twins_aux : ∀ (n : Nat) {adj : Nat → Nat → Bool} (_ : Sym adj) (S : List Nat), S.length ≤ n → S.Nodup → 2 ≤ S.length → NoRow adj S → ∃ x ∈ S, ∃ y ∈ S, x ≠ y ∧ Twins adj S x y
  | 0, _, _, S, hn, _, h2, _ => by omega
  | n + 1, adj, A, S, hn, nd, h2, N => by
    -- by a split of S under ad (adj itself or turned)
    have key : ∀ ad : Nat → Nat → Bool, Sym ad → NoRow ad S → Split ad S → ∃ x ∈ S, ∃ y ∈ S, x ≠ y ∧ Twins ad S x y := by
      intro ad B M ⟨f, ⟨x0, hx0, fx0⟩, ⟨y0, hy0, fy0⟩, hf⟩
      have part : ∀ g : Nat → Bool, (∀ x ∈ S, ∀ y ∈ S, g x = true → g y = false → ad x y = false) → (∃ w ∈ S, g w = false) → 2 ≤ (S.filter g).length → ∃ x ∈ S, ∃ y ∈ S, x ≠ y ∧ Twins ad S x y := by
        intro g hg ⟨w, hw, gw⟩ hl
        have hlt : (S.filter g).length < S.length := List.length_filter_lt_length_iff_exists.mpr ⟨w, hw, by simp [gw]⟩
        obtain ⟨x, hx, y, hy, hxy, t⟩ := plain_twins_aux n B (S.filter g) (by omega) (nd.filter g) hl (M.mono fun z hz => (List.mem_filter.mp hz).1)
        obtain ⟨hx1, hx2⟩ := List.mem_filter.mp hx
        obtain ⟨hy1, hy2⟩ := List.mem_filter.mp hy
        refine ⟨x, hx1, y, hy1, hxy, fun z hz h1 h2 => ?_⟩
        cases q : g z with
        | true => exact t z (List.mem_filter.mpr ⟨hz, q⟩) h1 h2
        | false => rw [hg x hx1 z hz hx2 q, hg y hy1 z hz hy2 q]
      by_cases c1 : 2 ≤ (S.filter f).length
      · exact part f hf ⟨y0, hy0, fy0⟩ c1
      · by_cases c2 : 2 ≤ (S.filter fun x => !f x).length
        · exact part (fun x => !f x) (fun x hx y hy gx gy => by rw [B.sym]; exact hf y hy x hx (by simpa using gy) (by simpa using gx)) ⟨x0, hx0, by simp [fx0]⟩ c2
        · -- one point on either side
          have one : ∀ (l : List Nat) (a : Nat), a ∈ l → ¬ 2 ≤ l.length → ∀ z ∈ l, z = a := by
            intro l a ha hl z hz
            match l, ha, hl, hz with
            | [b], ha, _, hz =>
              rw [List.mem_singleton.mp ha, List.mem_singleton.mp hz]
            | b :: c :: t, _, hl, _ => exact absurd (by simp) hl
          have nxy : x0 ≠ y0 := fun e => by rw [e, fy0] at fx0; cases fx0
          refine ⟨x0, hx0, y0, hy0, nxy, fun z hz h1 h2 => ?_⟩
          exfalso
          cases q : f z with
          | true => exact h1 (one _ x0 (List.mem_filter.mpr ⟨hx0, fx0⟩) c1 z (List.mem_filter.mpr ⟨hz, q⟩))
          | false => exact h2 (one _ y0 (List.mem_filter.mpr ⟨hy0, by simp [fy0]⟩) c2 z (List.mem_filter.mpr ⟨hz, by simp [q]⟩))
    rcases plain_split A S nd h2 N with h | h
    · exact key adj A N h
    · obtain ⟨x, hx, y, hy, hxy, t⟩ := key (co adj) A.co (N.co A) h
      exact ⟨x, hx, y, hy, hxy, t.of_co A⟩
/-- a plain web of two points or more has twins -/
theorem plain_twins {adj : Nat → Nat → Bool} (A : Sym adj) (S : List Nat) (nd : S.Nodup) (h2 : 2 ≤ S.length) (N : NoRow adj S) : ∃ x ∈ S, ∃ y ∈ S, x ≠ y ∧ Twins adj S x y :=
  plain_twins_aux S.length A S (Nat.le_refl _) nd h2 N
/-- a twin more makes no row -/
theorem NoRow.twin {adj : Nat → Nat → Bool} (A : Sym adj) {S : List Nat} {x y : Nat} (hx : x ∈ S) (hy : y ∈ S) (hxy : x ≠ y) (t : Twins adj S x y) (N : NoRow adj (S.filter fun z => decide (z ≠ x))) : NoRow adj S := by
  intro a ha b hb c hc d hd n1 n2 n3 ⟨h1, h2, h3, h4, h5, h6⟩
  have ab := adj_ne A h1
  have bc := adj_ne A h2
  have cd := adj_ne A h3
  have mem : ∀ z, z ∈ S → z ≠ x → z ∈ S.filter fun z => decide (z ≠ x) := fun z hz h => List.mem_filter.mpr ⟨hz, by simpa using h⟩
  have my : y ∈ S.filter fun z => decide (z ≠ x) := mem y hy (Ne.symm hxy)
  -- y in the place of x
  have tx : ∀ z ∈ S, z ≠ x → z ≠ y → adj x z = adj y z := t
  by_cases ea : a = x
  · subst ea
    by_cases ey : b = y ∨ c = y ∨ d = y
    · rcases ey with e | e | e
      · subst e
        have := tx c hc (Ne.symm n1) (Ne.symm bc)
        rw [h4, h2] at this; cases this
      · subst e
        have := tx b hb (Ne.symm ab) bc
        rw [h1, A.sym c b, h2] at this
        have := tx d hd (Ne.symm n2) (Ne.symm cd)
        rw [h5, h3] at this; cases this
      · subst e
        have := tx b hb (Ne.symm ab) n3
        rw [h1, A.sym d b, h6] at this; cases this
    · have eb : b ≠ y := fun e => ey (.inl e)
      have ec : c ≠ y := fun e => ey (.inr (.inl e))
      have ed : d ≠ y := fun e => ey (.inr (.inr e))
      exact N y my b (mem b hb (Ne.symm ab)) c (mem c hc (Ne.symm n1)) d (mem d hd (Ne.symm n2)) (Ne.symm ec) (Ne.symm ed) n3
        ⟨by rw [← tx b hb (Ne.symm ab) eb]; exact h1, h2, h3, by rw [← tx c hc (Ne.symm n1) ec]; exact h4, by rw [← tx d hd (Ne.symm n2) ed]; exact h5, h6⟩
  · by_cases eb : b = x
    · subst eb
      by_cases ey : a = y ∨ c = y ∨ d = y
      · rcases ey with e | e | e
        · subst e
          have := tx c hc (Ne.symm bc) (Ne.symm n1)
          rw [h2, h4] at this; cases this
        · subst e
          have := tx d hd (Ne.symm n3) (Ne.symm cd)
          rw [h6, h3] at this; cases this
        · subst e
          have := tx a ha ab n2
          rw [A.sym b a, h1, A.sym d a, h5] at this; cases this
      · have e1 : a ≠ y := fun e => ey (.inl e)
        have e2 : c ≠ y := fun e => ey (.inr (.inl e))
        have e3 : d ≠ y := fun e => ey (.inr (.inr e))
        exact N a (mem a ha ea) y my c (mem c hc (Ne.symm bc)) d (mem d hd (Ne.symm n3)) n1 n2 (Ne.symm e3)
          ⟨by rw [A.sym, ← tx a ha ab e1, A.sym]; exact h1, by rw [← tx c hc (Ne.symm bc) e2]; exact h2, h3, h4, h5, by rw [← tx d hd (Ne.symm n3) e3]; exact h6⟩
    · by_cases ec : c = x
      · subst ec
        by_cases ey : a = y ∨ b = y ∨ d = y
        · rcases ey with e | e | e
          · subst e
            have := tx d hd (Ne.symm cd) (Ne.symm n2)
            rw [h3, h5] at this; cases this
          · subst e
            have := tx a ha n1 ab
            rw [A.sym c a, h4, A.sym b a, h1] at this; cases this
          · subst e
            have := tx b hb bc n3
            rw [A.sym c b, h2, A.sym d b, h6] at this; cases this
        · have e1 : a ≠ y := fun e => ey (.inl e)
          have e2 : b ≠ y := fun e => ey (.inr (.inl e))
          have e3 : d ≠ y := fun e => ey (.inr (.inr e))
          exact N a (mem a ha ea) b (mem b hb eb) y my d (mem d hd (Ne.symm cd)) e1 n2 n3
            ⟨h1, by rw [A.sym, ← tx b hb bc e2, A.sym]; exact h2, by rw [← tx d hd (Ne.symm cd) e3]; exact h3, by rw [A.sym, ← tx a ha n1 e1, A.sym]; exact h4, h5, h6⟩
      · by_cases ed : d = x
        · subst ed
          by_cases ey : a = y ∨ b = y ∨ c = y
          · rcases ey with e | e | e
            · subst e
              have := tx c hc cd (Ne.symm n1)
              rw [A.sym d c, h3, h4] at this; cases this
            · subst e
              have := tx a ha n2 ab
              rw [A.sym d a, h5, A.sym b a, h1] at this; cases this
            · subst e
              have := tx b hb n3 bc
              rw [A.sym d b, h6, A.sym c b, h2] at this; cases this
          · have e1 : a ≠ y := fun e => ey (.inl e)
            have e2 : b ≠ y := fun e => ey (.inr (.inl e))
            have e3 : c ≠ y := fun e => ey (.inr (.inr e))
            exact N a (mem a ha ea) b (mem b hb eb) c (mem c hc ec) y my n1 e1 e2
              ⟨h1, h2, by rw [A.sym, ← tx c hc cd e3, A.sym]; exact h3, h4, by rw [A.sym, ← tx a ha n2 e1, A.sym]; exact h5, by rw [A.sym, ← tx b hb n3 e2, A.sym]; exact h6⟩
        · exact N a (mem a ha ea) b (mem b hb eb) c (mem c hc ec) d (mem d hd ed) n1 n2 n3 ⟨h1, h2, h3, h4, h5, h6⟩
end Bw

set_option Elab.async false
set_option linter.all false
/-! What is told of a web: rows, trees by parting. Mathematics alone. -/
namespace Bw
theorem Web.adj {ws : List Nat} (W : Web ws) : Sym (bit ws) := ⟨W.sym, W.irr⟩

/-! ### rows -/
def goesM (ws row : List Nat) (p : Nat) : Bool := decide (row.filter (fun o => bit ws p o) = row.drop (row.length - 1))
def longerM (ws : List Nat) (rows : List (List Nat)) : List (List Nat) := rows.flatMap fun row => ((List.range ws.length).filter (goesM ws row)).map fun p => row ++ [p]
def stepsM (ws : List Nat) : Nat → List (List Nat)
  | 0 => [[]]
  | k + 1 => longerM ws (stepsM ws k)
theorem mem_longer {ws : List Nat} {rows : List (List Nat)} {r : List Nat} : r ∈ longerM ws rows ↔ ∃ row ∈ rows, ∃ p, p < ws.length ∧ goesM ws row p = true ∧ r = row ++ [p] := by
  unfold longerM
  rw [List.mem_flatMap]
  constructor
  · rintro ⟨row, h1, h2⟩
    obtain ⟨p, h3, rfl⟩ := List.mem_map.mp h2
    obtain ⟨h4, h5⟩ := List.mem_filter.mp h3
    exact ⟨row, h1, p, List.mem_range.mp h4, h5, rfl⟩
  · rintro ⟨row, h1, p, h2, h3, rfl⟩
    exact ⟨row, h1, List.mem_map.mpr ⟨p, List.mem_filter.mpr ⟨List.mem_range.mpr h2, h3⟩, rfl⟩⟩
theorem longer_len (ws : List Nat) : ∀ rows : List (List Nat), (longerM ws rows).length ≤ ws.length * rows.length
  | [] => by simp [longerM]
  | row :: rows => by
    have ih := longer_len ws rows
    have e : longerM ws (row :: rows) = (((List.range ws.length).filter (goesM ws row)).map fun p => row ++ [p]) ++ longerM ws rows := by
      unfold longerM
      rw [List.flatMap_cons]
    rw [e, List.length_append, List.length_map, List.length_cons, Nat.mul_succ]
    have := List.length_filter_le (goesM ws row) (List.range ws.length)
    rw [List.length_range] at this
    omega
theorem steps_len {ws : List Nat} (h : ws.length ≤ 10) : ∀ k, (stepsM ws k).length ≤ 10 ^ k
  | 0 => by simp [stepsM]
  | k + 1 => by
    have ih := steps_len h k
    have := longer_len ws (stepsM ws k)
    show (longerM ws (stepsM ws k)).length ≤ _
    have h2 : ws.length * (stepsM ws k).length ≤ 10 * 10 ^ k := Nat.mul_le_mul h ih
    rw [Nat.pow_succ]
    omega
theorem steps_row {ws : List Nat} : ∀ k r, r ∈ stepsM ws k → r.length = k ∧ ∀ p ∈ r, p < ws.length
  | 0, r, h => by
    have e : r = [] := by simpa [stepsM] using h
    subst e
    exact ⟨rfl, fun p hp => by cases hp⟩
  | k + 1, r, h => by
    obtain ⟨row, h1, p, h2, h3, rfl⟩ := mem_longer.mp h
    obtain ⟨h4, h5⟩ := steps_row k row h1
    refine ⟨by rw [List.length_append, h4]; rfl, fun q hq => ?_⟩
    rcases List.mem_append.mp hq with z | z
    · exact h5 q z
    · rw [List.mem_singleton.mp z]; exact h2
/-- four points in a row, of the web -/
def FourM (ws : List Nat) (a b c d : Nat) : Prop := a < ws.length ∧ b < ws.length ∧ c < ws.length ∧ d < ws.length ∧ a ≠ c ∧ a ≠ d ∧ b ≠ d ∧ Row4 (bit ws) a b c d
theorem goes_0 (ws : List Nat) (p : Nat) : goesM ws [] p = true := by simp [goesM]
theorem goes_1 (ws : List Nat) (a p : Nat) : goesM ws [a] p = bit ws p a := by
  unfold goesM
  cases h : bit ws p a <;> simp [h]
theorem goes_2 (ws : List Nat) {a b p : Nat} (h : a ≠ b) : goesM ws [a, b] p = (!bit ws p a && bit ws p b) := by
  unfold goesM
  cases h1 : bit ws p a <;> cases h2 : bit ws p b <;> simp [h1, h2, h]
theorem goes_3 (ws : List Nat) {a b c p : Nat} (hb : b ≠ c) : goesM ws [a, b, c] p = (!bit ws p a && !bit ws p b && bit ws p c) := by
  unfold goesM
  cases h1 : bit ws p a <;> cases h2 : bit ws p b <;> cases h3 : bit ws p c <;> simp [h1, h2, h3, hb]
  all_goals (intro z; rw [z] at h1; rw [h1] at h3; cases h3)
theorem mem_steps4 {ws : List Nat} (W : Web ws) {r : List Nat} : r ∈ stepsM ws 4 ↔ ∃ a b c d, r = [a, b, c, d] ∧ FourM ws a b c d := by
  constructor
  · intro h
    obtain ⟨r3, h3, d, hd, gd, rfl⟩ := mem_longer.mp h
    obtain ⟨r2, h2, c, hc, gc, rfl⟩ := mem_longer.mp h3
    obtain ⟨r1, h1, b, hb, gb, rfl⟩ := mem_longer.mp h2
    obtain ⟨r0, h0, a, ha, ga, rfl⟩ := mem_longer.mp h1
    have e : r0 = [] := by simpa [stepsM] using h0
    subst e
    simp only [List.nil_append, List.cons_append] at gb gc gd ⊢
    rw [goes_1] at gb
    have nab : a ≠ b := fun z => by rw [z, W.irr] at gb; cases gb
    rw [goes_2 ws nab, Bool.and_eq_true, Bool.not_eq_true'] at gc
    have nbc : b ≠ c := fun z => by
      have := gc.2
      rw [z, W.irr] at this; cases this
    rw [goes_3 ws nbc, Bool.and_eq_true, Bool.and_eq_true, Bool.not_eq_true', Bool.not_eq_true'] at gd
    obtain ⟨⟨g1, g2⟩, g3⟩ := gd
    refine ⟨a, b, c, d, rfl, ha, hb, hc, hd, fun z => ?_, fun z => ?_, fun z => ?_, ?_⟩
    · rw [z, g3] at g1; cases g1
    · subst z
      rw [W.sym, gc.1] at g3; cases g3
    · subst z
      rw [gb] at g1; cases g1
    · refine ⟨?_, ?_, ?_, ?_, ?_, ?_⟩
      · rw [W.sym]; exact gb
      · rw [W.sym]; exact gc.2
      · rw [W.sym]; exact g3
      · rw [W.sym]; exact gc.1
      · rw [W.sym]; exact g1
      · rw [W.sym]; exact g2
  · rintro ⟨a, b, c, d, rfl, ha, hb, hc, hd, n1, n2, n3, h1, h2, h3, h4, h5, h6⟩
    have nab : a ≠ b := fun z => by rw [z, W.irr] at h1; cases h1
    have nbc : b ≠ c := fun z => by rw [z, W.irr] at h2; cases h2
    refine mem_longer.mpr ⟨[a, b, c], mem_longer.mpr ⟨[a, b], mem_longer.mpr ⟨[a], mem_longer.mpr ⟨[], by simp [stepsM], a, ha, goes_0 ws a, rfl⟩, b, hb, ?_, rfl⟩, c, hc, ?_, rfl⟩, d, hd, ?_, rfl⟩
    · rw [goes_1, W.sym]; exact h1
    · rw [goes_2 ws nab, W.sym c a, W.sym c b, h4, h2]; rfl
    · rw [goes_3 ws nbc, W.sym d a, W.sym d b, W.sym d c, h5, h6, h3]; rfl
theorem noRow_iff {ws : List Nat} (W : Web ws) : stepsM ws 4 = [] ↔ NoRow (bit ws) (List.range ws.length) := by
  constructor
  · intro h a ha b hb c hc d hd n1 n2 n3 r
    have : [a, b, c, d] ∈ stepsM ws 4 := (mem_steps4 W).mpr ⟨a, b, c, d, rfl, List.mem_range.mp ha, List.mem_range.mp hb, List.mem_range.mp hc, List.mem_range.mp hd, n1, n2, n3, r⟩
    rw [h] at this
    cases this
  · intro N
    cases q : stepsM ws 4 with
    | nil => rfl
    | cons r t =>
      exfalso
      obtain ⟨a, b, c, d, _, ha, hb, hc, hd, n1, n2, n3, h⟩ := (mem_steps4 W).mp (by rw [q]; exact .head _ : r ∈ stepsM ws 4)
      exact N a (List.mem_range.mpr ha) b (List.mem_range.mpr hb) c (List.mem_range.mpr hc) d (List.mem_range.mpr hd) n1 n2 n3 h

/-! ### some points alone -/
theorem among_length (ws pts : List Nat) : (amongM ws pts).length = pts.length := by simp [amongM]
theorem getD_mem {l : List Nat} {i : Nat} (h : i < l.length) : l.getD i 0 ∈ l := by
  rw [List.getD_eq_getElem?_getD, List.getElem?_eq_getElem h]
  exact List.getElem_mem h
theorem getD_inj {l : List Nat} (nd : l.Nodup) {i j : Nat} (hi : i < l.length) (hj : j < l.length) (h : l.getD i 0 = l.getD j 0) : i = j := by
  rw [List.getD_eq_getElem?_getD, List.getD_eq_getElem?_getD, List.getElem?_eq_getElem hi, List.getElem?_eq_getElem hj] at h
  exact (List.getElem_inj nd).mp h
theorem bit_among {ws pts : List Nat} (i j : Nat) : bit (amongM ws pts) i j = (decide (i < pts.length) && decide (j < pts.length) && bit ws (pts.getD i 0) (pts.getD j 0)) := by
  unfold bit amongM
  by_cases hi : i < pts.length
  · have e : ((pts.map fun p => sumB (fun k => (ws.getD p 0).testBit (pts.getD k 0)) pts.length).getD i 0) = sumB (fun k => (ws.getD (pts.getD i 0) 0).testBit (pts.getD k 0)) pts.length := by
      rw [List.getD_eq_getElem?_getD, List.getElem?_map, List.getElem?_eq_getElem hi, List.getD_eq_getElem?_getD (l := pts) (i := i), List.getElem?_eq_getElem hi]
      rfl
    have e' := e
    unfold bit at *
    rw [e', testBit_sumB, decide_eq_true hi, Bool.true_and]
  · have e : ((pts.map fun p => sumB (fun k => (ws.getD p 0).testBit (pts.getD k 0)) pts.length).getD i 0) = 0 := by
      rw [List.getD_eq_getElem?_getD, List.getElem?_eq_none (by rw [List.length_map]; omega)]
      rfl
    unfold bit at *
    rw [e, decide_eq_false hi]
    simp
theorem web_among {ws pts : List Nat} (W : Web ws) (hne : pts ≠ []) (hnd : pts.Nodup) (hlt : ∀ p ∈ pts, p < ws.length) : Web (amongM ws pts) where
  pos := by rw [among_length]; exact List.length_pos_iff.mpr hne
  le := by rw [among_length]; exact Nat.le_trans (nodup_length hnd hlt) W.le
  lt := fun i => by
    rw [among_length]
    unfold amongM
    by_cases hi : i < pts.length
    · rw [List.getD_eq_getElem?_getD, List.getElem?_map, List.getElem?_eq_getElem hi]
      exact sumB_lt _ _
    · rw [List.getD_eq_getElem?_getD, List.getElem?_eq_none (by rw [List.length_map]; omega)]
      exact Nat.pow_pos (by decide)
  sym := fun i j => by
    rw [bit_among, bit_among, W.sym (pts.getD i 0), Bool.and_comm (decide (i < pts.length))]
  irr := fun i => by rw [bit_among, W.irr, Bool.and_false]
theorem noRow_among {ws pts : List Nat} (hnd : pts.Nodup) (N : NoRow (bit ws) pts) : NoRow (bit (amongM ws pts)) (List.range pts.length) := by
  intro a ha b hb c hc d hd n1 n2 n3 ⟨h1, h2, h3, h4, h5, h6⟩
  have ha := List.mem_range.mp ha
  have hb := List.mem_range.mp hb
  have hc := List.mem_range.mp hc
  have hd := List.mem_range.mp hd
  rw [bit_among] at h1 h2 h3 h4 h5 h6
  simp only [ha, hb, hc, hd, decide_true, Bool.true_and] at h1 h2 h3 h4 h5 h6
  exact N _ (getD_mem ha) _ (getD_mem hb) _ (getD_mem hc) _ (getD_mem hd) (fun z => n1 (getD_inj hnd ha hc z)) (fun z => n2 (getD_inj hnd ha hd z)) (fun z => n3 (getD_inj hnd hb hd z)) ⟨h1, h2, h3, h4, h5, h6⟩

/-! ### the parts hold each point once -/
theorem mem_parts {ws : List Nat} {g : List Nat} : g ∈ partsM ws ↔ ∃ p, p < ws.length ∧ headed ws p ∧ g = comp ws p := by
  unfold partsM
  rw [List.mem_map]
  constructor
  · rintro ⟨p, h, rfl⟩
    obtain ⟨h1, h2⟩ := List.mem_filter.mp h
    exact ⟨p, List.mem_range.mp h1, of_decide_eq_true h2, rfl⟩
  · rintro ⟨p, h1, h2, rfl⟩
    exact ⟨p, List.mem_filter.mpr ⟨List.mem_range.mpr h1, decide_eq_true h2⟩, rfl⟩
theorem parts_sorted {ws g : List Nat} (h : g ∈ partsM ws) : g.Pairwise (· < ·) := by
  obtain ⟨p, _, _, rfl⟩ := mem_parts.mp h
  exact comp_sorted ws p
theorem parts_ne0 {ws g : List Nat} (W : Web ws) (h : g ∈ partsM ws) : g ≠ [] := by
  obtain ⟨p, hp, _, rfl⟩ := mem_parts.mp h
  intro z
  have := (mem_comp W hp).mpr (Conn.refl (ws := ws) (s := p))
  rw [z] at this
  cases this
theorem parts_lt {ws g : List Nat} (h : g ∈ partsM ws) : ∀ x ∈ g, x < ws.length := by
  obtain ⟨p, hp, _, rfl⟩ := mem_parts.mp h
  exact fun x hx => comp_lt hx
theorem headed_eq {ws : List Nat} (W : Web ws) {p q : Nat} (hp : p < ws.length) (hq : q < ws.length) (h1 : headed ws p) (h2 : headed ws q) (c : Conn ws p q) : p = q := by
  have a := (headed_iff W hp).mp h1 q c
  have b := (headed_iff W hq).mp h2 p (c.symm W)
  omega
theorem heads_nodup (ws : List Nat) : ((List.range ws.length).filter fun p => decide (headed ws p)).Nodup := List.Pairwise.filter _ List.nodup_range
theorem exists_least {P : Nat → Prop} : ∀ (n : Nat), P n → ∃ m, P m ∧ ∀ k, P k → m ≤ k := by
  intro n
  induction n using Nat.strongRecOn with
  | ind n ih =>
    intro hn
    by_cases h : ∃ m, m < n ∧ P m
    · obtain ⟨m, hm, pm⟩ := h
      exact ih m hm pm
    · exact ⟨n, hn, fun k hk => Nat.le_of_not_lt fun z => h ⟨k, z, hk⟩⟩
theorem has_head {ws : List Nat} (W : Web ws) {x : Nat} (hx : x < ws.length) : ∃ p, p < ws.length ∧ headed ws p ∧ Conn ws p x := by
  obtain ⟨m, hm, hl⟩ := exists_least (P := fun y => Conn ws x y) x .refl
  have hml := hm.lt W hx
  exact ⟨m, hml, (headed_iff W hml).mpr fun q c => hl q (hm.trans c), hm.symm W⟩
theorem parts_perm {ws : List Nat} (W : Web ws) : (partsM ws).flatten.Perm (List.range ws.length) := by
  rw [List.perm_ext_iff_of_nodup ?_ List.nodup_range]
  · intro x
    rw [List.mem_flatten, List.mem_range]
    constructor
    · rintro ⟨g, hg, hx⟩
      exact parts_lt hg x hx
    · intro hx
      obtain ⟨p, hp, hh, c⟩ := has_head W hx
      exact ⟨comp ws p, mem_parts.mpr ⟨p, hp, hh, rfl⟩, (mem_comp W hp).mpr c⟩
  · rw [List.nodup_iff_pairwise_ne, List.pairwise_flatten]
    refine ⟨fun g hg => (parts_sorted hg).imp fun h => Nat.ne_of_lt h, ?_⟩
    unfold partsM
    rw [List.pairwise_map]
    have nd := heads_nodup ws
    have hm : ∀ p ∈ (List.range ws.length).filter fun p => decide (headed ws p), p < ws.length ∧ headed ws p := fun p hp => by
      obtain ⟨h1, h2⟩ := List.mem_filter.mp hp
      exact ⟨List.mem_range.mp h1, of_decide_eq_true h2⟩
    rw [List.nodup_iff_pairwise_ne] at nd
    refine List.Pairwise.imp_of_mem ?_ nd
    intro p q hp hq hpq x hx1 y hx2 exy
    subst exy
    obtain ⟨p1, p2⟩ := hm p hp
    obtain ⟨q1, q2⟩ := hm q hq
    have c1 := (mem_comp W p1).mp hx1
    have c2 := (mem_comp W q1).mp hx2
    exact hpq (headed_eq W p1 q1 p2 q2 (c1.trans (c2.symm W)))
/-- a web that falls into two has two parts or more -/
theorem parts_split {ws : List Nat} (W : Web ws) (h : Split (bit ws) (List.range ws.length)) : 2 ≤ (partsM ws).length := by
  obtain ⟨f, ⟨x, hx, fx⟩, ⟨y, hy, fy⟩, hf⟩ := h
  have hx := List.mem_range.mp hx
  have hy := List.mem_range.mp hy
  have stay : ∀ {a b : Nat}, a < ws.length → Conn ws a b → f a = f b := by
    intro a b ha c
    induction c with
    | refl => rfl
    | @step c d hc e ih =>
      rw [ih]
      have hcl := hc.lt W ha
      have hdl := W.inr e
      cases h1 : f c <;> cases h2 : f d
      · rfl
      · have := hf d (List.mem_range.mpr hdl) c (List.mem_range.mpr hcl) h2 h1
        rw [W.sym, e] at this; cases this
      · have := hf c (List.mem_range.mpr hcl) d (List.mem_range.mpr hdl) h1 h2
        rw [e] at this; cases this
      · rfl
  obtain ⟨p, hp, hhp, cp⟩ := has_head W hx
  obtain ⟨q, hq, hhq, cq⟩ := has_head W hy
  have npq : p ≠ q := fun z => by
    have a := stay hp cp
    have b := stay hq cq
    rw [z, b, fy] at a
    rw [← a] at fx; cases fx
  have hl : ((List.range ws.length).filter fun p => decide (headed ws p)).length = (partsM ws).length := by unfold partsM; rw [List.length_map]
  rw [← hl]
  have mp : p ∈ (List.range ws.length).filter fun p => decide (headed ws p) := List.mem_filter.mpr ⟨List.mem_range.mpr hp, decide_eq_true hhp⟩
  have mq : q ∈ (List.range ws.length).filter fun p => decide (headed ws p) := List.mem_filter.mpr ⟨List.mem_range.mpr hq, decide_eq_true hhq⟩
  revert mp mq
  generalize (List.range ws.length).filter (fun p => decide (headed ws p)) = l
  intro mp mq
  match l, mp, mq with
  | [a], mp, mq => exact absurd ((List.mem_singleton.mp mp).trans (List.mem_singleton.mp mq).symm) npq
  | _ :: _ :: _, _, _ => simp
theorem flatten_ge {α : Type} : ∀ {L : List (List α)}, (∀ g ∈ L, g ≠ []) → L.length ≤ L.flatten.length
  | [], _ => Nat.le_refl _
  | g :: L, h => by
    have ih := flatten_ge fun x hx => h x (.tail _ hx)
    rw [List.flatten_cons, List.length_append, List.length_cons]
    have := List.length_pos_iff.mpr (h g (.head _))
    omega
theorem flatten_part {α : Type} : ∀ {L : List (List α)}, (∀ g ∈ L, g ≠ []) → ∀ g ∈ L, g.length + L.length ≤ L.flatten.length + 1
  | g' :: L, h, g, hg => by
    rw [List.flatten_cons, List.length_append, List.length_cons]
    rcases List.mem_cons.mp hg with e | z
    · subst e
      have := flatten_ge fun x hx => h x (.tail _ hx)
      omega
    · have := flatten_part (fun x hx => h x (.tail _ hx)) g z
      have := List.length_pos_iff.mpr (h g' (.head _))
      omega
theorem parts_small {ws g : List Nat} (W : Web ws) (h2 : 2 ≤ (partsM ws).length) (h : g ∈ partsM ws) : g.length < ws.length := by
  have h1 := flatten_part (fun g hg => parts_ne0 W hg) g h
  have h3 := (parts_perm W).length_eq
  rw [List.length_range] at h3
  omega
theorem parts_len {ws : List Nat} (W : Web ws) : (partsM ws).length ≤ ws.length := by
  have h1 := flatten_ge fun g hg => parts_ne0 W (g := g) hg
  have h3 := (parts_perm W).length_eq
  rw [List.length_range] at h3
  omega
theorem co_turned {ws : List Nat} (W : Web ws) {x y : Nat} (hx : x < ws.length) (hy : y < ws.length) : co (bit ws) x y = bit (turnedM ws) x y := by
  rw [bit_turned W]
  unfold co
  by_cases h : x = y
  · simp [h, W.irr]
  · have h' : ¬ y = x := fun z => h z.symm
    simp [h, h', hx, hy]
/-- without four in a row: it falls into two, or turned it does -/
theorem plain_parts {ws : List Nat} (W : Web ws) (h2 : 2 ≤ ws.length) (N : NoRow (bit ws) (List.range ws.length)) : 2 ≤ (partsM ws).length ∨ 2 ≤ (partsM (turnedM ws)).length := by
  rcases plain_split W.adj (List.range ws.length) List.nodup_range (by simpa using h2) N with h | h
  · exact .inl (parts_split W h)
  · right
    refine parts_split W.turned ?_
    obtain ⟨f, hx, hy, hf⟩ := h
    rw [turned_length]
    refine ⟨f, hx, hy, fun a ha b hb fa fb => ?_⟩
    rw [← co_turned W (List.mem_range.mp ha) (List.mem_range.mp hb)]
    exact hf a ha b hb fa fb
end Bw

set_option Elab.async false
set_option linter.all false
/-! Trees as data; the tree that tells a plain web. Mathematics alone. -/
namespace Bw
inductive Tr where
  | pt (n : Nat)
  | doing (ac : Bool) (ts : List Tr)
mutual
def Tr.pts : Tr → List Nat
  | .pt n => [n]
  | .doing _ ts => ptsL ts
def ptsL : List Tr → List Nat
  | [] => []
  | t :: ts => t.pts ++ ptsL ts
end
theorem ptsL_app : ∀ (a b : List Tr), ptsL (a ++ b) = ptsL a ++ ptsL b
  | [], _ => rfl
  | t :: a, b => by
    show t.pts ++ ptsL (a ++ b) = (t.pts ++ ptsL a) ++ ptsL b
    rw [ptsL_app a b, List.append_assoc]
theorem ptsL_take {ts : List Tr} {i : Nat} {tr : Tr} (h : ts[i]? = some tr) : ptsL (ts.take (i + 1)) = ptsL (ts.take i) ++ tr.pts := by
  rw [List.take_add_one, h, ptsL_app]
  show ptsL (ts.take i) ++ (tr.pts ++ []) = _
  rw [List.append_nil]
theorem ptsL_le (ts : List Tr) (i : Nat) : (ptsL (ts.take i)).length ≤ (ptsL ts).length := by
  have h := ptsL_app (ts.take i) (ts.drop i)
  rw [List.take_append_drop] at h
  rw [h, List.length_append]
  omega
theorem ptsL_mem {ts : List Tr} {i : Nat} {tr : Tr} (h : ts[i]? = some tr) : tr.pts.length ≤ (ptsL ts).length := by
  have h1 := ptsL_take h
  have h2 := ptsL_le ts (i + 1)
  rw [h1, List.length_append] at h2
  omega
theorem ptsL_map {α : Type} (t : α → Tr) : ∀ l : List α, ptsL (l.map t) = (l.map fun g => (t g).pts).flatten
  | [] => rfl
  | g :: l => by
    show (t g).pts ++ ptsL (l.map t) = _
    rw [ptsL_map t l]
    rfl

/-! ### the tree by parting -/
/-- the points at these places -/
def atM (pts g : List Nat) : List Nat := g.map fun i => pts.getD i 0
/-- the parts, or where there is but one the parts of the web turned -/
noncomputable def groupsM (ws pts : List Nat) : Bool × List (List Nat) := if 1 < (partsM (amongM ws pts)).length then (false, partsM (amongM ws pts)) else (true, partsM (turnedM (amongM ws pts)))
noncomputable def treeM : Nat → List Nat → List Nat → Tr
  | 0, _, pts => .pt (pts.getD 0 0)
  | f + 1, ws, pts => if pts.length = 1 then .pt (pts.getD 0 0) else .doing (groupsM ws pts).1 ((groupsM ws pts).2.map fun g => treeM f ws (atM pts g))
structure GoodP (ws pts : List Nat) : Prop where
  ne : pts ≠ []
  srt : pts.Pairwise (· < ·)
  lt : ∀ p ∈ pts, p < ws.length
  no : NoRow (bit ws) pts
theorem GoodP.nd {ws pts : List Nat} (G : GoodP ws pts) : pts.Nodup := G.srt.imp fun h => Nat.ne_of_lt h
theorem GoodP.len {ws pts : List Nat} (W : Web ws) (G : GoodP ws pts) : pts.length ≤ 10 := Nat.le_trans (nodup_length G.nd G.lt) W.le
theorem GoodP.web {ws pts : List Nat} (W : Web ws) (G : GoodP ws pts) : Web (amongM ws pts) := web_among W G.ne G.nd G.lt
theorem goodP_all {ws : List Nat} (W : Web ws) (N : NoRow (bit ws) (List.range ws.length)) : GoodP ws (List.range ws.length) where
  ne := fun z => by
    have := W.pos
    have e := congrArg List.length z
    rw [List.length_range, List.length_nil] at e
    omega
  srt := List.pairwise_lt_range
  lt := fun p hp => List.mem_range.mp hp
  no := N
/-- what is so of the groups -/
structure Groups (pts : List Nat) (gs : List (List Nat)) : Prop where
  two : 2 ≤ gs.length
  many : gs.length ≤ pts.length
  perm : gs.flatten.Perm (List.range pts.length)
  ne : ∀ g ∈ gs, g ≠ []
  srt : ∀ g ∈ gs, g.Pairwise (· < ·)
  lt : ∀ g ∈ gs, ∀ i ∈ g, i < pts.length
  small : ∀ g ∈ gs, g.length < pts.length
theorem groups_parts {ws pts : List Nat} (W : Web ws) (hl : ws.length = pts.length) (h2 : 2 ≤ (partsM ws).length) : Groups pts (partsM ws) where
  two := h2
  many := by rw [← hl]; exact parts_len W
  perm := by rw [← hl]; exact parts_perm W
  ne := fun g hg => parts_ne0 W hg
  srt := fun g hg => parts_sorted hg
  lt := fun g hg i hi => by rw [← hl]; exact parts_lt hg i hi
  small := fun g hg => by rw [← hl]; exact parts_small W h2 hg
theorem GoodP.groups {ws pts : List Nat} (W : Web ws) (G : GoodP ws pts) (h1 : pts.length ≠ 1) : Groups pts (groupsM ws pts).2 := by
  have WA := G.web W
  have hl := among_length ws pts
  have h0 := List.length_pos_iff.mpr G.ne
  unfold groupsM
  split
  · rename_i h
    exact groups_parts WA hl h
  · rename_i h
    have N := noRow_among G.nd G.no
    rw [← hl] at N
    rcases plain_parts WA (by omega) N with z | z
    · omega
    · exact groups_parts WA.turned (by rw [turned_length]; exact hl) z
theorem getD_lt {l : List Nat} (s : l.Pairwise (· < ·)) {i j : Nat} (hij : i < j) (hj : j < l.length) : l.getD i 0 < l.getD j 0 := by
  rw [List.getD_eq_getElem?_getD, List.getD_eq_getElem?_getD, List.getElem?_eq_getElem hj, List.getElem?_eq_getElem (Nat.lt_trans hij hj)]
  exact List.pairwise_iff_getElem.mp s i j _ hj hij
theorem GoodP.sub {ws pts g : List Nat} (G : GoodP ws pts) (hn : g ≠ []) (hs : g.Pairwise (· < ·)) (hl : ∀ i ∈ g, i < pts.length) : GoodP ws (atM pts g) where
  ne := fun z => hn (List.map_eq_nil_iff.mp z)
  srt := by
    unfold atM
    rw [List.pairwise_map]
    exact List.Pairwise.imp_of_mem (fun ha hb h => getD_lt G.srt h (hl _ hb)) hs
  lt := fun p hp => by
    obtain ⟨i, hi, rfl⟩ := List.mem_map.mp hp
    exact G.lt _ (getD_mem (hl i hi))
  no := G.no.mono fun p hp => by
    obtain ⟨i, hi, rfl⟩ := List.mem_map.mp hp
    exact getD_mem (hl i hi)
theorem atM_range (pts : List Nat) : atM pts (List.range pts.length) = pts := by
  unfold atM
  apply List.ext_getElem?
  intro i
  rw [List.getElem?_map]
  by_cases hi : i < pts.length
  · rw [List.getElem?_range hi, Option.map_some, List.getD_eq_getElem?_getD, List.getElem?_eq_getElem hi]
    rfl
  · rw [List.getElem?_eq_none (by simpa using hi), List.getElem?_eq_none (by omega)]
    rfl
theorem flatten_perm {α β : Type} {f g : α → List β} : ∀ {l : List α}, (∀ x ∈ l, (f x).Perm (g x)) → (l.map f).flatten.Perm (l.map g).flatten
  | [], _ => .nil
  | x :: l, h => by
    rw [List.map_cons, List.map_cons, List.flatten_cons, List.flatten_cons]
    exact (h x (.head _)).append (flatten_perm fun y hy => h y (.tail _ hy))
theorem flatten_atM (pts : List Nat) (gs : List (List Nat)) : (gs.map (atM pts)).flatten = atM pts gs.flatten := by
  unfold atM
  rw [List.map_flatten]
theorem tree_perm {ws : List Nat} (W : Web ws) : ∀ (f : Nat) {pts : List Nat}, GoodP ws pts → pts.length ≤ f → (treeM f ws pts).pts.Perm pts
  | 0, pts, G, h => absurd (List.length_pos_iff.mpr G.ne) (by omega)
  | f + 1, pts, G, h => by
    unfold treeM
    split
    · rename_i h1
      match pts, h1 with
      | [p], _ => exact .refl _
    · rename_i h1
      have gr := G.groups W h1
      show (ptsL _).Perm _
      rw [ptsL_map]
      refine (flatten_perm (g := atM pts) fun g hg => tree_perm W f (G.sub (gr.ne g hg) (gr.srt g hg) (gr.lt g hg)) ?_).trans ?_
      · have := gr.small g hg
        unfold atM
        rw [List.length_map]
        omega
      · rw [flatten_atM]
        have := gr.perm.map fun i => pts.getD i 0
        have e := atM_range pts
        unfold atM at e ⊢
        rw [e] at this
        exact this
/-- the trees of the groups have their points once -/
theorem groups_pts {ws : List Nat} (W : Web ws) {f : Nat} {pts : List Nat} (G : GoodP ws pts) (h : pts.length ≤ f + 1) (h1 : pts.length ≠ 1) : (ptsL ((groupsM ws pts).2.map fun g => treeM f ws (atM pts g))).Perm pts := by
  have := tree_perm W (f + 1) G h
  unfold treeM at this
  rw [if_neg h1] at this
  exact this
end Bw

set_option Elab.async false
set_option linter.all false
/-! Twins taken away. Mathematics alone. -/
namespace Bw
def othersM (pts : List Nat) (x y : Nat) : List Nat := pts.filter fun p => !(decide (x = p) || decide (y = p))
def twB (ws pts : List Nat) (x y : Nat) : Bool := (othersM pts x y).all fun p => decide (bit ws x p = bit ws y p)
theorem twB_iff {ws pts : List Nat} {x y : Nat} : twB ws pts x y = true ↔ Twins (bit ws) pts x y := by
  unfold twB othersM Twins
  rw [List.all_eq_true]
  constructor
  · intro h z hz h1 h2
    have := h z (List.mem_filter.mpr ⟨hz, by simp [Ne.symm h1, Ne.symm h2]⟩)
    exact of_decide_eq_true this
  · intro h z hz
    obtain ⟨h1, h2⟩ := List.mem_filter.mp hz
    simp only [Bool.not_eq_true', Bool.or_eq_false_iff, decide_eq_false_iff_not] at h2
    exact decide_eq_true (h z h1 (Ne.symm h2.1) (Ne.symm h2.2))
theorem Twins.symm {adj : Nat → Nat → Bool} {S : List Nat} {x y : Nat} (h : Twins adj S x y) : Twins adj S y x := fun z hz h1 h2 => (h z hz h2 h1).symm
/-- the pairs taken away, and what is left -/
inductive Tk (ws : List Nat) : List (Nat × Nat) → List Nat → Prop
  | nil : Tk ws [] (List.range ws.length)
  | snoc {ps : List (Nat × Nat)} {left : List Nat} {x y : Nat} : Tk ws ps left → x ∈ left → y ∈ left → x ≠ y → twB ws left x y = true → Tk ws (ps ++ [(x, y)]) (left.erase x)
/-- no two of these are twins among them -/
def NoTw (ws left : List Nat) : Prop := ∀ i j, j < i → i < left.length → twB ws left (left.getD i 0) (left.getD j 0) = false
theorem erase_filter : ∀ {l : List Nat} {x : Nat}, l.Nodup → l.erase x = l.filter fun z => decide (z ≠ x)
  | [], _, _ => rfl
  | a :: l, x, nd => by
    rw [List.nodup_cons] at nd
    by_cases h : a = x
    · subst h
      rw [List.erase_cons_head]
      rw [List.filter_cons_of_neg (by simp)]
      rw [List.filter_eq_self.mpr]
      intro z hz
      exact decide_eq_true fun e => nd.1 (e ▸ hz)
    · rw [List.erase_cons_tail (by simpa using h), List.filter_cons_of_pos (by simpa using h), erase_filter nd.2]
structure TkOk (ws left : List Nat) : Prop where
  nd : left.Nodup
  lt : ∀ p ∈ left, p < ws.length
  ne : left ≠ []
theorem Tk.ok {ws : List Nat} (W : Web ws) {ps : List (Nat × Nat)} {left : List Nat} (h : Tk ws ps left) : TkOk ws left := by
  induction h with
  | nil =>
    refine ⟨List.nodup_range, fun p hp => List.mem_range.mp hp, fun z => ?_⟩
    have e := congrArg List.length z
    rw [List.length_range, List.length_nil] at e
    have := W.pos
    omega
  | @snoc ps left x y _ hx hy hxy _ ih =>
    refine ⟨ih.nd.erase x, fun p hp => ih.lt p (List.mem_of_mem_erase hp), fun z => ?_⟩
    have : y ∈ left.erase x := (List.mem_erase_of_ne (Ne.symm hxy)).mpr hy
    rw [z] at this
    cases this
theorem Tk.len {ws : List Nat} {ps : List (Nat × Nat)} {left : List Nat} (h : Tk ws ps left) : ps.length + left.length = ws.length := by
  induction h with
  | nil => simp
  | @snoc ps left x y _ hx hy hxy _ ih =>
    rw [List.length_append, List.length_erase_of_mem hx, List.length_singleton]
    have := List.length_pos_of_mem hx
    omega
theorem Tk.sub {ws : List Nat} {ps : List (Nat × Nat)} {left : List Nat} (h : Tk ws ps left) : ∀ p ∈ left, p ∈ List.range ws.length := by
  induction h with
  | nil => exact fun p hp => hp
  | @snoc ps left x y _ hx hy hxy _ ih => exact fun p hp => ih p (List.mem_of_mem_erase hp)
theorem Tk.back {ws : List Nat} (W : Web ws) {ps : List (Nat × Nat)} {left : List Nat} (h : Tk ws ps left) : NoRow (bit ws) left → NoRow (bit ws) (List.range ws.length) := by
  induction h with
  | nil => exact id
  | @snoc ps left x y h0 hx hy hxy ht ih =>
    intro N
    refine ih (NoRow.twin W.adj hx hy hxy (twB_iff.mp ht) ?_)
    rw [← erase_filter (h0.ok W).nd]
    exact N
/-- one is left just where no four are in a row -/
theorem Tk.one {ws : List Nat} (W : Web ws) {ps : List (Nat × Nat)} {left : List Nat} (h : Tk ws ps left) (N : NoTw ws left) : left.length = 1 ↔ NoRow (bit ws) (List.range ws.length) := by
  have ok := h.ok W
  constructor
  · intro h1
    refine h.back W ?_
    match left, h1 with
    | [p], _ =>
      intro a ha b hb c hc d hd n1
      exact absurd ((List.mem_singleton.mp ha).trans (List.mem_singleton.mp hc).symm) n1
  · intro R
    have hp := List.length_pos_iff.mpr ok.ne
    by_cases h2 : 2 ≤ left.length
    · exfalso
      obtain ⟨x, hx, y, hy, hxy, t⟩ := plain_twins W.adj left ok.nd h2 (R.mono h.sub)
      obtain ⟨i, hi, ei⟩ := List.getElem_of_mem hx
      obtain ⟨j, hj, ej⟩ := List.getElem_of_mem hy
      have gi : left.getD i 0 = x := by rw [List.getD_eq_getElem?_getD, List.getElem?_eq_getElem hi, ei]; rfl
      have gj : left.getD j 0 = y := by rw [List.getD_eq_getElem?_getD, List.getElem?_eq_getElem hj, ej]; rfl
      have nij : i ≠ j := fun z => by
        subst z
        exact hxy (ei.symm.trans ej)
      rcases Nat.lt_or_gt_of_ne nij with l | l
      · have := N j i l hj
        rw [gi, gj, twB_iff.mpr t.symm] at this
        cases this
      · have := N i j l hi
        rw [gi, gj, twB_iff.mpr t] at this
        cases this
    · omega
end Bw

set_option Elab.async false
set_option linter.all false
set_option maxRecDepth 100000
set_option maxHeartbeats 4000000
/-! Comprehensions over the hand layer -/
namespace L2
open PySem PySem.Spec PyProof.Rows

/-! ### the names that a block draws from around it -/
def clOf (cells : List (Str × Addr)) : List (Str × NameKind) → List (Str × Addr) → List (Str × Addr)
  | [], acc => acc
  | (n, k) :: r, acc => if k == .free then clOf cells r ((n, (cells.lookup n).getD 0) :: acc) else clOf cells r acc
theorem forIn_clOf {env : Env} (f : Str × NameKind → List (Str × Addr) → Sem (ForInStep (List (Str × Addr))))
    (hf : ∀ n k cs, f (n, k) cs = if k == .free then (cellOf env n >>= fun a => pure (.yield ((n, a) :: cs))) else pure (.yield cs)) :
    ∀ (names : List (Str × NameKind)) (acc : List (Str × Addr)), (∀ y ∈ names, y.2 = .free → ∃ c, env.cells.lookup y.1 = some c) → forIn names acc f = pure (clOf env.cells names acc)
  | [], acc, _ => rfl
  | (n, k) :: r, acc, h => by
    rw [List.forIn_cons, hf]
    unfold clOf
    by_cases hk : (k == NameKind.free) = true
    · obtain ⟨c, hc⟩ := h (n, k) List.mem_cons_self (by simpa using hk)
      have e : cellOf env n = pure c := by unfold cellOf; rw [hc]
      have hc' : List.lookup n env.cells = some c := hc
      rw [if_pos hk, if_pos hk, e, pure_bind, pure_bind, hc']
      exact forIn_clOf f hf r _ fun y hy => h y (List.mem_cons_of_mem _ hy)
    · rw [if_neg hk, if_neg hk, pure_bind]
      exact forIn_clOf f hf r _ fun y hy => h y (List.mem_cons_of_mem _ hy)
theorem closure_eq {env : Env} {scope : Scope} (h : ∀ y ∈ scope.names, y.2 = .free → ∃ c, env.cells.lookup y.1 = some c) : closureFor scope env = pure (clOf env.cells scope.names []) := by
  simp only [closureFor]
  rw [forIn_clOf (env := env) _ (fun n k cs => by cases hk : k == NameKind.free <;> simp [hk]) scope.names [] h]
  simp
theorem lookup_cons' {α : Type} (x n : Str) (v : α) (l : List (Str × α)) : ((n, v) :: l).lookup x = if x = n then some v else l.lookup x := by
  rw [List.lookup_cons]
  by_cases h : x = n
  · subst h; simp
  · have hb : (x == n) = false := beq_eq_false_iff_ne.mpr h
    simp only [hb, h, if_false]
theorem clOf_look {cells : List (Str × Addr)} : ∀ (names : List (Str × NameKind)) (acc : List (Str × Addr)), (∀ y ∈ names, y.2 = .free → ∃ c, cells.lookup y.1 = some c) →
    (∀ x c, acc.lookup x = some c → cells.lookup x = some c) → ∀ x c, (clOf cells names acc).lookup x = some c → cells.lookup x = some c
  | [], acc, _, ha, x, c, h => ha x c h
  | (n, k) :: r, acc, hn, ha, x, c, h => by
    unfold clOf at h
    by_cases hk : (k == NameKind.free) = true
    · rw [if_pos hk] at h
      obtain ⟨d, hd⟩ := hn (n, k) List.mem_cons_self (by simpa using hk)
      refine clOf_look r _ (fun y hy => hn y (List.mem_cons_of_mem _ hy)) (fun y e hy => ?_) x c h
      rw [lookup_cons'] at hy
      split at hy
      · rename_i q
        subst q
        have hd' : List.lookup y cells = some d := hd
        rw [hd'] at hy ⊢
        exact hy
      · exact ha y e hy
    · rw [if_neg hk] at h
      exact clOf_look r acc (fun y hy => hn y (List.mem_cons_of_mem _ hy)) ha x c h
theorem clOf_has {cells : List (Str × Addr)} {x : Str} : ∀ (names : List (Str × NameKind)) (acc : List (Str × Addr)), ((x, NameKind.free) ∈ names ∨ (acc.lookup x).isSome = true) → ((clOf cells names acc).lookup x).isSome = true
  | [], acc, h => by
    rcases h with h | h
    · cases h
    · exact h
  | (n, k) :: r, acc, h => by
    unfold clOf
    by_cases hk : (k == NameKind.free) = true
    · rw [if_pos hk]
      refine clOf_has r _ ?_
      rw [lookup_cons']
      rcases h with h | h
      · rcases List.mem_cons.mp h with e | h
        · cases e; right; simp
        · exact .inl h
      · right
        split
        · rfl
        · exact h
    · rw [if_neg hk]
      refine clOf_has r _ ?_
      rcases h with h | h
      · rcases List.mem_cons.mp h with e | h
        · cases e; simp at hk
        · exact .inl h
      · exact .inr h
theorem cellsFrom_append : ∀ (names : List (Str × NameKind)) (n : Nat) (acc : List (Str × Addr)), cellsFrom n names acc = cellsFrom n names [] ++ acc
  | [], _, _ => rfl
  | (x, k) :: r, n, acc => by
    unfold cellsFrom
    split
    · rw [cellsFrom_append r (n + 1) ((x, n) :: acc), cellsFrom_append r (n + 1) [(x, n)]]
      simp
    · exact cellsFrom_append r n acc
theorem cellsFrom_mem : ∀ (names : List (Str × NameKind)) (n : Nat) (acc : List (Str × Addr)) (x : Str) (c : Addr), (x, c) ∈ cellsFrom n names acc → (x, c) ∈ acc ∨ ((x, NameKind.cell) ∈ names ∧ n ≤ c)
  | [], _, _, _, _, h => .inl h
  | (y, k) :: r, n, acc, x, c, h => by
    unfold cellsFrom at h
    by_cases hk : (k == NameKind.cell) = true
    · rw [if_pos hk] at h
      have hk' : k = .cell := by simpa using hk
      rcases cellsFrom_mem r (n + 1) _ x c h with z | ⟨z, l⟩
      · rcases List.mem_cons.mp z with e | z
        · cases e; exact .inr ⟨by rw [hk']; exact List.mem_cons_self, Nat.le_refl _⟩
        · exact .inl z
      · exact .inr ⟨List.mem_cons_of_mem _ z, Nat.le_of_succ_le l⟩
    · rw [if_neg hk] at h
      rcases cellsFrom_mem r n _ x c h with z | ⟨z, l⟩
      · exact .inl z
      · exact .inr ⟨List.mem_cons_of_mem _ z, l⟩
theorem relabel_look (sc : Scope) (env : Env) (x : Str) : (relabel sc env).names.lookup x = (sc.names.lookup x).map fun k => if (k == NameKind.free && env.scope.kind == .function && env.kindOf x == some .cell) = true then .cell else k := by
  show (sc.names.map fun (n, k) => if (k == NameKind.free && env.scope.kind == .function && env.kindOf n == some .cell) then (n, NameKind.cell) else (n, k)).lookup x = _
  induction sc.names with
  | nil => rfl
  | cons p r ih =>
    obtain ⟨n, k⟩ := p
    have ec : (if (k == NameKind.free && env.scope.kind == .function && env.kindOf n == some .cell) = true then (n, NameKind.cell) else (n, k)) = (n, if (k == NameKind.free && env.scope.kind == .function && env.kindOf n == some .cell) = true then NameKind.cell else k) := by
      split <;> rfl
    show ((if (k == NameKind.free && env.scope.kind == .function && env.kindOf n == some .cell) = true then (n, NameKind.cell) else (n, k)) :: r.map _).lookup x = _
    rw [ec, lookup_cons', lookup_cons']
    by_cases hx : x = n
    · subst hx
      rw [if_pos rfl, if_pos rfl, Option.map_some]
    · rw [if_neg hx, if_neg hx]
      exact ih

theorem newEnv_comp {M : Model} {A : Around} {E : Value → Shared → Prop} {s : Shared} {scope : Scope} {env : Env} {cl : List (Str × Addr)} {Q : Env → Shared → Prop}
    (h : Q { scope := scope, locals := s.heap.objs.size, globals := env.globals, cells := cellsFrom (s.heap.objs.size + 1) scope.names cl, qual := env.qual, func := none, code := env.code, frame := env.frame, builtins := env.builtins }
      { s with heap := pushCells (s.heap.push { cls := .type "dict", data := .dict #[] }) scope.names }) :
    wpAny M A (newFunctionEnv scope env.globals cl [] env.qual none .none (some env)) Q E s := by
  simp only [newFunctionEnv, Option.isSome_some, if_true]
  refine wpAny_bind (wpAny_alloc ?_)
  refine wpAny_bind (wpAny_layCells _ (fun name kind cells => by cases hkc : kind == NameKind.cell <;> simp [hkc]) _ _ _ _ ?_)
  rw [show ({ s with heap := s.heap.push { cls := .type "dict", data := .dict #[] } } : Shared).heap.objs.size = s.heap.objs.size + 1 from Heap.size_push ..]
  exact wpAny_bind (wpAny_pure (wpAny_pure h))

/-! ### the block's own loop, with any target -/
section
variable {prog : Program} {w : World} {A : Around} {R : Result → Shared → Prop} {s : Shared}
theorem compLoop_own {elt target iter : Expr} {ifs : List Expr} {scope : Scope} {pos : Pos} {it acc : Value} {env : Env} (I : Nat → Shared → Prop)
    (turn : ∀ n s, I n s → wpAny (model prog w) A (pyNext it) (fun r s₁ => match r with
      | none => R (.ok .next) s₁
      | some v => wpAny (model prog w) A (letOwnedTupleGo target it v) (fun _ s' => wpAny (model prog w) A (assign target env v) (fun _ s₂ =>
          wpAny (model prog w) A (forIn ifs true fun c r => if r = true then do let ok ← isTrue c env (eval c env); pure (ForInStep.yield ok) else pure (ForInStep.yield r)) (fun ok s₃ =>
            if ok = true then wpAny (model prog w) A (eval elt env) (fun x s₄ =>
              wpAny (model prog w) A (call (.builtin "list.append") [acc, x]) (fun _ s₅ => ∃ m, m < n ∧ I m s₅) (fun _ _ => False) s₄) (fun _ _ => False) s₃
            else ∃ m, m < n ∧ I m s₃) (fun _ _ => False) s₂) (fun _ _ => False) s') (fun _ _ => False) s₁) (fun _ _ => False) s)
    (n : Nat) (h : I n s) :
    codeAny (model prog w) A (.compLoop (.ListComp elt [⟨target, iter, ifs, 0⟩] scope pos) 0 it acc env) R s := by
  refine codeAny_loop rfl I (fun n s hI => ?_) n h
  show wpAny _ A ((compTurn (.ListComp elt [⟨target, iter, ifs, 0⟩] scope pos) 0 it acc env).onRaise (fun x => do noteFrame x env; theTreesLotGoes x)) _ _ s
  refine wpAny_noted ?_
  rw [compTurn_list]
  refine wpAny_bind (wpAny_standAt (wpAny_bind (wpAny_mono (turn n s hI) (fun r s₁ h₁ => ?_) fun _ _ h' => h'.elim)))
  cases r with
  | none => exact wpAny_pure h₁
  | some v =>
    refine wpAny_bind (wpAny_mono h₁ (fun _ s' h' => ?_) fun _ _ h' => h'.elim)
    refine wpAny_bind (wpAny_mono h' (fun _ s₂ h₂ => wpAny_bind (wpAny_mono h₂ (fun ok s₃ h₃ => ?_) fun _ _ h' => h'.elim)) fun _ _ h' => h'.elim)
    cases ok with
    | false => exact wpAny_pure ⟨rfl, h₃⟩
    | true =>
      exact wpAny_bind (wpAny_bind (wpAny_mono h₃ (fun x s₄ h₄ => wpAny_bind (wpAny_mono h₄ (fun _ s₅ h₅ => wpAny_pure (wpAny_pure ⟨rfl, h₅⟩)) fun _ _ h' => h'.elim)) fun _ _ h' => h'.elim))
end

/-! ### the block's context -/
/-- NX, sx: the names and the scope around; sc: the block's own; N': the block's names, those drawn from around first; ix: the places of these around -/
structure CScope (NX : List Str) (sx sc : Scope) (N' : List Str) (ix : List Nat) : Prop where
  kind : sc.kind = .function
  loc : ∀ x ∈ sc.names, x.2 = .local → sc.names.lookup x.1 = some .local
  cel : ∀ x ∈ sc.names, x.2 = .cell → sc.names.lookup x.1 = some .cell
  nd : N'.Nodup
  len : ix.length ≤ N'.length
  cap : ∀ p ∈ ix.zip N', NX[p.1]? = some p.2 ∧ sc.names.lookup p.2 = some .free
  free : ∀ y ∈ sc.names, y.2 = .free → sx.names.lookup y.1 = some .cell ∨ sx.names.lookup y.1 = some .free
def blockSt (N' : List Str) (ix : List Nat) (σ : St) : St := ix.map (fun j => (σ[j]?).getD none) ++ List.replicate (N'.length - ix.length) none
def cxComp (X : Cx) (sc : Scope) (N' : List Str) (fp : List Addr) (C : Addr) (s : Shared) (H : Hp) : Cx :=
  { X with N := N', s₀ := s, H₀ := H, env := compEnvC sc (cellsFrom (C + 1) sc.names (clOf X.env.cells sc.names [])) C X.env, outer := X.stack, ex := fp, fn := fun x => sc.names.lookup x == some .cell, pn := [], xe := fun _ _ => False }

section
variable {X : Cx} {pins : List (Addr × Obj)} {σ : St} {H2 : Hp} {s2 : Shared} {sc : Scope} {N' : List Str} {ix : List Nat} {fp : List Addr} {C : Addr}
theorem cap_at (S : CScope X.N X.env.scope sc N' ix) {i : Nat} {x : Str} {v : V} (e1 : N'[i]? = some x) (e2 : (blockSt N' ix σ)[i]? = some (some v)) :
    ∃ j : Nat, σ[j]? = some (some v) ∧ X.N[j]? = some x ∧ sc.names.lookup x = some .free := by
  unfold blockSt at e2
  by_cases hi : i < ix.length
  · rw [List.getElem?_append_left (by simpa using hi), List.getElem?_map, List.getElem?_eq_getElem hi] at e2
    have e3 : (σ[ix[i]]?).getD none = some v := Option.some.inj e2
    have hm : (ix[i], x) ∈ ix.zip N' := by
      rw [List.mem_iff_getElem?]
      refine ⟨i, ?_⟩
      rw [List.getElem?_zip_eq_some]
      exact ⟨List.getElem?_eq_getElem hi, e1⟩
    obtain ⟨a, b⟩ := S.cap _ hm
    refine ⟨ix[i], ?_, a, b⟩
    cases q : σ[ix[i]]? with
    | none => rw [q] at e3; cases e3
    | some o => rw [q] at e3; exact congrArg some e3
  · rw [List.getElem?_append_right (by simpa using hi), List.getElem?_replicate] at e2
    split at e2 <;> cases e2
theorem free_has (I2 : Inv X pins σ H2 s2) (S : CScope X.N X.env.scope sc N' ix) : ∀ y ∈ sc.names, y.2 = .free → ∃ c, X.env.cells.lookup y.1 = some c := fun y hy hf =>
  I2.ok.has y.1 (S.free y hy hf)
theorem cells_split (I2 : Inv X pins σ H2 s2) (S : CScope X.N X.env.scope sc N' ix) {x : Str} {c : Addr} (h : (cellsFrom (C + 1) sc.names (clOf X.env.cells sc.names [])).lookup x = some c) :
    ((x, c) ∈ cellsFrom (C + 1) sc.names [] ∧ C + 1 ≤ c) ∨ X.env.cells.lookup x = some c := by
  rw [cellsFrom_append, List.lookup_append] at h
  cases q : (cellsFrom (C + 1) sc.names []).lookup x with
  | some d =>
    rw [q] at h
    have e : d = c := Option.some.inj h
    subst e
    have hm := PySem.mem_of_lookup q
    rcases cellsFrom_mem _ _ _ _ _ hm with z | z
    · cases z
    · exact .inl ⟨hm, z.2⟩
  | none =>
    rw [q] at h
    exact .inr (clOf_look sc.names [] (free_has I2 S) (fun x c h => by cases h) x c h)
theorem cells_free (I2 : Inv X pins σ H2 s2) (S : CScope X.N X.env.scope sc N' ix) {x : Str} {c : Addr} (hx : sc.names.lookup x = some .free) (hc : X.env.cells.lookup x = some c) :
    (cellsFrom (C + 1) sc.names (clOf X.env.cells sc.names [])).lookup x = some c := by
  rw [cellsFrom_append, List.lookup_append]
  cases q : (cellsFrom (C + 1) sc.names []).lookup x with
  | some d =>
    rcases cellsFrom_mem _ _ _ _ _ (PySem.mem_of_lookup q) with z | z
    · cases z
    · have := S.cel _ z.1 rfl
      rw [hx] at this
      cases this
  | none =>
    have h1 := clOf_has (cells := X.env.cells) sc.names [] (.inl (PySem.mem_of_lookup hx))
    obtain ⟨d, hd⟩ := Option.isSome_iff_exists.mp h1
    have h2 := clOf_look sc.names [] (free_has I2 S) (fun x c h => by cases h) x d hd
    rw [hc] at h2
    rw [hd, ← h2]
    rfl
theorem comp_loc (I2 : Inv X pins σ H2 s2) (S : CScope X.N X.env.scope sc N' ix) {H' : Hp} {h' : Heap} (u : Un (frs X.stack) fp H2 H' s2.heap h') (hf : ∀ b ∈ fp, FpOk X pins H2 b) {m : Str → Option Value} :
    ∀ (i : Nat) (x : Str) (v : V), N'[i]? = some x → (blockSt N' ix σ)[i]? = some (some v) → ∃ u, RelV v u ∧ Look (compEnvC sc (cellsFrom (C + 1) sc.names (clOf X.env.cells sc.names [])) C X.env) h' m x u := by
  intro i x v e1 e2
  obtain ⟨j, a1, a2, a3⟩ := cap_at (σ := σ) S e1 e2
  have hk : X.env.scope.names.lookup x = some .cell ∨ X.env.scope.names.lookup x = some .free := S.free _ (PySem.mem_of_lookup a3) rfl
  obtain ⟨m0, hn0, hl⟩ := I2.loc
  obtain ⟨u0, r, l⟩ := hl j x v a2 a1 (.inr hk)
  refine ⟨u0, r, .inr ⟨?_, ?_⟩⟩
  · show (relabel sc X.env).names.lookup x = some .cell ∨ (relabel sc X.env).names.lookup x = some .free
    rw [relabel_look, a3, Option.map_some]
    split
    · exact .inl rfl
    · exact .inr rfl
  · rcases l with ⟨k, _⟩ | ⟨k, c, hc, o, ho, hd⟩
    · have k' : X.env.scope.names.lookup x = some .local := k
      rcases hk with z | z <;> rw [z] at k' <;> cases k'
    · refine ⟨c, cells_free I2 S a3 hc, ?_⟩
      have nfp : c ∉ fp := fun z => (hf c z).2.2.2.2.1 x c hc rfl
      obtain ⟨sl, q⟩ := u.any ho (I2.freeC x c hc) nfp
      exact ⟨_, q, hd⟩
theorem blockSt_len (S : CScope X.N X.env.scope sc N' ix) : (blockSt N' ix σ).length = N'.length := by
  unfold blockSt
  have := S.len
  rw [List.length_append, List.length_map, List.length_replicate]
  omega
theorem comp_reset (I2 : Inv X pins σ H2 s2) (S : CScope X.N X.env.scope sc N' ix) (hf : ∀ b ∈ fp, FpOk X pins H2 b) {pins' : List (Addr × Obj)} {σ' : St} {H' : Hp} {s' : Shared}
    (I' : Inv (cxComp X sc N' fp C s2 H2) pins' σ' H' s') : Inv (cxComp X sc N' fp C s2 H2) pins' (blockSt N' ix σ) H' s' :=
  ⟨I'.ok, I'.os, I'.bare, I'.base, let ⟨m, hn, _⟩ := I'.loc; ⟨m, hn, fun i x v e1 e2 _ => comp_loc I2 S I'.base hf i x v e1 e2⟩, I'.cell, I'.free, I'.freeC, I'.pin, I'.hok, blockSt_len S⟩

/-- the block's entry: the list is laid, the block's names, its cells -/
theorem comp_start (I2 : Inv X pins σ H2 s2) (S : CScope X.N X.env.scope sc N' ix) (hf : ∀ b ∈ fp, FpOk X pins H2 b) (ho : ∀ b ∈ fp, b < s2.heap.objs.size) :
    Inv (cxComp X sc N' fp (s2.heap.objs.size + 1) s2 H2) [(s2.heap.objs.size, { cls := .type "list", data := .seq ([] : List Value).toArray })] (blockSt N' ix σ) H2
      { s2 with heap := pushCells ((s2.heap.push { cls := .type "list", data := .seq ([] : List Value).toArray }).push { cls := .type "dict", data := .dict #[] }) sc.names } := by
  have z1 : (s2.heap.push { cls := .type "list", data := .seq ([] : List Value).toArray }).objs.size = s2.heap.objs.size + 1 := Heap.size_push ..
  have z2 : ((s2.heap.push { cls := .type "list", data := .seq ([] : List Value).toArray }).push { cls := .type "dict", data := .dict #[] }).objs.size = s2.heap.objs.size + 1 + 1 := by rw [Heap.size_push, z1]
  have keep : ∀ b o, s2.heap.get? b = some o → (pushCells ((s2.heap.push { cls := .type "list", data := .seq ([] : List Value).toArray }).push { cls := .type "dict", data := .dict #[] }) sc.names).get? b = some o := fun b o e =>
    pushCells_keeps _ _ b o (Heap.get?_push_of_some _ (Heap.get?_push_of_some _ e))
  have hD : (pushCells ((s2.heap.push { cls := .type "list", data := .seq ([] : List Value).toArray }).push { cls := .type "dict", data := .dict #[] }) sc.names).get? s2.heap.objs.size = some { cls := .type "list", data := .seq ([] : List Value).toArray } :=
    pushCells_keeps _ _ _ _ (Heap.get?_push_of_some _ (Heap.get?_push_size _ rfl))
  have ok := cellsFrom_ok sc.names ((s2.heap.push { cls := .type "list", data := .seq ([] : List Value).toArray }).push { cls := .type "dict", data := .dict #[] }) (s2.heap.objs.size + 1 + 1) [] ⟨fun _ _ hm => (nomatch hm), List.Pairwise.nil⟩ (by rw [z2]; exact Nat.le_refl _)
  rw [z2] at ok
  have ns : (pushCells ((s2.heap.push { cls := .type "list", data := .seq ([] : List Value).toArray }).push { cls := .type "dict", data := .dict #[] }) sc.names).Ns (s2.heap.objs.size + 1) (fun _ => none) := by
    have := (Heap.Ns.new (s2.heap.push { cls := .type "list", data := .seq ([] : List Value).toArray }) (.type "dict")).keeps (pushCells_keeps sc.names _)
    rw [z1] at this
    exact this
  have lt : ∀ x c, X.env.cells.lookup x = some c → c < s2.heap.objs.size := fun x c e => by
    obtain ⟨v, q⟩ := I2.cell x c e
    exact q.lt
  refine ⟨⟨I2.ok.mod, S.kind, I2.ok.glob, I2.ok.blt, Nat.le_succ _, fun x y c h1 h2 => ?_, fun x hx => ?_, fun x c hx h => ?_, I2.ok.hd, I2.ok.frames, .inl rfl, fun b hb => ⟨?_, fun x c h z => ?_⟩, I2.bs, Nat.le_trans I2.ok.bsz I2.sz, fun b o e hb => ?_, fun b hb z => ?_, I2.stack, I2.stkFree⟩,
    rfl, I2.bare, Un.kept keep, ⟨_, ns, fun i x v e1 e2 _ => comp_loc I2 S (Un.kept keep) hf i x v e1 e2⟩, fun x c h => ?_, I2.hok.fresh (Nat.le_succ _), fun x c h => ?_, fun p hp => ?_, I2.hok.kept keep, blockSt_len S⟩
  · rcases cells_split I2 S h1 with ⟨m1, l1⟩ | e1 <;> rcases cells_split I2 S h2 with ⟨m2, l2⟩ | e2
    · exact name_of_addr ok.apart m1 m2
    · exact absurd (lt _ _ e2) (Nat.not_lt.mpr (Nat.le_trans (Nat.le_add_right _ 2) l1))
    · exact absurd (lt _ _ e1) (Nat.not_lt.mpr (Nat.le_trans (Nat.le_add_right _ 2) l2))
    · exact I2.ok.inj x y c e1 e2
  · have hx' : (relabel sc X.env).names.lookup x = some .cell ∨ (relabel sc X.env).names.lookup x = some .free := hx
    rw [relabel_look] at hx'
    cases q : sc.names.lookup x with
    | none => rw [q] at hx'; rcases hx' with z | z <;> cases z
    | some k =>
      rw [q, Option.map_some] at hx'
      by_cases hf' : k = .free
      · subst hf'
        obtain ⟨c, hc⟩ := free_has I2 S _ (PySem.mem_of_lookup q) rfl
        exact ⟨c, cells_free I2 S q hc⟩
      · have hk : (k == NameKind.free && X.env.scope.kind == .function && X.env.kindOf x == some .cell) = false := by
          have : (k == NameKind.free) = false := by simpa using hf'
          rw [this]; rfl
        rw [hk] at hx'
        simp only [Bool.false_eq_true, if_false, Option.some.injEq] at hx'
        have hc : k = .cell := by
          rcases hx' with z | z
          · exact z
          · exact absurd z hf'
        subst hc
        exact Option.isSome_iff_exists.mp (PySem.W.cellsFrom_some sc.names _ _ (.inl q))
  · have hx2 : (sc.names.lookup x == some NameKind.cell) = true := hx
    have hx' : sc.names.lookup x = some .cell := by simpa using hx2
    rcases cells_split I2 S h with ⟨_, l⟩ | e
    · exact Nat.le_trans (Nat.le_add_right _ 2) l
    · exfalso
      have h1 : ((cellsFrom (s2.heap.objs.size + 1 + 1) sc.names []).lookup x).isSome = true := PySem.W.cellsFrom_some sc.names _ _ (.inl hx')
      obtain ⟨d, hd⟩ := Option.isSome_iff_exists.mp h1
      have h2 : (cellsFrom (s2.heap.objs.size + 1 + 1) sc.names (clOf X.env.cells sc.names [])).lookup x = some d := by
        rw [cellsFrom_append, List.lookup_append, hd]; rfl
      have h3 : (cellsFrom (s2.heap.objs.size + 1 + 1) sc.names (clOf X.env.cells sc.names [])).lookup x = some c := h
      rw [h2] at h3
      cases h3
      rcases cellsFrom_mem _ _ _ _ _ (PySem.mem_of_lookup hd) with z | z
      · cases z
      · exact absurd (lt x _ e) (Nat.not_lt.mpr (Nat.le_trans (Nat.le_add_right _ 2) z.2))
  · show b ≠ s2.heap.objs.size + 1
    exact Nat.ne_of_lt (Nat.lt_succ_of_lt (ho b hb))
  · subst z
    rcases cells_split I2 S h with ⟨_, l⟩ | e
    · exact absurd (ho _ hb) (Nat.not_lt.mpr (Nat.le_trans (Nat.le_add_right _ 2) l))
    · exact (hf _ hb).2.2.2.2.1 x _ e rfl
  · rcases (hf b hb).2.2.2.1 with z | z
    · exact I2.ok.noex b o e z
    · exact absurd (Nat.lt_of_lt_of_le (Heap.lt_size e) (Nat.le_trans I2.ok.bsz z)) (Nat.lt_irrefl _)
  · rcases List.mem_cons.mp (I2.stkSub b z) with e | e
    · exact (hf b hb).2.1 e
    · exact (hf b hb).2.2.1 e
  · rcases cells_split I2 S h with ⟨m1, l⟩ | e
    · exact ⟨_, (ok.empty x c m1).1⟩
    · obtain ⟨v, q⟩ := I2.cell x c e
      exact ⟨v, q.keeps keep⟩
  · rcases cells_split I2 S h with ⟨m1, l⟩ | e
    · exact I2.hok.fresh (Nat.le_trans (Nat.le_add_right _ 2) l)
    · exact I2.freeC x c e
  · have e : p = (s2.heap.objs.size, { cls := .type "list", data := .seq ([] : List Value).toArray }) := by simpa [cxComp] using hp
    subst e
    refine ⟨hD, I2.hok.fresh (Nat.le_refl _), ?_, fun z => ?_, fun v z => by cases z⟩
    · show s2.heap.objs.size ≠ s2.heap.objs.size + 1
      omega
    · rcases List.mem_cons.mp (I2.stkSub _ z) with e | e
      · have e' : s2.heap.objs.size = X.env.locals := e
        exact absurd I2.lt (by rw [← e']; exact Nat.lt_irrefl _)
      · exact I2.nofs (Nat.le_refl _) e
end

/-! ### tests -/
def PIf (X : Cx) (ifs : List Expr) (t : TT) : Prop :=
  ∀ (pins : List (Addr × Obj)) (s : Shared) (σ : St) (H : Hp) (Q : Bool → Hp → Prop), Inv X pins σ H s → t σ H Q →
    wpAny (model X.prog X.w) X.A (forIn ifs true fun c r => if r = true then do let ok ← isTrue c X.env (eval c X.env); pure (ForInStep.yield ok) else pure (ForInStep.yield r)) (TP X pins σ Q) X.xe s
def tYes : TT := fun _ H Q => Q true H
theorem pif_nil {X : Cx} : PIf X [] tYes := fun _ _ _ H _ I h => wpAny_tests_nil ⟨H, I, h⟩
theorem pif_one {X : Cx} {c : Expr} {t : TT} (h : PT X c t) : PIf X [c] t := fun pins s σ H Q I hq => wpAny_tests_one (h pins s σ H Q I hq)

/-! ### the rule -/
/-- the gathered list is laid -/
def CDone (Q : VK) (H : Hp) (ys : List V) : Prop := ∀ l, H l = none → Q (.ref l) (upd H l (.lst ys))
/-- W: the invariant by the turn, a measure, what has been gathered -/
def tComp (N' : List Str) (ix : List Nat) (wi : TI) (g : TG) (tt : TT) (te : TE) : TE := fun σ H Q => wi σ H fun J H1 => ∃ W : Nat → Nat → List V → Hp → Prop, (∃ m, W 0 m [] H1) ∧ ∀ i m ys H, W i m ys H →
  (J.stop i H ∧ CDone Q H ys) ∨
  (J.go i H ∧ ∀ x H', J.yld i H x H' → g x (blockSt N' ix σ) H' fun σ2 H2 => tt σ2 H2 fun b H3 =>
    if b = true then te σ2 H3 fun y H4 => ys.length < sizeLine ∧ ∃ m', m' < m ∧ W (i + 1) m' (ys ++ [y]) H4 else ∃ m', m' < m ∧ W (i + 1) m' ys H3)

theorem HOk.adopt {P : Program} {w : World} {H : Hp} {h h' : Heap} {a : Addr} {o : HO} (x : HOk P w H h) (hn : H a = none) (k : ∀ b u, H b ≠ none → h.get? b = some u → h'.get? b = some u) (new : ObjOk P w (upd H a o) h' a o) : HOk P w (upd H a o) h' := fun b u e => by
  by_cases hb : b = a
  · subst hb; rw [upd_same] at e; cases e; exact new
  · rw [upd_ne hb] at e
    refine (x b u e).stay (fun c v hc q => k c v ?_ q) (fun c q => by rw [upd_ne (ne_of_none q hn)]; exact q) fun c xs q => by rw [upd_ne (ne_of_none q hn)]; exact q
    rcases hc with rfl | hc
    · rw [e]; exact fun z => nomatch z
    · rw [hc]; exact fun z => nomatch z

section
variable {X : Cx} {pins : List (Addr × Obj)} {σ : St} {H : Hp} {s : Shared} {sc : Scope} {N' : List Str} {ix : List Nat} {elt tg iter : Expr} {ifs : List Expr} {pos pos' : Pos} {wi : TI} {g : TG} {tt : TT} {te : TE} {Q : VK}
theorem comp_core {use : Option (Value → Sem Unit)} {Qf : Value → Shared → Prop} (hc : X.calm = true) (hi : PI X tg iter wi) (S : CScope X.N X.env.scope sc N' ix)
    (hg : ∀ fp C s H, PG (cxComp X sc N' fp C s H) tg g) (hif : ∀ fp C s H, PIf (cxComp X sc N' fp C s H) ifs tt) (he : ∀ fp C s H, PE (cxComp X sc N' fp C s H) elt te)
    (hs : ∀ x, foldedSetIterable iter X.env x = pure x) (I : Inv X pins σ H s) (h : tComp N' ix wi g tt te σ H Q)
    (fin : ∀ (D C : Addr) (s' : Shared) (H' : Hp) (m : Str → Option Value), Inv X pins σ H' s' → Q (.ref D) H' → s'.heap.Ns C m → FpOk X pins H' C → compPost (model X.prog X.w) X.A X.xe use Qf (.ref D) C (.ok .next) s') :
    wpAny (model X.prog X.w) X.A (comprehension (.ListComp elt [⟨tg, iter, ifs, 0⟩] sc pos) sc X.env pos' (newList []) false (eval iter X.env) use) Qf X.xe s := by
  refine wpAny_comprehension_free (use := use) rfl hs (closure_eq (free_has I S)) S.kind S.loc ?_
  refine thn (hi pins s σ H _ I h) fun v s1 h1 => thn h1 fun itv s2 h2 => ?_
  obtain ⟨it, fp, tn, J, H2, e, I2, T, st2, f2, W, ⟨m0, w0⟩, turn⟩ := h2
  subst e
  have ho : ∀ b ∈ fp, b < s2.heap.objs.size := fun b hb => by
    obtain ⟨o, e, _⟩ := T.obj _ _ st2 b hb
    exact Heap.lt_size e
  have z1 : (s2.heap.push { cls := .type "list", data := .seq ([] : List Value).toArray }).objs.size = s2.heap.objs.size + 1 := Heap.size_push ..
  refine wpAny_newObj_type (newEnv_comp ?_)
  have I0 := comp_start I2 S f2 ho
  have st0 : tn 0 (pushCells ((s2.heap.push { cls := .type "list", data := .seq ([] : List Value).toArray }).push { cls := .type "dict", data := .dict #[] }) sc.names) :=
    T.keep _ _ _ st2 fun b _ o e => pushCells_keeps _ _ b o (Heap.get?_push_of_some _ (Heap.get?_push_of_some _ e))
  dsimp only
  rw [z1]
  generalize hs4 : ({ s2 with heap := pushCells ((s2.heap.push { cls := .type "list", data := .seq ([] : List Value).toArray }).push { cls := .type "dict", data := .dict #[] }) sc.names } : Shared) = s4 at I0
  have st0' : tn 0 s4.heap := by rw [← hs4]; exact st0
  -- what stays true of the iterator's objects in the block
  have D_C : s2.heap.objs.size ≠ s2.heap.objs.size + 1 := by omega
  have D_cell : ∀ x c, (cxComp X sc N' fp (s2.heap.objs.size + 1) s2 H2).env.cells.lookup x = some c → c ≠ s2.heap.objs.size := fun x c e z => by
    rcases cells_split I2 S e with ⟨_, l⟩ | e
    · rw [z] at l
      exact absurd (Nat.le_of_succ_le l) (Nat.not_succ_le_self _)
    · obtain ⟨v, q⟩ := I2.cell x c e
      have q' := q.lt
      rw [z] at q'
      exact absurd q' (Nat.lt_irrefl _)
  have fpB : ∀ {H' : Hp} {o : Obj}, (∀ b ∈ fp, H' b = none) → ∀ b ∈ fp, FpOk (cxComp X sc N' fp (s2.heap.objs.size + 1) s2 H2) [(s2.heap.objs.size, o)] H' b := fun {H' o} hn b hb => by
    refine ⟨hn b hb, ?_, I0.ok.exfs b hb, .inl hb, fun x c e => (I0.ok.exf b hb).2 x c e, fun p hp => ?_⟩
    · exact (I0.ok.exf b hb).1
    · have e : p = (s2.heap.objs.size, o) := by simpa [cxComp] using hp
      subst e
      exact (Nat.ne_of_lt (ho b hb)).symm
  -- the loop
  have loop : codeAny (model X.prog X.w) X.A (.compLoop (.ListComp elt [⟨tg, iter, ifs, 0⟩] sc pos) 0 (.ref it) (.ref s2.heap.objs.size) (cxComp X sc N' fp (s2.heap.objs.size + 1) s2 H2).env)
      (compPost (model X.prog X.w) X.A X.xe use Qf (.ref s2.heap.objs.size) (s2.heap.objs.size + 1)) s4 := by
    refine compLoop_own (fun n s' => ∃ i ys H' its nn, Inv (cxComp X sc N' fp (s2.heap.objs.size + 1) s2 H2) [(s2.heap.objs.size, { cls := .type "list", data := .seq (its : List Value).toArray nn })] (blockSt N' ix σ) H' s' ∧ Vals ys its ∧ ys.length ≤ sizeLine ∧ tn i s'.heap ∧ (∀ b ∈ fp, H' b = none) ∧ W i n ys H')
      ?_ m0 ⟨0, [], H2, [], 0, I0, .nil, Nat.zero_le _, st0', fun b hb => (f2 b hb).1, w0⟩
    rintro n s3 ⟨i, ys, H3, its, nn, I3, rv, hz, st3, fr3, w3⟩
    rcases turn i n ys H3 w3 with ⟨stop, qn⟩ | ⟨go, step⟩
    · refine thn (T.done (cxComp X sc N' fp (s2.heap.objs.size + 1) s2 H2) rfl rfl rfl hc i _ s3 _ H3 (fun _ _ => False) I3 (fpB fr3) st3 stop) fun r s5 ⟨hr, I5⟩ => ?_
      subst hr
      obtain ⟨m, ns, _⟩ := I5.loc
      obtain ⟨eD, nD, _⟩ := I5.pin (s2.heap.objs.size, { cls := .type "list", data := .seq its.toArray nn }) (by simp [cxComp])
      have eD' : s5.heap.get? s2.heap.objs.size = some { cls := .type "list", data := .seq its.toArray nn } := eD
      have nD' : H3 s2.heap.objs.size = none := nD
      have hok : HOk X.prog X.w (upd H3 s2.heap.objs.size (.lst ys)) s5.heap := HOk.adopt I5.hok nD' (fun b u _ e => e) ⟨hz, its, nn, rv, eD'⟩
      have uB : Un (frs X.stack) fp H2 H3 s2.heap s5.heap := I5.base
      have nD2 : H2 s2.heap.objs.size = none := I2.hok.fresh (Nat.le_refl _)
      have uU : Un (frs X.stack) fp H2 (upd H3 s2.heap.objs.size (.lst ys)) s2.heap s5.heap :=
        ⟨uB.keep, uB.slot, fun b o e n hx => by rw [upd_ne (Nat.ne_of_lt (Heap.lt_size e))]; exact uB.free b o e n hx, uB.there,
          fun b xs e => by rw [upd_ne (ne_of_none e nD2)]; exact uB.tups b xs e, fun b o u e => by rw [upd_ne (ne_of_none e nD2)]; exact uB.frzs b o u e,
          fun b ps e => by rw [upd_ne (ne_of_none e nD2)]; exact uB.tbls b ps e⟩
      have IX : Inv X pins σ (upd H3 s2.heap.objs.size (.lst ys)) s5 := I2.call' (ch := fp) I5.os uU hok I5.bare fun b hb => ⟨(f2 b hb).2.2.2.1, (f2 b hb).2.1, (f2 b hb).2.2.2.2.1, (f2 b hb).2.2.2.2.2⟩
      have hCn : H3 (s2.heap.objs.size + 1) = none := I5.free
      refine fin s2.heap.objs.size (s2.heap.objs.size + 1) s5 _ m IX (qn _ nD') ns ?_
      refine ⟨by rw [upd_ne (Ne.symm D_C)]; exact hCn, ?_, ?_, .inr (Nat.le_trans I2.sz (Nat.le_succ _)), fun x c e z => ?_, fun p hp z => ?_⟩
      · exact Nat.ne_of_gt (Nat.lt_succ_of_lt I2.lt)
      · exact I2.nofs (Nat.le_succ _)
      · obtain ⟨v, q⟩ := I2.cell x c e
        have q' := q.lt
        rw [z] at q'
        exact absurd q' (Nat.not_lt.mpr (Nat.le_succ _))
      · have q' := Heap.lt_size (I2.pin p hp).1
        rw [z] at q'
        exact absurd q' (Nat.not_lt.mpr (Nat.le_succ _))
    · refine thn (T.item (cxComp X sc N' fp (s2.heap.objs.size + 1) s2 H2) rfl rfl rfl hc i _ s3 _ H3 (fun _ _ => False) I3 (fpB fr3) st3 go) fun r s5 ⟨u, hr, h5⟩ => ?_
      subst hr
      refine thn h5 fun _ s6 ⟨x, H6, I6, r6, y6, st6, fr6⟩ => ?_
      have I6' := I6.pinned (fpB fr6) (T.obj _ _ st6)
      refine thn (hg fp _ s2 H2 _ s6 _ H6 x u _ I6' r6 (step x H6 y6)) fun _ s7 ⟨σ7, H7, I7, q7⟩ => ?_
      refine thn (hif fp _ s2 H2 _ s7 σ7 H7 _ I7 q7) fun b s8 ⟨H8, I8, q8⟩ => ?_
      have keepSt : ∀ {σ9 : St} {H9 : Hp} {s9 : Shared}, Inv (cxComp X sc N' fp (s2.heap.objs.size + 1) s2 H2) ([(s2.heap.objs.size, { cls := .type "list", data := .seq its.toArray nn })] ++ pinsAt fp s6.heap) σ9 H9 s9 →
          tn (i + 1) s9.heap ∧ ∀ b ∈ fp, H9 b = none := fun {σ9 H9 s9} I9 => by
        refine ⟨T.keep _ _ _ st6 fun b hb o e => (I9.pin (b, o) (List.mem_append_right _ (List.mem_append_right _ (mem_pinsAt hb e)))).1, fun b hb => ?_⟩
        obtain ⟨o, e, d⟩ := T.obj _ _ st6 b hb
        exact (I9.pin (b, o) (List.mem_append_right _ (List.mem_append_right _ (mem_pinsAt hb e)))).2.1
      cases b with
      | false =>
        rw [if_neg Bool.false_ne_true]
        obtain ⟨m', hm, w8⟩ : ∃ m', m' < n ∧ W (i + 1) m' ys H8 := q8
        obtain ⟨k1, k2⟩ := keepSt I8
        exact ⟨m', hm, i + 1, ys, H8, its, nn, comp_reset I2 S f2 I8.unpinned, rv, hz, k1, k2, w8⟩
      | true =>
        rw [if_pos rfl]
        refine thn (he fp _ s2 H2 _ s8 σ7 H8 _ I8 q8) fun y s9 ⟨yv, H9, I9, r9, hl9, m', hm, w9⟩ => ?_
        obtain ⟨k1, k2⟩ := keepSt I9
        have I9u := I9.unpinned
        obtain ⟨eD, nD, pD⟩ := I9u.pin (s2.heap.objs.size, { cls := .type "list", data := .seq its.toArray nn }) (by simp [cxComp])
        have eD' : s9.heap.get? s2.heap.objs.size = some { cls := .type "list", data := .seq its.toArray nn } := eD
        have nD' : H9 s2.heap.objs.size = none := nD
        have hlen := rv.length
        refine call_meets F.slot_list_append ⟨_, eD', rfl⟩ F.entry_list_append (F.args_list_append_2 _ _) (PySem.list_append s2.heap.objs.size its.toArray nn y (by rw [List.size_toArray]; omega)) ⟨eD', ?_⟩
        have q := PySem.IsL.update eD' (·.push y)
        have ep : its.toArray.push y = (its ++ [y]).toArray := by simp
        rw [ep] at q
        have I10 : Inv (cxComp X sc N' fp (s2.heap.objs.size + 1) s2 H2) [] σ7 H9 { s9 with heap := s9.heap.update s2.heap.objs.size (Obj.mapSeq (·.push y)), toks := s9.toks } :=
          (I9u.pins_of (pins' := []) (fun p hp => by cases hp)).turned (it := s2.heap.objs.size) (fun b o hb e => (Heap.get?_update_other s9.heap (Obj.mapSeq (·.push y)) (Ne.symm hb)).trans e) nD' D_C (.inr (Nat.le_refl _)) D_cell (fun p hp => by simp [cxComp] at hp)
        have I11 : Inv (cxComp X sc N' fp (s2.heap.objs.size + 1) s2 H2) [(s2.heap.objs.size, { cls := .type "list", data := .seq (its ++ [y]).toArray (if (its ++ [y]).toArray.size == its.toArray.size then nn else nn + 1) })] σ7 H9 { s9 with heap := s9.heap.update s2.heap.objs.size (Obj.mapSeq (·.push y)), toks := s9.toks } :=
          I10.pins_of fun p hp => by
            have e := List.mem_singleton.mp hp
            subst e
            exact ⟨q, nD', D_C, pD.2.1, fun v z => by cases z⟩
        refine ⟨m', hm, i + 1, ys ++ [yv], H9, its ++ [y], _, comp_reset I2 S f2 I11, rv.append (.cons r9 .nil), by rw [List.length_append, List.length_singleton]; omega, ?_, k2, w9⟩
        exact T.keep _ _ _ k1 fun b hb o e => (Heap.get?_update_other s9.heap (Obj.mapSeq (·.push y)) (Nat.ne_of_lt (ho b hb)).symm).trans e
  have start : codeAny (model X.prog X.w) X.A (.compStart (.ListComp elt [⟨tg, iter, ifs, 0⟩] sc pos) 0 (.ref it) (.ref s2.heap.objs.size) (cxComp X sc N' fp (s2.heap.objs.size + 1) s2 H2).env)
      (compPost (model X.prog X.w) X.A X.xe use Qf (.ref s2.heap.objs.size) (s2.heap.objs.size + 1)) s4 :=
    codeAny_compStart_list loop (T.self X.A 0 s4 _ _ st0' loop)
  exact start

/-- a comprehension as a value -/
theorem pe_comp (hc : X.calm = true) (hi : PI X tg iter wi) (S : CScope X.N X.env.scope sc N' ix)
    (hg : ∀ fp C s H, PG (cxComp X sc N' fp C s H) tg g) (hif : ∀ fp C s H, PIf (cxComp X sc N' fp C s H) ifs tt) (he : ∀ fp C s H, PE (cxComp X sc N' fp C s H) elt te)
    (hs : ∀ x, foldedSetIterable iter X.env x = pure x := by intro _; rfl) :
    PE X (.ListComp elt [⟨tg, iter, ifs, 0⟩] sc pos) (tComp N' ix wi g tt te) := by
  intro pins s σ H Q I h
  rw [eval_ListComp]
  refine comp_core (use := none) hc hi S hg hif he hs I h fun D C s' H' m I' q ns fc => ?_
  refine ⟨m, ns, fun h' hs' => ⟨.ref D, H', ?_, rfl, q⟩⟩
  obtain ⟨c0, c1, c2, c3, c4, c5⟩ := fc
  exact I'.turned (t' := s'.toks) (it := C) (fun b o hb e => (hs'.2 b hb).trans e) c0 c1 c3 c4 c5
/-- what comes behind a store -/
def nxSet (D : Ends) (σ : St) (i : Nat) : VK := fun v H1 => D.nx (σ.set i (some v)) H1
/-- x = [..], x a plain local of the same row: the machine exchanges the stores -/
theorem ps_setComp {i : Nat} {x : Str} {px : Pos} {spos : Pos} (hN : X.N.Nodup) (hx : X.N[i]? = some x) (hxl : X.env.scope.names.lookup x = some .local) (hc : X.calm = true) (hi : PI X tg iter wi) (S : CScope X.N X.env.scope sc N' ix)
    (hg : ∀ fp C s H, PG (cxComp X sc N' fp C s H) tg g) (hif : ∀ fp C s H, PIf (cxComp X sc N' fp C s H) ifs tt) (he : ∀ fp C s H, PE (cxComp X sc N' fp C s H) elt te)
    (hsw : swapsWith (.ListComp elt [⟨tg, iter, ifs, 0⟩] sc pos) (some (.Name x px)) spos.line X.env = pure true := by rfl)
    (hs : ∀ x, foldedSetIterable iter X.env x = pure x := by intro _; rfl) :
    PS X (.Assign [.Name x px] (.ListComp elt [⟨tg, iter, ifs, 0⟩] sc pos) spos) (fun D σ H => tComp N' ix wi g tt te σ H (nxSet D σ i)) := by
  intro pins s σ H D I h
  rw [exec_Assign_Name_used _ _ _ _ hsw]
  refine wpAny_bind (wpAny_standAt (wpAny_bind ?_))
  show wpAny _ X.A (do let _ ← comprehension (.ListComp elt [⟨tg, iter, ifs, 0⟩] sc pos) sc X.env _ (newList []) false (eval iter X.env) (some (assign (.Name x px) X.env))) _ _ s
  refine wpAny_bind (thn (comp_core (use := some (assign (.Name x px) X.env)) (Qf := fun _ s' => SP X pins D .next s') hc hi S hg hif he hs I h fun L C s' H' m I' q ns fc => ?_) fun _ s' hq => wpAny_pure (wpAny_pure hq))
  obtain ⟨c0, c1, c2, c3, c4, c5⟩ := fc
  refine wpAny_assign_Name (store_ok2 I' hN hx (.inl hxl) (v := .ref L) rfl (fun s3 I3 ⟨a, sb, ha⟩ => ?_) (.inr hxl))
  have hCa : C ≠ a := by
    rcases ha with e | e
    · rw [e]; exact c1
    · exact fun z => c4 _ _ e z.symm
  refine ⟨m, ns.sameBut sb hCa, fun h' hs' => ⟨_, H', ?_, q⟩⟩
  exact I3.turned (t' := s3.toks) (it := C) (fun b o hb e => (hs'.2 b hb).trans e) c0 c1 c3 c4 c5
end

/-! ### the forms one uses -/
/-- behind a turn -/
def Pn (Pv : Nat → List V → Hp → Prop) (n i : Nat) (ys : List V) (H : Hp) : Prop := ∃ m', m' < n - i ∧ (m' = n - (i + 1) ∧ i + 1 ≤ n ∧ ys.length ≤ i + 1 ∧ Pv (i + 1) ys H)
theorem Pn.mk {Pv : Nat → List V → Hp → Prop} {n i : Nat} {ys : List V} {H : Hp} (hi : i < n) (hl : ys.length ≤ i + 1) (h : Pv (i + 1) ys H) : Pn Pv n i ys H := ⟨n - (i + 1), by omega, rfl, hi, hl, h⟩
theorem Pn.snoc {Pv : Nat → List V → Hp → Prop} {n i : Nat} {ys : List V} {y : V} {H : Hp} (hi : i < n) (hl : ys.length ≤ i) (h : Pv (i + 1) (ys ++ [y]) H) : Pn Pv n i (ys ++ [y]) H := .mk hi (by rw [List.length_append, List.length_singleton]; omega) h
theorem comp_range {lo : Int} {n : Nat} {g : TG} {tt : TT} {te : TE} {σ0 : St} {H : Hp} {Q : VK} (Pv : Nat → List V → Hp → Prop) (h0 : Pv 0 [] H) (hn : n < sizeLine)
    (hs : ∀ i ys H, i < n → Pv i ys H → ys.length ≤ i → ys.length < sizeLine → g (.int (lo + i)) σ0 H fun σ2 H2 => tt σ2 H2 fun b H3 => if b = true then te σ2 H3 fun y H4 => ys.length < sizeLine ∧ Pn Pv n i (ys ++ [y]) H4 else Pn Pv n i ys H3)
    (hd : ∀ ys H, Pv n ys H → ys.length ≤ n → ∀ l, H l = none → Q (.ref l) (upd H l (.lst ys))) :
    ∃ W : Nat → Nat → List V → Hp → Prop, (∃ m, W 0 m [] H) ∧ ∀ i m ys H, W i m ys H →
      ((Itr lo n).stop i H ∧ CDone Q H ys) ∨
      ((Itr lo n).go i H ∧ ∀ x H', (Itr lo n).yld i H x H' → g x σ0 H' fun σ2 H2 => tt σ2 H2 fun b H3 =>
        if b = true then te σ2 H3 fun y H4 => ys.length < sizeLine ∧ ∃ m', m' < m ∧ W (i + 1) m' (ys ++ [y]) H4 else ∃ m', m' < m ∧ W (i + 1) m' ys H3) := by
  refine ⟨fun i m ys H => m = n - i ∧ i ≤ n ∧ ys.length ≤ i ∧ Pv i ys H, ⟨n, by simp, Nat.zero_le _, Nat.le_refl _, h0⟩, ?_⟩
  rintro i m ys H ⟨rfl, hi, hl, p⟩
  by_cases hlt : i < n
  · refine .inr ⟨hlt, fun x H' y => ?_⟩
    obtain ⟨e, y⟩ := y
    subst e y
    exact hs i ys _ hlt p hl (by omega)
  · have e : i = n := by omega
    subst e
    exact .inl ⟨Nat.le_refl _, hd ys H p hl⟩
theorem comp_list {K : PySem.W.Frag} {a : Addr} {xs : List V} {g : TG} {tt : TT} {te : TE} {σ0 : St} {H : Hp} {Q : VK} (Pv : Nat → List V → Hp → Prop) (h0 : Pv 0 [] H) (hn : xs.length < sizeLine) (hl : ∀ i ys H, i ≤ xs.length → Pv i ys H → SqL K H a xs)
    (hs : ∀ i x ys H, xs[i]? = some x → i < xs.length → Pv i ys H → ys.length ≤ i → ys.length < sizeLine → g x σ0 H fun σ2 H2 => tt σ2 H2 fun b H3 => if b = true then te σ2 H3 fun y H4 => ys.length < sizeLine ∧ Pn Pv xs.length i (ys ++ [y]) H4 else Pn Pv xs.length i ys H3)
    (hd : ∀ ys H, Pv xs.length ys H → ys.length ≤ xs.length → ∀ l, H l = none → Q (.ref l) (upd H l (.lst ys))) :
    ∃ W : Nat → Nat → List V → Hp → Prop, (∃ m, W 0 m [] H) ∧ ∀ i m ys H, W i m ys H →
      ((Itl K a).stop i H ∧ CDone Q H ys) ∨
      ((Itl K a).go i H ∧ ∀ x H', (Itl K a).yld i H x H' → g x σ0 H' fun σ2 H2 => tt σ2 H2 fun b H3 =>
        if b = true then te σ2 H3 fun y H4 => ys.length < sizeLine ∧ ∃ m', m' < m ∧ W (i + 1) m' (ys ++ [y]) H4 else ∃ m', m' < m ∧ W (i + 1) m' ys H3) := by
  refine ⟨fun i m ys H => m = xs.length - i ∧ i ≤ xs.length ∧ ys.length ≤ i ∧ Pv i ys H, ⟨xs.length, by simp, Nat.zero_le _, Nat.le_refl _, h0⟩, ?_⟩
  rintro i m ys H ⟨rfl, hi, hyl, p⟩
  have q := hl i ys H hi p
  by_cases hlt : i < xs.length
  · refine .inr ⟨⟨xs, xs[i], q, by simp [hlt]⟩, fun x H' y => ?_⟩
    obtain ⟨e, y⟩ := y
    subst e
    exact hs i x ys _ (y xs q) hlt p hyl (by omega)
  · have e : i = xs.length := by omega
    subst e
    exact .inl ⟨⟨xs, q, Nat.le_refl _⟩, hd ys H p hyl⟩
/-- while, by a word and a measure -/
theorem wh {Pv : St → Hp → Prop} {μ : St → Hp → Nat} {m : Nat} : ∀ σ' H', (Pv σ' H' ∧ μ σ' H' < m) → ∃ m', m' < m ∧ (m' = μ σ' H' ∧ Pv σ' H') := fun _ _ ⟨p, l⟩ => ⟨_, l, rfl, p⟩
theorem while_of {c : TT} {tb : TS} {D : Ends} {σ : St} {H : Hp} (Pv : St → Hp → Prop) (μ : St → Hp → Nat) (h0 : Pv σ H)
    (hs : ∀ σ H, Pv σ H → c σ H fun b H1 => if b = true then ∃ N : St → Hp → Prop, (∀ σ' H', N σ' H' → ∃ m', m' < μ σ H ∧ (m' = μ σ' H' ∧ Pv σ' H')) ∧ tb { D with nx := N, ct := N, bk := D.nx } σ H1 else D.nx σ H1) : tWhile c tb D σ H := by
  refine ⟨fun m σ H => m = μ σ H ∧ Pv σ H, ⟨_, rfl, h0⟩, ?_⟩
  rintro m σ H ⟨rfl, p⟩
  exact hs σ H p
end L2

set_option Elab.async false
set_option linter.all false
set_option maxRecDepth 100000
set_option maxHeartbeats 4000000
/-! More of Python's own over the hand layer -/
namespace L2
open PySem PySem.Spec PyProof.Rows

/-! ### enumerate(xs), its pairs taken apart by the target -/
def Ite (K : PySem.W.Frag) (a : Addr) : It :=
  ⟨fun i H => ∃ xs x, SqL K H a xs ∧ xs[i]? = some x, fun i H v H' => ∃ t x, v = .ref t ∧ H t = none ∧ H' = upd H t (.tup [.int i, x]) ∧ ∀ xs, SqL K H a xs → xs[i]? = some x, fun i H => ∃ xs, SqL K H a xs ∧ xs.length ≤ i⟩
theorem turn_enum {P : Program} {w : World} {K : PySem.W.Frag} {es : List Expr} {k : Nat} {pos : Pos} (a e it : Addr) (hei : e ≠ it) :
    Turn P w K (.Tuple es k pos) (Ite K a) [e, it] e (fun i h => (∃ old, IsEnum h e it i old) ∧ h.IsListIter it a i) where
  mem := by simp
  obj := fun i h st b hb => by
    obtain ⟨⟨old, he⟩, o, ho, c, d⟩ := st
    rcases List.mem_cons.mp hb with z | hb
    · subst z
      exact ⟨_, he, fun v z => by cases z⟩
    · have z : b = it := by simpa using hb
      subst z
      exact ⟨o, ho, fun v z => by rw [d] at z; cases z⟩
  keep := fun i h h' st kp => ⟨let ⟨old, he⟩ := st.1; ⟨old, kp e (by simp) _ he⟩, st.2.at fun o z => kp it (by simp) o z⟩
  item := by
    intro X hP hw hK hc i pins s σ H E I hf st hg
    subst hP hw hK
    obtain ⟨xs, x, hq, hx⟩ := hg
    obtain ⟨its, rv, p, hz⟩ := I.list hq
    obtain ⟨u, hu, ru⟩ := rv.get hx
    obtain ⟨⟨old, he⟩, hit⟩ := st
    obtain ⟨e0, e1, e2, e3, e4, e5⟩ := hf e (by simp)
    obtain ⟨i0, i1, i2, i3, i4, i5⟩ := hf it (by simp)
    refine wpAny_pyNext_enum_item he hit p.isList (x := u) (by simpa using hu) hei fun h' ho hit' hT hsz hk => ?_
    refine ⟨_, rfl, wpAny_letOwnedTupleGo_enum ho fun h2 he2 hs2 => ?_⟩
    replace hs2 : Heap.SameBut e h' h2 := hs2
    have hT0 : H s.heap.objs.size = none := I.hok.fresh (Nat.le_refl _)
    have eT : e ≠ s.heap.objs.size := Nat.ne_of_lt (Heap.lt_size he)
    have iT : it ≠ s.heap.objs.size := by
      obtain ⟨o, ho, _⟩ := hit
      exact Nat.ne_of_lt (Heap.lt_size ho)
    have kp : ∀ b o, b ∉ [e, it] → s.heap.get? b = some o → h2.get? b = some o := fun b o hb q => by
      have nb : b ≠ e ∧ b ≠ it := by simpa using hb
      exact (hs2.2 b nb.1).trans (hk b o nb.1 nb.2 q)
    have hT2 : h2.get? s.heap.objs.size = some { cls := .type "tuple", data := .seq #[.int i s.toks, u] } := (hs2.2 _ (Ne.symm eT)).trans hT
    refine ⟨.ref s.heap.objs.size, upd H s.heap.objs.size (.tup [.int i, x]), ?_, rfl, ⟨_, x, rfl, hT0, rfl, fun ys hy => by rw [I.list_inj hy hq]; exact hx⟩, ⟨⟨_, by simpa using he2⟩, hit'.at fun o z => (hs2.2 it (Ne.symm hei)).trans z⟩, fun b hb => ?_⟩
    · refine Inv.step (s := s) (h' := h2) I (g' := s.gens) (d' := s.drawn) (t' := s.toks + 1) (ch := [e, it]) (fun b hb => ?_) (fun b o _ _ hb q _ => kp b o hb q) (fun b o _ _ hb q _ => ⟨o.slots, kp b o hb q⟩) (fun b o hb q n => ?_) (fun b o hb q => ⟨o, kp b o hb q⟩)
        (fun b ys q => ?_) (fun b o z q => ?_) (fun b ps q => ⟨#[], ?_⟩) (fun m hm => ?_) ?_ I.bare
      · rcases List.mem_cons.mp hb with z | hb
        · subst z; exact ⟨e3, e1, e4, e5⟩
        · have z : b = it := by simpa using hb
          subst z; exact ⟨i3, i1, i4, i5⟩
      · rw [upd_ne (Nat.ne_of_lt (Heap.lt_size q))]; exact n
      · rw [upd_ne (ne_of_none q hT0)]; exact q
      · rw [upd_ne (ne_of_none q hT0)]; exact q
      · rw [upd_ne (ne_of_none q hT0), q]; simp
      · obtain ⟨o, es', ep, q, r⟩ := hm
        exact ⟨o, es', ep, kp _ o (by simp only [List.mem_cons, List.not_mem_nil, or_false, not_or]; exact ⟨Ne.symm e1, Ne.symm i1⟩) q, r⟩
      · refine HOk.adopt I.hok hT0 (fun b u hb q => kp b u ?_ q) ⟨by simp only [List.length_cons, List.length_nil]; rw [sizeLine_eq]; decide, [.int i s.toks, u], .cons ⟨_, rfl⟩ (.cons ru .nil), ?_⟩
        · simp only [List.mem_cons, List.not_mem_nil, or_false, not_or]
          exact ⟨fun z => hb (by rw [z]; exact e0), fun z => hb (by rw [z]; exact i0)⟩
        · exact ⟨_, hT2, rfl, _, rfl⟩
    · rcases List.mem_cons.mp hb with z | hb
      · subst z; rw [upd_ne eT]; exact e0
      · have z : b = it := by simpa using hb
        subst z; rw [upd_ne iT]; exact i0
  done := by
    intro X hP hw hK hc i pins s σ H E I hf st hg
    subst hP hw hK
    obtain ⟨xs, hq, hx⟩ := hg
    obtain ⟨its, rv, p, hz⟩ := I.list hq
    obtain ⟨⟨old, he⟩, hit⟩ := st
    obtain ⟨f0, f1, f2, f3, f4, f5⟩ := hf it (by simp)
    have hl := rv.length
    exact wpAny_pyNext_enum_end (I.ok.hd hc) he hit p.isList (by simp; omega) fun h' eb => ⟨rfl, I.turned (t' := s.toks) (fun b o hb e => eb b o hb e) f0 f1 f3 f4 f5⟩
  self := fun _ _ _ _ _ st h => let ⟨_, he⟩ := st.1; wpAny_pyIter_enum he h
section
variable {X : Cx}
def iEnum (K : PySem.W.Frag) (tl : TA) : TI := fun σ H R => tl σ H fun vs H1 => ∃ a, vs = [.ref a] ∧ (∃ xs, SqL K H1 a xs) ∧ R (Ite K a) H1
theorem pi_enum {l : Expr} {tl : TA} {es : List Expr} {k : Nat} {tpos p pos : Pos} (hg : Gl X "enumerate") (hm : X.mg "enumerate" = none) (ha : PA X [l] tl) (hs : starEach [l] X.env = [(false, eval l X.env)] := by rfl) :
    PI X (.Tuple es k tpos) (.Call (.Name "enumerate" p) [l] [] pos) (iEnum X.K tl) := by
  intro pins s σ H R I h
  refine Call_ (ld_blt I hg hm boot_enumerate (PyProof.Rows.callWith_type1 (thn (ha pos pins s σ H _ I h) fun us s1 ⟨vs, H1, I1, r1, q1⟩ => ?_) hs rfl))
  obtain ⟨a, e, ⟨xs, hq⟩, q⟩ := q1
  subst e
  obtain ⟨u, rfl, ru⟩ := vals1 r1
  cases ru
  obtain ⟨its, rv, pl, hz⟩ := I1.list hq
  refine call_enumerate_list pl.isList fun h' he hit hsz hk => ?_
  refine wpAny_pyIter_enum he ?_
  have I2 : Inv X pins σ H1 { s1 with heap := h', toks := s1.toks } := I1.kept (t' := s1.toks) hk
  refine ⟨s1.heap.objs.size + 1, [s1.heap.objs.size + 1, s1.heap.objs.size], _, _, H1, rfl, I2, turn_enum a _ _ (Nat.succ_ne_self _), ⟨⟨_, he⟩, hit⟩, fun b hb => ?_, q⟩
  have hb' : s1.heap.objs.size ≤ b := by
    rcases List.mem_cons.mp hb with z | hb
    · rw [z]; exact Nat.le_succ _
    · have z : b = s1.heap.objs.size := by simpa using hb
      rw [z]; exact Nat.le_refl _
  exact I1.fpOk hb' (I1.hok.fresh hb')
theorem for_enum {K : PySem.W.Frag} {a : Addr} {xs : List V} {g : TG} {tb : TS} {D : Ends} {σ : St} {H : Hp} (Pv : Nat → St → Hp → Prop) (h0 : Pv 0 σ H) (hl : ∀ i σ H, i ≤ xs.length → Pv i σ H → SqL K H a xs)
    (hs : ∀ i x σ H t, xs[i]? = some x → Pv i σ H → H t = none → g (.ref t) σ (upd H t (.tup [.int i, x])) fun σ2 H2 => tb { D with nx := Pv (i + 1), ct := Pv (i + 1), bk := D.nx } σ2 H2) (hd : ∀ σ H, Pv xs.length σ H → D.nx σ H) :
    ∃ W : Nat → Nat → St → Hp → Prop, (∃ m, W 0 m σ H) ∧ ∀ i m σ H, W i m σ H →
      ((Ite K a).stop i H ∧ D.nx σ H) ∨ ((Ite K a).go i H ∧ ∃ N : St → Hp → Prop, (∀ σ' H', N σ' H' → ∃ m', m' < m ∧ W (i + 1) m' σ' H') ∧ ∀ x H', (Ite K a).yld i H x H' → g x σ H' fun σ2 H2 => tb { D with nx := N, ct := N, bk := D.nx } σ2 H2) := by
  refine ⟨fun i m σ H => m = xs.length - i ∧ i ≤ xs.length ∧ Pv i σ H, ⟨xs.length, by simp, Nat.zero_le _, h0⟩, ?_⟩
  rintro i m σ H ⟨rfl, hi, p⟩
  have q := hl i σ H hi p
  by_cases hlt : i < xs.length
  · refine .inr ⟨⟨xs, xs[i], q, by simp [hlt]⟩, Pv (i + 1), fun σ' H' p' => ⟨xs.length - (i + 1), by omega, rfl, hlt, p'⟩, fun x H' y => ?_⟩
    obtain ⟨t, z, e1, e2, e3, e4⟩ := y
    subst e1 e3
    exact hs i z σ _ t (e4 xs q) p e2
  · have e : i = xs.length := by omega
    subst e
    exact .inl ⟨⟨xs, q, Nat.le_refl _⟩, hd σ H p⟩
theorem comp_enum {K : PySem.W.Frag} {a : Addr} {xs : List V} {g : TG} {tt : TT} {te : TE} {σ0 : St} {H : Hp} {Q : VK} (Pv : Nat → List V → Hp → Prop) (h0 : Pv 0 [] H) (hn : xs.length < sizeLine) (hl : ∀ i ys H, i ≤ xs.length → Pv i ys H → SqL K H a xs)
    (hs : ∀ i x ys H t, xs[i]? = some x → i < xs.length → Pv i ys H → ys.length ≤ i → ys.length < sizeLine → H t = none → g (.ref t) σ0 (upd H t (.tup [.int i, x])) fun σ2 H2 => tt σ2 H2 fun b H3 => if b = true then te σ2 H3 fun y H4 => ys.length < sizeLine ∧ Pn Pv xs.length i (ys ++ [y]) H4 else Pn Pv xs.length i ys H3)
    (hd : ∀ ys H, Pv xs.length ys H → ys.length ≤ xs.length → ∀ l, H l = none → Q (.ref l) (upd H l (.lst ys))) :
    ∃ W : Nat → Nat → List V → Hp → Prop, (∃ m, W 0 m [] H) ∧ ∀ i m ys H, W i m ys H →
      ((Ite K a).stop i H ∧ CDone Q H ys) ∨
      ((Ite K a).go i H ∧ ∀ x H', (Ite K a).yld i H x H' → g x σ0 H' fun σ2 H2 => tt σ2 H2 fun b H3 =>
        if b = true then te σ2 H3 fun y H4 => ys.length < sizeLine ∧ ∃ m', m' < m ∧ W (i + 1) m' (ys ++ [y]) H4 else ∃ m', m' < m ∧ W (i + 1) m' ys H3) := by
  refine ⟨fun i m ys H => m = xs.length - i ∧ i ≤ xs.length ∧ ys.length ≤ i ∧ Pv i ys H, ⟨xs.length, by simp, Nat.zero_le _, Nat.le_refl _, h0⟩, ?_⟩
  rintro i m ys H ⟨rfl, hi, hyl, p⟩
  have q := hl i ys H hi p
  by_cases hlt : i < xs.length
  · refine .inr ⟨⟨xs, xs[i], q, by simp [hlt]⟩, fun x H' y => ?_⟩
    obtain ⟨t, z, e1, e2, e3, e4⟩ := y
    subst e1 e3
    exact hs i z ys _ t (e4 xs q) hlt p hyl (by omega) e2
  · have e : i = xs.length := by omega
    subst e
    exact .inl ⟨⟨xs, q, Nat.le_refl _⟩, hd ys H p hyl⟩
end

/-! ### == and != of lists of ints, of lists of lists of ints -/
section
variable {X : Cx}
theorem ints_list {H : Hp} {s : Shared} {pins : List (Addr × Obj)} {σ : St} (I : Inv X pins σ H s) {p : Addr} {ns : List Int} (h : SqL X.K H p (ns.map V.int)) : ∃ its : List Value, IntsAre its ns ∧ s.heap.IsList p its.toArray := by
  obtain ⟨its, rv, pl, _⟩ := I.list h
  exact ⟨its, intsAre_of rv, pl.isList⟩
def rEqL (K : PySem.W.Frag) (neg : Bool) : R2 := fun x y H Q => ∃ (p q : Addr) (ns ms : List Int), x = .ref p ∧ y = .ref q ∧ SqL K H p (ns.map V.int) ∧ SqL K H q (ms.map V.int) ∧ Q (.bl (if neg then !decide (ns = ms) else decide (ns = ms))) H
theorem op_eqL (hu : X.A.units + 64 < cLine) : OpR X (compareOp .Eq) (rEqL X.K false) := by
  intro pins s σ H x y v u Q I rx ry h
  obtain ⟨p, q, ns, ms, rfl, rfl, h1, h2, k⟩ := h
  cases rx; cases ry
  obtain ⟨its, i1, l1⟩ := ints_list I h1
  obtain ⟨jts, i2, l2⟩ := ints_list I h2
  exact PySem.W.ke_eq_ints l1 l2 i1 i2 hu ⟨.bl _, H, I, rfl, k⟩
theorem op_neL (hu : X.A.units + 64 < cLine) : OpR X (compareOp .NotEq) (rEqL X.K true) := by
  intro pins s σ H x y v u Q I rx ry h
  obtain ⟨p, q, ns, ms, rfl, rfl, h1, h2, k⟩ := h
  cases rx; cases ry
  obtain ⟨its, i1, l1⟩ := ints_list I h1
  obtain ⟨jts, i2, l2⟩ := ints_list I h2
  exact PySem.W.ke_ne_ints l1 l2 i1 i2 hu ⟨.bl _, H, I, rfl, k⟩
/-- a list of lists of ints -/
def LL (K : PySem.W.Frag) (H : Hp) (p : Addr) (nss : List (List Int)) : Prop := ∃ rs : List Addr, SqL K H p (rs.map V.ref) ∧ Paired (fun r ns => SqL K H r (ns.map V.int)) rs nss
theorem reads_LL {H : Hp} {s : Shared} {pins : List (Addr × Obj)} {σ : St} (I : Inv X pins σ H s) {p : Addr} {nss : List (List Int)} (h : LL X.K H p nss) :
    ∃ as, Reads s.heap (.ref p) (.list (nss.map fun ns => PyData.list (ns.map PyData.int))) as := by
  obtain ⟨rs, h1, h2⟩ := h
  obtain ⟨its, rv, pl, _⟩ := I.list h1
  obtain ⟨o, n, e, c, d, q⟩ := pl
  have all : ∀ {rs : List Addr} {nss : List (List Int)} {its : List Value}, Paired (fun r ns => SqL X.K H r (ns.map V.int)) rs nss → Vals (rs.map V.ref) its → ∃ as, ReadsAll s.heap its (nss.map fun ns => PyData.list (ns.map PyData.int)) as := by
    intro rs nss its hp
    induction hp generalizing its with
    | nil => intro r; cases r; exact ⟨_, ReadsAll.nil⟩
    | cons h _ ih =>
      intro r
      cases r with
      | cons r1 r2 =>
        cases r1
        obtain ⟨bs, q2⟩ := ih r2
        obtain ⟨jts, i1, l1⟩ := ints_list I h
        exact ⟨_, ReadsAll.cons (PySem.W.reads_of_ints l1 i1) q2⟩
  obtain ⟨as, q2⟩ := all h2 rv
  exact ⟨_, reads_list_at e c q (by simpa using q2)⟩
theorem shaped_LL (nss : List (List Int)) : SeqAt.shaped (.list (nss.map fun ns => PyData.list (ns.map PyData.int))) = true := by
  have a1 : ∀ ns : List Int, PyData.canLayAll0 (ns.map PyData.int) = true := PySem.W.ke_canLayAll0
  have a2 : ∀ ns : List Int, PyData.depthAll (ns.map PyData.int) = 0 := PySem.W.ke_depthAll
  have b1 : PyData.canLayAll0 (nss.map fun ns => PyData.list (ns.map PyData.int)) = true := by
    induction nss with
    | nil => rfl
    | cons ns r ih => simp [PyData.canLayAll0, PyData.canLay0, a1, ih]
  have b2 : PyData.depthAll (nss.map fun ns => PyData.list (ns.map PyData.int)) ≤ 1 := by
    induction nss with
    | nil => simp [PyData.depthAll]
    | cons ns r ih =>
      have ih' := ih (by simpa [PyData.canLayAll0, PyData.canLay0, a1] using b1)
      simp only [List.map_cons, PyData.depthAll, PyData.depth, a2]
      omega
  unfold SeqAt.shaped
  rw [Bool.and_eq_true]
  refine ⟨by simp only [PyData.canLay0]; exact b1, decide_eq_true ?_⟩
  simp only [PyData.depth]
  omega
theorem eqv_ints : ∀ ns ms : List Int, PyData.eqvAll (ns.map PyData.int) (ms.map PyData.int) = decide (ns = ms)
  | [], [] => by simp [PyData.eqvAll]
  | [], _ :: _ => by simp [PyData.eqvAll]
  | _ :: _, [] => by simp [PyData.eqvAll]
  | a :: r, b :: t => by
    simp only [List.map_cons, PyData.eqvAll, PyData.eqv, eqv_ints r t]
    by_cases h : a = b <;> by_cases h' : r = t <;> simp [h, h']
theorem eqv_LL : ∀ ns ms : List (List Int), PyData.eqvAll (ns.map fun ns => PyData.list (ns.map PyData.int)) (ms.map fun ns => PyData.list (ns.map PyData.int)) = decide (ns = ms)
  | [], [] => by simp [PyData.eqvAll]
  | [], _ :: _ => by simp [PyData.eqvAll]
  | _ :: _, [] => by simp [PyData.eqvAll]
  | a :: r, b :: t => by
    simp only [List.map_cons, PyData.eqvAll, PyData.eqv, eqv_LL r t, eqv_ints]
    by_cases h : a = b <;> by_cases h' : r = t <;> simp [h, h']
def rNeLL (K : PySem.W.Frag) : R2 := fun x y H Q => ∃ (p q : Addr) (ns ms : List (List Int)), x = .ref p ∧ y = .ref q ∧ LL K H p ns ∧ LL K H q ms ∧ Q (.bl (!decide (ns = ms))) H
theorem op_neLL (hu : X.A.units + 64 < cLine) : OpR X (compareOp .NotEq) (rNeLL X.K) := by
  intro pins s σ H x y v u Q I rx ry h
  obtain ⟨p, q, ns, ms, rfl, rfl, h1, h2, k⟩ := h
  cases rx; cases ry
  obtain ⟨as, r1⟩ := reads_LL I h1
  obtain ⟨bs, r2⟩ := reads_LL I h2
  refine ne_dataH r1 r2 (shaped_LL _) (shaped_LL _) hu ⟨.bl _, H, I, rfl, ?_⟩
  simp only [PyData.eqv]
  rw [eqv_LL]
  exact k
end

/-! ### sum, any of a list; sorted of a dict's int keys; set and its len; list(range(n)) -/
section
variable {X : Cx}
theorem call_sumL (hc : X.calm = true) : CallR X (.builtin "sum") (fun xs H Q => ∃ (p : Addr) (ns : List Int), xs = [.ref p] ∧ SqL X.K H p (ns.map V.int) ∧ Q (.int ns.sum) H) := by
  intro pins s σ H xs us Q I r h
  obtain ⟨p, ns, rfl, hq, q⟩ := h
  obtain ⟨u, rfl, rx⟩ := vals1 r
  cases rx
  obtain ⟨its, i1, l1⟩ := ints_list I hq
  obtain ⟨zs, e⟩ := i1.allInts.items
  have e' : its.toArray = intItems zs := e
  rw [e'] at l1
  refine sum_intListG (I.ok.hd hc) l1 fun h' tk t' hk => ⟨.int ns.sum, H, I.kept (t' := tk) hk, ⟨t', ?_⟩, q⟩
  rw [preSum_eq, List.take_of_length_le (by simp)]
  have n1 := i1.numsOf
  have n2 : numsOf its = numsOf (intItems zs).toList := by rw [← e']
  rw [nums_intItems] at n2
  rw [← n2, n1]
theorem any_getD : ∀ bs : List Bool, (List.range bs.length).any (fun i => bs.getD i false) = bs.any id
  | [] => rfl
  | b :: r => by
    rw [List.length_cons, List.range_succ_eq_map, List.any_cons, List.any_map, List.any_cons]
    have ih := any_getD r
    have e : (List.range r.length).any ((fun i => (b :: r).getD i false) ∘ Nat.succ) = r.any id := by
      rw [← ih]
      rfl
    rw [e]
    rfl
theorem call_anyL (hc : X.calm = true) : CallR X (.builtin "any") (fun xs H Q => ∃ (p : Addr) (bs : List Bool), xs = [.ref p] ∧ SqL X.K H p (bs.map V.bl) ∧ Q (.bl (bs.any id)) H) := by
  intro pins s σ H xs us Q I r h
  obtain ⟨p, bs, rfl, hq, q⟩ := h
  obtain ⟨u, rfl, rx⟩ := vals1 r
  cases rx
  obtain ⟨its, rv, pl, hz⟩ := I.list hq
  have hlen := rv.length
  rw [List.length_map] at hlen
  have hplt : p < s.heap.objs.size := by
    obtain ⟨o, n, e, _⟩ := pl
    exact Heap.lt_size e
  refine call_any_walk (wpAny_pyIter_list pl.isList ?_)
  have W := Walks.list (prog := X.prog) (w := X.w) (A := X.A.in1) (I.ok.hd hc) s.heap.objs.size p (Nat.ne_of_lt hplt) its.toArray
  refine ⟨s.heap.objs.size, _, _, _, _, _, fun i => bs.getD i false, rfl, W, ?_, ?_, fun h' tk hk => ?_⟩
  · exact ⟨⟨_, Heap.get?_push_size _ rfl, rfl, rfl⟩, pl.isList.at fun o e => Heap.get?_push_of_some _ e⟩
  · intro i v s' Q' E' hv hq'
    have hv' : its[i]? = some v := by simpa using hv
    have hb : ∃ b, bs[i]? = some b ∧ v = .bool b := by
      have hi : i < bs.length := by rw [hlen]; exact (List.getElem?_eq_some_iff.mp hv').1
      obtain ⟨w', e1, e2⟩ := rv.get (x := V.bl bs[i]) (i := i) (by rw [List.getElem?_map, List.getElem?_eq_getElem hi]; rfl)
      rw [hv'] at e1
      cases e1
      exact ⟨bs[i], List.getElem?_eq_getElem hi, e2⟩
    obtain ⟨b, e1, rfl⟩ := hb
    refine wpAny_truthy_bool ?_
    have : bs.getD i false = b := by rw [List.getD_eq_getElem?_getD, e1]; rfl
    have hq2 : Q' (bs.getD i false) s' := hq'
    rw [this] at hq2
    exact hq2
  · have e : (List.range its.toArray.size).any (fun i => bs.getD i false) = bs.any id := by
      rw [List.size_toArray, ← hlen]
      exact any_getD bs
    rw [e]
    refine ⟨.bl _, H, I.kept (t' := tk) fun b o e => hk b o ?_ (Heap.get?_push_of_some _ e), rfl, q⟩
    intro z
    have z' : b = s.heap.objs.size := by simpa using z
    exact absurd (Heap.lt_size e) (by rw [z']; exact Nat.lt_irrefl _)
end
end L2

namespace L2
open PySem PySem.Spec PyProof.Rows
section
variable {X : Cx}
/-! isinstance(x, T), T one of Python's own -/
theorem call_isinst : CallR X (.builtin "isinstance") (fun xs H Q => ∃ x n t b, xs = [x, .ty n] ∧ TyOf X.K H x t ∧ PySem.W.kitOne X.K t (.type n) = some b ∧ Q (.bl b) H) := by
  intro pins s σ H xs us Q I r h
  obtain ⟨x, n, t, b, rfl, ty, e, q⟩ := h
  obtain ⟨u, w', rfl, rx, rw'⟩ := vals2 r
  cases rw'
  exact isinst_ok I rx ty e fun tk => ⟨.bl b, H, I.tok tk, rfl, q⟩

/-! list(range(n)) -/
theorem call_list_rng (hc : X.calm = true) : CallR X (.type "list") (fun xs H Q => ∃ (p : Addr) (lo hi : Int), xs = [.ref p] ∧ H p = some (.rng lo hi) ∧ -(2 ^ 62) ≤ lo ∧ lo < 2 ^ 62 ∧ -(2 ^ 62) ≤ hi ∧ hi < 2 ^ 62 ∧ (hi - lo).toNat ≤ 2 ^ 24 ∧
    ∀ l, H l = none → Q (.ref l) (upd H l (.lst ((List.range (hi - lo).toNat).map fun i : Nat => V.int (lo + (i : Int)))))) := by
  intro pins s σ H xs us Q I r h
  obtain ⟨p, lo, hi, rfl, hp, h1, h2, h3, h4, h5, q⟩ := h
  obtain ⟨u, rfl, rx⟩ := vals1 r
  cases rx
  obtain ⟨t1, t2, t3, e⟩ := I.hok p _ hp
  refine call_list_range (n := (hi - lo).toNat) (I.ok.hd hc) (show IsRange s.heap p lo hi 1 t1 t2 t3 from e) (small_one h1 h2 h3 h4) (by rw [rangeSize_one]; split <;> omega) h5 fun h' tk acc c' hk hS hacc => ?_
  have hl : s.heap.objs.size ≤ s.heap.objs.size := Nat.le_refl _
  refine ⟨.ref s.heap.objs.size, _, I.laid (t' := tk) (o := .lst ((List.range (hi - lo).toNat).map fun i : Nat => V.int (lo + (i : Int)))) hk hl ⟨?_, acc.toList, c', ?_, by simpa using hS⟩, rfl, q _ (I.hok.fresh hl)⟩
  · rw [List.length_map, List.length_range, sizeLine_eq]
    omega
  · have key : ∀ (n : Nat) (acc : List Value) (f : Nat → Int), acc.length = n → (∀ (j : Nat) (v : Value), acc[j]? = some v → ∃ t, v = Value.int (f j) t) → Vals ((List.range n).map fun i => V.int (f i)) acc := by
      intro n
      induction n with
      | zero =>
        intro acc f hl _
        cases acc with
        | nil => exact .nil
        | cons _ _ => cases hl
      | succ n ih =>
        intro acc f hl ha
        cases acc with
        | nil => cases hl
        | cons v r =>
          rw [List.range_succ_eq_map, List.map_cons, List.map_map]
          refine .cons ?_ (ih r (fun i => f (i + 1)) (by simpa using hl) fun j v' hj => ha (j + 1) v' (by simpa using hj))
          exact ha 0 v rfl
    refine key _ _ (fun i => lo + (i : Int)) (by rw [Array.length_toList]; exact hacc.1) fun j v hj => ?_
    obtain ⟨t, e⟩ := hacc.2 j v (by rw [← Array.getElem?_toList]; exact hj)
    exact ⟨t, by rw [e, Int.mul_one]⟩
/-- range(n) as a value -/
theorem call_range1 : CallR X (.type "range") (fun xs H Q => ∃ j : Int, xs = [.int j] ∧ ∀ p, H p = none → Q (.ref p) (upd H p (.rng 0 j))) := by
  intro pins s σ H xs us Q I r h
  obtain ⟨j, rfl, q⟩ := h
  obtain ⟨u, rfl, rx⟩ := vals1 r
  obtain ⟨t, rfl⟩ := rx
  refine call_range_1 ?_
  refine ⟨.ref s.heap.objs.size, _, I.laid (o := .rng 0 j) (fun b o e => Heap.get?_push_of_some _ e) (Nat.le_refl _) ⟨_, _, _, Heap.get?_push_size _ rfl⟩, rfl, q _ (I.hok.fresh (Nat.le_refl _))⟩

/-! set(xs) of ints, its len -/
def nub (ns : List Int) : List Int := ns.foldl (fun σ k => if σ.any (· == k) then σ else σ ++ [k]) []
theorem call_setL (hc : X.calm = true) : CallR X (.type "set") (fun xs H Q => ∃ (p : Addr) (ns : List Int), xs = [.ref p] ∧ SqL X.K H p (ns.map V.int) ∧ ns.length + 1 < scanBound ∧ ∀ l, H l = none → Q (.ref l) (upd H l (.set (fun k => (firstMet (fun i => ns.getD i 0) ns.length).any (· == k)) (firstMet (fun i => ns.getD i 0) ns.length).length))) := by
  intro pins s σ H xs us Q I r h
  obtain ⟨p, ns, rfl, hq, hb, q⟩ := h
  obtain ⟨u, rfl, rx⟩ := vals1 r
  cases rx
  obtain ⟨its, i1, l1⟩ := ints_list I hq
  have hl : its.length = ns.length := i1.length
  refine call_set_list (ns := ns) (I.ok.hd hc) l1 i1 (by rw [List.size_toArray, hl]; exact hb) fun h' tk hS hk => ?_
  have ez : its.toArray.size = ns.length := by rw [List.size_toArray, hl]
  rw [ez] at hS
  exact ⟨.ref s.heap.objs.size, _, I.laid (t' := tk) (o := .set _ _) (fun b o e => hk b o (Heap.lt_size e) e) (Nat.le_refl _) hS, rfl, q _ (I.hok.fresh (Nat.le_refl _))⟩
theorem call_lenSet : CallR X (.builtin "len") (fun xs H Q => ∃ p S n, xs = [.ref p] ∧ H p = some (.set S n) ∧ Q (.int n) H) := by
  intro pins s σ H xs us Q I r h
  obtain ⟨p, S, n, rfl, hp, q⟩ := h
  obtain ⟨u, rfl, rx⟩ := vals1 r
  cases rx
  obtain ⟨o, es, ep, t, e, ex, d, _, _, hb, hf, hn⟩ := I.hok p _ hp
  subst hn
  refine call_len_set e ex d hf ?_ ⟨.int es.size, H, I.tok _, ⟨_, rfl⟩, q⟩
  have h4 : (es.size : Int) < 4096 := by unfold scanBound at hb; omega
  exact Int.lt_of_lt_of_le h4 (by decide)
theorem firstMet_nodup : ∀ (ns : List Int), ns.Nodup → firstMet (fun i => ns.getD i 0) ns.length = ns := by
  intro ns nd
  have e : (List.range ns.length).map (fun i => ns.getD i 0) = ns := by
    apply List.ext_getElem?
    intro i
    rw [List.getElem?_map]
    by_cases hi : i < ns.length
    · rw [List.getElem?_range hi, Option.map_some, List.getD_eq_getElem?_getD, List.getElem?_eq_getElem hi]
      rfl
    · rw [List.getElem?_eq_none (by simpa using hi), List.getElem?_eq_none (by omega)]
      rfl
  unfold firstMet
  rw [e]
  have go : ∀ (ns acc : List Int), (acc ++ ns).Nodup → ns.foldl step_dedup acc = acc ++ ns := by
    intro ns
    induction ns with
    | nil => intro acc _; simp
    | cons n r ih =>
      intro acc h
      have hn : acc.any (· == n) = false := by
        rw [List.any_eq_false]
        intro x hx hb
        have hb' : x = n := by simpa using hb
        subst hb'
        rw [List.nodup_append] at h
        exact h.2.2 x hx x (.head _) rfl
      rw [List.foldl_cons]
      have e : step_dedup acc n = acc ++ [n] := by
        unfold step_dedup
        rw [hn]
        rfl
      rw [e, ih _ (by simpa using h)]
      simp
  simpa using go ns [] (by simpa using nd)

/-! sorted(d) of a dict of int keys -/
theorem intsAre_keys {P : Program} {w : World} : ∀ {ks : List Int} {acc : List Value}, acc.length = ks.length → (∀ (j : Nat) (v : Value), acc[j]? = some v → ∃ k, ks[j]? = some k ∧ ∃ t, v = Value.int k t) → IntsAre acc ks
  | [], [], _, _ => .nil
  | [], _ :: _, h, _ => by cases h
  | _ :: _, [], h, _ => by cases h
  | k :: ks, v :: acc, h, ha => by
    obtain ⟨k', e, t, rfl⟩ := ha 0 v rfl
    have e' : k = k' := by simpa using e
    subst e'
    exact .cons _ t (intsAre_keys (P := P) (w := w) (by simpa using h) fun j u hj => by simpa using ha (j + 1) u (by simpa using hj))
theorem call_sortedD (hc : X.calm = true) : CallR X (.builtin "sorted") (fun xs H Q => ∃ (p : Addr) (kvs : List (Key × V)) (ks : List Int), xs = [.ref p] ∧ H p = some (.dK kvs) ∧ kvs.map (·.1) = ks.map Sum.inl ∧ ks.length < 64 ∧
    ∀ (l : Addr) (zs : List Int), H l = none → zs.Perm ks → zs.Pairwise (· ≤ ·) → Q (.ref l) (upd H l (.lst (zs.map V.int)))) := by
  intro pins s σ H xs us Q I r h
  obtain ⟨p, kvs, ks, rfl, hp, hks, h64, q⟩ := h
  obtain ⟨u, rfl, rx⟩ := vals1 r
  cases rx
  obtain ⟨z, hd, vs, rel, dd⟩ := dk_of I.hok hp
  obtain ⟨ep, hat⟩ := dd.dictAt
  have hvl : vs.length = ks.length := by
    have h1 := rel.length
    have h2 := congrArg List.length hks
    rw [List.length_map, List.length_map] at h2
    omega
  have hvk : vs.map (·.1) = ks.map Sum.inl := by rw [← rel.keys]; exact hks
  refine Calls.call_function_entry kind_sorted plain_sorted entry_sorted (args_sorted1 _) ?_
  unfold Builtin.«sorted»
  refine wpAny_bind (m := checkCount "sorted" 1 1 _) (wpAny_pure ?_)
  refine wpAny_bind (PySem.W.kdu_collect (A := X.A.in1) (PySem.W.kdl_dict (knd := mixKind X.prog X.w) (kvs := vs) (ep := ep) hd) (I.ok.hd hc) hat (by rw [sizeLine_eq]; omega) fun h' tk acc hk hacc => ?_)
  have hal : acc.toList.length = vs.length := by rw [Array.length_toList]; exact hacc.1
  have hI : IntsAre acc.toList ks := intsAre_keys (P := X.prog) (w := X.w) (by rw [hal, hvl]) fun j v hj => by
    obtain ⟨k, x, e1, e2⟩ := hacc.2 j v (by rw [← Array.getElem?_toList]; exact hj)
    have e3 : (ks.map (Sum.inl : Int → Key))[j]? = some k := by
      rw [← hvk, List.getElem?_map, e1]
      rfl
    rw [List.getElem?_map] at e3
    cases e4 : ks[j]? with
    | none => rw [e4] at e3; cases e3
    | some k' =>
      rw [e4] at e3
      have e5 : Sum.inl k' = k := Option.some.inj e3
      subst e5
      rw [mixKind_is] at e2
      rcases keyIs_shape e2 with ⟨i, t, a1, a2⟩ | ⟨i, t, a1, a2⟩
      · cases a1
        exact ⟨k', rfl, t, a2⟩
      · cases a1
  refine wpAny_bind (wpAny_newList ?_ (by rw [hal, hvl, sizeLine_eq]; omega))
  have hoL : (h'.push (seqObj "list" acc.toList.toArray 0)).get? h'.objs.size = some (seqObj "list" acc.toList.toArray 0) := Heap.get?_push_size _ rfl
  refine wpAny_bind (wpAny_holding (wpAny_call_entry slot_list_sort ⟨_, hoL, rfl⟩ entry_list_sort (list_sort_tree (s := { s with heap := h'.push (seqObj "list" acc.toList.toArray 0), toks := tk }) hoL hI (by rw [hal, hvl]; exact h64) fun out ns' a1 a2 a3 => ⟨_, rfl, ?_⟩) (args_list_sort _)))
  refine wpAny_pure ⟨_, rfl, ?_⟩
  obtain ⟨e', hfin⟩ := sortedHeap_at (h := h'.push (seqObj "list" acc.toList.toArray 0)) (a := h'.objs.size) (vs := acc.toList) (n := 0) (out := out) hoL
  have I' : Inv X pins σ H { s with heap := h', toks := tk } := I.kept hk
  have hfr : H h'.objs.size = none := I'.hok.fresh (Nat.le_refl _)
  have hkp : ∀ b o, h'.get? b = some o → (sortedHeap (h'.push (seqObj "list" acc.toList.toArray 0)) h'.objs.size acc.toList out).get? b = some o := fun b o e => by
    have hb : b < h'.objs.size := Heap.lt_size e
    rw [sortedHeap_old (Nat.ne_of_lt hb) (by rw [size_push']; exact Nat.lt_succ_of_lt hb)]
    exact Heap.get?_push_of_some _ e
  have hlen : ns'.length = ks.length := a2.length_eq
  have hv : Vals (ns'.map V.int) out.toList := vals_ints a1
  exact ⟨.ref h'.objs.size, _, I'.laid (t' := tk) (o := .lst (ns'.map V.int)) hkp (Nat.le_refl _) ⟨by rw [List.length_map, hlen, sizeLine_eq]; omega, out.toList, e', hv, by simpa using hfin⟩, rfl, q _ ns' hfr a2 a3⟩
end
end L2

set_option Elab.async false
set_option linter.all false
set_option maxRecDepth 100000
set_option maxHeartbeats 4000000
/-! Calls by name; webs as lists of ints -/
namespace L2
open PySem PySem.Spec PyProof.Rows
/-- a def of the text, by its global name -/
def FnT (K : PySem.W.Frag) (mg : Str → Option Value) (x : Str) (st : Stmt) (ps : List Str) : Prop := ∃ f fd, mg x = some (.ref f) ∧ Fun K x x st f fd ∧ Binds K fd ps []
/-- .. that keeps its promise -/
def Cal (P : Program) (w : World) (K : PySem.W.Frag) (mg : Str → Option Value) (base : Heap) (k : Nat) (x : Str) (ps : List Str) (sp : Sp) : Prop :=
  ∃ f fd, mg x = some (.ref f) ∧ PySem.W.keepIn K (.ref f) = true ∧ Binds K fd ps [] ∧ FnOk P w K mg base CX0 k f fd ps sp
theorem FnT.cal {P : Program} {w : World} {K : PySem.W.Frag} {mg : Str → Option Value} {base : Heap} {x : Str} {st : Stmt} {N ps : List Str} {k : Nat} {sp : Sp} (F : FnT K mg x st ps) (S : FnScope N ps (defScope st)) (len : ∀ vs H Q E, sp vs H Q E → vs.length = ps.length)
    (hbody : ∀ (f : Addr) (cdv : Value) (A : Around) (outer : List Env) (s : Shared) (H : Hp) (vs : List V) (Q : VK) (E : XK), Room k (A.deeper (envOfC x (defScope st) s.heap.objs.size f cdv)) → sp vs H Q E →
      ∃ t, PSs (cxOf CX0 P w K mg base N x (defScope st) f cdv A outer s H E).nox (defBody st) t ∧ t { nx := fun _ H' => Q .non H', rt := Q } (start N vs) H) : Cal P w K mg base (k + 1) x ps sp := by
  obtain ⟨f, fd, h1, h2, h3⟩ := F
  exact ⟨f, fd, h1, h2.kp, h3, h2.ok S len fun cdv A outer s H vs Q E => hbody f cdv A outer s H vs Q E⟩
theorem Cal.mono {P : Program} {w : World} {K : PySem.W.Frag} {mg : Str → Option Value} {base : Heap} {j k : Nat} {x : Str} {ps : List Str} {sp : Sp} (C : Cal P w K mg base j x ps sp) (h : j ≤ k) : Cal P w K mg base k x ps sp := by
  obtain ⟨f, fd, h1, h2, h3, h4⟩ := C
  exact ⟨f, fd, h1, h2, h3, h4.mono h⟩
section
variable {X : Cx} {k : Nat} {x : Str} {ps : List Str} {sp : Sp} {e : Expr} {es : List Expr} {t : TA} {p pos : Pos}
theorem pe_cal (C : Cal X.prog X.w X.K X.mg X.base k x ps sp) (hr : Room k X.A) (hg : Gl X x) (ha : PA X (e :: es) t) (hd : (x == ("__debug__" : Str)) = false := by decide)
    (he : starEach (e :: es) X.env = (false, eval e X.env) :: starEach es X.env := by rfl) (hpl : (backTo pos (starEach es X.env)).any (·.1) = false := by rfl) :
    PE X (.Call (.Name x p) (e :: es) [] pos) (tCall sp [] E0 t) := by
  obtain ⟨f, fd, h1, h2, h3, h4⟩ := C
  exact pe_call h4 hr hg h1 h2 h3 .nil pass0 ha (hdb := hd) (he := he) (hpl := hpl)
end
end L2

namespace Bw
open PySem L2
/-- the numbers of a web, as ints -/
def iv (ws : List Nat) : List Int := ws.map fun n : Nat => (n : Int)
def vv (ws : List Nat) : List V := (iv ws).map V.int
theorem vv_len (ws : List Nat) : (vv ws).length = ws.length := by simp [vv, iv]
theorem iv_len (ws : List Nat) : (iv ws).length = ws.length := by simp [iv]
theorem vv_get {ws : List Nat} {i : Nat} (h : i < ws.length) : (vv ws)[i]? = some (V.int ((ws.getD i 0 : Nat) : Int)) := by
  simp [vv, iv, List.getD_eq_getElem?_getD, List.getElem?_eq_getElem h]
theorem vv_at {ws : List Nat} {i : Nat} {x : V} (h : (vv ws)[i]? = some x) : i < ws.length ∧ x = V.int ((ws.getD i 0 : Nat) : Int) := by
  have hi : i < ws.length := by
    have := (List.getElem?_eq_some_iff.mp h).1
    rwa [vv_len] at this
  rw [vv_get hi] at h
  exact ⟨hi, (Option.some.inj h).symm⟩
theorem vv_set (ws : List Nat) (i x : Nat) : (vv ws).set i (V.int (x : Int)) = vv (ws.set i x) := by
  simp [vv, iv, List.map_set]
theorem vv_snoc (ws : List Nat) (x : Nat) : vv ws ++ [V.int (x : Int)] = vv (ws ++ [x]) := by simp [vv, iv]
theorem iv_inj {a b : List Nat} (h : iv a = iv b) : a = b := by
  have : (iv a).map Int.toNat = (iv b).map Int.toNat := by rw [h]
  simpa [iv, Function.comp_def] using this

/-! ints and bits -/
theorem bitAnd_nat (a b : Nat) : Builtin.bitAnd (a : Int) (b : Int) = ((a &&& b : Nat) : Int) := by
  unfold Builtin.bitAnd
  have h1 : decide (0 ≤ (a : Int)) = true := by simp
  have h2 : decide (0 ≤ (b : Int)) = true := by simp
  rw [h1, h2]
  simp
theorem bitOr_nat (a b : Nat) : Builtin.bitOr (a : Int) (b : Int) = ((a ||| b : Nat) : Int) := by
  unfold Builtin.bitOr Builtin.bitAnd Builtin.bitNot
  have h1 : decide (0 ≤ -(a : Int) - 1) = false := decide_eq_false (by omega)
  have h2 : decide (0 ≤ -(b : Int) - 1) = false := decide_eq_false (by omega)
  rw [h1, h2]
  have e1 : (-(-(a : Int) - 1) - 1).toNat = a := by omega
  have e2 : (-(-(b : Int) - 1) - 1).toNat = b := by omega
  simp only [e1, e2]
  omega
theorem bitXor_nat (a b : Nat) : Builtin.bitXor (a : Int) (b : Int) = ((a ^^^ b : Nat) : Int) := by
  unfold Builtin.bitXor
  rw [bitOr_nat, bitAnd_nat]
  have := or_split a b
  omega
theorem shr_bit (x k : Nat) : decide (V.int (Builtin.bitAnd ((x : Int) / 2 ^ ((k : Int)).toNat) 1) = V.int 1) = x.testBit k := by
  have e : ((x : Int) / 2 ^ ((k : Int)).toNat) = ((x / 2 ^ k : Nat) : Int) := by
    rw [Int.toNat_natCast]
    push_cast
    rfl
  rw [e, show (1 : Int) = ((1 : Nat) : Int) from rfl, bitAnd_nat, Nat.and_one_is_mod]
  rw [Nat.testBit_eq_decide_div_mod_eq]
  rw [decide_eq_decide]
  simp only [V.int.injEq]
  omega
theorem shl_one (k : Nat) : (1 : Int) * 2 ^ ((k : Int)).toNat = ((2 ^ k : Nat) : Int) := by
  rw [Int.toNat_natCast, Int.one_mul]
  push_cast
  rfl
end Bw

set_option Elab.async false
set_option linter.all false
set_option maxRecDepth 100000
set_option maxHeartbeats 4000000
/-! Methods by the object's own class; isinstance against own classes; texts; sorted lists -/
namespace L2
open PySem PySem.Spec PyProof.Rows

/-! ### o.m(..) where the class of o is known at the call alone -/
/-- the method m of the class C keeps some promise, and the promise gives what is wanted -/
def MOk (P : Program) (w : World) (K : PySem.W.Frag) (mg : Str → Option Value) (base : Heap) (A : Around) (C : Addr) (m : Str) (vs : List V) (H : Hp) (Q : VK) : Prop :=
  Cls K C ∧ ∃ f fd ps k sp, Meth K C m f ∧ FnOk P w K mg base CX0 k f fd ps sp ∧ Room k A ∧ Binds K fd ps [] ∧ sp vs H Q E0
section
variable {X : Cx} {o e : Expr} {es : List Expr} {ta : TE} {t : TA} {m : Str} {apos pos : Pos}
def tMD0 (P : Program) (w : World) (K : PySem.W.Frag) (mg : Str → Option Value) (base : Heap) (A : Around) (m : Str) (ta : TE) : TE := fun σ H Q => ta σ H fun x H1 => ∃ a C dx fs, x = .ref a ∧ H1 a = some (.ins C dx fs) ∧ fs.lookup m = none ∧ MOk P w K mg base A C m [.ref a] H1 Q
theorem pe_md0 {pl : Sem Bool} (P : Program) (w : World) (K : PySem.W.Frag) (mg : Str → Option Value) (base : Heap) (A : Around) (he : PE X o ta)
    (e1 : X.prog = P := by rfl) (e2 : X.w = w := by rfl) (e3 : X.K = K := by rfl) (e4 : X.mg = mg := by rfl) (e5 : X.base = base := by rfl) (e6 : X.A = A := by rfl)
    (ht : eval (.Call (.Attribute o m apos) [] [] pos) X.env = (do
      let ov ← eval o X.env
      standAt apos.atName
      let (f, first) ← holding [ov] (getMethod ov m pl)
      callWith pos f first (backTo pos (starEach [] X.env)) (backToKw pos (keywordEach [] X.env))) := by rfl) :
    PE X (.Call (.Attribute o m apos) [] [] pos) (tMD0 P w K mg base A m ta) := by
  subst e1 e2 e3 e4 e5 e6
  intro pins s σ H Q I h
  refine PySem.W.methodCall_KW (pl := pl) (thn (he pins s σ H _ I h) fun u s1 ⟨x, H1, I1, rx, a, C, dx, fs, ex, ea, l, c, f, fd, ps, k, sp, hm, F, hr, hb, q⟩ => ?_) ht
  subst ex
  obtain rfl : u = Value.ref a := rx
  refine getmeth_ok I1 ea c hm l ?_
  exact PySem.W.callWith_K0 (first := [.ref a]) I1.kIn hm.kp (run_fn (us := [.ref a]) (vs := [.ref a]) F hr hb .nil pass0 I1 (.cons rfl .nil) q)
def tMD (P : Program) (w : World) (K : PySem.W.Frag) (mg : Str → Option Value) (base : Heap) (A : Around) (m : Str) (ta : TE) (t : TA) : TE := fun σ H Q => ta σ H fun x H1 => ∃ a C dx fs, x = .ref a ∧ H1 a = some (.ins C dx fs) ∧ fs.lookup m = none ∧
  Cls K C ∧ ∃ f fd ps k sp, Meth K C m f ∧ FnOk P w K mg base CX0 k f fd ps sp ∧ Room k A ∧ Binds K fd ps [] ∧ t σ H1 fun vs H2 => sp (.ref a :: vs) H2 Q E0
theorem pe_md {pl : Sem Bool} (P : Program) (w : World) (K : PySem.W.Frag) (mg : Str → Option Value) (base : Heap) (A : Around) (he : PE X o ta) (ha : PA X (e :: es) t)
    (e1 : X.prog = P := by rfl) (e2 : X.w = w := by rfl) (e3 : X.K = K := by rfl) (e4 : X.mg = mg := by rfl) (e5 : X.base = base := by rfl) (e6 : X.A = A := by rfl)
    (hst : starEach (e :: es) X.env = (false, eval e X.env) :: starEach es X.env := by rfl) (hpl : (backTo pos (starEach es X.env)).any (·.1) = false := by rfl)
    (ht : eval (.Call (.Attribute o m apos) (e :: es) [] pos) X.env = (do
      let ov ← eval o X.env
      standAt apos.atName
      let (f, first) ← holding [ov] (getMethod ov m pl)
      callWith pos f first (backTo pos (starEach (e :: es) X.env)) (backToKw pos (keywordEach [] X.env))) := by rfl) :
    PE X (.Call (.Attribute o m apos) (e :: es) [] pos) (tMD P w K mg base A m ta t) := by
  subst e1 e2 e3 e4 e5 e6
  intro pins s σ H Q I h
  refine PySem.W.methodCall_KW (pl := pl) (thn (he pins s σ H _ I h) fun u s1 ⟨x, H1, I1, rx, a, C, dx, fs, ex, ea, l, c, f, fd, ps, k, sp, hm, F, hr, hb, q⟩ => ?_) ht
  subst ex
  obtain rfl : u = Value.ref a := rx
  refine getmeth_ok I1 ea c hm l ?_
  refine PySem.W.callWith_K (first := [.ref a]) (h₀ := X.base) I.ok.mod.kin hm.kp (thn (ha pos pins s1 σ H1 _ I1 q) fun us s2 ⟨vs, H2, I2, r, q2⟩ => ⟨I2.kIn, ?_⟩) hst hpl
  exact run_fn (us := .ref a :: us) (vs := .ref a :: vs) F hr hb .nil pass0 I2 (.cons rfl r) (by simpa using q2)
end

/-! ### isinstance(x, C), C an own class -/
section
variable {X : Cx}
def rIsC (K : PySem.W.Frag) : List V → Hp → VK → Prop := fun xs H Q => ∃ (x : V) (C : Addr) (t : Value) (b : Bool), xs = [x, .ref C] ∧ TyOf K H x t ∧ PySem.W.kitOne K t (.ref C) = some b ∧ Q (.bl b) H
theorem call_isC (K : PySem.W.Frag) (h : X.K = K := by rfl) : CallR X (.builtin "isinstance") (rIsC K) := by
  subst h
  intro pins s σ H xs us Q I r h
  obtain ⟨x, C, t, b, rfl, ty, e, q⟩ := h
  obtain ⟨u, w', rfl, rx, rw'⟩ := vals2 r
  cases rw'
  exact isinst_ok I rx ty e fun tk => ⟨.bl b, H, I.tok tk, rfl, q⟩

/-! ### texts -/
theorem strsAre_of : ∀ {ys : List Str} {us : List Value}, Vals (ys.map V.str) us → StrsAre us ys
  | [], _, h => by cases h; exact .nil
  | _ :: _, _, .cons r t => by
    obtain ⟨tk, rfl⟩ := r
    exact .cons _ tk (strsAre_of t)
theorem vals_strs : ∀ {us : List Value} {ys : List Str}, StrsAre us ys → Vals (ys.map V.str) us
  | _, _, .nil => .nil
  | _, _, .cons _ t r => .cons ⟨t, rfl⟩ (vals_strs r)
def rJoin (K : PySem.W.Frag) : V → List V → Hp → VK → Prop := fun x vs H Q => ∃ (z : Str) (l : Addr) (ys : List Str), x = .str z ∧ vs = [.ref l] ∧ SqL K H l (ys.map V.str) ∧ (ys.map (·.length)).sum + ys.length * z.length ≤ 16777216 ∧ Q (.str (Txt.join z ys)) H
theorem mt_join (K : PySem.W.Frag) (h : X.K = K := by rfl) : MtR X "str.join" (rJoin K) := by
  subst h
  intro pins s σ H x vs v us Q I rx rv h
  obtain ⟨z, l, ys, rfl, rfl, hq, hz, q⟩ := h
  obtain ⟨t, rfl⟩ := rx
  obtain ⟨u, rfl, ru⟩ := rv.one
  cases ru
  obtain ⟨its, r, pl, _⟩ := I.list hq
  exact join_list pl.isList (strsAre_of r) hz fun t' k => ⟨.str _, H, I.tok k, ⟨t', rfl⟩, q⟩
/-- f'..{x}..': a text, a field that is a text, a text -/
def tFs (a b : Str) (te : TE) : TE := fun σ H Q => te σ H fun x H1 => ∃ z, x = .str z ∧ a.length + z.length + b.length ≤ 1000000 ∧ Q (.str (((Str.empty ++ a) ++ z) ++ b)) H1
theorem pe_fs {a b : Str} {k1 k2 : Nat} {p1 p2 p3 pos : Pos} {e : Expr} {te : TE} (he : PE X e te) (ha : a.length ≤ 1000000) : PE X (.JoinedStr [.Constant (.str a) k1 p1, .FormattedValue e (-1) none p2, .Constant (.str b) k2 p3] pos) (tFs a b te) := by
  intro pins s σ H Q I h
  have hz : sizeLine = 16777216 := sizeLine_eq
  have h0 : Str.empty.length = 0 := rfl
  refine JoinedStr_many (joinParts_cons (Calls.Constant_str ⟨by rw [strLen_append, h0, hz]; omega, joinParts_cons (FormattedValue_plain (thn (he pins _ σ H _ (I.tok _) h) fun v s1 ⟨x, H1, I1, r1, z, ex, hl, q⟩ => ?_))⟩))
  subst ex
  obtain ⟨t, rfl⟩ := r1
  refine formatField_str (fun t' tk => ⟨by rw [strLen_append, strLen_append, h0, hz]; omega, ?_⟩) (by rw [hz]; omega)
  refine joinParts_cons (Calls.Constant_str ⟨by rw [strLen_append, strLen_append, strLen_append, h0, hz]; omega, ?_⟩)
  exact joinParts_nil ⟨.str _, H1, (I1.tok _).tok _, ⟨_, rfl⟩, q⟩ (by rw [strLen_append, strLen_append, strLen_append, h0, hz]; omega)

/-! ### sorted of a list -/
def rSortI (K : PySem.W.Frag) : List V → Hp → VK → Prop := fun xs H Q => ∃ (p : Addr) (ns : List Int), xs = [.ref p] ∧ SqL K H p (ns.map V.int) ∧ ns.length < 64 ∧ ∀ (l : Addr) (zs : List Int), H l = none → zs.Perm ns → zs.Pairwise (· ≤ ·) → Q (.ref l) (upd H l (.lst (zs.map V.int)))
theorem sorted_laid {h : Heap} {vs : List Value} {out : Array Value} : ∃ e, (sortedAll h vs out).get? (h.objs.size + 1) = some { cls := .type "list", data := .seq out e } := sortedAll_at h vs out
theorem call_sortI (K : PySem.W.Frag) (h : X.K = K := by rfl) : CallR X (.builtin "sorted") (rSortI K) := by
  subst h
  intro pins s σ H xs us Q I r h
  obtain ⟨p, ns, rfl, hq, h64, q⟩ := h
  obtain ⟨u, rfl, rx⟩ := vals1 r
  cases rx
  obtain ⟨its, i1, l1⟩ := ints_list I hq
  refine sorted_ints l1 i1 (by rw [i1.length]; exact h64) fun out ns' a1 a2 a3 => ?_
  obtain ⟨e, he⟩ := sorted_laid (h := s.heap) (vs := its) (out := out)
  have hf : H (s.heap.objs.size + 1) = none := I.hok.fresh (Nat.le_succ _)
  exact ⟨.ref (s.heap.objs.size + 1), _, I.laid (t' := s.toks) (o := .lst (ns'.map V.int)) (fun b o q => sortedAll_old q) (Nat.le_succ _) ⟨by rw [List.length_map, a2.length_eq, sizeLine_eq]; omega, out.toList, e, vals_ints a1, by simpa using he⟩, rfl, q _ ns' hf a2 a3⟩
def rSortS (K : PySem.W.Frag) : List V → Hp → VK → Prop := fun xs H Q => ∃ (p : Addr) (ss : List Str), xs = [.ref p] ∧ SqL K H p (ss.map V.str) ∧ ss.length < 64 ∧ ∀ (l : Addr) (zs : List Str), H l = none → zs.Perm ss → sortedS zs = true → Q (.ref l) (upd H l (.lst (zs.map V.str)))
theorem call_sortS (K : PySem.W.Frag) (h : X.K = K := by rfl) : CallR X (.builtin "sorted") (rSortS K) := by
  subst h
  intro pins s σ H xs us Q I r h
  obtain ⟨p, ss, rfl, hq, h64, q⟩ := h
  obtain ⟨u, rfl, rx⟩ := vals1 r
  cases rx
  obtain ⟨its, rv, pl, _⟩ := I.list hq
  have i1 := strsAre_of rv
  have hl := rv.length
  rw [List.length_map] at hl
  refine sorted_strs pl.isList i1 (by omega) fun out ns' a1 a2 a3 => ?_
  obtain ⟨e, he⟩ := sorted_laid (h := s.heap) (vs := its) (out := out)
  have hf : H (s.heap.objs.size + 1) = none := I.hok.fresh (Nat.le_succ _)
  exact ⟨.ref (s.heap.objs.size + 1), _, I.laid (t' := s.toks) (o := .lst (ns'.map V.str)) (fun b o q => sortedAll_old q) (Nat.le_succ _) ⟨by rw [List.length_map, a2.length_eq, sizeLine_eq]; omega, out.toList, e, vals_strs a1, by simpa using he⟩, rfl, q _ ns' hf a2 a3⟩
end
end L2

set_option Elab.async false
set_option linter.all false
set_option maxRecDepth 100000
set_option maxHeartbeats 4000000
/-! More rules: with the fragment by name; all, remove; making; facts of the top -/
namespace L2
open PySem PySem.Spec PyProof.Rows
section
variable {X : Cx}
theorem ix_listK (K : PySem.W.Frag) (h : X.K = K := by rfl) : IxR X (rIxL K) := by
  subst h
  exact ix_list
theorem ix_tupK (K : PySem.W.Frag) (h : X.K = K := by rfl) : IxR X (rIxT K) := by
  subst h
  exact ix_tup
theorem sl_listK (K : PySem.W.Frag) (h : X.K = K := by rfl) : SlR X (rSlL K) := by
  subst h
  exact sl_list
theorem op_inK (K : PySem.W.Frag) (h : X.K = K := by rfl) : OpR X (compareOp .In) (rIn K false) := by
  subst h
  exact op_in_seq
theorem op_notInK (K : PySem.W.Frag) (h : X.K = K := by rfl) : OpR X (compareOp .NotIn) (rIn K true) := by
  subst h
  exact op_notIn_seq
def rAny (K : PySem.W.Frag) : List V → Hp → VK → Prop := fun xs H Q => ∃ (p : Addr) (bs : List Bool), xs = [.ref p] ∧ SqL K H p (bs.map V.bl) ∧ Q (.bl (bs.any id)) H
theorem call_anyK (K : PySem.W.Frag) (hc : X.calm = true) (h : X.K = K := by rfl) : CallR X (.builtin "any") (rAny K) := by
  subst h
  exact call_anyL hc
def rSum (K : PySem.W.Frag) : List V → Hp → VK → Prop := fun xs H Q => ∃ (p : Addr) (ns : List Int), xs = [.ref p] ∧ SqL K H p (ns.map V.int) ∧ Q (.int ns.sum) H
theorem call_sumK (K : PySem.W.Frag) (hc : X.calm = true) (h : X.K = K := by rfl) : CallR X (.builtin "sum") (rSum K) := by
  subst h
  exact call_sumL hc
def rLen (K : PySem.W.Frag) : List V → Hp → VK → Prop := fun xs H Q => ∃ p ys, xs = [.ref p] ∧ (SqL K H p ys ∨ SqT K H p ys) ∧ Q (.int ys.length) H
theorem call_lenK (K : PySem.W.Frag) (h : X.K = K := by rfl) : CallR X (.builtin "len") (rLen K) := by
  subst h
  exact call_len_seq
theorem pi_listK (K : PySem.W.Frag) {tg l : Expr} {tl : TE} (hl : PE X l tl) (h : X.K = K := by rfl) : PI X tg l (iList K tl) := by
  subst h
  exact pi_list hl
theorem pi_tupK (K : PySem.W.Frag) {tg l : Expr} {tl : TE} (hl : PE X l tl) (h : X.K = K := by rfl) : PI X tg l (iTup K tl) := by
  subst h
  exact pi_tup hl
theorem pi_enumK (K : PySem.W.Frag) {l : Expr} {tl : TA} {es : List Expr} {k : Nat} {tpos p pos : Pos} (hg : Gl X "enumerate") (hm : X.mg "enumerate" = none) (ha : PA X [l] tl) (hs : starEach [l] X.env = [(false, eval l X.env)] := by rfl) (h : X.K = K := by rfl) :
    PI X (.Tuple es k tpos) (.Call (.Name "enumerate" p) [l] [] pos) (iEnum K tl) := by
  subst h
  exact pi_enum hg hm ha hs
theorem pg_tupK (K : PySem.W.Frag) {es : List Expr} {k : Nat} {t : TGs} {n : Nat} {pos : Pos} (hc : X.calm = true) (h : PGs X es t)
    (hn : (assignEach es X.env).length = n := by rfl) (hst : (assignEach es X.env).findIdx? (·.1) = none := by rfl) (hK : X.K = K := by rfl) : PG X (.Tuple es k pos) (gTup K n t) := by
  subst hK
  exact pg_tup hc h hn hst
def rIsB (K : PySem.W.Frag) : List V → Hp → VK → Prop := fun xs H Q => ∃ x n t b, xs = [x, .ty n] ∧ TyOf K H x t ∧ PySem.W.kitOne K t (.type n) = some b ∧ Q (.bl b) H
theorem call_isinstK (K : PySem.W.Frag) (h : X.K = K := by rfl) : CallR X (.builtin "isinstance") (rIsB K) := by
  subst h
  exact call_isinst

/-! ### all of a list of truths -/
theorem boolsAre_of : ∀ {bs : List Bool} {us : List Value}, Vals (bs.map V.bl) us → LSm.BoolsAre us bs
  | [], _, h => by cases h; exact .nil
  | b :: _, _, .cons r t => by
    obtain rfl := (show _ = Value.bool b from r)
    exact .cons b (boolsAre_of t)
def rAll (K : PySem.W.Frag) : List V → Hp → VK → Prop := fun xs H Q => ∃ (p : Addr) (bs : List Bool), xs = [.ref p] ∧ SqL K H p (bs.map V.bl) ∧ Q (.bl (bs.all id)) H
theorem call_allK (K : PySem.W.Frag) (hc : X.calm = true) (h : X.K = K := by rfl) : CallR X (.builtin "all") (rAll K) := by
  subst h
  intro pins s σ H xs us Q I r h
  obtain ⟨p, bs, rfl, hq, q⟩ := h
  obtain ⟨u, rfl, rx⟩ := vals1 r
  cases rx
  obtain ⟨its, rv, pl, hz⟩ := I.list hq
  have hb := boolsAre_of rv
  have hl := pl.isList
  have hlt : p < s.heap.objs.size := by obtain ⟨_, e, _⟩ := hl; exact Heap.lt_size e
  refine call_all_walk (wpAny_pyIter_list hl ?_)
  refine ⟨s.heap.objs.size, [s.heap.objs.size, p], [s.heap.objs.size], its.toArray.size, _, _, fun i => (bs[i]?).getD true, rfl, Walks.list (A := X.A.in1) (I.ok.hd hc) _ p (Nat.ne_of_lt hlt) its.toArray,
    ⟨⟨_, Heap.get?_push_size _ rfl, rfl, rfl⟩, hl.push _⟩, fun i v s' Q' E' hP hQ => ?_, fun h' tk hk => ?_⟩
  · obtain ⟨b, e, rfl⟩ := hb.get i v (by simpa using hP)
    simp only [e, Option.getD_some] at hQ
    exact wpAny_truthy_bool hQ
  · have e : ((List.range its.toArray.size).all fun i => (bs[i]?).getD true) = bs.all id := by
      rw [List.size_toArray, hb.length]; exact LSm.range_all bs
    rw [e]
    exact ⟨.bl _, H, I.kept (t' := tk) (LSm.kept_iter hk), rfl, q⟩

/-! ### xs.remove(k), ints -/
def rRemove : V → List V → Hp → VK → Prop := fun x vs H Q => ∃ (l : Addr) (ns : List Int) (k : Int), x = .ref l ∧ vs = [.int k] ∧ H l = some (.lst (ns.map V.int)) ∧ k ∈ ns ∧ Q .non (upd H l (.lst ((ns.erase k).map V.int)))
theorem intsAre_at : ∀ {us : List Value} {ns : List Int}, IntsAre us ns → ∀ (i : Nat) (h : i < us.length), ∃ t, us[i] = Value.int (ns.getD i 0) t
  | _, _, .nil, i, h => by cases h
  | _, _, .cons n t r, 0, _ => ⟨t, rfl⟩
  | _, _, .cons n t r, i + 1, h => by
    obtain ⟨t', e⟩ := intsAre_at r i (by simpa using h)
    exact ⟨t', by simpa using e⟩
theorem idx_before {k : Int} : ∀ {ns : List Int} {m : Nat}, m < ns.idxOf k → ns.getD m 0 ≠ k
  | [], m, h => absurd h (by simp)
  | a :: ns, m, h => by
    rw [List.idxOf_cons] at h
    by_cases e : a = k
    · have : (a == k) = true := by simpa using e
      rw [this] at h
      exact absurd h (by simp)
    · have e' : (a == k) = false := by simpa using e
      rw [e'] at h
      cases m with
      | zero => simpa using e
      | succ m => simpa using idx_before (ns := ns) (m := m) (by simpa using h)
theorem erase_idx {k : Int} : ∀ ns : List Int, (ns.map V.int).eraseIdx (ns.idxOf k) = (ns.erase k).map V.int
  | [] => rfl
  | a :: ns => by
    rw [List.idxOf_cons]
    by_cases e : a = k
    · have e' : (a == k) = true := by simpa using e
      rw [e', List.erase_cons, e']
      rfl
    · have e' : (a == k) = false := by simpa using e
      rw [e', List.erase_cons, e']
      show V.int a :: (ns.map V.int).eraseIdx (ns.idxOf k) = _
      rw [erase_idx ns]
      rfl
theorem mt_remove (K : PySem.W.Frag) : MtM X "list.remove" rRemove := by
  intro pins s σ H x vs v us Q I rx rv h
  obtain ⟨l, ns, k, rfl, rfl, hH, hk, q⟩ := h
  cases rx
  obtain ⟨u, rfl, ru⟩ := rv.one
  obtain ⟨t, rfl⟩ := ru
  obtain ⟨z, its, n, r, hl, e⟩ := I.lstM hH
  have hi := intsAre_of r
  rw [List.length_map] at hl
  have hj : ns.idxOf k < ns.length := List.idxOf_lt_length_iff.mpr hk
  have hit : ∀ (i : Nat) (h : i < its.toArray.size), isInt k its.toArray[i] = decide (ns.getD i 0 = k) := fun i h => by
    obtain ⟨t', e'⟩ := intsAre_at hi i (by simpa using h)
    have e2 : its.toArray[i] = Value.int (ns.getD i 0) t' := by simpa using e'
    rw [e2]
    show (ns.getD i 0 == k) = _
    rfl
  have hgd : ∀ i, i < ns.length → ns.getD i 0 = ns[i]! := fun i h => by
    rw [List.getD_eq_getElem?_getD, List.getElem?_eq_getElem h, getElem!_pos ns i h]
    rfl
  refine call_meets F.slot_list_remove ⟨_, e, rfl⟩ F.entry_list_remove (F.args_list_remove_2 _ _)
    (MeetsSeq.list_remove l its.toArray n (.int k t) (isInt k) (fun y hy => eq_isInt k t hi y (by simpa using hy)) (ns.idxOf k) (by rw [List.size_toArray, ← hl]; exact hj) ?_ ?_ (by rw [List.size_toArray, ← hl]; simpa using z)) ⟨e, ?_⟩
  · rw [hit]
    apply decide_eq_true
    rw [List.getD_eq_getElem?_getD, List.getElem?_eq_getElem hj]
    exact List.getElem_idxOf hj
  · intro m hm hlt
    rw [hit]
    apply decide_eq_false
    have hml : m < ns.length := Nat.lt_trans hlt hj
    rw [List.getD_eq_getElem?_getD, List.getElem?_eq_getElem hml]
    intro z
    refine idx_before hlt ?_
    rw [List.getD_eq_getElem?_getD, List.getElem?_eq_getElem hml]
    exact z
  · refine ⟨.non, _, I.lset (its' := its.eraseIdx (ns.idxOf k)) hH e ?_ ?_ ?_, rfl, q⟩
    · show its.toArray.eraseIdxIfInBounds (ns.idxOf k) = (its.eraseIdx (ns.idxOf k)).toArray
      rw [List.eraseIdxIfInBounds_toArray]
    · have r2 := r.eraseIdx (ns.idxOf k)
      rw [erase_idx] at r2
      exact r2
    · rw [List.length_map] at z ⊢
      exact Nat.le_trans (List.length_erase_le) z
end

/-! ### classes of the text -/
/-- a method of a class of the text -/
def MethT (K : PySem.W.Frag) (C : Addr) (m qual : Str) (st : Stmt) (ps : List Str) : Prop := ∃ f fd, Meth K C m f ∧ Fun K m qual st f fd ∧ Binds K fd ps []
/-- a class that is made by its __init__ -/
def MakeT (K : PySem.W.Frag) (C : Addr) (qual : Str) (st : Stmt) (ps : List Str) : Prop := ∃ f fd, Mk K C f ∧ Fun K "__init__" qual st f fd ∧ Binds K fd ps []
/-- what isinstance asks of an object's class -/
structure Own (K : PySem.W.Frag) (C : Addr) : Prop where
  cl : Cls K C
  ha : PySem.W.findIn K (.ref C) "__class__" = some (some (.builtin "object.__class__"))
  hn : PySem.W.specialIn K (.builtin "object.__class__") "__get__" = some (some (.builtin "getset_descriptor.__get__"))
  htk : PySem.W.takesIn K (.builtin "object.__class__") = some true
  hm : PySem.W.mroIn K C (.type "object") = some true
theorem Own.ty {K : PySem.W.Frag} {C : Addr} (o : Own K C) {H : Hp} {a dx : Addr} {fs : List (Str × V)} (e : H a = some (.ins C dx fs)) : TyOf K H (.ref a) (.ref C) := .ins e o.cl o.ha o.hn o.htk o.hm
/-- a class whose __init__ keeps its promise -/
def Mak (P : Program) (w : World) (K : PySem.W.Frag) (mg : Str → Option Value) (base : Heap) (k : Nat) (x : Str) (C : Addr) (ps : List Str) (sp : Sp) : Prop :=
  ∃ f fd, mg x = some (.ref C) ∧ Mk K C f ∧ Binds K fd ps [] ∧ FnOk P w K mg base CX0 k f fd ps sp
theorem Mak.mono {P : Program} {w : World} {K : PySem.W.Frag} {mg : Str → Option Value} {base : Heap} {j k : Nat} {x : Str} {C : Addr} {ps : List Str} {sp : Sp} (M : Mak P w K mg base j x C ps sp) (h : j ≤ k) : Mak P w K mg base k x C ps sp := by
  obtain ⟨f, fd, h1, h2, h3, h4⟩ := M
  exact ⟨f, fd, h1, h2, h3, h4.mono h⟩
section
variable {X : Cx} {k : Nat} {x : Str} {C : Addr} {ps : List Str} {sp : Sp} {e : Expr} {es : List Expr} {t : TA} {p pos : Pos}
theorem pe_mk (M : Mak X.prog X.w X.K X.mg X.base k x C ps sp) (hr : Room (k + 1) X.A) (hg : Gl X x) (ha : PA X (e :: es) t) (hd : (x == ("__debug__" : Str)) = false := by decide)
    (he : starEach (e :: es) X.env = (false, eval e X.env) :: starEach es X.env := by rfl) (hpl : (backTo pos (starEach es X.env)).any (·.1) = false := by rfl) :
    PE X (.Call (.Name x p) (e :: es) [] pos) (tMake C sp [] E0 t) := by
  obtain ⟨f, fd, h1, h2, h3, h4⟩ := M
  exact pe_make h2 h4 hr hg h1 h3 .nil pass0 ha (hdb := hd) (he := he) (hpl := hpl)
theorem pe_mk0 (M : Mak X.prog X.w X.K X.mg X.base k x C ps sp) (hr : Room (k + 1) X.A) (hg : Gl X x) (hd : (x == ("__debug__" : Str)) = false := by decide) :
    PE X (.Call (.Name x p) [] [] pos) (tMake C sp [] E0 tNil) := by
  obtain ⟨f, fd, h1, h2, h3, h4⟩ := M
  exact pe_make0 h2 h4 hr hg h1 h3 .nil pass0 (hdb := hd)
end

/-! ### facts of the top, as k_is finds them -/
theorem fnt_mk {K : PySem.W.Frag} {h : Heap} {mg : Str → Option Value} {x : Str} {st : Stmt} {ps : List Str} {f : Addr} {oc kV doc pm cdv ct : Value} {od an : Option Addr} {osl : Array (Option Value)} (X : K.In h) (G : h.Ns mainGlobals mg)
    (a : PySem.W.nsIn K mainGlobals x = some (some (.ref f)))
    (l : K.lookup f = some ⟨oc, od, .func (PySem.W.fnOf x x (defArgs st) (defBody st) (defScope st) .none kV doc pm an cdv ct), osl⟩) (c : PySem.W.codeIn K cdv x = true) (kp : PySem.W.keepIn K (.ref f) = true)
    (hb : ∀ (kV doc pm : Value) (an : Option Addr) (cdv ct : Value) (us : List Value), us.length = ps.length → bindArgs (PySem.W.fnOf x x (defArgs st) (defBody st) (defScope st) .none kV doc pm an cdv ct) ⟨us, []⟩ = pure (ps.zip us)) : FnT K mg x st ps :=
  ⟨f, _, PySem.W.mg_of X G a, fun_mk (st := st) l c kp, (fun_mk (st := st) l c kp).binds hb⟩
theorem metht_mk {K : PySem.W.Frag} {C : Addr} {m qual : Str} {st : Stmt} {ps : List Str} {f : Addr} {oc kV doc pm cdv ct : Value} {od an : Option Addr} {osl : Array (Option Value)}
    (a : PySem.W.findIn K (.ref C) m = some (some (.ref f))) (i : PySem.W.isFn K (.ref f) = true)
    (l : K.lookup f = some ⟨oc, od, .func (PySem.W.fnOf m qual (defArgs st) (defBody st) (defScope st) .none kV doc pm an cdv ct), osl⟩) (c : PySem.W.codeIn K cdv qual = true) (kp : PySem.W.keepIn K (.ref f) = true)
    (hb : ∀ (kV doc pm : Value) (an : Option Addr) (cdv ct : Value) (us : List Value), us.length = ps.length → bindArgs (PySem.W.fnOf m qual (defArgs st) (defBody st) (defScope st) .none kV doc pm an cdv ct) ⟨us, []⟩ = pure (ps.zip us)) : MethT K C m qual st ps :=
  ⟨f, _, ⟨a, i, kp⟩, fun_mk (st := st) l c kp, (fun_mk (st := st) l c kp).binds hb⟩
theorem maket_mk {K : PySem.W.Frag} {C : Addr} {qual : Str} {st : Stmt} {ps : List Str} {f : Addr} {oc kV doc pm cdv ct : Value} {od an : Option Addr} {osl : Array (Option Value)}
    (mk : PySem.W.makesIn K C = true) (kc : PySem.W.keepIn K (.ref C) = true) (a : PySem.W.findIn K (.ref C) "__init__" = some (some (.ref f))) (i : PySem.W.isFn K (.ref f) = true)
    (l : K.lookup f = some ⟨oc, od, .func (PySem.W.fnOf "__init__" qual (defArgs st) (defBody st) (defScope st) .none kV doc pm an cdv ct), osl⟩) (c : PySem.W.codeIn K cdv qual = true) (kp : PySem.W.keepIn K (.ref f) = true)
    (hb : ∀ (kV doc pm : Value) (an : Option Addr) (cdv ct : Value) (us : List Value), us.length = ps.length → bindArgs (PySem.W.fnOf "__init__" qual (defArgs st) (defBody st) (defScope st) .none kV doc pm an cdv ct) ⟨us, []⟩ = pure (ps.zip us)) : MakeT K C qual st ps :=
  ⟨f, _, ⟨mk, a, i, kc⟩, fun_mk (st := st) l c kp, (fun_mk (st := st) l c kp).binds hb⟩
theorem noattr_mk {K : PySem.W.Frag} {C : Addr} {f : Str} (a : PySem.W.findIn K (.ref C) f = some none) : NoAttr K C f := a
theorem own_mk {K : PySem.W.Frag} {C : Addr} (pg : PySem.W.plainGet K C Str.empty = true) (hd : PySem.W.hasDictIn K C = true) (po : PySem.W.plainOver K C = true)
    (sa : PySem.W.findIn K (.ref C) "__setattr__" = some (some (.builtin "object.__setattr__"))) (ha : PySem.W.findIn K (.ref C) "__class__" = some (some (.builtin "object.__class__")))
    (hn : PySem.W.specialIn K (.builtin "object.__class__") "__get__" = some (some (.builtin "getset_descriptor.__get__"))) (htk : PySem.W.takesIn K (.builtin "object.__class__") = some true)
    (hm : PySem.W.mroIn K C (.type "object") = some true) : Own K C := ⟨⟨pg, hd, po, sa⟩, ha, hn, htk, hm⟩
end L2
namespace Bw
open PySem L2
theorem iteF' {c : Bool} {A B : Prop} (e : c = false) (h : B) : if c = true then A else B := by
  rw [e]
  exact iteF h
theorem iteT' {c : Bool} {A B : Prop} (e : c = true) (h : A) : if c = true then A else B := by
  rw [e]
  exact iteT h
theorem most_mk {mg : Str → Option Value} {x : Str} {v : Value} {n : Int} (h : mg x = some v) (e : ∃ t, v = .int n t) : ∃ t, mg x = some (.int n t) := by
  obtain ⟨t, rfl⟩ := e
  exact ⟨t, h⟩
theorem text_mk {mg : Str → Option Value} {x z : Str} {v : Value} (h : mg x = some v) (e : ∃ t, v = .str z t) : ∃ t, mg x = some (.str z t) := by
  obtain ⟨t, rfl⟩ := e
  exact ⟨t, h⟩
end Bw

set_option Elab.async false
set_option linter.all false
set_option maxRecDepth 100000
set_option maxHeartbeats 4000000
namespace Bw
open PySem L2
/-- the addresses of the text's classes -/
structure Cl where
  (Tree Point Doing Beside Across Answer Made Row : Addr)
/-- what stands at the top -/
structure Txt (K : PySem.W.Frag) (mg : Str → Option Value) (cs : Cl) : Prop where
  gTree : mg "Tree" = some (.ref cs.Tree)
  gPoint : mg "Point" = some (.ref cs.Point)
  gDoing : mg "Doing" = some (.ref cs.Doing)
  gBeside : mg "Beside" = some (.ref cs.Beside)
  gAcross : mg "Across" = some (.ref cs.Across)
  gAnswer : mg "Answer" = some (.ref cs.Answer)
  gMade : mg "Made" = some (.ref cs.Made)
  gRow : mg "Row" = some (.ref cs.Row)
  isBelow : FnT K mg "is_below" sIsBelow ["value", "bound"]
  tied : FnT K mg "tied" sTied ["web", "one", "other"]
  hasPoints : FnT K mg "has_points" sHasPoints ["web", "points"]
  checkWeb : FnT K mg "check_web" sCheckWeb ["web"]
  checkTies : FnT K mg "check_ties" sCheckTies ["web", "point"]
  checkPoints : FnT K mg "check_points" sCheckPoints ["web", "points"]
  checkTrees : FnT K mg "check_trees" sCheckTrees ["trees"]
  turned : FnT K mg "turned" sTurned ["web"]
  among : FnT K mg "among" sAmong ["web", "points"]
  tiesAmong : FnT K mg "ties_among" sTiesAmong ["web", "point", "points"]
  parts : FnT K mg "parts" sParts ["web"]
  hangingWith : FnT K mg "hanging_with" sHangingWith ["web", "start"]
  telling : FnT K mg "telling" sTelling ["web"]
  goesOn : FnT K mg "goes_on" sGoesOn ["web", "row", "point"]
  rowIn : FnT K mg "row_in" sRowIn ["web"]
  longerRows : FnT K mg "longer_rows" sLongerRows ["web", "rows"]
  treeAmong : FnT K mg "tree_among" sTreeAmong ["web", "points"]
  treesAmong : FnT K mg "trees_among" sTreesAmong ["web", "points", "groups"]
  twins : FnT K mg "twins" sTwins ["web"]
  twinsAmong : FnT K mg "twins_among" sTwinsAmong ["web", "points"]
  areTwins : FnT K mg "are_twins" sAreTwins ["web", "points", "one", "other"]
  lawCellAt : FnT K mg "_law_cell_at" sLawCellAt ["_law_script", "_law_k"]
  lawDraw : FnT K mg "_law_draw" sLawDraw ["_law_cell", "_law_k", "_law_many"]
  lawWeb : FnT K mg "_law_web" sLawWeb ["_law_script", "_law_first", "_law_most"]
  lawTie : FnT K mg "_law_tie" sLawTie ["_law_web_here", "_law_one", "_law_other"]
  lawTwins : FnT K mg "_law_twins" sLawTwins ["_law_web_here", "_law_left", "_law_one", "_law_other"]
  lawGone : FnT K mg "_law_gone" sLawGone ["_law_web_here", "_law_found"]
  oPoint : Own K cs.Point
  nPointAt : NoAttr K cs.Point "at"
  mkPoint : MakeT K cs.Point "Point.__init__" sPointInit ["self", "at"]
  mPointPoints : MethT K cs.Point "points" "Point.points" sPointPoints ["self"]
  oBeside : Own K cs.Beside
  nBesideTrees : NoAttr K cs.Beside "trees"
  nBesideLaid : NoAttr K cs.Beside "laid"
  mkBeside : MakeT K cs.Beside "Beside.__init__" sBesideInit ["self", "trees"]
  mBesidePoints : MethT K cs.Beside "points" "Doing.points" sDoingPoints ["self"]
  mBesideLay : MethT K cs.Beside "lay" "Doing.lay" sDoingLay ["self", "trees"]
  oAcross : Own K cs.Across
  nAcrossTrees : NoAttr K cs.Across "trees"
  nAcrossLaid : NoAttr K cs.Across "laid"
  mkAcross : MakeT K cs.Across "Across.__init__" sAcrossInit ["self", "trees"]
  mAcrossPoints : MethT K cs.Across "points" "Doing.points" sDoingPoints ["self"]
  mAcrossLay : MethT K cs.Across "lay" "Doing.lay" sDoingLay ["self", "trees"]
  oMade : Own K cs.Made
  nMadeTree : NoAttr K cs.Made "tree"
  mkMade : MakeT K cs.Made "Made.__init__" sMadeInit ["self", "tree"]
  oRow : Own K cs.Row
  nRowFour : NoAttr K cs.Row "four"
  mkRow : MakeT K cs.Row "Row.__init__" sRowInit ["self", "four"]
  kPointTree : PySem.W.kitOne K (.ref cs.Point) (.ref cs.Tree) = some true
  kPointMade : PySem.W.kitOne K (.ref cs.Point) (.ref cs.Made) = some false
  kBesideTree : PySem.W.kitOne K (.ref cs.Beside) (.ref cs.Tree) = some true
  kBesideMade : PySem.W.kitOne K (.ref cs.Beside) (.ref cs.Made) = some false
  kAcrossTree : PySem.W.kitOne K (.ref cs.Across) (.ref cs.Tree) = some true
  kAcrossMade : PySem.W.kitOne K (.ref cs.Across) (.ref cs.Made) = some false
  kMadeTree : PySem.W.kitOne K (.ref cs.Made) (.ref cs.Tree) = some false
  kMadeMade : PySem.W.kitOne K (.ref cs.Made) (.ref cs.Made) = some true
  kRowTree : PySem.W.kitOne K (.ref cs.Row) (.ref cs.Tree) = some false
  kRowMade : PySem.W.kitOne K (.ref cs.Row) (.ref cs.Made) = some false
  vMOST_POINTS : ∃ t, mg "MOST_POINTS" = some (.int 10 t)
  all : mg "all" = none
  any : mg "any" = none
  bool : mg "bool" = none
  enum : mg "enumerate" = none
  int : mg "int" = none
  isinst : mg "isinstance" = none
  len : mg "len" = none
  list : mg "list" = none
  min : mg "min" = none
  range : mg "range" = none
  set : mg "set" = none
  sorted : mg "sorted" = none
  str : mg "str" = none
  tuple : mg "tuple" = none
end Bw

set_option Elab.async false
set_option linter.all false
set_option maxRecDepth 100000
set_option maxHeartbeats 4000000
/-! small lemmas -/
namespace Bw
open PySem L2
theorem same_upd {H H' : Hp} {l : Addr} {o : HO} (s : Same H H') (h : H' l = none) : Same H (upd H' l o) := fun b u e => by
  have e' := s b u e
  rw [upd_ne (ne_of_none e' h)]
  exact e'
theorem yes {σ : St} {H : Hp} {Q : Bool → Hp → Prop} (h : Q true H) : tYes σ H Q := h
theorem gset {i : Nat} {v : V} {σ : St} {H : Hp} {Q : St → Hp → Prop} (h : Q (σ.set i (some v)) H) : gName i v σ H Q := h
theorem same_none {H H' : Hp} {l : Addr} (s : Same H H') (h : H' l = none) : H l = none := s.free h
theorem range_snoc (f : Nat → Nat) (i : Nat) : vv ((List.range i).map f) ++ [V.int ((f i : Nat) : Int)] = vv ((List.range (i + 1)).map f) := by
  rw [vv_snoc, List.range_succ, List.map_append]
  rfl
theorem all_snoc (f : Nat → Bool) (pts : List Nat) {i : Nat} (hi : i < pts.length) : ((pts.take i).map f).map V.bl ++ [V.bl (f (pts.getD i 0))] = ((pts.take (i + 1)).map f).map V.bl := by
  rw [List.take_succ, List.map_append, List.map_append, List.getD_eq_getElem?_getD, List.getElem?_eq_getElem hi]
  rfl
theorem all_id (f : Nat → Bool) (pts : List Nat) : (pts.map f).all id = pts.all f := by
  rw [List.all_map]
  rfl
theorem map_take_snoc (f : Nat → Nat) (pts : List Nat) {i : Nat} (hi : i < pts.length) : vv ((pts.take i).map f) ++ [V.int ((f (pts.getD i 0) : Nat) : Int)] = vv ((pts.take (i + 1)).map f) := by
  rw [vv_snoc, List.take_succ, List.map_append, List.getD_eq_getElem?_getD, List.getElem?_eq_getElem hi]
  rfl
theorem same_upd' {H H' : Hp} {l : Addr} {o : HO} (s : Same H H') (h : H l = none) : Same H (upd H' l o) := fun b u e => by
  rw [upd_ne (ne_of_none e h)]
  exact s b u e
def lenD : Option HO → Nat
  | some (.dK kvs) => kvs.length
  | _ => 0
def lenL : Option HO → Nat
  | some (.lst xs) => xs.length
  | _ => 0
theorem iv_sorted {l : List Nat} (h : l.Pairwise (· < ·)) : (iv l).Pairwise (· ≤ ·) := by
  unfold iv
  rw [List.pairwise_map]
  exact h.imp fun e => by omega
theorem paired_imp {α β : Type} {F G : α → β → Prop} (f : ∀ a b, F a b → G a b) : ∀ {l₁ : List α} {l₂ : List β}, Paired F l₁ l₂ → Paired G l₁ l₂
  | _, _, .nil => .nil
  | _, _, .cons h t => .cons (f _ _ h) (paired_imp f t)
theorem vv_app (a b : List Nat) : vv a ++ vv b = vv (a ++ b) := by simp [vv, iv]
theorem ixN_nat {n i : Nat} (h : i < n) : ixN n (i : Int) = some i := by
  unfold ixN
  rw [if_pos (by omega), if_pos (by omega)]
  simp
theorem list_rng_vv (ws : List Nat) : ((List.range ((((vv ws).length : Nat) : Int) - 0).toNat).map fun i : Nat => V.int (0 + (i : Int))) = vv (List.range ws.length) := by
  have e1 : ((((vv ws).length : Nat) : Int) - 0).toNat = ws.length := by rw [vv_len]; omega
  rw [e1]
  unfold vv iv
  rw [List.map_map]
  apply List.map_congr_left
  intro i _
  show V.int (0 + (i : Int)) = V.int (i : Int)
  rw [Int.zero_add]
end Bw

set_option Elab.async false
set_option linter.all false
set_option maxRecDepth 100000
set_option maxHeartbeats 4000000
namespace Bw
open PySem L2
theorem kit_ll (K : PySem.W.Frag) : PySem.W.kitOne K (.type "list") (.type "list") = some true := by rfl
theorem kit_ii (K : PySem.W.Frag) : PySem.W.kitOne K (.type "int") (.type "int") = some true := by rfl
theorem kit_ib (K : PySem.W.Frag) : PySem.W.kitOne K (.type "int") (.type "bool") = some false := by rfl

section
variable {P : Program} {w : World} {K : PySem.W.Frag} {mg : Str → Option Value} {base : Heap} {cs : Cl}

/-! ### tied(web, one, other) -/
def spTied (K : PySem.W.Frag) : Sp := fun vs H Q _ => ∃ (a : Addr) (ws : List Nat) (i j : Nat), vs = [.ref a, .int i, .int j] ∧ SqL K H a (vv ws) ∧ i < ws.length ∧ Q (.bl (bit ws i j)) H
theorem scTied : FnScope ["web", "one", "other"] ["web", "one", "other"] (defScope sTied) := ⟨rfl, rfl, rfl, by decide +kernel, rfl, by decide +kernel, by decide +kernel⟩
theorem ok_tied (T : Txt K mg cs) : Cal P w K mg base 1 "tied" ["web", "one", "other"] (spTied K) := by
  refine T.tied.cal scTied (fun vs H Q E h => ?_) (fun f cdv A outer s H vs Q E hr h => ?_)
  · obtain ⟨a, ws, i, j, rfl, _⟩ := h
    rfl
  · obtain ⟨a, ws, i, j, rfl, hw, hi, k⟩ := h
    refine ⟨_, pss_one (ps_ret (pe_cmpR op_eq (pe_op op_and (pe_op op_shr (pe_ix ix_list (pv 0) (pv 1) (fun _ _ => rfl)) (pv 2)) pe_int) pe_int (nomark _))), ?_⟩
    refine ⟨_, rfl, _, rfl, a, _, _, _, rfl, rfl, hw, atI_nat (vv_get hi), _, rfl, _, _, rfl, rfl, Int.natCast_nonneg j, _, _, rfl, rfl, rfl, ?_⟩
    show Q (.bl (decide (V.int (Builtin.bitAnd (((ws.getD i 0 : Nat) : Int) / 2 ^ ((j : Int)).toNat) 1) = V.int 1))) H
    rw [shr_bit]
    exact k

/-! ### is_below(value, bound) -/
def spBelow : Sp := fun vs H Q _ => ∃ (i j : Int), vs = [.int i, .int j] ∧ Q (.bl (decide (0 ≤ i) && decide (i < j))) H
theorem scBelow : FnScope ["value", "bound"] ["value", "bound"] (defScope sIsBelow) := ⟨rfl, rfl, rfl, by decide +kernel, rfl, by decide +kernel, by decide +kernel⟩
theorem ok_below (T : Txt K mg cs) : Cal P w K mg base 1 "is_below" ["value", "bound"] spBelow := by
  refine T.isBelow.cal scBelow (fun vs H Q E h => ?_) (fun f cdv A outer s H vs Q E hr h => ?_)
  · obtain ⟨i, j, rfl, _⟩ := h
    rfl
  · obtain ⟨i, j, rfl, k⟩ := h
    refine ⟨_, pss_one (ps_ret (pe_and (pe_callB call_isinst (by rfl) T.isinst PyProof.Rows.boot_isinstance (pa_cons (pv 0) (pa_cons (pe_bltn (v := .ty "int") (by rfl) T.int PyProof.Rows.boot_int rfl) pa_nil)))
      (pe_and (pe_not (pe_callB call_isinst (by rfl) T.isinst PyProof.Rows.boot_isinstance (pa_cons (pv 0) (pa_cons (pe_bltn (v := .ty "bool") (by rfl) T.bool PyProof.Rows.boot_bool rfl) pa_nil))))
        (pe_one (pe_chain op_le op_lt pe_int (pv 0) (pv 1)))))), ?_⟩
    refine ⟨_, rfl, _, _, _, _, rfl, .int i, kit_ii K, true, rfl, iteT ?_⟩
    refine ⟨_, rfl, _, _, _, _, rfl, .int i, kit_ib K, false, rfl, true, rfl, iteT ?_⟩
    refine ⟨_, rfl, _, _, rfl, rfl, _, rfl, ?_⟩
    refine ite2 (fun h0 => ?_) (fun h0 => ?_)
    · refine ⟨_, rfl, _, _, rfl, rfl, ?_⟩
      have e : (decide (0 ≤ i) && decide (i < j)) = decide (i < j) := by rw [h0]; rfl
      rw [e] at k
      exact k
    · have e : (decide (0 ≤ i) && decide (i < j)) = false := by
        have : decide (0 ≤ i) = false := by simpa using h0
        rw [this]; rfl
      rw [e] at k
      exact k
end
end Bw

set_option Elab.async false
set_option linter.all false
set_option maxRecDepth 100000
set_option maxHeartbeats 4000000
/-! The program's own defs keep their promises -/
namespace Bw
open PySem L2
section
variable {P : Program} {w : World} {K : PySem.W.Frag} {mg : Str → Option Value} {base : Heap} {cs : Cl}

/-! ### check_ties(web, point) -/
def spCheckTies (K : PySem.W.Frag) : Sp := fun vs H Q _ => ∃ (a : Addr) (ws : List Nat) (p : Nat), vs = [.ref a, .int p] ∧ SqL K H a (vv ws) ∧ Web ws ∧ p < ws.length ∧ Q .non H
theorem scCheckTies : FnScope ["web", "point", "other"] ["web", "point"] (defScope sCheckTies) := ⟨rfl, rfl, rfl, by decide +kernel, rfl, by decide +kernel, by decide +kernel⟩
theorem ok_checkTies (T : Txt K mg cs) : Cal P w K mg base 2 "check_ties" ["web", "point"] (spCheckTies K) := by
  have CT : Cal P w K mg base 1 "tied" ["web", "one", "other"] (spTied K) := ok_tied T
  refine T.checkTies.cal scCheckTies (fun vs H Q E h => ?_) (fun f cdv A outer s H vs Q E hr h => ?_)
  · obtain ⟨a, ws, p, rfl, _⟩ := h
    rfl
  · obtain ⟨a, ws, p, rfl, hw, W, hp, k⟩ := h
    refine ⟨_, pss_cons (ps_if (pt_val (pe_cal CT hr (by rfl) (pa_cons (pv 0) (pa_cons (pv 1) (pa_cons (pv 1) pa_nil))))) pss_never pss_nil)
      (pss_one (ps_for PassesOwn.never rfl (pi_range1 rfl T.range (pa_cons (pv 1) pa_nil)) (pg_name (i := 2) scCheckTies.nd rfl (Or.inl rfl))
        (pss_one (ps_if (pt_cmpR op_ne (pe_cal CT hr (by rfl) (pa_cons (pv 0) (pa_cons (pv 1) (pa_cons (pv 2) pa_nil)))) (pe_cal CT hr (by rfl) (pa_cons (pv 0) (pa_cons (pv 2) (pa_cons (pv 1) pa_nil)))) (nomark _)) pss_never pss_nil)))), ?_⟩
    refine ⟨_, rfl, _, rfl, _, rfl, a, ws, p, p, rfl, hw, hp, _, rfl, ?_⟩
    rw [W.irr]
    refine iteF ?_
    refine ⟨_, rfl, p, rfl, by omega, by have := W.le; omega, ?_⟩
    rw [Int.toNat_natCast]
    refine for_range (n := p) (fun i σ H' => (∃ v, σ = [some (.ref a), some (.int p), v]) ∧ H' = H) ⟨⟨_, rfl⟩, rfl⟩ ?_ ?_
    · rintro i σ H' hi ⟨⟨v, rfl⟩, rfl⟩
      have hil : i < ws.length := by omega
      have e0 : (0 : Int) + (i : Int) = ((i : Nat) : Int) := by omega
      rw [e0]
      refine ⟨_, rfl, _, rfl, _, rfl, a, ws, p, i, rfl, hw, hp, _, rfl, _, rfl, _, rfl, a, ws, i, p, rfl, hw, hil, rfl, _, rfl, ?_⟩
      rw [W.sym i p]
      refine iteNS rfl ?_
      exact ⟨⟨_, rfl⟩, rfl⟩
    · rintro σ H' ⟨⟨v, rfl⟩, rfl⟩
      exact k

/-! ### check_web(web) -/
def spCheckWeb : Sp := fun vs H Q _ => ∃ (a : Addr) (ws : List Nat), vs = [.ref a] ∧ H a = some (.lst (vv ws)) ∧ Web ws ∧ Q .non H
theorem scCheckWeb : FnScope ["web", "ties", "point"] ["web"] (defScope sCheckWeb) := ⟨rfl, rfl, rfl, by decide +kernel, rfl, by decide +kernel, by decide +kernel⟩
theorem ok_checkWeb (T : Txt K mg cs) : Cal P w K mg base 3 "check_web" ["web"] spCheckWeb := by
  have CB : Cal P w K mg base 2 "is_below" ["value", "bound"] spBelow := (ok_below T).mono (by decide)
  have CT : Cal P w K mg base 2 "check_ties" ["web", "point"] (spCheckTies K) := ok_checkTies T
  obtain ⟨tm, hmost⟩ := T.vMOST_POINTS
  refine T.checkWeb.cal scCheckWeb (fun vs H Q E h => ?_) (fun f cdv A outer s H vs Q E hr h => ?_)
  · obtain ⟨a, ws, rfl, _⟩ := h
    rfl
  · obtain ⟨a, ws, rfl, ha, W, k⟩ := h
    have hw : SqL K H a (vv ws) := SqL.of ha
    refine ⟨_, pss_cons (ps_if (PW.pt (pw_or (pt_not (pt_val (pe_callB call_isinst (by rfl) T.isinst PyProof.Rows.boot_isinstance (pa_cons (pv 0) (pa_cons (pe_bltn (v := .ty "list") (by rfl) T.list PyProof.Rows.boot_list rfl) pa_nil)))))
        (pw_or1 (pt_not (pt_chain op_le op_le pe_int (pe_callB call_len_seq (by rfl) T.len PySem.boot_len (pa_cons (pv 0) pa_nil)) (pe_glob (v := .int 10) (by rfl) hmost ⟨tm, rfl⟩)))))) pss_never pss_nil)
      (pss_cons (ps_for PassesOwn.never rfl (pi_list (pv 0)) (pg_name (i := 1) scCheckWeb.nd rfl (Or.inl rfl))
        (pss_one (ps_if (pt_not (pt_val (pe_cal CB hr (by rfl) (pa_cons (pv 1) (pa_cons (pe_op op_shl pe_int (pe_callB call_len_seq (by rfl) T.len PySem.boot_len (pa_cons (pv 0) pa_nil))) pa_nil))))) pss_never pss_nil)))
      (pss_one (ps_for PassesOwn.never rfl (pi_range1 rfl T.range (pa_cons (pe_callB call_len_seq (by rfl) T.len PySem.boot_len (pa_cons (pv 0) pa_nil)) pa_nil)) (pg_name (i := 2) scCheckWeb.nd rfl (Or.inl rfl))
        (pss_one (ps_expr (pe_cal CT hr (by rfl) (pa_cons (pv 0) (pa_cons (pv 2) pa_nil)))))))), ?_⟩
    have hlen := W.le
    have hpos := W.pos
    refine ⟨_, rfl, _, _, _, _, rfl, TyOf.lst ha, kit_ll K, true, rfl, iteF ?_⟩
    refine ⟨_, rfl, a, vv ws, rfl, .inl hw, _, _, rfl, rfl, _, rfl, ?_⟩
    rw [vv_len]
    have e1 : decide ((1 : Int) ≤ (ws.length : Int)) = true := decide_eq_true (by omega)
    have e2 : decide ((ws.length : Int) ≤ 10) = true := decide_eq_true (by omega)
    rw [e1]
    refine iteT ⟨_, _, rfl, rfl, _, rfl, ?_⟩
    rw [e2]
    refine iteF ?_
    -- for ties in web
    refine ⟨_, rfl, a, rfl, ⟨_, hw⟩, for_list (K := K) (a := a) (xs := vv ws) (fun i σ H' => (∃ v u, σ = [some (.ref a), v, u]) ∧ H' = H) ⟨⟨_, _, rfl⟩, rfl⟩ (fun i σ H' _ ⟨_, e⟩ => by rw [e]; exact hw) ?_ ?_⟩
    · rintro i x σ H' hx ⟨⟨v, u, rfl⟩, rfl⟩
      obtain ⟨hi, rfl⟩ := vv_at hx
      refine ⟨_, rfl, _, rfl, a, vv ws, rfl, .inl hw, _, _, rfl, rfl, ⟨by rw [vv_len]; omega, by rw [vv_len]; omega, by decide⟩, _, _, rfl, _, rfl, ?_⟩
      rw [vv_len, shl_one]
      have e1 : decide ((0 : Int) ≤ ((ws.getD i 0 : Nat) : Int)) = true := decide_eq_true (Int.natCast_nonneg _)
      have e2 : decide (((ws.getD i 0 : Nat) : Int) < ((2 ^ ws.length : Nat) : Int)) = true := decide_eq_true (by have := W.lt i; omega)
      rw [e1, e2]
      refine iteF ?_
      exact ⟨⟨_, _, rfl⟩, rfl⟩
    · rintro σ H' ⟨⟨v, u, rfl⟩, rfl⟩
      -- for point in range(len(web))
      refine ⟨_, rfl, a, vv ws, rfl, .inl hw, _, rfl, by rw [vv_len]; omega, by rw [vv_len]; omega, ?_⟩
      rw [vv_len, Int.toNat_natCast]
      refine for_range (n := ws.length) (fun i σ H2 => (∃ v u, σ = [some (.ref a), v, u]) ∧ H2 = H') ⟨⟨_, _, rfl⟩, rfl⟩ ?_ ?_
      · rintro i σ H2 hi ⟨⟨v, u, rfl⟩, rfl⟩
        have e0 : (0 : Int) + (i : Int) = ((i : Nat) : Int) := by omega
        rw [e0]
        refine ⟨_, rfl, _, rfl, a, ws, i, rfl, hw, W, hi, ?_⟩
        exact ⟨⟨_, _, rfl⟩, rfl⟩
      · rintro σ H2 ⟨⟨v, u, rfl⟩, rfl⟩
        exact k
end
end Bw

set_option Elab.async false
set_option linter.all false
set_option maxRecDepth 100000
set_option maxHeartbeats 4000000
namespace Bw
open PySem L2
section
variable {P : Program} {w : World} {K : PySem.W.Frag} {mg : Str → Option Value} {base : Heap} {cs : Cl}


/-! ### turned(web) -/
def spTurned : Sp := fun vs H Q _ => ∃ (a : Addr) (ws : List Nat), vs = [.ref a] ∧ H a = some (.lst (vv ws)) ∧ Web ws ∧ ∀ (l : Addr) (H' : Hp), H l = none → Same H H' → H' l = some (.lst (vv (turnedM ws))) → Q (.ref l) H'
theorem scTurned : FnScope ["web", "every"] ["web"] (defScope sTurned) := ⟨rfl, rfl, rfl, by decide +kernel, rfl, by decide +kernel, by decide +kernel⟩
def cTurned : Scope := { kind := .function, names := [(Str.ofString ".0", .local), (Str.ofString "point", .local), (Str.ofString "ties", .local), (Str.ofString "every", .free)], isGenerator := false, isCoroutine := false, more := [] }
theorem csTurned : CScope ["web", "every"] (defScope sTurned) cTurned ["every", "point", "ties"] [1] := ⟨rfl, by decide +kernel, by decide +kernel, by decide +kernel, by decide, by decide +kernel, by decide +kernel⟩
theorem turned_val (n v i : Nat) : Builtin.bitXor (Builtin.bitXor ((1 : Int) * 2 ^ ((n : Int)).toNat - 1) ((v : Nat) : Int)) ((1 : Int) * 2 ^ ((i : Int)).toNat) = (((2 ^ n - 1) ^^^ v ^^^ 2 ^ i : Nat) : Int) := by
  have e : (1 : Int) * 2 ^ ((n : Int)).toNat - 1 = ((2 ^ n - 1 : Nat) : Int) := by
    rw [shl_one]
    have : 0 < 2 ^ n := Nat.pow_pos (by decide)
    omega
  rw [e, bitXor_nat, shl_one, bitXor_nat]
theorem ok_turned (T : Txt K mg cs) : Cal P w K mg base 4 "turned" ["web"] spTurned := by
  have CW : Cal P w K mg base 3 "check_web" ["web"] spCheckWeb := ok_checkWeb T
  refine T.turned.cal scTurned (fun vs H Q E h => ?_) (fun f cdv A outer s H vs Q E hr h => ?_)
  · obtain ⟨a, ws, rfl, _⟩ := h
    rfl
  · obtain ⟨a, ws, rfl, ha, W, k⟩ := h
    have hw : SqL K H a (vv ws) := SqL.of ha
    have hle := W.le
    refine ⟨_, pss_cons (ps_expr (pe_cal CW hr (by rfl) (pa_cons (pv 0) pa_nil)))
      (pss_cons (ps_set (i := 1) scTurned.nd rfl (Or.inr rfl) (pe_op op_sub (pe_op op_shl pe_int (pe_callB call_len_seq (by rfl) T.len PySem.boot_len (pa_cons (pv 0) pa_nil))) pe_int))
      (pss_one (ps_ret (pe_comp (sc := cTurned) (g := gTup K 2 (gCons (gName 1) (gCons (gName 2) gNil))) rfl (pi_enum rfl T.enum (pa_cons (pv 0) pa_nil)) csTurned
        (fun _ _ _ _ => pg_tup rfl (pgs_cons (pg_name (i := 1) csTurned.nd rfl (Or.inl rfl) (Or.inr rfl)) (pgs_cons (pg_name (i := 2) csTurned.nd rfl (Or.inl rfl) (Or.inr rfl)) pgs_nil)))
        (fun _ _ _ _ => pif_nil)
        (fun _ _ _ _ => pe_op op_xor (pe_op op_xor (pv 0) (pv 2)) (pe_op op_shl pe_int (pv 1))))))), ?_⟩
    refine ⟨_, rfl, a, ws, rfl, ha, W, ?_⟩
    refine ⟨_, rfl, a, vv ws, rfl, .inl hw, _, _, rfl, rfl, ⟨by rw [vv_len]; omega, by rw [vv_len]; omega, by decide⟩, _, _, rfl, rfl, ?_⟩
    refine ⟨_, rfl, a, rfl, ⟨_, hw⟩, comp_enum (K := K) (a := a) (xs := vv ws) (fun i ys H' => ys = vv ((List.range i).map fun i => (2 ^ ws.length - 1) ^^^ ws.getD i 0 ^^^ 2 ^ i) ∧ Same H H') ⟨rfl, Same.refl H⟩ (by rw [vv_len, sizeLine_eq]; omega) (fun i ys H' _ h => h.2.seq hw) ?_ ?_⟩
    · rintro i x ys H' t hx hlt ⟨rfl, sm⟩ hyl hys ht
      obtain ⟨hi, rfl⟩ := vv_at hx
      refine ⟨t, _, rfl, SqT.of upd_same, rfl, _, _, rfl, _, _, rfl, rfl, ?_⟩
      refine yes ?_
      refine iteT ?_
      refine ⟨_, rfl, _, rfl, _, _, rfl, rfl, _, rfl, _, _, rfl, rfl, ⟨by omega, by omega, by decide⟩, _, _, rfl, rfl, hys, Pn.snoc hlt hyl ⟨?_, same_upd sm ht⟩⟩
      rw [← range_snoc, vv_len]
      dsimp only
      rw [turned_val]
    · rintro ys H' ⟨rfl, sm⟩ hyl l hl
      refine k l _ (same_none sm hl) (same_upd sm hl) ?_
      rw [upd_same, vv_len]
      rfl

/-! ### ties_among(web, point, points) -/
def spTiesAmong (K : PySem.W.Frag) : Sp := fun vs H Q _ => ∃ (a b : Addr) (ws pts : List Nat) (p : Nat), vs = [.ref a, .int p, .ref b] ∧ SqL K H a (vv ws) ∧ SqL K H b (vv pts) ∧ p < ws.length ∧ pts.length ≤ 1000 ∧
  ∀ H', Same H H' → Q (.int ((sumB (fun k => bit ws p (pts.getD k 0)) pts.length : Nat) : Int)) H'
theorem scTiesAmong : FnScope ["web", "point", "points", "ties", "place", "other"] ["web", "point", "points"] (defScope sTiesAmong) := ⟨rfl, rfl, rfl, by decide +kernel, rfl, by decide +kernel, by decide +kernel⟩
theorem ok_tiesAmong (T : Txt K mg cs) : Cal P w K mg base 2 "ties_among" ["web", "point", "points"] (spTiesAmong K) := by
  have CT : Cal P w K mg base 1 "tied" ["web", "one", "other"] (spTied K) := ok_tied T
  refine T.tiesAmong.cal scTiesAmong (fun vs H Q E h => ?_) (fun f cdv A outer s H vs Q E hr h => ?_)
  · obtain ⟨a, b, ws, pts, p, rfl, _⟩ := h
    rfl
  · obtain ⟨a, b, ws, pts, p, rfl, hw, hb, hp, hl, k⟩ := h
    refine ⟨_, pss_cons (ps_set (i := 3) scTiesAmong.nd rfl (Or.inl rfl) pe_int)
      (pss_cons (ps_for PassesOwn.never rfl (pi_enum rfl T.enum (pa_cons (pv 2) pa_nil)) (pg_tup rfl (pgs_cons (pg_name (i := 4) scTiesAmong.nd rfl (Or.inl rfl)) (pgs_cons (pg_name (i := 5) scTiesAmong.nd rfl (Or.inl rfl)) pgs_nil)))
        (pss_one (ps_if (pt_val (pe_cal CT hr (by rfl) (pa_cons (pv 0) (pa_cons (pv 1) (pa_cons (pv 5) pa_nil)))))
          (pss_one (ps_set (i := 3) scTiesAmong.nd rfl (Or.inl rfl) (pe_op op_or (pv 3) (pe_op op_shl pe_int (pv 4))))) pss_nil)))
      (pss_one (ps_ret (pv 3)))), ?_⟩
    refine ⟨_, rfl, b, rfl, ⟨_, hb⟩, for_enum (K := K) (a := b) (xs := vv pts) (fun i σ H' => (∃ v u, σ = [some (.ref a), some (.int p), some (.ref b), some (.int ((sumB (fun k => bit ws p (pts.getD k 0)) i : Nat) : Int)), v, u]) ∧ Same H H') ⟨⟨_, _, rfl⟩, Same.refl H⟩ (fun i σ H' _ h => h.2.seq hb) ?_ ?_⟩
    · rintro i x σ H' t hx ⟨⟨v, u, rfl⟩, sm⟩ ht
      obtain ⟨hi, rfl⟩ := vv_at hx
      refine ⟨t, _, rfl, SqT.of upd_same, rfl, _, _, rfl, _, _, rfl, rfl, ?_⟩
      refine ⟨_, rfl, _, rfl, _, rfl, a, ws, p, pts.getD i 0, rfl, (same_upd sm ht).seq hw, hp, _, rfl, ?_⟩
      refine ite2 (fun hb1 => ?_) (fun hb1 => ?_)
      · refine ⟨_, rfl, _, rfl, _, _, rfl, rfl, ⟨by omega, by omega, by decide⟩, _, _, rfl, rfl, ⟨some (.int (i : Int)), some (.int ((pts.getD i 0 : Nat) : Int)), ?_⟩, same_upd sm ht⟩
        show [some (V.ref a), some (V.int (p : Int)), some (V.ref b), some (V.int (Builtin.bitOr ((sumB (fun k => bit ws p (pts.getD k 0)) i : Nat) : Int) (1 * 2 ^ ((i : Int)).toNat))), some (V.int (i : Int)), some (V.int ((pts.getD i 0 : Nat) : Int))] = _
        rw [shl_one, bitOr_nat, sumB_step, if_pos hb1]
      · refine ⟨⟨some (.int (i : Int)), some (.int ((pts.getD i 0 : Nat) : Int)), ?_⟩, same_upd sm ht⟩
        rw [sumB_step, if_neg hb1]
        rfl
    · rintro σ H' ⟨⟨v, u, rfl⟩, sm⟩
      refine ⟨_, rfl, ?_⟩
      have := k H' sm
      rw [vv_len]
      exact this

/-! ### has_points(web, points) -/
def spHasPoints (K : PySem.W.Frag) : Sp := fun vs H Q _ => ∃ (a b : Addr) (ws pts : List Nat), vs = [.ref a, .ref b] ∧ SqL K H a (vv ws) ∧ SqL K H b (vv pts) ∧ pts.length ≤ 1000 ∧ ∀ H', Same H H' → Q (.bl (pts.all fun p => decide (p < ws.length))) H'
theorem scHasPoints : FnScope ["web", "points"] ["web", "points"] (defScope sHasPoints) := ⟨rfl, rfl, rfl, by decide +kernel, rfl, by decide +kernel, by decide +kernel⟩
def cHasPoints1 : Scope := { kind := .function, names := [(Str.ofString ".0", .local), (Str.ofString "point", .local), (Str.ofString "is_below", .globalImplicit), (Str.ofString "len", .globalImplicit), (Str.ofString "web", .free)], isGenerator := false, isCoroutine := false, more := [] }
theorem cHasPoints1s : CScope ["web", "points"] (defScope sHasPoints) cHasPoints1 ["web", "point"] [0] := ⟨rfl, by decide +kernel, by decide +kernel, by decide +kernel, by decide, by decide +kernel, by decide +kernel⟩
theorem ok_hasPoints (T : Txt K mg cs) : Cal P w K mg base 2 "has_points" ["web", "points"] (spHasPoints K) := by
  have CIsBelow : Cal P w K mg base 1 "is_below" ["value", "bound"] spBelow := (ok_below T).mono (by decide)
  refine T.hasPoints.cal scHasPoints (fun vs H Q E h => ?_) (fun f cdv A outer s H vs Q E hr h => ?_)
  · obtain ⟨a, b, ws, pts, rfl, _⟩ := h
    rfl
  · obtain ⟨a, b, ws, pts, rfl, hw, hp, hl, k⟩ := h
    have hu := hu_of hr
    have hu64 := hr.units
    refine ⟨_, (pss_one (ps_ret (pe_callB (call_allK K rfl) (by rfl) T.all PyProof.Rows.boot_all (pa_cons (pe_comp (sc := cHasPoints1) rfl (pi_listK K (pv 1)) cHasPoints1s (fun _ _ _ _ => (pg_name (i := 1) cHasPoints1s.nd rfl (Or.inl rfl))) (fun _ _ _ _ => pif_nil) (fun _ _ _ _ => (pe_cal CIsBelow hr (by rfl) (pa_cons (pv 1) (pa_cons (pe_callB (call_lenK K) (by rfl) T.len PySem.boot_len (pa_cons (pv 0) pa_nil)) pa_nil))))) pa_nil)))), ?_⟩
    refine ⟨_, rfl, b, rfl, ⟨_, hp⟩, comp_list (K := K) (a := b) (xs := vv pts) (fun i ys H' => ys = ((pts.take i).map fun p => decide (p < ws.length)).map V.bl ∧ H' = H) ⟨rfl, rfl⟩ (by rw [vv_len, sizeLine_eq]; omega) (fun i ys H' _ h => by rw [h.2]; exact hp) ?_ ?_⟩
    · rintro i x ys H' hx hlt' ⟨rfl, rfl⟩ hyl hys
      obtain ⟨hi, rfl⟩ := vv_at hx
      refine gset ?_
      refine yes ?_
      refine iteT ?_
      refine ⟨_, rfl, _, rfl, a, vv ws, rfl, .inl hw, _, _, rfl, hys, Pn.snoc hlt' hyl ⟨?_, rfl⟩⟩
      rw [← all_snoc _ _ hi]
      have e1 : decide ((0 : Int) ≤ ((pts.getD i 0 : Nat) : Int)) = true := decide_eq_true (Int.natCast_nonneg _)
      have e2 : decide (((pts.getD i 0 : Nat) : Int) < ((vv ws).length : Int)) = decide (pts.getD i 0 < ws.length) := by
        rw [vv_len, decide_eq_decide]
        omega
      rw [e1, e2]
      rfl
    · rintro ys H' ⟨rfl, rfl⟩ hyl l hl
      refine ⟨l, _, rfl, SqL.of upd_same, ?_⟩
      rw [vv_len, List.take_length, all_id]
      exact k _ (same_upd (Same.refl _) hl)

/-! ### check_points(web, points) -/
def spCheckPoints (K : PySem.W.Frag) : Sp := fun vs H Q _ => ∃ (a b : Addr) (ws pts : List Nat), vs = [.ref a, .ref b] ∧ SqL K H a (vv ws) ∧ H b = some (.lst (vv pts)) ∧ pts ≠ [] ∧ pts.Nodup ∧ (∀ p ∈ pts, p < ws.length) ∧ ws.length ≤ 10 ∧
  ∀ H', Same H H' → Q .non H'
theorem scCheckPoints : FnScope ["web", "points"] ["web", "points"] (defScope sCheckPoints) := ⟨rfl, rfl, rfl, by decide +kernel, rfl, by decide +kernel, by decide +kernel⟩
theorem ok_checkPoints (T : Txt K mg cs) : Cal P w K mg base 3 "check_points" ["web", "points"] (spCheckPoints K) := by
  have CHasPoints : Cal P w K mg base 2 "has_points" ["web", "points"] (spHasPoints K) := (ok_hasPoints T).mono (by decide)
  refine T.checkPoints.cal scCheckPoints (fun vs H Q E h => ?_) (fun f cdv A outer s H vs Q E hr h => ?_)
  · obtain ⟨a, b, ws, pts, rfl, _⟩ := h
    rfl
  · obtain ⟨a, b, ws, pts, rfl, hw, hb, hne, hnd, hlt, hle, k⟩ := h
    have hu := hu_of hr
    have hu64 := hr.units
    refine ⟨_, (pss_cons (ps_if (PW.pt (pw_or (pt_not (pt_val (pe_callB (call_isinstK K) (by rfl) T.isinst PyProof.Rows.boot_isinstance (pa_cons (pv 1) (pa_cons (pe_bltn (v := .ty "list") (by rfl) T.list PyProof.Rows.boot_list rfl) pa_nil))))) (pw_or1 (pt_cmpR op_eq (pe_callB (call_lenK K) (by rfl) T.len PySem.boot_len (pa_cons (pv 1) pa_nil)) pe_int (nomark _)))))
      pss_never
      pss_nil)
      (pss_cons (ps_if (pt_not (pt_val (pe_cal CHasPoints hr (by rfl) (pa_cons (pv 0) (pa_cons (pv 1) pa_nil)))))
      pss_never
      pss_nil)
      (pss_one (ps_if (pt_cmpR op_ne (pe_callB call_lenSet (by rfl) T.len PySem.boot_len (pa_cons (pe_callTy (call_setL rfl) (by rfl) T.set PyProof.Rows.boot_set (pa_cons (pv 1) pa_nil)) pa_nil)) (pe_callB (call_lenK K) (by rfl) T.len PySem.boot_len (pa_cons (pv 1) pa_nil)) (nomark _))
      pss_never
      pss_nil)))), ?_⟩
    have hp : SqL K H b (vv pts) := SqL.of hb
    have hpl : pts.length ≤ 10 := Nat.le_trans (nodup_length hnd hlt) hle
    have hp0 : 0 < pts.length := List.length_pos_iff.mpr hne
    refine ⟨_, rfl, _, _, _, _, rfl, TyOf.lst hb, kit_ll K, true, rfl, iteF ?_⟩
    refine ⟨_, rfl, b, vv pts, rfl, .inl hp, rfl, _, rfl, ?_⟩
    have e0 : decide (V.int ((vv pts).length : Int) = V.int 0) = false := decide_eq_false (by rw [vv_len]; intro z; have z' := V.int.inj z; omega)
    rw [e0]
    refine iteF ?_
    refine ⟨_, rfl, _, rfl, a, b, ws, pts, rfl, hw, hp, by omega, fun H' sm => ⟨_, rfl, ?_⟩⟩
    have e1 : (pts.all fun p => decide (p < ws.length)) = true := List.all_eq_true.mpr fun p hp => decide_eq_true (hlt p hp)
    rw [e1]
    refine iteF ?_
    refine ⟨_, rfl, b, iv pts, rfl, sm.seq hp, by rw [iv_len]; unfold scanBound; omega, fun l hl => ?_⟩
    refine ⟨l, _, _, rfl, upd_same, _, rfl, b, vv pts, rfl, .inl ((same_upd sm hl).seq hp), rfl, _, rfl, ?_⟩
    have nd' : (iv pts).Nodup := by
      unfold iv
      rw [List.nodup_iff_pairwise_ne, List.pairwise_map]
      exact List.Pairwise.imp (fun h z => h (by omega)) hnd
    rw [firstMet_nodup _ nd', iv_len, vv_len]
    refine iteNS rfl ?_
    exact k _ (same_upd sm hl)

/-! ### among(web, points) -/
def spAmong : Sp := fun vs H Q _ => ∃ (a b : Addr) (ws pts : List Nat), vs = [.ref a, .ref b] ∧ H a = some (.lst (vv ws)) ∧ Web ws ∧ H b = some (.lst (vv pts)) ∧ pts ≠ [] ∧ pts.Nodup ∧ (∀ p ∈ pts, p < ws.length) ∧
  ∀ (l : Addr) (H' : Hp), H l = none → Same H H' → H' l = some (.lst (vv (amongM ws pts))) → Q (.ref l) H'
theorem scAmong : FnScope ["web", "points"] ["web", "points"] (defScope sAmong) := ⟨rfl, rfl, rfl, by decide +kernel, rfl, by decide +kernel, by decide +kernel⟩
def cAmong : Scope := { kind := .function, names := [(Str.ofString ".0", .local), (Str.ofString "point", .local), (Str.ofString "ties_among", .globalImplicit), (Str.ofString "points", .free), (Str.ofString "web", .free)], isGenerator := false, isCoroutine := false, more := [] }
theorem csAmong : CScope ["web", "points"] (defScope sAmong) cAmong ["web", "points", "point"] [0, 1] := ⟨rfl, by decide +kernel, by decide +kernel, by decide +kernel, by decide, by decide +kernel, by decide +kernel⟩
theorem ok_among (T : Txt K mg cs) : Cal P w K mg base 4 "among" ["web", "points"] spAmong := by
  have CW : Cal P w K mg base 3 "check_web" ["web"] spCheckWeb := ok_checkWeb T
  have CP : Cal P w K mg base 3 "check_points" ["web", "points"] (spCheckPoints K) := ok_checkPoints T
  have CA : Cal P w K mg base 3 "ties_among" ["web", "point", "points"] (spTiesAmong K) := (ok_tiesAmong T).mono (by decide)
  refine T.among.cal scAmong (fun vs H Q E h => ?_) (fun f cdv A outer s H vs Q E hr h => ?_)
  · obtain ⟨a, b, ws, pts, rfl, _⟩ := h
    rfl
  · obtain ⟨a, b, ws, pts, rfl, ha, W, hb, hne, hnd, hlt, k⟩ := h
    have hw : SqL K H a (vv ws) := SqL.of ha
    have hp : SqL K H b (vv pts) := SqL.of hb
    have hle := W.le
    have hpl : pts.length ≤ 10 := Nat.le_trans (nodup_length hnd hlt) hle
    refine ⟨_, pss_cons (ps_expr (pe_cal CW hr (by rfl) (pa_cons (pv 0) pa_nil)))
      (pss_cons (ps_expr (pe_cal CP hr (by rfl) (pa_cons (pv 0) (pa_cons (pv 1) pa_nil))))
      (pss_one (ps_ret (pe_comp (sc := cAmong) rfl (pi_list (pv 1)) csAmong
        (fun _ _ _ _ => pg_name (i := 2) csAmong.nd rfl (Or.inl rfl)) (fun _ _ _ _ => pif_nil)
        (fun _ _ _ _ => pe_cal CA hr (by rfl) (pa_cons (pv 0) (pa_cons (pv 2) (pa_cons (pv 1) pa_nil)))))))), ?_⟩
    refine ⟨_, rfl, a, ws, rfl, ha, W, ?_⟩
    refine ⟨_, rfl, _, rfl, a, b, ws, pts, rfl, hw, hb, hne, hnd, hlt, hle, fun H1 s1 => ?_⟩
    refine ⟨_, rfl, b, rfl, ⟨_, s1.seq hp⟩, comp_list (K := K) (a := b) (xs := vv pts) (fun i ys H' => ys = vv ((pts.take i).map fun p => sumB (fun k => bit ws p (pts.getD k 0)) pts.length) ∧ Same H H') ⟨rfl, s1⟩ (by rw [vv_len, sizeLine_eq]; omega) (fun i ys H' _ h => h.2.seq hp) ?_ ?_⟩
    · rintro i x ys H' hx hlt' ⟨rfl, sm⟩ hyl hys
      obtain ⟨hi, rfl⟩ := vv_at hx
      have hm : pts.getD i 0 ∈ pts := by
        rw [List.getD_eq_getElem?_getD, List.getElem?_eq_getElem hi]
        exact List.getElem_mem hi
      refine gset ?_
      refine yes ?_
      refine iteT ?_
      refine ⟨_, rfl, _, rfl, _, rfl, a, b, ws, pts, pts.getD i 0, rfl, sm.seq hw, sm.seq hp, hlt _ hm, by omega, fun H2 s2 => ⟨hys, Pn.snoc hlt' hyl ⟨?_, sm.trans s2⟩⟩⟩
      rw [← map_take_snoc _ _ hi]
    · rintro ys H' ⟨rfl, sm⟩ hyl l hl
      refine k l _ (same_none sm hl) (same_upd sm hl) ?_
      rw [upd_same, vv_len, List.take_length]
      rfl
end
end Bw

set_option Elab.async false
set_option linter.all false
set_option maxRecDepth 100000
set_option maxHeartbeats 4000000
namespace Bw
open PySem L2
section
variable {P : Program} {w : World} {K : PySem.W.Frag} {mg : Str → Option Value} {base : Heap} {cs : Cl}


/-! ### hanging_with(web, start) -/
def dk (rs : List Nat) : List (Key × V) := rs.map fun p : Nat => ((Sum.inl (p : Int) : Key), V.bl true)
theorem dk_len (rs : List Nat) : (dk rs).length = rs.length := by simp [dk]
theorem dk_keys (rs : List Nat) : (dk rs).map (·.1) = (iv rs).map Sum.inl := by simp [dk, iv]
theorem dk_val (rs : List Nat) (j : Nat) : (valV (dk rs) (Sum.inl (j : Int) : Key)).isSome = decide (j ∈ rs) := by
  rw [← valV_any]
  induction rs with
  | nil => simp [dk]
  | cons r t ih =>
    have ih' : ((dk t).any fun kv => decide (kv.1 = (Sum.inl (j : Int) : Key))) = decide (j ∈ t) := ih
    show ((((Sum.inl (r : Int) : Key), V.bl true) :: dk t).any fun kv => decide (kv.1 = (Sum.inl (j : Int) : Key))) = decide (j ∈ r :: t)
    rw [List.any_cons, ih']
    by_cases h : r = j
    · subst h; simp
    · have h1 : ¬ ((Sum.inl (r : Int) : Key) = Sum.inl (j : Int)) := fun z => h (by have := Sum.inl.inj z; omega)
      have h2 : ¬ j = r := fun z => h z.symm
      simp [h1, h2]
theorem dk_put {rs : List Nat} {j : Nat} (h : j ∉ rs) : putK (dk rs) (Sum.inl (j : Int) : Key) (V.bl true) = dk (rs ++ [j]) := by
  have hv : valV (dk rs) (Sum.inl (j : Int) : Key) = none := by
    have := dk_val rs j
    rw [decide_eq_false h] at this
    exact Option.not_isSome_iff_eq_none.mp (by rw [this]; decide)
  rw [putK_new _ hv]
  simp [dk]
def spHang (K : PySem.W.Frag) : Sp := fun vs H Q _ => ∃ (a : Addr) (ws : List Nat) (st : Nat), vs = [.ref a, .int st] ∧ SqL K H a (vv ws) ∧ Web ws ∧ st < ws.length ∧ ∀ (l : Addr) (H' : Hp), H l = none → Same H H' → H' l = some (.lst (vv (comp ws st))) → Q (.ref l) H'
theorem scHang : FnScope ["web", "start", "reached", "waiting", "point", "other"] ["web", "start"] (defScope sHangingWith) := ⟨rfl, rfl, rfl, by decide +kernel, rfl, by decide +kernel, by decide +kernel⟩
theorem ok_hang (T : Txt K mg cs) : Cal P w K mg base 2 "hanging_with" ["web", "start"] (spHang K) := by
  have CT : Cal P w K mg base 1 "tied" ["web", "one", "other"] (spTied K) := ok_tied T
  refine T.hangingWith.cal scHang (fun vs H Q E h => ?_) (fun f cdv A outer s H vs Q E hr h => ?_)
  · obtain ⟨a, ws, st, rfl, _⟩ := h
    rfl
  · obtain ⟨a, ws, st, rfl, hw, W, hst, k⟩ := h
    have hu := hu_of hr
    have hle := W.le
    refine ⟨_, pss_cons (ps_set (i := 2) scHang.nd rfl (Or.inl rfl) (pe_disp (pps_cons (pv 1) pe_bl pps_nil) rfl rfl (fun z => nomatch z) (by decide)))
      (pss_cons (ps_set (i := 3) scHang.nd rfl (Or.inl rfl) (pe_lst (pa_cons (pv 1) pa_nil)))
      (pss_cons (ps_while PassesOwn.never (pt_cmpR op_gt (pe_callB call_len_seq (by rfl) T.len PySem.boot_len (pa_cons (pv 3) pa_nil)) pe_int (nomark _))
        (pss_cons (ps_set (i := 4) scHang.nd rfl (Or.inl rfl) (pe_bm0 PySem.F.plainAttrs_list PySem.F.slot_list_pop PySem.F.type_list_pop mt_pop (pv 3)))
        (pss_one (ps_for PassesOwn.never rfl (pi_range1 rfl T.range (pa_cons (pe_callB call_len_seq (by rfl) T.len PySem.boot_len (pa_cons (pv 0) pa_nil)) pa_nil)) (pg_name (i := 5) scHang.nd rfl (Or.inl rfl))
          (pss_one (ps_if (PW.pt (pw_and (pt_val (pe_cal CT hr (by rfl) (pa_cons (pv 0) (pa_cons (pv 4) (pa_cons (pv 5) pa_nil))))) (pw_and1 (pt_cmp (pc_dnotin hu (pv 5) (pv 2))))))
            (pss_cons (ps_dput hu (pv 2) (pv 5) pe_bl rfl)
            (pss_one (ps_expr (pe_bm PySem.F.plainAttrs_list PySem.F.slot_list_append PySem.F.type_list_append mt_append (pv 3) (pa_cons (pv 5) pa_nil))))) pss_nil))))))
      (pss_one (ps_ret (pe_callB (call_sortedD rfl) (by rfl) T.sorted PyProof.Rows.boot_sorted (pa_cons (pv 2) pa_nil)))))), ?_⟩
    -- reached = {start: True}
    intro d hd
    refine ⟨_, rfl, upd_same, [((Sum.inl (st : Int) : Key), V.bl true)], rfl, by show 1 ≤ 15; decide, ?_⟩
    -- waiting = [start]
    refine ⟨_, rfl, by rw [sizeLine_eq]; show 1 ≤ _; decide, fun q hq => ?_⟩
    have hdq : d ≠ q := by
      intro z
      subst z
      rw [upd_same] at hq
      cases hq
    have hHq : H q = none := by
      rw [upd_ne (Ne.symm hdq), upd_ne (Ne.symm hdq)] at hq
      exact hq
    refine while_of (fun σ H' => ∃ rs wt v u, σ = [some (.ref a), some (.int st), some (.ref d), some (.ref q), v, u] ∧ Hang ws st rs wt ∧ H' d = some (.dK (dk rs)) ∧ H' q = some (.lst (vv wt)) ∧ Same H H' ∧ wt.length ≤ rs.length)
      (fun _ H' => 2 * (ws.length - lenD (H' d)) + lenL (H' q)) ?_ ?_
    · refine ⟨[st], [st], none, none, rfl, hang_start ws st, ?_, ?_, ?_, Nat.le_refl _⟩
      · rw [upd_ne hdq, upd_same]
        rfl
      · rw [upd_same]
        rfl
      · exact same_upd' (same_upd' (same_upd' (Same.refl H) hd) hd) hHq
    · rintro σ H1 ⟨rs, wt, v, u, rfl, hg, h1d, h1q, s1, hwr⟩
      refine ⟨_, rfl, q, vv wt, rfl, .inl (SqL.of h1q), _, _, rfl, rfl, _, rfl, ?_⟩
      refine ite2 (fun hpos => ?_) (fun hpos => ?_)
      · have hwl : 0 < wt.length := by
          have := of_decide_eq_true hpos
          rw [vv_len] at this
          omega
        obtain ⟨w', p, rfl⟩ : ∃ w' p, wt = w' ++ [p] := ⟨wt.dropLast, wt.getLast (List.length_pos_iff.mp hwl), (List.dropLast_concat_getLast _).symm⟩
        have hin := hg.pop
        refine ⟨_, wh, ?_⟩
        -- point = waiting.pop()
        have evv : vv (w' ++ [p]) = vv w' ++ [V.int (p : Int)] := (vv_snoc w' p).symm
        have elast : (vv (w' ++ [p]))[(vv (w' ++ [p])).length - 1]? = some (V.int (p : Int)) := by
          rw [evv]
          simp
        refine ⟨_, rfl, .inl ⟨rfl, _, SqL.of h1q⟩, q, _, _, rfl, rfl, h1q, elast, ?_⟩
        have edl : (vv (w' ++ [p])).dropLast = vv w' := by
          rw [evv]
          simp
        rw [edl]
        have h2d : upd H1 q (.lst (vv w')) d = some (.dK (dk rs)) := by rw [upd_ne hdq]; exact h1d
        have s2 : Same H (upd H1 q (.lst (vv w'))) := same_upd' s1 hHq
        -- for other in range(len(web))
        refine ⟨_, rfl, a, vv ws, rfl, .inl (s2.seq hw), _, rfl, by rw [vv_len]; omega, by rw [vv_len]; omega, ?_⟩
        rw [vv_len, Int.toNat_natCast]
        refine for_range (n := ws.length) (fun j σ H2 => ∃ rs2 wt2 u, σ = [some (.ref a), some (.int st), some (.ref d), some (.ref q), some (.int (p : Int)), u] ∧ HangIn ws st p j rs2 wt2 ∧ H2 d = some (.dK (dk rs2)) ∧ H2 q = some (.lst (vv wt2)) ∧ Same H H2 ∧ wt2.length + rs.length = w'.length + rs2.length ∧ rs.length ≤ rs2.length)
          ⟨rs, w', _, rfl, hin, h2d, upd_same, s2, rfl, Nat.le_refl _⟩ ?_ ?_
        · rintro j σ H2 hj ⟨rs2, wt2, u2, rfl, hi2, h2d, h2q, s2, hlen, hgr⟩
          have e0 : (0 : Int) + (j : Int) = ((j : Nat) : Int) := by omega
          rw [e0]
          have hp : p < ws.length := hi2.lt W hst p hi2.at'
          refine ⟨_, rfl, _, rfl, _, rfl, a, ws, p, j, rfl, s2.seq hw, hp, _, rfl, ?_⟩
          refine ite2 (fun hb => ?_) (fun hb => ?_)
          · refine ⟨_, rfl, _, rfl, d, _, rfl, DGet.k (k := Sum.inl (j : Int)) h2d, _, rfl, ?_⟩
            rw [dk_val]
            by_cases hm : j ∈ rs2
            · rw [decide_eq_true hm]
              refine iteF ?_
              exact ⟨rs2, wt2, _, rfl, hi2.skip fun _ => hm, h2d, h2q, s2, hlen, hgr⟩
            · rw [decide_eq_false hm]
              refine iteT ?_
              have hrl : rs2.length ≤ ws.length := nodup_length hi2.nd (hi2.lt W hst)
              refine ⟨_, rfl, _, rfl, d, _, rfl, DPut.k (k := Sum.inl (j : Int)) h2d (by rw [dk_len, sizeLine_eq]; omega), ?_⟩
              rw [dk_put hm]
              have h3q : upd H2 d (.dK (dk (rs2 ++ [j]))) q = some (.lst (vv wt2)) := by rw [upd_ne (Ne.symm hdq)]; exact h2q
              have hin3 := hi2.add hb hm
              have hwl2 : wt2.length ≤ 100 := by
                rw [List.length_append, List.length_singleton] at hwr
                omega
              refine ⟨_, rfl, .inl ⟨rfl, _, SqL.of h3q⟩, _, rfl, q, _, _, rfl, rfl, h3q, by rw [vv_len, sizeLine_eq]; omega, ?_⟩
              refine ⟨rs2 ++ [j], wt2 ++ [j], _, rfl, hin3, by rw [upd_ne hdq, upd_same], by rw [upd_same, vv_snoc], same_upd' (same_upd' s2 hd) hHq, by simp only [List.length_append, List.length_singleton]; omega, by simp only [List.length_append, List.length_singleton]; omega⟩
          · refine iteF ?_
            exact ⟨rs2, wt2, _, rfl, hi2.skip fun z => absurd z hb, h2d, h2q, s2, hlen, hgr⟩
        · rintro σ H2 ⟨rs2, wt2, u2, rfl, hi2, h2d, h2q, s2, hlen, hgr⟩
          have hdone := hi2.done W
          have hrl : rs2.length ≤ ws.length := nodup_length hdone.nd (hdone.lt W hst)
          rw [List.length_append, List.length_singleton] at hwr
          refine ⟨⟨rs2, wt2, _, _, rfl, hdone, h2d, h2q, s2, by omega⟩, ?_⟩
          show 2 * (ws.length - lenD (H2 d)) + lenL (H2 q) < 2 * (ws.length - lenD (H1 d)) + lenL (H1 q)
          rw [h2d, h2q, h1d, h1q]
          show 2 * (ws.length - (dk rs2).length) + (vv wt2).length < 2 * (ws.length - (dk rs).length) + (vv (w' ++ [p])).length
          rw [dk_len, dk_len, vv_len, vv_len, List.length_append, List.length_singleton]
          omega
      · have hwl : wt = [] := by
          have := of_decide_eq_false (by simpa using hpos : decide ((0 : Int) < ((vv wt).length : Int)) = false)
          rw [vv_len] at this
          exact List.eq_nil_of_length_eq_zero (by omega)
        subst hwl
        have hrl : rs.length ≤ ws.length := nodup_length hg.nd (hg.lt W hst)
        refine ⟨_, rfl, d, dk rs, iv rs, rfl, h1d, dk_keys rs, by rw [iv_len]; omega, fun l zs hl hperm hsort => ?_⟩
        have ez : zs = iv (comp ws st) := by
          refine PySem.W.ksm_same (hperm.trans ?_) hsort (iv_sorted (comp_sorted ws st))
          exact ((hg.end W hst).map fun n : Nat => (n : Int)).symm
        subst ez
        exact k l _ (same_none s1 hl) (same_upd s1 hl) upd_same

/-! ### parts(web) -/
/-- a new list of new lists -/
def PartsAt (H H' : Hp) (l : Addr) (nss : List (List Nat)) : Prop := ∃ rs : List Addr, H' l = some (.lst (rs.map V.ref)) ∧ Paired (fun r ns => H r = none ∧ r ≠ l ∧ H' r = some (.lst (vv ns))) rs nss
def spParts : Sp := fun vs H Q _ => ∃ (a : Addr) (ws : List Nat), vs = [.ref a] ∧ H a = some (.lst (vv ws)) ∧ Web ws ∧ ∀ (l : Addr) (H' : Hp), H l = none → Same H H' → PartsAt H H' l (partsM ws) → Q (.ref l) H'
theorem scParts : FnScope ["web", "found", "point", "part"] ["web"] (defScope sParts) := ⟨rfl, rfl, rfl, by decide +kernel, rfl, by decide +kernel, by decide +kernel⟩
theorem comp_cons {ws : List Nat} (W : Web ws) {i : Nat} (hi : i < ws.length) : ∃ h t, comp ws i = h :: t := by
  have hm : i ∈ comp ws i := (mem_comp W hi).mpr .refl
  cases q : comp ws i with
  | nil => rw [q] at hm; cases hm
  | cons h t => exact ⟨h, t, rfl⟩
theorem ok_parts (T : Txt K mg cs) : Cal P w K mg base 4 "parts" ["web"] spParts := by
  have CW : Cal P w K mg base 3 "check_web" ["web"] spCheckWeb := ok_checkWeb T
  have CH : Cal P w K mg base 3 "hanging_with" ["web", "start"] (spHang K) := (ok_hang T).mono (by decide)
  refine T.parts.cal scParts (fun vs H Q E h => ?_) (fun f cdv A outer s H vs Q E hr h => ?_)
  · obtain ⟨a, ws, rfl, _⟩ := h
    rfl
  · obtain ⟨a, ws, rfl, ha, W, k⟩ := h
    have hw : SqL K H a (vv ws) := SqL.of ha
    have hle := W.le
    refine ⟨_, pss_cons (ps_expr (pe_cal CW hr (by rfl) (pa_cons (pv 0) pa_nil)))
      (pss_cons (ps_set (i := 1) scParts.nd rfl (Or.inl rfl) (pe_lst pa_nil))
      (pss_cons (ps_for PassesOwn.never rfl (pi_range1 rfl T.range (pa_cons (pe_callB call_len_seq (by rfl) T.len PySem.boot_len (pa_cons (pv 0) pa_nil)) pa_nil)) (pg_name (i := 2) scParts.nd rfl (Or.inl rfl))
        (pss_cons (ps_set (i := 3) scParts.nd rfl (Or.inl rfl) (pe_cal CH hr (by rfl) (pa_cons (pv 0) (pa_cons (pv 2) pa_nil))))
        (pss_one (ps_if (pt_cmpR op_eq (pe_ix ix_list (pv 3) pe_int (fun _ _ => rfl)) (pv 2) (nomark _))
          (pss_one (ps_expr (pe_bm PySem.F.plainAttrs_list PySem.F.slot_list_append PySem.F.type_list_append mt_append (pv 1) (pa_cons (pv 3) pa_nil)))) pss_nil))))
      (pss_one (ps_ret (pv 1))))), ?_⟩
    refine ⟨_, rfl, a, ws, rfl, ha, W, ?_⟩
    refine ⟨Nat.zero_le _, fun l hl => ?_⟩
    refine ⟨_, rfl, a, vv ws, rfl, .inl ((same_upd (Same.refl H) hl).seq hw), _, rfl, by rw [vv_len]; omega, by rw [vv_len]; omega, ?_⟩
    rw [vv_len, Int.toNat_natCast]
    refine for_range (n := ws.length) (fun i σ H1 => ∃ rs v u, σ = [some (.ref a), some (.ref l), v, u] ∧ H1 l = some (.lst (rs.map V.ref)) ∧ Paired (fun r ns => H r = none ∧ r ≠ l ∧ H1 r = some (.lst (vv ns))) rs (((List.range i).filter fun p => decide (headed ws p)).map (comp ws)) ∧ Same H H1 ∧ rs.length ≤ i)
      ⟨[], _, _, rfl, upd_same, .nil, same_upd (Same.refl H) hl, Nat.le_refl _⟩ ?_ ?_
    · rintro i σ H1 hi ⟨rs, v, u, rfl, h1l, h1p, s1, hrl⟩
      have e0 : (0 : Int) + (i : Int) = ((i : Nat) : Int) := by omega
      rw [e0]
      refine ⟨_, rfl, _, rfl, a, ws, i, rfl, s1.seq hw, W, hi, fun r H2 h1r s2 h2r => ?_⟩
      obtain ⟨h, t, ec⟩ := comp_cons W hi
      have e1 : atI (vv (comp ws i)) (0 : Int) = some (V.int (h : Int)) := atI_nat (j := 0) (by rw [ec]; rfl)
      refine ⟨_, rfl, r, _, _, _, rfl, rfl, SqL.of h2r, e1, _, rfl, rfl, _, rfl, ?_⟩
      have ehd : decide (V.int (h : Int) = V.int (i : Int)) = decide (headed ws i) := by
        rw [decide_eq_decide]
        unfold headed
        rw [ec]
        simp only [List.head?_cons, Option.some.injEq, V.int.injEq]
        omega
      rw [ehd]
      have h2l : H2 l = some (.lst (rs.map V.ref)) := s2 _ _ h1l
      have hrl' : r ≠ l := fun z => by
        rw [z, h1l] at h1r
        cases h1r
      have hHr : H r = none := same_none s1 h1r
      by_cases hh : headed ws i
      · rw [decide_eq_true hh]
        refine iteT ?_
        refine ⟨_, rfl, .inl ⟨rfl, _, SqL.of h2l⟩, _, rfl, l, _, _, rfl, rfl, h2l, by rw [List.length_map, sizeLine_eq]; omega, ?_⟩
        refine ⟨rs ++ [r], _, _, rfl, by rw [upd_same, List.map_append]; rfl, ?_, same_upd' (s1.trans s2) hl, by rw [List.length_append, List.length_singleton]; omega⟩
        rw [List.range_succ, List.filter_append, List.map_append]
        have ef : [i].filter (fun p => decide (headed ws p)) = [i] := by simp [hh]
        rw [ef]
        refine Paired.snoc (paired_imp (fun r' ns h => ⟨h.1, h.2.1, by rw [upd_ne h.2.1]; exact s2 _ _ h.2.2⟩) h1p) ⟨hHr, hrl', by rw [upd_ne hrl']; exact h2r⟩
      · rw [decide_eq_false hh]
        refine iteF ?_
        refine ⟨rs, _, _, rfl, h2l, ?_, s1.trans s2, by omega⟩
        rw [List.range_succ, List.filter_append]
        have ef : [i].filter (fun p => decide (headed ws p)) = [] := by simp [hh]
        rw [ef, List.append_nil]
        exact paired_imp (fun r' ns h => ⟨h.1, h.2.1, s2 _ _ h.2.2⟩) h1p
    · rintro σ H1 ⟨rs, v, u, rfl, h1l, h1p, s1, hrl⟩
      refine ⟨_, rfl, ?_⟩
      exact k l H1 hl s1 ⟨rs, h1l, h1p⟩
end
end Bw

set_option Elab.async false
set_option linter.all false
set_option maxRecDepth 100000
set_option maxHeartbeats 4000000
/-! The law's own defs -/
namespace Bw
open PySem L2
section
variable {P : Program} {w : World} {K : PySem.W.Frag} {mg : Str → Option Value} {base : Heap} {cs : Cl}

/-! ### _law_cell_at(script, k) -/
def spCellAt (K : PySem.W.Frag) : Sp := fun vs H Q _ => ∃ (a : Addr) (ns : List Int) (k : Nat), vs = [.ref a, .int k] ∧ SqL K H a (ns.map V.int) ∧ ∀ z : Int, Q (.int z) H
theorem scCellAt : FnScope ["_law_script", "_law_k"] ["_law_script", "_law_k"] (defScope sLawCellAt) := ⟨rfl, rfl, rfl, by decide +kernel, rfl, by decide +kernel, by decide +kernel⟩
theorem ok_cellAt (T : Txt K mg cs) : Cal P w K mg base 1 "_law_cell_at" ["_law_script", "_law_k"] (spCellAt K) := by
  refine T.lawCellAt.cal scCellAt (fun vs H Q E h => ?_) (fun f cdv A outer s H vs Q E hr h => ?_)
  · obtain ⟨a, ns, k, rfl, _⟩ := h
    rfl
  · obtain ⟨a, ns, n, rfl, hs, k⟩ := h
    refine ⟨_, pss_cons (ps_if (pt_cmpR op_lt (pv 1) (pe_callB call_len_seq (by rfl) T.len PySem.boot_len (pa_cons (pv 0) pa_nil)) (nomark _)) (pss_one (ps_ret (pe_ix ix_list (pv 0) (pv 1) (fun _ _ => rfl)))) pss_nil) (pss_one (ps_ret pe_int)), ?_⟩
    refine ⟨_, rfl, _, rfl, a, ns.map V.int, rfl, .inl hs, _, _, rfl, rfl, _, rfl, ?_⟩
    refine ite2 (fun hlt => ?_) (fun hlt => ?_)
    · have hn : n < ns.length := by
        have := of_decide_eq_true hlt
        rw [List.length_map] at this
        omega
      refine ⟨_, rfl, _, rfl, a, _, _, _, rfl, rfl, hs, atI_nat (by rw [List.getElem?_map, List.getElem?_eq_getElem hn]; rfl), ?_⟩
      exact k _
    · exact k 0

/-! ### _law_draw(cell, k, many) -/
def spDraw : Sp := fun vs H Q _ => ∃ (c k m : Int), vs = [.int c, .int k, .int m] ∧ 0 < m ∧ ∀ (z : Nat) (H' : Hp), (z : Int) < m → Same H H' → Q (.int (z : Int)) H'
theorem scDraw : FnScope ["_law_cell", "_law_k", "_law_many", "_law_primes", "_law_blend"] ["_law_cell", "_law_k", "_law_many"] (defScope sLawDraw) := ⟨rfl, rfl, rfl, by decide +kernel, rfl, by decide +kernel, by decide +kernel⟩
theorem prime_at (i : Nat) (hi : i < 8) : ∃ p : Int, 0 < p ∧ ([V.int 1000003, V.int 1000033, V.int 1000037, V.int 1000039, V.int 1000081, V.int 1000099, V.int 1000117, V.int 1000121] : List V)[i]? = some (V.int p) := by
  match i, hi with
  | 0, _ => exact ⟨_, by decide, rfl⟩
  | 1, _ => exact ⟨_, by decide, rfl⟩
  | 2, _ => exact ⟨_, by decide, rfl⟩
  | 3, _ => exact ⟨_, by decide, rfl⟩
  | 4, _ => exact ⟨_, by decide, rfl⟩
  | 5, _ => exact ⟨_, by decide, rfl⟩
  | 6, _ => exact ⟨_, by decide, rfl⟩
  | 7, _ => exact ⟨_, by decide, rfl⟩
theorem ok_draw (T : Txt K mg cs) : Cal P w K mg base 1 "_law_draw" ["_law_cell", "_law_k", "_law_many"] spDraw := by
  refine T.lawDraw.cal scDraw (fun vs H Q E h => ?_) (fun f cdv A outer s H vs Q E hr h => ?_)
  · obtain ⟨c, k, m, rfl, _⟩ := h
    rfl
  · obtain ⟨c, n, m, rfl, hm, k⟩ := h
    refine ⟨_, pss_cons (ps_set (i := 3) scDraw.nd rfl (Or.inl rfl) (pe_tup (pa_cons pe_int (pa_cons pe_int (pa_cons pe_int (pa_cons pe_int (pa_cons pe_int (pa_cons pe_int (pa_cons pe_int (pa_cons pe_int pa_nil))))))))))
      (pss_cons (ps_set (i := 4) scDraw.nd rfl (Or.inl rfl) (pe_op op_add (pe_op op_add (pe_op op_mul (pv 0) pe_int) (pe_op op_mul (pv 1) pe_int)) (pe_op op_mul (pe_op op_mod (pe_op op_fdiv (pv 0) pe_int) pe_int) pe_int)))
      (pss_one (ps_ret (pe_op op_mod (pe_op op_mod (pv 4) (pe_ix ix_tup (pv 3) (pe_op op_mod (pv 1) pe_int) (fun _ _ => rfl))) (pv 2))))), ?_⟩
    refine ⟨by rw [sizeLine_eq]; show 8 ≤ _; decide, fun t ht => ?_⟩
    refine ⟨_, rfl, _, _, rfl, rfl, .inr ⟨by decide, by decide⟩, _, rfl, _, _, rfl, rfl, .inr ⟨by decide, by decide⟩, _, _, rfl, rfl, _, rfl, _, _, rfl, rfl, ⟨by decide, by decide⟩, _, _, rfl, rfl, (by show (0 : Int) < 1000003; decide), _, _, rfl, rfl, .inr ⟨by decide, by decide⟩, _, _, rfl, rfl, ?_⟩
    have h8 : 0 ≤ n % 8 ∧ n % 8 < 8 := by omega
    obtain ⟨i, ei⟩ : ∃ i : Nat, n % 8 = (i : Int) := ⟨(n % 8).toNat, by omega⟩
    obtain ⟨p, hp, ep⟩ := prime_at i (by omega)
    refine ⟨_, rfl, _, rfl, _, rfl, _, _, rfl, rfl, (by show (0 : Int) < 8; decide), t, _, _, _, rfl, rfl, SqT.of upd_same, ?_, _, _, rfl, rfl, hp, _, rfl, _, _, rfl, rfl, hm, ?_⟩
    · rw [ei]
      exact atI_nat ep
    · generalize hz : ((c * 48271 + n * 69621 + c / 1000003 % 1000003 * 40692) % p) = y
      have h1 : 0 ≤ y % m := Int.emod_nonneg _ (by omega)
      have h2 : y % m < m := Int.emod_lt_of_pos _ hm
      have e : y % m = (((y % m).toNat : Nat) : Int) := by omega
      show Q (V.int (y % m)) _
      rw [e]
      exact k _ _ (by omega) (same_upd (Same.refl H) ht)

end
end Bw

set_option Elab.async false
set_option linter.all false
set_option maxRecDepth 100000
set_option maxHeartbeats 4000000
namespace Bw
open PySem L2
section
variable {P : Program} {w : World} {K : PySem.W.Frag} {mg : Str → Option Value} {base : Heap} {cs : Cl}
/-! ### _law_tie(web, one, other) -/
def spTie : Sp := fun vs H Q _ => ∃ (a : Addr) (ws : List Nat) (i j : Nat), vs = [.ref a, .int i, .int j] ∧ H a = some (.lst (vv ws)) ∧ ws.length ≤ 10 ∧ i < ws.length ∧ j < ws.length ∧ Q .non (upd H a (.lst (vv (Bw.tie ws i j))))
theorem scTie : FnScope ["_law_web_here", "_law_one", "_law_other"] ["_law_web_here", "_law_one", "_law_other"] (defScope sLawTie) := ⟨rfl, rfl, rfl, by decide +kernel, rfl, by decide +kernel, by decide +kernel⟩
theorem ok_tie (T : Txt K mg cs) : Cal P w K mg base 1 "_law_tie" ["_law_web_here", "_law_one", "_law_other"] spTie := by
  refine T.lawTie.cal scTie (fun vs H Q E h => ?_) (fun f cdv A outer s H vs Q E hr h => ?_)
  · obtain ⟨a, ws, i, j, rfl, _⟩ := h
    rfl
  · obtain ⟨a, ws, i, j, rfl, ha, hle, hi, hj, k⟩ := h
    refine ⟨_, pss_cons (ps_asg (pe_op op_xor (pe_ix ix_list (pv 0) (pv 1) (fun _ _ => rfl)) (pe_op op_shl pe_int (pv 2))) (pg_sub (pv 0) (pv 1) set_list))
      (pss_one (ps_asg (pe_op op_xor (pe_ix ix_list (pv 0) (pv 2) (fun _ _ => rfl)) (pe_op op_shl pe_int (pv 1))) (pg_sub (pv 0) (pv 2) set_list))), ?_⟩
    refine ⟨_, rfl, _, rfl, a, _, _, _, rfl, rfl, SqL.of ha, atI_nat (vv_get hi), _, rfl, _, _, rfl, rfl, ⟨by omega, by omega, by decide⟩, _, _, rfl, rfl, _, rfl, _, rfl, a, vv ws, _, i, rfl, rfl, ha, by rw [vv_len]; exact ixN_nat hi, ?_⟩
    dsimp only
    rw [shl_one, bitXor_nat, vv_set]
    have hj' : j < (ws.set i (ws.getD i 0 ^^^ 2 ^ j)).length := by simpa using hj
    refine ⟨_, rfl, _, rfl, a, _, _, _, rfl, rfl, SqL.of upd_same, atI_nat (vv_get hj'), _, rfl, _, _, rfl, rfl, ⟨by omega, by omega, by decide⟩, _, _, rfl, rfl, _, rfl, _, rfl, a, _, _, j, rfl, rfl, upd_same, by rw [vv_len]; exact ixN_nat hj', ?_⟩
    dsimp only
    rw [shl_one, bitXor_nat, vv_set, upd_upd]
    exact k
end
end Bw

set_option Elab.async false
set_option linter.all false
set_option maxRecDepth 100000
set_option maxHeartbeats 4000000
namespace L2
open PySem PySem.Spec PyProof.Rows
theorem pss_imp {X : Cx} {st : List Stmt} {t t' : TS} (h : PSs X st t) (hi : ∀ D σ H, t' D σ H → t D σ H) : PSs X st t' := fun pins s σ H D I hw => h pins s σ H D I (hi D σ H hw)
end L2
namespace Bw
open PySem L2
section
variable {P : Program} {w : World} {K : PySem.W.Frag} {mg : Str → Option Value} {base : Heap} {cs : Cl}

/-! ### _law_web(script, first, most) -/
def spWeb (K : PySem.W.Frag) : Sp := fun vs H Q _ => ∃ (a : Addr) (ns : List Int), vs = [.ref a, .int 0, .int 10] ∧ SqL K H a (ns.map V.int) ∧ ∀ (l : Addr) (H' : Hp) (ws : List Nat), H l = none → Same H H' → Web ws → H' l = some (.lst (vv ws)) → Q (.ref l) H'
abbrev nWeb : List Str := ["_law_script", "_law_first", "_law_most", "_law_cell", "_law_other", "_law_points", "_law_k", "_law_web_here", "_law_groups", "_law_turn", "_law_one", "_law_two", "_law_point", "_law_another"]
theorem scWeb : FnScope nWeb ["_law_script", "_law_first", "_law_most"] (defScope sLawWeb) := ⟨rfl, rfl, rfl, by decide +kernel, rfl, by decide +kernel, by decide +kernel⟩
def cWeb : Scope := { kind := .function, names := [(Str.ofString ".0", .local), (Str.ofString "_law_k", .local)], isGenerator := false, isCoroutine := false, more := [] }
theorem csWeb : CScope nWeb (defScope sLawWeb) cWeb ["_law_k"] [] := ⟨rfl, by decide +kernel, by decide +kernel, by decide +kernel, by decide, by decide +kernel, by decide +kernel⟩
/-- the groups and the web while the groups are joined -/
structure WInv (H : Hp) (wl gl : Addr) (n m : Nat) (rs : List Addr) (ws : List Nat) (H' : Hp) : Prop where
  web : Web ws
  len : ws.length = n
  hw : H' wl = some (.lst (vv ws))
  hg : H' gl = some (.lst (rs.map V.ref))
  gr : ∀ r ∈ rs, r ≠ wl ∧ r ≠ gl ∧ ∃ g : List Nat, H' r = some (.lst (vv g)) ∧ (∀ p ∈ g, p < n) ∧ g.length ≤ 2 ^ (n - m)
  sm : Same H H'
  ne : wl ≠ gl
theorem seqIx_nat {n i : Nat} (h : i < n) : seqIndex? (i : Int) n = some i := (ixN_seq (ixN_nat h)).1
theorem two_pow_small {n m : Nat} (h : n ≤ 10) : 2 ^ (n - m) ≤ 1024 := by
  have h2 : 2 ^ (n - m) ≤ 2 ^ 10 := Nat.pow_le_pow_right (by decide) (by omega)
  exact h2
theorem few_at (i : Nat) (hi : i < 4) : ∃ p : Nat, p ≤ 2 ∧ ([V.int 0, V.int 0, V.int 1, V.int 2] : List V)[i]? = some (V.int (p : Int)) := by
  match i, hi with
  | 0, _ => exact ⟨0, by decide, rfl⟩
  | 1, _ => exact ⟨0, by decide, rfl⟩
  | 2, _ => exact ⟨1, by decide, rfl⟩
  | 3, _ => exact ⟨2, by decide, rfl⟩
/-- what the last statements ask: a web is there, perhaps some ties are changed -/
def tWebEnd (H : Hp) (a : Addr) : TS := fun D σ H1 => ∃ (c o : Int) (n : Nat) (wl : Addr) (ws : List Nat) (v6 v8 v9 v10 v11 v12 v13 : Option V),
  σ = [some (.ref a), some (.int 0), some (.int 10), some (.int c), some (.int o), some (.int (n : Int)), v6, some (.ref wl), v8, v9, v10, v11, v12, v13] ∧ 0 < n ∧ Web ws ∧ ws.length = n ∧ H wl = none ∧ H1 wl = some (.lst (vv ws)) ∧ Same H H1 ∧
  ∀ (l : Addr) (H' : Hp) (ws : List Nat), H l = none → Same H H' → Web ws → H' l = some (.lst (vv ws)) → D.rt (.ref l) H'
def tWebMid (H : Hp) (a : Addr) : TS := fun D σ H1 => ∃ (c o : Int) (n : Nat),
  σ = [some (.ref a), some (.int 0), some (.int 10), some (.int c), some (.int o), some (.int (n : Int)), none, none, none, none, none, none, none, none] ∧ 0 < n ∧ n ≤ 10 ∧ Same H H1 ∧
  ∀ (l : Addr) (H' : Hp) (ws : List Nat), H l = none → Same H H' → Web ws → H' l = some (.lst (vv ws)) → D.rt (.ref l) H'
/-- behind the joining of two groups -/
def tWebApp (H : Hp) (a : Addr) : TS := fun D σ H1 => ∃ (c o : Int) (n : Nat) (wl gl : Addr) (m : Nat) (ws : List Nat) (rs : List Addr) (r1 r2 : Addr) (g1 g2 : List Nat) (v6 v9 v12 v13 : Option V),
  σ = [some (.ref a), some (.int 0), some (.int 10), some (.int c), some (.int o), some (.int (n : Int)), v6, some (.ref wl), some (.ref gl), v9, some (.ref r1), some (.ref r2), v12, v13] ∧ n ≤ 10 ∧ m ≤ n ∧
  rs.length + 2 = m ∧ WInv H wl gl n m rs ws H1 ∧ H1 r1 = some (.lst (vv g1)) ∧ H1 r2 = some (.lst (vv g2)) ∧ (∀ p ∈ g1, p < n) ∧ (∀ p ∈ g2, p < n) ∧ g1.length ≤ 2 ^ (n - m) ∧ g2.length ≤ 2 ^ (n - m) ∧ H wl = none ∧ H gl = none ∧
  ∀ (σ' : St) (H' : Hp) (rs' : List Addr), σ' = σ → rs'.length + 1 = m → WInv H wl gl n rs'.length rs' ws H' → D.nx σ' H'
theorem erase_map {α β : Type} (f : α → β) : ∀ (l : List α) (i : Nat), (l.map f).eraseIdx i = (l.eraseIdx i).map f
  | [], _ => rfl
  | _ :: _, 0 => rfl
  | a :: l, i + 1 => by
    show f a :: (l.map f).eraseIdx i = f a :: (l.eraseIdx i).map f
    rw [erase_map f l i]
theorem ref_get {rs : List Addr} {z : Nat} (h : z < rs.length) : (rs.map V.ref)[z]? = some (V.ref rs[z]) := by
  rw [List.getElem?_map, List.getElem?_eq_getElem h]
  rfl
theorem erase_mem {rs : List Addr} {z : Nat} {r : Addr} (h : r ∈ rs.eraseIdx z) : r ∈ rs := List.mem_of_mem_eraseIdx h
theorem WInv.same {H : Hp} {wl gl : Addr} {n m : Nat} {rs : List Addr} {ws : List Nat} {H1 H2 : Hp} (I : WInv H wl gl n m rs ws H1) (s : Same H1 H2) : WInv H wl gl n m rs ws H2 where
  web := I.web
  len := I.len
  hw := s _ _ I.hw
  hg := s _ _ I.hg
  gr := fun r hr => let ⟨h1, h2, g, h3, h4⟩ := I.gr r hr; ⟨h1, h2, g, s _ _ h3, h4⟩
  sm := I.sm.trans s
  ne := I.ne
theorem WInv.pop {H : Hp} {wl gl : Addr} {n m : Nat} {rs : List Addr} {ws : List Nat} {H1 : Hp} (I : WInv H wl gl n m rs ws H1) (z : Nat) (hgl : H gl = none) : WInv H wl gl n m (rs.eraseIdx z) ws (upd H1 gl (.lst ((rs.map V.ref).eraseIdx z))) where
  web := I.web
  len := I.len
  hw := by rw [upd_ne I.ne]; exact I.hw
  hg := by rw [upd_same, erase_map]
  gr := fun r hr => let ⟨h1, h2, g, h3, h4⟩ := I.gr r (erase_mem hr); ⟨h1, h2, g, by rw [upd_ne h2]; exact h3, h4⟩
  sm := same_upd' I.sm hgl
  ne := I.ne
theorem WInv.tie {H : Hp} {wl gl : Addr} {n m : Nat} {rs : List Addr} {ws : List Nat} {H1 : Hp} (I : WInv H wl gl n m rs ws H1) {i j : Nat} (hi : i < n) (hj : j < n) (hwl : H wl = none) : WInv H wl gl n m rs (Bw.tie ws i j) (upd H1 wl (.lst (vv (Bw.tie ws i j)))) where
  web := I.web.tie (by rw [I.len]; exact hi) (by rw [I.len]; exact hj)
  len := by rw [tie_length]; exact I.len
  hw := upd_same
  hg := by rw [upd_ne (Ne.symm I.ne)]; exact I.hg
  gr := fun r hr => let ⟨h1, h2, g, h3, h4⟩ := I.gr r hr; ⟨h1, h2, g, by rw [upd_ne h1]; exact h3, h4⟩
  sm := same_upd' I.sm hwl
  ne := I.ne
theorem ok_web (T : Txt K mg cs) : Cal P w K mg base 2 "_law_web" ["_law_script", "_law_first", "_law_most"] (spWeb K) := by
  have CC : Cal P w K mg base 1 "_law_cell_at" ["_law_script", "_law_k"] (spCellAt K) := ok_cellAt T
  have CD : Cal P w K mg base 1 "_law_draw" ["_law_cell", "_law_k", "_law_many"] spDraw := ok_draw T
  have CI : Cal P w K mg base 1 "_law_tie" ["_law_web_here", "_law_one", "_law_other"] spTie := ok_tie T
  refine T.lawWeb.cal scWeb (fun vs H Q E h => ?_) (fun f cdv A outer s H vs Q E hr h => ?_)
  · obtain ⟨a, ns, rfl, _⟩ := h
    rfl
  · obtain ⟨a, ns, rfl, hs, k⟩ := h
    refine ⟨_, pss_cons (ps_set (i := 3) scWeb.nd rfl (Or.inl rfl) (pe_cal CC hr (by rfl) (pa_cons (pv 0) (pa_cons (pv 1) pa_nil))))
      (pss_cons (ps_set (i := 4) scWeb.nd rfl (Or.inl rfl) (pe_cal CC hr (by rfl) (pa_cons (pv 0) (pa_cons (pe_op op_add (pv 1) pe_int) pa_nil))))
      (pss_cons (ps_set (i := 5) scWeb.nd rfl (Or.inl rfl) (pe_op op_add pe_int (pe_op op_mod (pv 3) (pe_callB (call_min2 rfl) (by rfl) T.min PyProof.Rows.boot_min (pa_cons (pv 2) (pa_cons pe_int pa_nil))))))
      (pss_cons (ps_if (pt_cmpR op_eq (pe_op op_mod (pe_op op_fdiv (pv 3) pe_int) pe_int) pe_int (nomark _)) (pss_one (ps_set (i := 5) scWeb.nd rfl (Or.inl rfl) (pe_op op_add pe_int (pe_op op_mod (pe_op op_fdiv (pv 3) pe_int) (pv 2))))) pss_nil)
      (pss_imp (t' := tWebMid H a) (pss_cons (ps_setComp (i := 7) (sc := cWeb) scWeb.nd rfl rfl rfl (pi_range1 rfl T.range (pa_cons (pv 5) pa_nil)) csWeb (fun _ _ _ _ => pg_name (i := 0) csWeb.nd rfl (Or.inl rfl) (Or.inr rfl)) (fun _ _ _ _ => pif_nil) (fun _ _ _ _ => pe_int))
        (pss_cons (ps_setComp (i := 8) (sc := cWeb) scWeb.nd rfl rfl rfl (pi_range1 rfl T.range (pa_cons (pv 5) pa_nil)) csWeb (fun _ _ _ _ => pg_name (i := 0) csWeb.nd rfl (Or.inl rfl) (Or.inr rfl)) (fun _ _ _ _ => pif_nil) (fun _ _ _ _ => pe_lst (pa_cons (pv 0) pa_nil)))
        (pss_cons (ps_while PassesOwn.never (pt_cmpR op_gt (pe_callB call_len_seq (by rfl) T.len PySem.boot_len (pa_cons (pv 8) pa_nil)) pe_int (nomark _))
          (pss_cons (ps_set (i := 9) scWeb.nd rfl (Or.inl rfl) (pe_callB call_len_seq (by rfl) T.len PySem.boot_len (pa_cons (pv 8) pa_nil)))
          (pss_cons (ps_set (i := 10) scWeb.nd rfl (Or.inl rfl) (pe_bm PySem.F.plainAttrs_list PySem.F.slot_list_pop PySem.F.type_list_pop mt_popAt (pv 8) (pa_cons (pe_cal CD hr (by rfl) (pa_cons (pv 4) (pa_cons (pv 9) (pa_cons (pv 9) pa_nil)))) pa_nil)))
          (pss_cons (ps_set (i := 11) scWeb.nd rfl (Or.inl rfl) (pe_bm PySem.F.plainAttrs_list PySem.F.slot_list_pop PySem.F.type_list_pop mt_popAt (pv 8) (pa_cons (pe_cal CD hr (by rfl) (pa_cons (pv 4) (pa_cons (pe_op op_add (pv 9) pe_int) (pa_cons (pe_op op_sub (pv 9) pe_int) pa_nil)))) pa_nil)))
          (pss_cons (ps_if (pt_cmpR op_eq (pe_cal CD hr (by rfl) (pa_cons (pv 4) (pa_cons (pe_op op_add (pv 9) pe_int) (pa_cons pe_int pa_nil)))) pe_int (nomark _))
            (pss_one (ps_for PassesOwn.never rfl (pi_list (pv 10)) (pg_name (i := 12) scWeb.nd rfl (Or.inl rfl))
              (pss_one (ps_for PassesOwn.never rfl (pi_list (pv 11)) (pg_name (i := 13) scWeb.nd rfl (Or.inl rfl))
                (pss_one (ps_expr (pe_cal CI hr (by rfl) (pa_cons (pv 7) (pa_cons (pv 12) (pa_cons (pv 13) pa_nil)))))))))) pss_nil)
          (pss_imp (t' := tWebApp H a) (pss_one (ps_expr (pe_bm PySem.F.plainAttrs_list PySem.F.slot_list_append PySem.F.type_list_append mt_append (pv 8) (pa_cons (pe_op op_cat (pv 10) (pv 11)) pa_nil)))) ?tApp))))))
        (pss_imp (t' := tWebEnd H a) (pss_cons (ps_if (pt_cmpR op_gt (pv 5) pe_int (nomark _))
          (pss_one (ps_for PassesOwn.never rfl (pi_range1 rfl T.range (pa_cons (pe_ix ix_tup (pe_tup (pa_cons pe_int (pa_cons pe_int (pa_cons pe_int (pa_cons pe_int pa_nil))))) (pe_op op_mod (pe_op op_fdiv (pv 3) pe_int) pe_int) (fun _ _ => rfl)) pa_nil)) (pg_name (i := 6) scWeb.nd rfl (Or.inl rfl))
            (pss_cons (ps_set (i := 12) scWeb.nd rfl (Or.inl rfl) (pe_cal CD hr (by rfl) (pa_cons (pv 4) (pa_cons (pe_op op_add (pv 6) pe_int) (pa_cons (pv 5) pa_nil)))))
            (pss_one (ps_expr (pe_cal CI hr (by rfl) (pa_cons (pv 7) (pa_cons (pv 12) (pa_cons (pe_op op_mod (pe_op op_add (pe_op op_add (pv 12) pe_int) (pe_cal CD hr (by rfl) (pa_cons (pv 4) (pa_cons (pe_op op_add (pv 6) pe_int) (pa_cons (pe_op op_sub (pv 5) pe_int) pa_nil))))) (pv 5)) pa_nil))))))))) pss_nil)
          (pss_one (ps_ret (pv 7)))) ?tEnd)))) ?tMid)))), ?_⟩
    case tApp =>
      rintro D σ H1 ⟨c, o, n, wl, gl, m, ws, rs, r1, r2, g1, g2, v6, v9, v12, v13, rfl, hn, hmn, hlen, I, h1, h2, p1, p2, l1, l2, hwl, hgl, kk⟩
      have hwg : wl ≠ gl := I.ne
      have b1 := two_pow_small (m := m) hn
      refine ⟨_, rfl, .inl ⟨rfl, _, SqL.of I.hg⟩, _, rfl, _, rfl, r1, r2, vv g1, vv g2, rfl, rfl, h1, h2, by rw [vv_len, vv_len, sizeLine_eq]; omega, fun q hq => ?_⟩
      have nq : q ≠ gl := fun z => by rw [z, I.hg] at hq; cases hq
      have nqw : q ≠ wl := fun z => by rw [z, I.hw] at hq; cases hq
      have hg' : upd H1 q (.lst (vv g1 ++ vv g2)) gl = some (.lst (rs.map V.ref)) := by rw [upd_ne (Ne.symm nq)]; exact I.hg
      refine ⟨gl, _, _, rfl, rfl, hg', by rw [List.length_map, sizeLine_eq]; omega, ?_⟩
      refine kk _ _ (rs ++ [q]) rfl (by rw [List.length_append, List.length_singleton]; omega) ?_
      have hle : (rs ++ [q]).length + 1 = m := by rw [List.length_append, List.length_singleton]; omega
      have hpow : 2 ^ (n - m) + 2 ^ (n - m) = 2 ^ (n - (rs ++ [q]).length) := by
        have e : n - (rs ++ [q]).length = (n - m) + 1 := by omega
        rw [e, Nat.pow_succ]
        omega
      refine ⟨I.web, I.len, ?_, ?_, fun r hr => ?_, ?_, I.ne⟩
      · rw [upd_ne hwg, upd_ne (Ne.symm nqw)]
        exact I.hw
      · rw [upd_same, List.map_append]
        rfl
      · rcases List.mem_append.mp hr with hr | hr
        · obtain ⟨a1, a2, g, a3, a4, a5⟩ := I.gr r hr
          have nrq : r ≠ q := fun z => by rw [z, hq] at a3; cases a3
          exact ⟨a1, a2, g, by rw [upd_ne a2, upd_ne nrq]; exact a3, a4, by omega⟩
        · have e := List.mem_singleton.mp hr
          subst e
          refine ⟨nqw, nq, g1 ++ g2, by rw [upd_ne nq, upd_same, vv_app], fun p hp => ?_, by rw [List.length_append]; omega⟩
          rcases List.mem_append.mp hp with hp | hp
          · exact p1 p hp
          · exact p2 p hp
      · exact same_upd' (same_upd I.sm hq) hgl
    case tEnd =>
      rintro D σ H1 ⟨c, o, n, wl, ws, v6, v8, v9, v10, v11, v12, v13, rfl, hn0, W, hwn, hwl, h1, s1, kk⟩
      have hle := W.le
      refine ⟨_, rfl, _, _, rfl, rfl, _, rfl, ?_⟩
      refine ite2 (fun hgt => ?_) (fun hgt => ?_)
      · have hn1 : 1 < n := by
          have := of_decide_eq_true hgt
          omega
        refine ⟨by rw [sizeLine_eq]; show 4 ≤ _; decide, fun t ht => ?_⟩
        have h4 : 0 ≤ c / 420 % 4 ∧ c / 420 % 4 < 4 := by omega
        obtain ⟨i, ei⟩ : ∃ i : Nat, c / 420 % 4 = (i : Int) := ⟨(c / 420 % 4).toNat, by omega⟩
        obtain ⟨p, hp, ep⟩ := few_at i (by omega)
        refine ⟨_, rfl, _, _, rfl, rfl, ⟨by decide, by decide⟩, _, _, rfl, rfl, (by show (0 : Int) < 4; decide), t, _, _, _, rfl, rfl, SqT.of upd_same, (by rw [ei]; exact atI_nat ep), _, rfl, by omega, by omega, ?_⟩
        rw [Int.toNat_natCast]
        refine for_range (n := p) (fun i σ H2 => ∃ (ws : List Nat) (v6 v12 : Option V), σ = [some (.ref a), some (.int 0), some (.int 10), some (.int c), some (.int o), some (.int (n : Int)), v6, some (.ref wl), v8, v9, v10, v11, v12, v13] ∧ Web ws ∧ ws.length = n ∧ H2 wl = some (.lst (vv ws)) ∧ Same H H2)
          ⟨ws, _, _, rfl, W, hwn, by rw [upd_ne (ne_of_none h1 ht)]; exact h1, same_upd s1 ht⟩ ?_ ?_
        · rintro i σ H2 hi ⟨ws, u6, u12, rfl, W, hwn, h2, s2⟩
          refine ⟨_, rfl, _, rfl, _, _, rfl, rfl, _, rfl, o, _, _, rfl, by omega, fun z H3 hz s3 => ?_⟩
          refine ⟨_, rfl, _, rfl, _, rfl, _, _, rfl, rfl, _, rfl, _, rfl, _, _, rfl, rfl, _, rfl, _, _, rfl, rfl, o, _, _, rfl, by omega, fun y H4 hy s4 => ?_⟩
          refine ⟨_, _, rfl, rfl, _, rfl, _, _, rfl, rfl, by omega, ?_⟩
          obtain ⟨x, ex⟩ : ∃ x : Nat, ((z : Int) + 1 + (y : Int)) % (n : Int) = (x : Int) := ⟨(((z : Int) + 1 + (y : Int)) % (n : Int)).toNat, by have := Int.emod_nonneg ((z : Int) + 1 + (y : Int)) (show (n : Int) ≠ 0 by omega); omega⟩
          have hx : x < n := by
            have := Int.emod_lt_of_pos ((z : Int) + 1 + (y : Int)) (show (0 : Int) < (n : Int) by omega)
            omega
          have h4 : H4 wl = some (.lst (vv ws)) := s4 _ _ (s3 _ _ h2)
          refine ⟨wl, ws, z, x, (by show [V.ref wl, V.int (z : Int), V.int (((z : Int) + 1 + (y : Int)) % (n : Int))] = _; rw [ex]), h4, W.le, by omega, by omega, ?_⟩
          exact ⟨Bw.tie ws z x, _, _, rfl, W.tie (by omega) (by omega), by rw [tie_length]; exact hwn, upd_same, same_upd' (s2.trans (s3.trans s4)) hwl⟩
        · rintro σ H2 ⟨ws, u6, u12, rfl, W, hwn, h2, s2⟩
          exact ⟨_, rfl, kk wl H2 ws hwl s2 W h2⟩
      · exact ⟨_, rfl, kk wl H1 ws hwl s1 W h1⟩
    case tMid =>
      rintro D σ H1 ⟨c, o, n, rfl, hn0, hn, s1, kk⟩
      -- the web without ties
      have en : ((n : Nat) : Int).toNat = n := Int.toNat_natCast n
      refine ⟨_, rfl, n, rfl, by omega, by omega, comp_range (n := ((n : Nat) : Int).toNat) (fun i ys H' => ys = vv (List.replicate i 0) ∧ H' = H1) ⟨rfl, rfl⟩ (by rw [sizeLine_eq]; omega) ?_ ?_⟩
      · rintro i ys H' hi ⟨rfl, rfl⟩ hyl hys
        refine gset ?_
        refine yes ?_
        refine iteT ?_
        refine ⟨hys, Pn.snoc hi hyl ⟨?_, rfl⟩⟩
        rw [List.replicate_succ', ← vv_snoc]
        rfl
      rintro ys H' ⟨ey, rfl⟩ hyl wl hwl
      rw [en] at ey
      subst ey
      -- the groups
      have sW : Same H (upd H' wl (.lst (vv (List.replicate n 0)))) := same_upd s1 hwl
      have hHwl : H wl = none := same_none s1 hwl
      refine ⟨_, rfl, n, rfl, by omega, by omega, comp_range (n := ((n : Nat) : Int).toNat) (fun i ys H2 => ∃ rs : List Addr, ys = rs.map V.ref ∧ rs.length = i ∧ (∀ r ∈ rs, r ≠ wl ∧ ∃ g : List Nat, H2 r = some (.lst (vv g)) ∧ (∀ p ∈ g, p < n) ∧ g.length ≤ 1) ∧ Same (upd H' wl (.lst (vv (List.replicate n 0)))) H2)
        ⟨[], rfl, rfl, (fun r hr => nomatch hr), Same.refl _⟩ (by rw [sizeLine_eq]; omega) ?_ ?_⟩
      · rintro i ys H2 hi ⟨rs, rfl, hrl, hgr, s2⟩ hyl hys
        have e0 : (0 : Int) + (i : Int) = ((i : Nat) : Int) := by omega
        rw [e0]
        refine gset ?_
        refine yes ?_
        refine iteT ?_
        refine ⟨_, rfl, by rw [sizeLine_eq]; show 1 ≤ _; decide, fun q hq => ⟨hys, Pn.snoc hi hyl ⟨rs ++ [q], by rw [List.map_append]; rfl, by rw [List.length_append, List.length_singleton]; omega, fun r hr => ?_, same_upd s2 hq⟩⟩⟩
        have nqw : q ≠ wl := fun z => by
          have := s2 wl _ upd_same
          rw [z, this] at hq
          cases hq
        rcases List.mem_append.mp hr with hr | hr
        · obtain ⟨a1, g, a3, a4, a5⟩ := hgr r hr
          have nrq : r ≠ q := fun z => by rw [z, hq] at a3; cases a3
          exact ⟨a1, g, by rw [upd_ne nrq]; exact a3, a4, a5⟩
        · have e := List.mem_singleton.mp hr
          subst e
          exact ⟨nqw, [i], by rw [upd_same]; rfl, fun p hp => by rw [List.mem_singleton.mp hp]; omega, Nat.le_refl _⟩
      rintro ys H2 ⟨rs, rfl, hrl, hgr, s2⟩ hyl gl hgl
      rw [en] at hrl
      have h2w : H2 wl = some (.lst (vv (List.replicate n 0))) := s2 wl _ upd_same
      have hwg : wl ≠ gl := fun z => by rw [z, hgl] at h2w; cases h2w
      have hHgl : H gl = none := same_none (sW.trans s2) hgl
      -- while len(groups) > 1
      refine while_of (fun σ H3 => ∃ (rs : List Addr) (ws : List Nat) (v6 v9 v10 v11 v12 v13 : Option V), σ = [some (.ref a), some (.int 0), some (.int 10), some (.int c), some (.int o), some (.int (n : Int)), v6, some (.ref wl), some (.ref gl), v9, v10, v11, v12, v13] ∧ WInv H wl gl n rs.length rs ws H3 ∧ 0 < rs.length ∧ rs.length ≤ n)
        (fun _ H3 => lenL (H3 gl)) ?_ ?_
      · refine ⟨rs, List.replicate n 0, _, _, _, _, _, _, rfl, ⟨web_zero hn0 hn, List.length_replicate, by rw [upd_ne hwg]; exact h2w, upd_same, fun r hr => ?_, same_upd (sW.trans s2) hgl, hwg⟩, by omega, by omega⟩
        obtain ⟨a1, g, a3, a4, a5⟩ := hgr r hr
        have nrg : r ≠ gl := fun z => by rw [z, hgl] at a3; cases a3
        exact ⟨a1, nrg, g, by rw [upd_ne nrg]; exact a3, a4, by rw [hrl, Nat.sub_self]; exact a5⟩
      rintro σ H3 ⟨rs, ws, v6, v9, v10, v11, v12, v13, rfl, I, hr0, hrn⟩
      refine ⟨_, rfl, gl, rs.map V.ref, rfl, .inl (SqL.of I.hg), _, _, rfl, rfl, _, rfl, ?_⟩
      refine ite2 (fun hgt => ?_) (fun hgt => ?_)
      · have hm : 1 < rs.length := by
          have := of_decide_eq_true hgt
          rw [List.length_map] at this
          omega
        refine ⟨_, wh, ?_⟩
        -- turn = len(groups)
        refine ⟨_, rfl, gl, rs.map V.ref, rfl, .inl (SqL.of I.hg), ?_⟩
        rw [List.length_map]
        -- one = groups.pop(..)
        refine ⟨_, rfl, .inl ⟨rfl, _, SqL.of I.hg⟩, _, rfl, _, rfl, _, rfl, o, _, _, rfl, by omega, fun z H4 hz s4 => ?_⟩
        have I4 := I.same s4
        have hzl : z < rs.length := by omega
        refine ⟨gl, _, _, z, _, rfl, rfl, I4.hg, by omega, by omega, by rw [List.length_map]; exact seqIx_nat hzl, ref_get hzl, ?_⟩
        have I5 := I4.pop z hHgl
        obtain ⟨a1, a2, g1, a3, a4, a5⟩ := I4.gr rs[z] (List.getElem_mem hzl)
        have hel : (rs.eraseIdx z).length = rs.length - 1 := by rw [List.length_eraseIdx, if_pos hzl]
        -- two = groups.pop(..)
        refine ⟨_, rfl, .inl ⟨rfl, _, SqL.of I5.hg⟩, _, rfl, _, rfl, _, _, rfl, rfl, _, rfl, _, _, rfl, rfl, o, _, _, rfl, by omega, fun y H6 hy s6 => ?_⟩
        have I6 := I5.same s6
        have hyl' : y < (rs.eraseIdx z).length := by omega
        refine ⟨gl, _, _, y, _, rfl, rfl, I6.hg, by omega, by omega, by rw [List.length_map]; exact seqIx_nat hyl', ref_get hyl', ?_⟩
        have I7 := I6.pop y hHgl
        obtain ⟨b1, b2, g2, b3, b4, b5⟩ := I6.gr (rs.eraseIdx z)[y] (List.getElem_mem hyl')
        have hel2 : ((rs.eraseIdx z).eraseIdx y).length + 2 = rs.length := by rw [List.length_eraseIdx, if_pos hyl']; omega
        have a6 : upd H6 gl (.lst (((rs.eraseIdx z).map V.ref).eraseIdx y)) rs[z] = some (.lst (vv g1)) := by
          rw [upd_ne a2]
          exact s6 _ _ (by rw [upd_ne a2]; exact a3)
        have b6 : upd H6 gl (.lst (((rs.eraseIdx z).map V.ref).eraseIdx y)) (rs.eraseIdx z)[y] = some (.lst (vv g2)) := by
          rw [upd_ne b2]
          exact b3
        -- what comes behind the test
        have fin : ∀ (ws' : List Nat) (H8 : Hp) (v12 v13 : Option V), WInv H wl gl n rs.length ((rs.eraseIdx z).eraseIdx y) ws' H8 → H8 rs[z] = some (.lst (vv g1)) → H8 (rs.eraseIdx z)[y] = some (.lst (vv g2)) →
            ∀ (N : St → Hp → Prop) (D' : Ends), D'.nx = N → (∀ σ' H', (∃ (rs' : List Addr) (v6 v9 v10 v11 v12 v13 : Option V), σ' = [some (.ref a), some (.int 0), some (.int 10), some (.int c), some (.int o), some (.int (n : Int)), v6, some (.ref wl), some (.ref gl), v9, v10, v11, v12, v13] ∧ WInv H wl gl n rs'.length rs' ws' H' ∧ rs'.length + 1 = rs.length) → N σ' H') →
            tWebApp H a D' [some (.ref a), some (.int 0), some (.int 10), some (.int c), some (.int o), some (.int (n : Int)), v6, some (.ref wl), some (.ref gl), some (.int (rs.length : Int)), some (.ref rs[z]), some (.ref (rs.eraseIdx z)[y]), v12, v13] H8 := by
          intro ws' H8 u12 u13 I8 c1 c2 N D' hD hN
          refine ⟨c, o, n, wl, gl, rs.length, ws', (rs.eraseIdx z).eraseIdx y, rs[z], (rs.eraseIdx z)[y], g1, g2, _, _, _, _, rfl, hn, hrn, hel2, I8, c1, c2, a4, b4, a5, b5, hHwl, hHgl, ?_⟩
          rintro σ' H' rs' rfl hl' I9
          rw [hD]
          exact hN _ _ ⟨rs', _, _, _, _, _, _, rfl, I9, hl'⟩
        have dn : ∀ (σ' : St) (H' : Hp) (ws' : List Nat), (∃ (rs' : List Addr) (v6 v9 v10 v11 v12 v13 : Option V), σ' = [some (.ref a), some (.int 0), some (.int 10), some (.int c), some (.int o), some (.int (n : Int)), v6, some (.ref wl), some (.ref gl), v9, v10, v11, v12, v13] ∧ WInv H wl gl n rs'.length rs' ws' H' ∧ rs'.length + 1 = rs.length) →
            (∃ (rs : List Addr) (ws : List Nat) (v6 v9 v10 v11 v12 v13 : Option V), σ' = [some (.ref a), some (.int 0), some (.int 10), some (.int c), some (.int o), some (.int (n : Int)), v6, some (.ref wl), some (.ref gl), v9, v10, v11, v12, v13] ∧ WInv H wl gl n rs.length rs ws H' ∧ 0 < rs.length ∧ rs.length ≤ n) ∧ lenL (H' gl) < lenL (H3 gl) := by
          rintro σ' H' ws' ⟨rs', w6, w9, w10, w11, w12, w13, rfl, I9, hl'⟩
          refine ⟨⟨rs', ws', _, _, _, _, _, _, rfl, I9, by omega, by omega⟩, ?_⟩
          rw [I9.hg, I.hg]
          show (rs'.map V.ref).length < (rs.map V.ref).length
          rw [List.length_map, List.length_map]
          omega
        refine ⟨_, rfl, _, rfl, _, _, rfl, rfl, o, _, _, rfl, by decide, fun x H8 hx s8 => ⟨rfl, _, rfl, ?_⟩⟩
        have I8 := I7.same s8
        refine ite2 (fun hb => ?_) (fun hb => ?_)
        · have c1 := s8 _ _ a6
          have c2 := s8 _ _ b6
          refine ⟨_, rfl, rs[z], rfl, ⟨_, SqL.of c1⟩, for_list (K := K) (a := rs[z]) (xs := vv g1) (fun i σ H9 => ∃ (ws' : List Nat) (v12 v13 : Option V), σ = [some (.ref a), some (.int 0), some (.int 10), some (.int c), some (.int o), some (.int (n : Int)), v6, some (.ref wl), some (.ref gl), some (.int (rs.length : Int)), some (.ref rs[z]), some (.ref (rs.eraseIdx z)[y]), v12, v13] ∧ WInv H wl gl n rs.length ((rs.eraseIdx z).eraseIdx y) ws' H9 ∧ H9 rs[z] = some (.lst (vv g1)) ∧ H9 (rs.eraseIdx z)[y] = some (.lst (vv g2)))
            ⟨ws, _, _, rfl, I8, c1, c2⟩ (fun i σ H9 _ ⟨_, _, _, _, _, d1, _⟩ => SqL.of d1) ?_ ?_⟩
          · rintro i x1 σ H9 hx1 ⟨ws', u12, u13, rfl, I9, d1, d2⟩
            obtain ⟨hi1, rfl⟩ := vv_at hx1
            have hm1 : g1.getD i 0 ∈ g1 := by
              rw [List.getD_eq_getElem?_getD, List.getElem?_eq_getElem hi1]
              exact List.getElem_mem hi1
            refine ⟨_, rfl, (rs.eraseIdx z)[y], rfl, ⟨_, SqL.of d2⟩, for_list (K := K) (a := (rs.eraseIdx z)[y]) (xs := vv g2) (fun j σ H10 => ∃ (ws' : List Nat) (v13 : Option V), σ = [some (.ref a), some (.int 0), some (.int 10), some (.int c), some (.int o), some (.int (n : Int)), v6, some (.ref wl), some (.ref gl), some (.int (rs.length : Int)), some (.ref rs[z]), some (.ref (rs.eraseIdx z)[y]), some (.int ((g1.getD i 0 : Nat) : Int)), v13] ∧ WInv H wl gl n rs.length ((rs.eraseIdx z).eraseIdx y) ws' H10 ∧ H10 rs[z] = some (.lst (vv g1)) ∧ H10 (rs.eraseIdx z)[y] = some (.lst (vv g2)))
              ⟨ws', _, rfl, I9, d1, d2⟩ (fun j σ H10 _ ⟨_, _, _, _, _, d2⟩ => SqL.of d2) ?_ ?_⟩
            · rintro j x2 σ H10 hx2 ⟨ws'', w13, rfl, I10, e1, e2⟩
              obtain ⟨hi2, rfl⟩ := vv_at hx2
              have hm2 : g2.getD j 0 ∈ g2 := by
                rw [List.getD_eq_getElem?_getD, List.getElem?_eq_getElem hi2]
                exact List.getElem_mem hi2
              have l10 := I10.len
              refine ⟨_, rfl, _, rfl, _, rfl, wl, ws'', g1.getD i 0, g2.getD j 0, rfl, I10.hw, I10.web.le, by rw [l10]; exact a4 _ hm1, by rw [l10]; exact b4 _ hm2, ?_⟩
              exact ⟨_, _, rfl, I10.tie (a4 _ hm1) (b4 _ hm2) hHwl, by rw [upd_ne a1]; exact e1, by rw [upd_ne b1]; exact e2⟩
            · rintro σ H10 ⟨ws'', w13, rfl, I10, e1, e2⟩
              exact ⟨ws'', _, _, rfl, I10, e1, e2⟩
          · rintro σ H9 ⟨ws', u12, u13, rfl, I9, d1, d2⟩
            exact fin ws' H9 _ _ I9 d1 d2 _ _ rfl fun σ' H' h => dn σ' H' ws' h
        · exact fin ws H8 _ _ I8 (s8 _ _ a6) (s8 _ _ b6) _ _ rfl fun σ' H' h => dn σ' H' ws h
      · exact ⟨c, o, n, wl, ws, _, _, _, _, _, _, _, rfl, hn0, I.web, I.len, hHwl, I.hw, I.sm, kk⟩
    refine ⟨_, rfl, _, rfl, a, ns, 0, rfl, hs, fun c => ?_⟩
    refine ⟨_, rfl, _, rfl, _, _, rfl, rfl, a, ns, 1, rfl, hs, fun o => ?_⟩
    refine ⟨_, rfl, _, rfl, _, _, rfl, _, _, rfl, rfl, (by show (0 : Int) < 7; decide), _, _, rfl, rfl, ?_⟩
    refine ⟨_, rfl, _, _, rfl, rfl, ⟨by decide, by decide⟩, _, _, rfl, rfl, (by show (0 : Int) < 6; decide), rfl, _, rfl, ?_⟩
    refine ite2 (fun _ => ?_) (fun _ => ?_)
    · refine ⟨_, rfl, _, _, rfl, rfl, ⟨by decide, by decide⟩, _, rfl, _, _, rfl, rfl, (by show (0 : Int) < 10; decide), _, _, rfl, rfl, ?_⟩
      obtain ⟨n, hn⟩ : ∃ n : Nat, (1 + c / 42 % 10 : Int) = (n : Int) := ⟨(1 + c / 42 % 10 : Int).toNat, by omega⟩
      refine ⟨c, o, n, ?_, by omega, by omega, Same.refl H, k⟩
      show [some (V.ref a), some (V.int 0), some (V.int 10), some (V.int c), some (V.int o), some (V.int (1 + c / 42 % 10)), none, none, none, none, none, none, none, none] = _
      rw [hn]
    · obtain ⟨n, hn⟩ : ∃ n : Nat, (1 + c % 7 : Int) = (n : Int) := ⟨(1 + c % 7 : Int).toNat, by omega⟩
      refine ⟨c, o, n, ?_, by omega, by omega, Same.refl H, k⟩
      show [some (V.ref a), some (V.int 0), some (V.int 10), some (V.int c), some (V.int o), some (V.int (1 + c % 7)), none, none, none, none, none, none, none, none] = _
      rw [hn]
end
end Bw

set_option Elab.async false
set_option linter.all false
set_option maxRecDepth 100000
set_option maxHeartbeats 4000000
/-! Trees: the datum, how the heap bears it, points(), how one is made -/
namespace Bw
open PySem L2
/-- the class of a doing -/
def cD (cs : Cl) (ac : Bool) : Addr := if ac then cs.Across else cs.Beside
def fP (n : Int) : List (Str × V) := putF "at" (.int n) []
def fD (l t : Addr) : List (Str × V) := putF "laid" (.ref t) (putF "trees" (.ref l) [])
theorem fP_at (n : Int) : (fP n).lookup ("at" : Str) = some (.int n) := by
  unfold fP
  rw [lookup_putF, if_pos rfl]
theorem fP_no (n : Int) {m : Str} (h : ¬ m = "at") : (fP n).lookup m = none := by
  unfold fP
  rw [lookup_putF, if_neg h]
  rfl
theorem tl_ne : ¬ (("trees" : Str) = "laid") := by decide +kernel
theorem fD_laid (l t : Addr) : (fD l t).lookup ("laid" : Str) = some (.ref t) := by
  unfold fD
  rw [lookup_putF, if_pos rfl]
theorem fD_trees (l t : Addr) : (fD l t).lookup ("trees" : Str) = some (.ref l) := by
  unfold fD
  rw [lookup_putF, if_neg tl_ne, lookup_putF, if_pos rfl]
theorem fD_no (l t : Addr) {m : Str} (h1 : ¬ m = "laid") (h2 : ¬ m = "trees") : (fD l t).lookup m = none := by
  unfold fD
  rw [lookup_putF, if_neg h1, lookup_putF, if_neg h2]
  rfl

section
variable (cs : Cl) (H : Hp)
/-- the tree at a, of depth at most k; its own list of trees stands as it was made -/
def TreeAt : Nat → Addr → Tr → Prop
  | 0 => fun _ _ => False
  | k + 1 => fun a tr => match tr with
    | .pt n => (∃ dx, H a = some (.ins cs.Point dx (fP (n : Int)))) ∧ n < 10
    | .doing ac ts => ∃ (dx l t : Addr) (rs : List Addr), H a = some (.ins (cD cs ac) dx (fD l t)) ∧ H t = some (.tup (rs.map V.ref)) ∧ H l = some (.lst (rs.map V.ref)) ∧ Paired (TreeAt k) rs ts ∧ 2 ≤ ts.length
end
theorem paired_mono {α β : Type} {F G : α → β → Prop} (f : ∀ a b, F a b → G a b) : ∀ {l₁ : List α} {l₂ : List β}, Paired F l₁ l₂ → Paired G l₁ l₂
  | _, _, .nil => .nil
  | _, _, .cons h t => .cons (f _ _ h) (paired_mono f t)
theorem paired_get {α β : Type} {F : α → β → Prop} : ∀ {l₁ : List α} {l₂ : List β} {i : Nat} {x : α}, Paired F l₁ l₂ → l₁[i]? = some x → ∃ y, l₂[i]? = some y ∧ F x y
  | _, _, _, _, .nil, h => by cases h
  | _, _, 0, _, .cons h _, e => by
    have e' := Option.some.inj e
    subst e'
    exact ⟨_, rfl, h⟩
  | _, _, i + 1, x, .cons _ t, e => paired_get (i := i) t e
theorem paired_len {α β : Type} {F : α → β → Prop} : ∀ {l₁ : List α} {l₂ : List β}, Paired F l₁ l₂ → l₁.length = l₂.length
  | _, _, .nil => rfl
  | _, _, .cons _ t => by rw [List.length_cons, List.length_cons, paired_len t]
theorem paired_snoc {α β : Type} {F : α → β → Prop} : ∀ {l₁ : List α} {l₂ : List β} {x : α} {y : β}, Paired F l₁ l₂ → F x y → Paired F (l₁ ++ [x]) (l₂ ++ [y])
  | _, _, _, _, .nil, h => .cons h .nil
  | _, _, _, _, .cons a t, h => .cons a (paired_snoc t h)
theorem TreeAt.same {cs : Cl} {H H' : Hp} (s : Same H H') : ∀ {k : Nat} {a : Addr} {tr : Tr}, TreeAt cs H k a tr → TreeAt cs H' k a tr
  | 0, _, _, h => h.elim
  | k + 1, a, .pt n, h => ⟨let ⟨dx, e⟩ := h.1; ⟨dx, s _ _ e⟩, h.2⟩
  | k + 1, a, .doing ac ts, h => by
    obtain ⟨dx, l, t, rs, h1, h2, h3, h4, h5⟩ := h
    exact ⟨dx, l, t, rs, s _ _ h1, s _ _ h2, s _ _ h3, paired_mono (fun _ _ z => TreeAt.same s z) h4, h5⟩
theorem TreeAt.more {cs : Cl} {H : Hp} : ∀ {k j : Nat} {a : Addr} {tr : Tr}, TreeAt cs H k a tr → k ≤ j → TreeAt cs H j a tr
  | 0, _, _, _, h, _ => h.elim
  | k + 1, 0, _, _, _, l => absurd l (by omega)
  | k + 1, j + 1, a, .pt n, h, _ => h
  | k + 1, j + 1, a, .doing ac ts, h, l => by
    obtain ⟨dx, l1, t, rs, h1, h2, h3, h4, h5⟩ := h
    exact ⟨dx, l1, t, rs, h1, h2, h3, paired_mono (fun _ _ z => TreeAt.more z (by omega)) h4, h5⟩
theorem TreeAt.pos {cs : Cl} {H : Hp} : ∀ {k : Nat} {a : Addr} {tr : Tr}, TreeAt cs H k a tr → 1 ≤ tr.pts.length
  | 0, _, _, h => h.elim
  | k + 1, a, .pt n, h => Nat.le_refl _
  | k + 1, a, .doing ac [], h => by
    obtain ⟨_, _, _, _, _, _, _, _, h5⟩ := h
    exact absurd h5 (by decide)
  | k + 1, a, .doing ac (t :: ts), h => by
    obtain ⟨dx, l1, t1, rs, h1, h2, h3, h4, h5⟩ := h
    show 1 ≤ (t.pts ++ ptsL ts).length
    rw [List.length_append]
    cases h4 with
    | cons z _ =>
      have := TreeAt.pos z
      omega
/-- each tree of a doing has fewer points than it -/
theorem paired_fewer {F : Addr → Tr → Prop} (hF : ∀ a t, F a t → 1 ≤ t.pts.length) : ∀ {rs : List Addr} {ts : List Tr}, Paired F rs ts → ∀ {m : Nat}, (ptsL ts).length ≤ m + ts.length → ∀ G : Addr → Tr → Prop, (∀ a t, F a t → t.pts.length ≤ m + 1 → G a t) → Paired G rs ts
  | _, _, .nil, _, _, _, _ => .nil
  | _, _, .cons (l₁ := rs) (l₂ := ts) (a := a) (b := t) h r, m, hl, G, g => by
    have h1 := hF _ _ h
    have hge : ∀ {rs : List Addr} {ts : List Tr}, Paired F rs ts → ts.length ≤ (ptsL ts).length := by
      intro rs ts p
      induction p with
      | nil => exact Nat.le_refl _
      | cons h _ ih =>
        show _ + 1 ≤ List.length (_ ++ _)
        rw [List.length_append]
        have := hF _ _ h
        omega
    have hr := hge r
    have e : (ptsL (t :: ts)).length = t.pts.length + (ptsL ts).length := List.length_append
    rw [e, List.length_cons] at hl
    exact .cons (g _ _ h (by omega)) (paired_fewer hF r (m := m) (by omega) G g)
theorem TreeAt.fit {cs : Cl} {H : Hp} : ∀ {k m : Nat} {a : Addr} {tr : Tr}, TreeAt cs H k a tr → tr.pts.length ≤ m → TreeAt cs H m a tr
  | 0, _, _, _, h, _ => h.elim
  | k + 1, 0, a, tr, h, l => by
    have := h.pos
    omega
  | k + 1, m + 1, a, .pt n, h, _ => h
  | k + 1, m + 1, a, .doing ac ts, h, l => by
    obtain ⟨dx, l1, t, rs, h1, h2, h3, h4, h5⟩ := h
    refine ⟨dx, l1, t, rs, h1, h2, h3, ?_, h5⟩
    have hl : (ptsL ts).length ≤ m + 1 := l
    have hm : 1 ≤ m := by
      have hge : ts.length ≤ (ptsL ts).length := by
        clear h1 h2 h3 h5 l hl
        induction h4 with
        | nil => exact Nat.le_refl _
        | cons h _ ih =>
          show _ + 1 ≤ List.length (_ ++ _)
          rw [List.length_append]
          have := TreeAt.pos h
          omega
      omega
    obtain ⟨m', rfl⟩ : ∃ m', m = m' + 1 := ⟨m - 1, by omega⟩
    exact paired_fewer (fun _ _ z => TreeAt.pos z) h4 (m := m') (by omega) _ fun a t z hz => TreeAt.fit z hz
theorem ref_at {rs : List Addr} {i : Nat} {x : V} (h : (rs.map V.ref)[i]? = some x) : ∃ r, rs[i]? = some r ∧ x = .ref r := by
  rw [List.getElem?_map] at h
  cases e : rs[i]? with
  | none => rw [e] at h; cases h
  | some r =>
    rw [e] at h
    exact ⟨r, rfl, (Option.some.inj h).symm⟩

section
variable {P : Program} {w : World} {K : PySem.W.Frag} {mg : Str → Option Value} {base : Heap} {cs : Cl}
/-- what a call of the method m upon the tree at a gives, at any place with that room -/
def Asked (P : Program) (w : World) (K : PySem.W.Frag) (mg : Str → Option Value) (base : Heap) (k : Nat) (m : Str) (a : Addr) (H : Hp) (Q : VK) : Prop :=
  ∃ C dx fs, H a = some (.ins C dx fs) ∧ fs.lookup m = none ∧ ∀ A, Room k A → MOk P w K mg base A C m [.ref a] H Q
theorem Asked.mono {j k : Nat} {m : Str} {a : Addr} {H : Hp} {Q : VK} (h : Asked P w K mg base j m a H Q) (hjk : j ≤ k) : Asked P w K mg base k m a H Q := by
  obtain ⟨C, dx, fs, e, l, q⟩ := h
  exact ⟨C, dx, fs, e, l, fun A hr => q A (hr.mono hjk)⟩
theorem asked_use {k : Nat} {m : Str} {a : Addr} {H : Hp} {Q : VK} {A : Around} (h : Asked P w K mg base k m a H Q) (hr : Room k A) :
    ∃ a' C dx fs, V.ref a = .ref a' ∧ H a' = some (.ins C dx fs) ∧ fs.lookup m = none ∧ MOk P w K mg base A C m [.ref a'] H Q := by
  obtain ⟨C, dx, fs, e, l, q⟩ := h
  exact ⟨a, C, dx, fs, rfl, e, l, q A hr⟩
theorem Txt.ownD (T : Txt K mg cs) (ac : Bool) : Own K (cD cs ac) := by
  cases ac
  · exact T.oBeside
  · exact T.oAcross
theorem Txt.nL (T : Txt K mg cs) (ac : Bool) : NoAttr K (cD cs ac) "laid" := by
  cases ac
  · exact T.nBesideLaid
  · exact T.nAcrossLaid
theorem Txt.nT (T : Txt K mg cs) (ac : Bool) : NoAttr K (cD cs ac) "trees" := by
  cases ac
  · exact T.nBesideTrees
  · exact T.nAcrossTrees
theorem Txt.mPts (T : Txt K mg cs) (ac : Bool) : MethT K (cD cs ac) "points" "Doing.points" sDoingPoints ["self"] := by
  cases ac
  · exact T.mBesidePoints
  · exact T.mAcrossPoints
theorem Txt.mLay (T : Txt K mg cs) (ac : Bool) : MethT K (cD cs ac) "lay" "Doing.lay" sDoingLay ["self", "trees"] := by
  cases ac
  · exact T.mBesideLay
  · exact T.mAcrossLay

/-! ### points() -/
def gotPts (H : Hp) (tr : Tr) (Q : VK) : Prop := ∀ (l : Addr) (H' : Hp), H l = none → Same H H' → H' l = some (.lst (vv tr.pts)) → Q (.ref l) H'
theorem scPPoints : FnScope ["self"] ["self"] (defScope sPointPoints) := ⟨rfl, rfl, rfl, by decide +kernel, rfl, by decide +kernel, by decide +kernel⟩
theorem scDPoints : FnScope ["self", "found", "tree"] ["self"] (defScope sDoingPoints) := ⟨rfl, rfl, rfl, by decide +kernel, rfl, by decide +kernel, by decide +kernel⟩
theorem points_pt (T : Txt K mg cs) {a : Addr} {H : Hp} {Q : VK} {n k : Nat} (h : TreeAt cs H (k + 1) a (.pt n)) (q : gotPts H (.pt n) Q) : Asked P w K mg base 1 "points" a H Q := by
  obtain ⟨⟨dx, e⟩, hn⟩ := h
  obtain ⟨f, fd, hm, F, hb⟩ := T.mPointPoints
  refine ⟨cs.Point, dx, _, e, fP_no _ (by decide +kernel), fun A hr => ⟨T.oPoint.cl, f, fd, ["self"], 1, fun vs H Q _ => ∃ (a dx : Addr) (n : Nat), vs = [.ref a] ∧ H a = some (.ins cs.Point dx (fP (n : Int))) ∧ gotPts H (.pt n) Q, hm, ?_, hr, hb, a, dx, n, rfl, e, q⟩⟩
  refine F.ok scPPoints (fun vs H Q E h => ?_) (fun cdv A outer s H vs Q E hr h => ?_)
  · obtain ⟨a, dx, n, rfl, _⟩ := h
    rfl
  · obtain ⟨a, dx, n, rfl, e, q⟩ := h
    refine ⟨_, pss_one (ps_ret (pe_lst (pa_cons (pe_fld (pv 0) rfl) pa_nil))), ?_⟩
    refine ⟨_, rfl, a, cs.Point, dx, _, _, rfl, e, T.oPoint.cl, T.nPointAt, fP_at _, by rw [sizeLine_eq]; show 1 ≤ _; decide, fun l hl => ?_⟩
    exact q l _ hl (fun b o z => by rw [upd_ne (ne_of_none z hl)]; exact z) upd_same
theorem points_all (T : Txt K mg cs) : ∀ (k : Nat) {a : Addr} {tr : Tr} {H : Hp} {Q : VK}, TreeAt cs H k a tr → tr.pts.length ≤ 1000 → gotPts H tr Q → Asked P w K mg base k "points" a H Q
  | 0, _, _, _, _, h, _, _ => h.elim
  | k + 1, a, .pt n, H, Q, h, _, q => (points_pt T h q).mono (by omega)
  | k + 1, a, .doing ac ts, H, Q, h, hl, q => by
    obtain ⟨dx, l, t, rs, e, ht, hlst, hp, h2⟩ := h
    obtain ⟨f, fd, hm, F, hb⟩ := T.mPts ac
    refine ⟨_, dx, _, e, fD_no _ _ (by decide +kernel) (by decide +kernel), fun A hr => ⟨(T.ownD ac).cl, f, fd, ["self"], k + 1,
      fun vs H Q _ => ∃ (a dx l t : Addr) (rs : List Addr) (ts : List Tr), vs = [.ref a] ∧ H a = some (.ins (cD cs ac) dx (fD l t)) ∧ H t = some (.tup (rs.map V.ref)) ∧ Paired (TreeAt cs H k) rs ts ∧ (ptsL ts).length ≤ 1000 ∧ gotPts H (.doing ac ts) Q,
      hm, ?_, hr, hb, a, dx, l, t, rs, ts, rfl, e, ht, hp, hl, q⟩⟩
    refine F.ok scDPoints (fun vs H Q E h => ?_) (fun cdv A outer s H vs Q E hr h => ?_)
    · obtain ⟨a, dx, l, t, rs, ts, rfl, _⟩ := h
      rfl
    · obtain ⟨a, dx, l, t, rs, ts, rfl, e, ht, hp, hl, q⟩ := h
      refine ⟨_, pss_cons (ps_set (i := 1) scDPoints.nd rfl (Or.inl rfl) (pe_lst pa_nil))
        (pss_cons (ps_for PassesOwn.never rfl (pi_tup (pe_fld (pv 0) rfl)) (pg_name (i := 2) scDPoints.nd rfl (Or.inl rfl))
          (pss_one (ps_expr (pe_bm PySem.F.plainAttrs_list PySem.F.slot_list_extend PySem.F.type_list_extend mt_extend (pv 1) (pa_cons (pe_md0 P w K mg base _ (pv 2)) pa_nil)))))
        (pss_one (ps_ret (pv 1)))), ?_⟩
      refine ⟨Nat.zero_le _, fun fl hfl => ?_⟩
      have s0 : Same H (upd H fl (.lst [])) := same_upd (Same.refl H) hfl
      refine ⟨_, rfl, a, _, dx, _, _, rfl, s0 _ _ e, (T.ownD ac).cl, T.nL ac, fD_laid _ _, t, rfl, ⟨_, SqT.of (s0 _ _ ht)⟩, for_tup (K := K) (a := t) (xs := rs.map V.ref) (fun i σ H1 => ∃ v2, σ = [some (.ref a), some (.ref fl), v2] ∧ H1 fl = some (.lst (vv (ptsL (ts.take i)))) ∧ Same H H1)
        ⟨_, rfl, upd_same, s0⟩ (fun i σ H1 _ ⟨_, _, _, s⟩ => SqT.of (s _ _ ht)) ?_ ?_⟩
      · rintro i x σ H1 hx ⟨v2, rfl, h1, s1⟩
        obtain ⟨r, hr1, rfl⟩ := ref_at hx
        obtain ⟨tr, htr, hT⟩ := paired_get hp hr1
        have b1 := ptsL_mem htr
        have b2 := ptsL_le ts (i + 1)
        rw [ptsL_take htr, List.length_append] at b2
        refine ⟨_, rfl, .inl ⟨rfl, _, SqL.of h1⟩, _, rfl, asked_use (points_all T k (hT.same s1) (by omega) fun l2 H2 hl2 s2 h2 => ?_) hr⟩
        refine ⟨fl, l2, _, _, rfl, rfl, s2 _ _ h1, h2, by rw [vv_len, vv_len, sizeLine_eq]; omega, ?_⟩
        exact ⟨_, rfl, by rw [upd_same, vv_app, ptsL_take htr], same_upd' (s1.trans s2) hfl⟩
      · rintro σ H1 ⟨v2, rfl, h1, s1⟩
        refine ⟨_, rfl, q fl H1 hfl s1 ?_⟩
        rw [List.length_map, paired_len hp, List.take_length] at h1
        exact h1

/-! ### what a tree is, asked -/
theorem TreeAt.kitTree (T : Txt K mg cs) : ∀ {k : Nat} {a : Addr} {tr : Tr} {H : Hp}, TreeAt cs H k a tr → ∃ C, TyOf K H (.ref a) (.ref C) ∧ PySem.W.kitOne K (.ref C) (.ref cs.Tree) = some true
  | 0, _, _, _, h => h.elim
  | k + 1, a, .pt n, H, h => by
    obtain ⟨⟨dx, e⟩, _⟩ := h
    exact ⟨_, T.oPoint.ty e, T.kPointTree⟩
  | k + 1, a, .doing ac ts, H, h => by
    obtain ⟨dx, l, t, rs, e, _⟩ := h
    refine ⟨_, (T.ownD ac).ty e, ?_⟩
    cases ac
    · exact T.kBesideTree
    · exact T.kAcrossTree

/-! ### Point(at) -/
def spPInit (cs : Cl) : Sp := fun vs H Q _ => ∃ (x dx : Addr) (n : Nat), vs = [.ref x, .int (n : Int)] ∧ H x = some (.ins cs.Point dx []) ∧ n < 10 ∧ Q .non (upd H x (.ins cs.Point dx (fP (n : Int))))
theorem scPInit : FnScope ["self", "at"] ["self", "at"] (defScope sPointInit) := ⟨rfl, rfl, rfl, by decide +kernel, rfl, by decide +kernel, by decide +kernel⟩
theorem mk_Point (T : Txt K mg cs) : Mak P w K mg base 2 "Point" cs.Point ["self", "at"] (spPInit cs) := by
  have CB : Cal P w K mg base 1 "is_below" ["value", "bound"] spBelow := ok_below T
  obtain ⟨tm, hmost⟩ := T.vMOST_POINTS
  obtain ⟨f, fd, hm, F, hb⟩ := T.mkPoint
  refine ⟨f, fd, T.gPoint, hm, hb, F.ok scPInit (fun vs H Q E h => ?_) (fun cdv A outer s H vs Q E hr h => ?_)⟩
  · obtain ⟨x, dx, n, rfl, _⟩ := h
    rfl
  · obtain ⟨x, dx, n, rfl, e, hn, q⟩ := h
    refine ⟨_, pss_cons (ps_if (pt_not (pt_val (pe_cal CB hr (by rfl) (pa_cons (pv 1) (pa_cons (pe_glob (v := .int 10) (by rfl) hmost ⟨tm, rfl⟩) pa_nil))))) pss_never pss_nil)
      (pss_one (ps_fld (pv 0) (pv 1) rfl)), ?_⟩
    refine ⟨_, rfl, _, _, rfl, _, rfl, ?_⟩
    have e1 : decide ((0 : Int) ≤ (n : Int)) = true := decide_eq_true (Int.natCast_nonneg _)
    have e2 : decide ((n : Int) < 10) = true := decide_eq_true (by omega)
    rw [e1, e2]
    refine iteF ?_
    exact ⟨_, rfl, _, rfl, x, _, dx, _, rfl, e, T.oPoint.cl, T.nPointAt, by decide, q⟩
/-- what is new of a heap -/
def fresh (H H' : Hp) : Hp := fun x => if (H x).isSome = true then none else H' x
theorem fresh_some {H H' : Hp} {x : Addr} {o : HO} (h : fresh H H' x = some o) : H x = none ∧ H' x = some o := by
  unfold fresh at h
  split at h
  · cases h
  · rename_i z
    exact ⟨Option.not_isSome_iff_eq_none.mp z, h⟩
theorem fresh_of {H H' : Hp} {x : Addr} {o : HO} (h : H x = none) (h' : H' x = some o) : fresh H H' x = some o := by
  unfold fresh
  rw [h]
  exact h'
theorem fresh_sub {H H' : Hp} : Same (fresh H H') H' := fun _ _ e => (fresh_some e).2
theorem fresh_le {H1 H2 H3 H4 : Hp} (a : ∀ b, H1 b = none → H3 b = none) (c : ∀ b o, H1 b = none → H2 b = some o → H4 b = some o) : Same (fresh H1 H2) (fresh H3 H4) := fun b o e => by
  obtain ⟨e1, e2⟩ := fresh_some e
  exact fresh_of (a b e1) (c b o e1 e2)
/-- a new tree, at new places -/
def gotTree (cs : Cl) (k : Nat) (H : Hp) (tr : Tr) (Q : VK) : Prop := ∀ (x : Addr) (H' : Hp), H x = none → Same H H' → TreeAt cs (fresh H H') k x tr → Q (.ref x) H'
theorem new_point {H : Hp} {Q : VK} {n : Nat} {E : XK} (hn : n < 10) (q : gotTree cs 1 H (.pt n) Q) : ∀ x dx, H x = none → H dx = none → dx ≠ x →
    spPInit cs ([V.ref x, V.int (n : Int)] ++ []) (upd (upd H dx (.own x)) x (.ins cs.Point dx [])) (fun v H2 => v = .non ∧ Q (.ref x) H2) E := by
  intro x dx hx hdx ne
  refine ⟨x, dx, n, rfl, upd_same, hn, rfl, q x _ hx ?_ ⟨⟨dx, fresh_of hx upd_same⟩, hn⟩⟩
  exact same_upd' (same_upd' (same_upd' (Same.refl H) hdx) hx) hx

/-! ### check_trees(trees) -/
def spCheckTrees (cs : Cl) : Sp := fun vs H Q _ => ∃ (l : Addr) (rs : List Addr) (ts : List Tr), vs = [.ref l] ∧ H l = some (.lst (rs.map V.ref)) ∧ Paired (TreeAt cs H 10) rs ts ∧ 2 ≤ ts.length ∧ (ptsL ts).Nodup ∧ (ptsL ts).length ≤ 10 ∧ ∀ H', Same H H' → Q .non H'
theorem scCheckTrees : FnScope ["trees", "points", "tree"] ["trees"] (defScope sCheckTrees) := ⟨rfl, rfl, rfl, by decide +kernel, rfl, by decide +kernel, by decide +kernel⟩
theorem ok_checkTrees (T : Txt K mg cs) : Cal P w K mg base 11 "check_trees" ["trees"] (spCheckTrees cs) := by
  refine T.checkTrees.cal scCheckTrees (fun vs H Q E h => ?_) (fun f cdv A outer s H vs Q E hr h => ?_)
  · obtain ⟨l, rs, ts, rfl, _⟩ := h
    rfl
  · obtain ⟨l, rs, ts, rfl, hl, hp, h2, hnd, h10, k⟩ := h
    have hu := hu_of hr
    have hu64 := hr.units
    refine ⟨_, (pss_cons (ps_if (PW.pt (pw_or (pt_not (pt_val (pe_callB (call_isinstK K) (by rfl) T.isinst PyProof.Rows.boot_isinstance (pa_cons (pv 0) (pa_cons (pe_bltn (v := .ty "list") (by rfl) T.list PyProof.Rows.boot_list rfl) pa_nil))))) (pw_or1 (pt_cmpR op_lt (pe_callB (call_lenK K) (by rfl) T.len PySem.boot_len (pa_cons (pv 0) pa_nil)) pe_int (nomark _)))))
      pss_never
      pss_nil)
      (pss_cons (ps_set (i := 1) scCheckTrees.nd rfl (Or.inl rfl) (pe_lst pa_nil))
      (pss_cons (ps_for PassesOwn.never rfl (pi_listK K (pv 0)) (pg_name (i := 2) scCheckTrees.nd rfl (Or.inl rfl))
      (pss_cons (ps_if (pt_not (pt_val (pe_callB (call_isC K) (by rfl) T.isinst PyProof.Rows.boot_isinstance (pa_cons (pv 2) (pa_cons (pe_glob (v := .ref cs.Tree) (by rfl) T.gTree rfl) pa_nil)))))
        pss_never
        pss_nil)
        (pss_one (ps_expr (pe_bm PySem.F.plainAttrs_list PySem.F.slot_list_extend PySem.F.type_list_extend mt_extend (pv 1) (pa_cons (pe_md0 P w K mg base _ (pv 2)) pa_nil))))))
      (pss_one (ps_if (pt_cmpR op_ne (pe_callB call_lenSet (by rfl) T.len PySem.boot_len (pa_cons (pe_callTy (call_setL rfl) (by rfl) T.set PyProof.Rows.boot_set (pa_cons (pv 1) pa_nil)) pa_nil)) (pe_callB (call_lenK K) (by rfl) T.len PySem.boot_len (pa_cons (pv 1) pa_nil)) (nomark _))
      pss_never
      pss_nil))))), ?_⟩
    have hrl := paired_len hp
    refine ⟨_, rfl, _, _, _, _, rfl, TyOf.lst hl, kit_ll K, true, rfl, iteF ?_⟩
    refine ⟨_, rfl, l, _, rfl, .inl (SqL.of hl), _, _, rfl, rfl, _, rfl, ?_⟩
    have e0 : decide (((rs.map V.ref).length : Int) < 2) = false := decide_eq_false (by rw [List.length_map]; omega)
    rw [e0]
    refine iteF ?_
    refine ⟨Nat.zero_le _, fun pl hpl => ?_⟩
    have s0 : Same H (upd H pl (.lst [])) := same_upd (Same.refl H) hpl
    have hlp : l ≠ pl := ne_of_none hl hpl
    refine ⟨_, rfl, l, rfl, ⟨_, SqL.of (s0 _ _ hl)⟩, for_list (K := K) (a := l) (xs := rs.map V.ref) (fun i σ H1 => ∃ v2, σ = [some (.ref l), some (.ref pl), v2] ∧ H1 pl = some (.lst (vv (ptsL (ts.take i)))) ∧ Same H H1)
      ⟨_, rfl, upd_same, s0⟩ (fun i σ H1 _ ⟨_, _, _, s⟩ => SqL.of (s _ _ hl)) ?_ ?_⟩
    · rintro i x σ H1 hx ⟨v2, rfl, h1, s1⟩
      obtain ⟨r, hr1, rfl⟩ := ref_at hx
      obtain ⟨tr, htr, hT⟩ := paired_get hp hr1
      obtain ⟨C, ty, kt⟩ := (hT.same s1).kitTree T
      have b1 := ptsL_mem htr
      have b2 := ptsL_le ts (i + 1)
      rw [ptsL_take htr, List.length_append] at b2
      refine ⟨_, rfl, _, _, _, _, rfl, ty, kt, true, rfl, iteF ?_⟩
      refine ⟨_, rfl, .inl ⟨rfl, _, SqL.of h1⟩, _, rfl, asked_use (points_all T 10 (hT.same s1) (by omega) fun l2 H2 hl2 s2 h2 => ?_) hr⟩
      refine ⟨pl, l2, _, _, rfl, rfl, s2 _ _ h1, h2, by rw [vv_len, vv_len, sizeLine_eq]; omega, ?_⟩
      exact ⟨_, rfl, by rw [upd_same, vv_app, ptsL_take htr], same_upd' (s1.trans s2) hpl⟩
    · rintro σ H1 ⟨v2, rfl, h1, s1⟩
      rw [List.length_map, hrl, List.take_length] at h1
      refine ⟨_, rfl, pl, iv (ptsL ts), rfl, SqL.of h1, by rw [iv_len]; unfold scanBound; omega, fun l2 hl2 => ?_⟩
      refine ⟨l2, _, _, rfl, upd_same, _, rfl, pl, vv (ptsL ts), rfl, .inl ((same_upd (Same.refl _) hl2).seq (SqL.of h1)), rfl, _, rfl, ?_⟩
      have nd' : (iv (ptsL ts)).Nodup := by
        unfold iv
        rw [List.nodup_iff_pairwise_ne, List.pairwise_map]
        exact List.Pairwise.imp (fun h z => h (by omega)) hnd
      rw [firstMet_nodup _ nd', iv_len, vv_len]
      refine iteNS rfl ?_
      exact k _ (same_upd s1 hl2)

/-! ### Beside(trees), Across(trees) -/
def spDInit (cs : Cl) (ac : Bool) : Sp := fun vs H Q _ => ∃ (x dx l : Addr) (rs : List Addr) (ts : List Tr), vs = [.ref x, .ref l] ∧ H x = some (.ins (cD cs ac) dx []) ∧ H l = some (.lst (rs.map V.ref)) ∧ Paired (TreeAt cs H 10) rs ts ∧ 2 ≤ ts.length ∧ (ptsL ts).Nodup ∧ (ptsL ts).length ≤ 10 ∧
  ∀ (l2 t : Addr) (H' : Hp), H l2 = none → H t = none → H' x = some (.ins (cD cs ac) dx (fD l2 t)) → H' l2 = some (.lst (rs.map V.ref)) → H' t = some (.tup (rs.map V.ref)) → (∀ b o, H b = some o → b ≠ x → H' b = some o) → Q .non H'
theorem scLay : FnScope ["self", "trees"] ["self", "trees"] (defScope sDoingLay) := ⟨rfl, rfl, rfl, by decide +kernel, rfl, by decide +kernel, by decide +kernel⟩
theorem lay_ok (T : Txt K mg cs) (ac : Bool) : ∃ f fd, Meth K (cD cs ac) "lay" f ∧ Binds K fd ["self", "trees"] [] ∧ FnOk P w K mg base CX0 12 f fd ["self", "trees"] (spDInit cs ac) := by
  have CCT : Cal P w K mg base 11 "check_trees" ["trees"] (spCheckTrees cs) := ok_checkTrees T
  obtain ⟨f, fd, hm, F, hb⟩ := T.mLay ac
  refine ⟨f, fd, hm, hb, F.ok scLay (fun vs H Q E h => ?_) (fun cdv A outer s H vs Q E hr h => ?_)⟩
  · obtain ⟨x, dx, l, rs, ts, rfl, _⟩ := h
    rfl
  · obtain ⟨x, dx, l, rs, ts, rfl, hx, hl, hp, h2, hnd, h10, k⟩ := h
    refine ⟨_, pss_cons (ps_expr (pe_cal CCT hr (by rfl) (pa_cons (pv 1) pa_nil)))
      (pss_cons (ps_fld (pv 0) (pe_callTy call_list_of (by rfl) T.list PyProof.Rows.boot_list (pa_cons (pv 1) pa_nil)) rfl)
      (pss_one (ps_fld (pv 0) (pe_callTy call_tuple_of (by rfl) T.tuple PyProof.Rows.boot_tuple (pa_cons (pv 1) pa_nil)) rfl))), ?_⟩
    refine ⟨_, rfl, l, rs, ts, rfl, hl, hp, h2, hnd, h10, fun H1 s1 => ?_⟩
    refine ⟨_, rfl, l, _, rfl, .inl (SqL.of (s1 _ _ hl)), fun l2 hl2 => ?_⟩
    have hx1 := s1 _ _ hx
    have hxl2 : x ≠ l2 := ne_of_none hx1 hl2
    refine ⟨_, rfl, x, _, dx, _, rfl, (by rw [upd_ne hxl2]; exact hx1), (T.ownD ac).cl, T.nT ac, by decide, ?_⟩
    have hll2 : l ≠ l2 := ne_of_none (s1 _ _ hl) hl2
    have hlx : l ≠ x := ne_of hl hx (by intro z; cases z)
    refine ⟨_, rfl, l, _, rfl, .inl ⟨SqL.of (by rw [upd_ne hlx, upd_ne hll2]; exact s1 _ _ hl), fun t ht => ?_⟩⟩
    have htx : t ≠ x := fun z => by
      rw [z, upd_same] at ht
      cases ht
    have htl2 : t ≠ l2 := fun z => by
      rw [z, upd_ne (Ne.symm hxl2), upd_same] at ht
      cases ht
    refine ⟨_, rfl, x, _, dx, _, rfl, (by rw [upd_ne (Ne.symm htx), upd_same]), (T.ownD ac).cl, T.nL ac, (by show 1 < 1000; decide), ?_⟩
    refine k l2 t _ (same_none s1 hl2) (same_none s1 (by rw [upd_ne htx, upd_ne htl2] at ht; exact ht)) upd_same ?_ ?_ fun b o hb hbx => ?_
    · rw [upd_ne (Ne.symm hxl2), upd_ne (Ne.symm htl2), upd_ne (Ne.symm hxl2), upd_same]
    · rw [upd_ne htx, upd_same]
    · have hb1 := s1 _ _ hb
      have hbl2 : b ≠ l2 := ne_of_none hb1 hl2
      have hbt : b ≠ t := fun z => by
        rw [z] at hb1
        rw [upd_ne htx, upd_ne htl2, hb1] at ht
        cases ht
      rw [upd_ne hbx, upd_ne hbt, upd_ne hbx, upd_ne hbl2]
      exact hb1
theorem scBInit : FnScope ["self", "trees"] ["self", "trees"] (defScope sBesideInit) := ⟨rfl, rfl, rfl, by decide +kernel, rfl, by decide +kernel, by decide +kernel⟩
theorem scAInit : FnScope ["self", "trees"] ["self", "trees"] (defScope sAcrossInit) := ⟨rfl, rfl, rfl, by decide +kernel, rfl, by decide +kernel, by decide +kernel⟩
theorem mk_Beside (T : Txt K mg cs) : Mak P w K mg base 13 "Beside" cs.Beside ["self", "trees"] (spDInit cs false) := by
  obtain ⟨f, fd, hm, F, hb⟩ := T.mkBeside
  refine ⟨f, fd, T.gBeside, hm, hb, F.ok scBInit (fun vs H Q E h => ?_) (fun cdv A outer s H vs Q E hr h => ?_)⟩
  · obtain ⟨x, dx, l, rs, ts, rfl, _⟩ := h
    rfl
  · obtain ⟨x, dx, l, rs, ts, rfl, hx, hl, hp, h2, hnd, h10, k⟩ := h
    obtain ⟨g, gd, gm, gb, G⟩ := lay_ok (P := P) (w := w) (base := base) T false
    refine ⟨_, pss_one (ps_expr (pe_md P w K mg base _ (pv 0) (pa_cons (pv 1) pa_nil))), ?_⟩
    exact ⟨_, rfl, x, _, dx, _, rfl, hx, rfl, T.oBeside.cl, g, gd, _, _, _, gm, G, hr, gb, _, rfl, x, dx, l, rs, ts, rfl, hx, hl, hp, h2, hnd, h10, k⟩
theorem mk_Across (T : Txt K mg cs) : Mak P w K mg base 13 "Across" cs.Across ["self", "trees"] (spDInit cs true) := by
  obtain ⟨f, fd, hm, F, hb⟩ := T.mkAcross
  refine ⟨f, fd, T.gAcross, hm, hb, F.ok scAInit (fun vs H Q E h => ?_) (fun cdv A outer s H vs Q E hr h => ?_)⟩
  · obtain ⟨x, dx, l, rs, ts, rfl, _⟩ := h
    rfl
  · obtain ⟨x, dx, l, rs, ts, rfl, hx, hl, hp, h2, hnd, h10, k⟩ := h
    obtain ⟨g, gd, gm, gb, G⟩ := lay_ok (P := P) (w := w) (base := base) T true
    refine ⟨_, pss_one (ps_expr (pe_md P w K mg base _ (pv 0) (pa_cons (pv 1) pa_nil))), ?_⟩
    exact ⟨_, rfl, x, _, dx, _, rfl, hx, rfl, T.oAcross.cl, g, gd, _, _, _, gm, G, hr, gb, _, rfl, x, dx, l, rs, ts, rfl, hx, hl, hp, h2, hnd, h10, k⟩
/-- a new doing of trees that stand in N, a part of the heap -/
theorem new_doing {H N : Hp} {Q : VK} {E : XK} {ac : Bool} {l : Addr} {rs : List Addr} {ts : List Tr} (hN : Same N H) (hl : H l = some (.lst (rs.map V.ref))) (hp : Paired (TreeAt cs N 10) rs ts) (h2 : 2 ≤ ts.length) (hnd : (ptsL ts).Nodup) (h10 : (ptsL ts).length ≤ 10)
    (q : ∀ (x : Addr) (H' : Hp), H x = none → Same H H' → (∀ M, Same N M → Same (fresh H H') M → TreeAt cs M 10 x (.doing ac ts)) → Q (.ref x) H') : ∀ x dx, H x = none → H dx = none → dx ≠ x →
    spDInit cs ac ([V.ref x, V.ref l] ++ []) (upd (upd H dx (.own x)) x (.ins (cD cs ac) dx [])) (fun v H2 => v = .non ∧ Q (.ref x) H2) E := by
  intro x dx hx hdx ne
  have s1 : Same H (upd (upd H dx (.own x)) x (.ins (cD cs ac) dx [])) := same_upd' (same_upd' (Same.refl H) hdx) hx
  refine ⟨x, dx, l, rs, ts, rfl, upd_same, s1 _ _ hl, paired_mono (fun _ _ z => z.same (hN.trans s1)) hp, h2, hnd, h10, fun l2 t H' n2 nt g1 g2 g3 g4 => ⟨rfl, ?_⟩⟩
  have s2 : Same H H' := fun b o e => g4 b o (s1 b o e) (ne_of_none e hx)
  refine q x H' hx s2 fun M m1 m2 => TreeAt.fit (k := 11) ⟨dx, l2, t, rs, m2 _ _ (fresh_of hx g1), m2 _ _ (fresh_of (same_none s1 nt) g3), m2 _ _ (fresh_of (same_none s1 n2) g2), paired_mono (fun _ _ z => z.same m1) hp, h2⟩ h10
end
end Bw

set_option Elab.async false
set_option linter.all false
set_option maxRecDepth 100000
set_option maxHeartbeats 4000000
/-! Rows: goes_on, longer_rows, row_in -/
namespace Bw
open PySem L2
section
variable {P : Program} {w : World} {K : PySem.W.Frag} {mg : Str → Option Value} {base : Heap} {cs : Cl}

/-! ### goes_on(web, row, point) -/
def spGoesOn (K : PySem.W.Frag) : Sp := fun vs H Q _ => ∃ (a b : Addr) (ws row : List Nat) (p : Nat), vs = [.ref a, .ref b, .int p] ∧ SqL K H a (vv ws) ∧ SqL K H b (vv row) ∧ p < ws.length ∧ row.length ≤ 1000 ∧ ∀ H', Same H H' → Q (.bl (goesM ws row p)) H'
theorem scGoesOn : FnScope ["web", "row", "point"] ["web", "row", "point"] (defScope sGoesOn) := ⟨rfl, rfl, rfl, by decide +kernel, rfl, by decide +kernel, by decide +kernel⟩
def cGoesOn1 : Scope := { kind := .function, names := [(Str.ofString ".0", .local), (Str.ofString "other", .local), (Str.ofString "tied", .globalImplicit), (Str.ofString "point", .free), (Str.ofString "web", .free)], isGenerator := false, isCoroutine := false, more := [] }
theorem cGoesOn1s : CScope ["web", "row", "point"] (defScope sGoesOn) cGoesOn1 ["web", "point", "other"] [0, 2] := ⟨rfl, by decide +kernel, by decide +kernel, by decide +kernel, by decide, by decide +kernel, by decide +kernel⟩
theorem fil_snoc (f : Nat → Bool) (row : List Nat) {i : Nat} (hi : i < row.length) (h : f (row.getD i 0) = true) : vv ((row.take i).filter f) ++ [V.int ((row.getD i 0 : Nat) : Int)] = vv ((row.take (i + 1)).filter f) := by
  rw [vv_snoc, List.take_succ, List.filter_append]
  rw [List.getD_eq_getElem?_getD, List.getElem?_eq_getElem hi] at h ⊢
  have e : (some row[i]).toList.filter f = [row[i]] := by simpa using h
  rw [e]
  rfl
theorem fil_skip (f : Nat → Bool) (row : List Nat) {i : Nat} (hi : i < row.length) (h : f (row.getD i 0) = false) : (row.take i).filter f = (row.take (i + 1)).filter f := by
  rw [List.take_succ, List.filter_append]
  rw [List.getD_eq_getElem?_getD, List.getElem?_eq_getElem hi] at h
  rw [List.getElem?_eq_getElem hi]
  have e : (some row[i]).toList.filter f = [] := by simpa using h
  rw [e, List.append_nil]
theorem cut_last (row : List Nat) : cutV (vv row) (some (-1)) none = vv (row.drop (row.length - 1)) := by
  unfold cutV
  have e1 : HT.sIx (vv row).length 0 (some (-1)) = row.length - 1 := by
    unfold HT.sIx
    dsimp only
    rw [if_pos (by decide), vv_len]
    omega
  rw [e1, HT.sIx_none, vv_len]
  have e2 : (vv row).drop (row.length - 1) = vv (row.drop (row.length - 1)) := by
    unfold vv iv
    rw [List.map_drop, List.map_drop]
  rw [e2]
  apply List.take_of_length_le
  rw [vv_len, List.length_drop]
  omega
theorem iv_dec (a b : List Nat) : decide (iv a = iv b) = decide (a = b) := by
  rw [decide_eq_decide]
  exact ⟨iv_inj, fun e => by rw [e]⟩
theorem ok_goesOn (T : Txt K mg cs) : Cal P w K mg base 2 "goes_on" ["web", "row", "point"] (spGoesOn K) := by
  have CTied : Cal P w K mg base 1 "tied" ["web", "one", "other"] (spTied K) := (ok_tied T).mono (by decide)
  refine T.goesOn.cal scGoesOn (fun vs H Q E h => ?_) (fun f cdv A outer s H vs Q E hr h => ?_)
  · obtain ⟨a, b, ws, row, p, rfl, _⟩ := h
    rfl
  · obtain ⟨a, b, ws, row, p, rfl, hw, hb, hp, hl, k⟩ := h
    have hu := hu_of hr
    have hu64 := hr.units
    refine ⟨_, (pss_one (ps_ret (pe_cmpR (op_eqL hu64) (pe_comp (sc := cGoesOn1) rfl (pi_listK K (pv 1)) cGoesOn1s (fun _ _ _ _ => (pg_name (i := 2) cGoesOn1s.nd rfl (Or.inl rfl))) (fun _ _ _ _ => (pif_one (pt_val (pe_cal CTied hr (by rfl) (pa_cons (pv 0) (pa_cons (pv 1) (pa_cons (pv 2) pa_nil))))))) (fun _ _ _ _ => (pv 2))) (pe_slice (sl_listK K) (pv 1) (po_some (pe_un un_neg pe_int)) po_none) (nomark _)))), ?_⟩
    refine ⟨_, rfl, b, rfl, ⟨_, hb⟩, comp_list (K := K) (a := b) (xs := vv row) (fun i ys H' => ys = vv ((row.take i).filter fun o => bit ws p o) ∧ H' = H) ⟨rfl, rfl⟩ (by rw [vv_len, sizeLine_eq]; omega) (fun i ys H' _ h => by rw [h.2]; exact hb) ?_ ?_⟩
    · rintro i x ys H' hx hlt ⟨rfl, rfl⟩ hyl hys
      obtain ⟨hi, rfl⟩ := vv_at hx
      refine gset ?_
      refine ⟨_, rfl, _, rfl, _, rfl, a, ws, p, row.getD i 0, rfl, hw, hp, _, rfl, ?_⟩
      refine ite2 (fun hb1 => ?_) (fun hb1 => ?_)
      · refine ⟨_, rfl, hys, Pn.snoc hlt hyl ⟨?_, rfl⟩⟩
        exact fil_snoc (fun o => bit ws p o) row hi hb1
      · refine Pn.mk hlt (by omega) ⟨?_, rfl⟩
        rw [fil_skip (fun o => bit ws p o) row hi (by simpa using hb1)]
    · rintro ys H' ⟨rfl, rfl⟩ hyl l hl1
      rw [vv_len, List.take_length]
      have s1 : Same H' (upd H' l (.lst (vv (row.filter fun o => bit ws p o)))) := same_upd (Same.refl _) hl1
      refine ⟨_, rfl, _, rfl, _, rfl, b, vv row, rfl, s1.seq hb, fun q hq => ?_⟩
      rw [show (-1 : Int) = -1 from rfl, cut_last]
      refine ⟨l, q, iv (row.filter fun o => bit ws p o), iv (row.drop (row.length - 1)), rfl, rfl, SqL.of ?_, SqL.of upd_same, ?_⟩
      · have hlq : l ≠ q := fun z => by
          rw [← z, upd_same] at hq
          cases hq
        rw [upd_ne hlq, upd_same]
        rfl
      · show Q (.bl (decide _)) _
        rw [iv_dec]
        exact k _ (same_upd s1 hq)

/-! ### longer_rows(web, rows) -/
/-- a list of lists -/
def RowsAt (H : Hp) (l : Addr) (rows : List (List Nat)) : Prop := ∃ rs : List Addr, H l = some (.lst (rs.map V.ref)) ∧ Paired (fun r ns => H r = some (.lst (vv ns))) rs rows
theorem PartsAt.rows {H H' : Hp} {l : Addr} {nss : List (List Nat)} (h : PartsAt H H' l nss) : RowsAt H' l nss := by
  obtain ⟨rs, h1, h2⟩ := h
  exact ⟨rs, h1, paired_mono (fun _ _ z => z.2.2) h2⟩
def spLongerRows (K : PySem.W.Frag) : Sp := fun vs H Q _ => ∃ (a g : Addr) (ws : List Nat) (rows : List (List Nat)), vs = [.ref a, .ref g] ∧ SqL K H a (vv ws) ∧ RowsAt H g rows ∧ ws.length ≤ 10 ∧ rows.length ≤ 10000 ∧ (∀ r ∈ rows, r.length ≤ 100) ∧
  ∀ (l : Addr) (H' : Hp), H l = none → Same H H' → PartsAt H H' l (longerM ws rows) → Q (.ref l) H'
theorem scLongerRows : FnScope ["web", "rows", "longer", "row"] ["web", "rows"] (defScope sLongerRows) := ⟨rfl, rfl, rfl, by decide +kernel, rfl, by decide +kernel, by decide +kernel⟩
def cLongerRows1 : Scope := { kind := .function, names := [(Str.ofString ".0", .local), (Str.ofString "point", .local), (Str.ofString "goes_on", .globalImplicit), (Str.ofString "row", .free), (Str.ofString "web", .free)], isGenerator := false, isCoroutine := false, more := [] }
theorem cLongerRows1s : CScope ["web", "rows", "longer", "row"] (defScope sLongerRows) cLongerRows1 ["web", "row", "point"] [0, 3] := ⟨rfl, by decide +kernel, by decide +kernel, by decide +kernel, by decide, by decide +kernel, by decide +kernel⟩
theorem longer_take {ws : List Nat} {rows : List (List Nat)} {i : Nat} {row : List Nat} (h : rows[i]? = some row) : longerM ws (rows.take (i + 1)) = longerM ws (rows.take i) ++ ((List.range ws.length).filter (goesM ws row)).map fun p => row ++ [p] := by
  unfold longerM
  rw [List.take_add_one, h, List.flatMap_append]
  show _ ++ ([row].flatMap _) = _
  rw [List.flatMap_cons, List.flatMap_nil, List.append_nil]
theorem paired_app {α β : Type} {F : α → β → Prop} : ∀ {l₁ : List α} {l₂ : List β} {m₁ : List α} {m₂ : List β}, Paired F l₁ l₂ → Paired F m₁ m₂ → Paired F (l₁ ++ m₁) (l₂ ++ m₂)
  | _, _, _, _, .nil, h => h
  | _, _, _, _, .cons a t, h => .cons a (paired_app t h)
theorem ok_longerRows (T : Txt K mg cs) : Cal P w K mg base 3 "longer_rows" ["web", "rows"] (spLongerRows K) := by
  have CGoesOn : Cal P w K mg base 2 "goes_on" ["web", "row", "point"] (spGoesOn K) := (ok_goesOn T).mono (by decide)
  refine T.longerRows.cal scLongerRows (fun vs H Q E h => ?_) (fun f cdv A outer s H vs Q E hr h => ?_)
  · obtain ⟨a, g, ws, rows, rfl, _⟩ := h
    rfl
  · obtain ⟨a, g, ws, rows, rfl, hw, hg, h10, hrn, hrl, k⟩ := h
    have hu := hu_of hr
    have hu64 := hr.units
    refine ⟨_, (pss_cons (ps_set (i := 2) scLongerRows.nd rfl (Or.inl rfl) (pe_lst pa_nil))
      (pss_cons (ps_for PassesOwn.never rfl (pi_listK K (pv 1)) (pg_name (i := 3) scLongerRows.nd rfl (Or.inr rfl))
      (pss_one (ps_expr (pe_bm PySem.F.plainAttrs_list PySem.F.slot_list_extend PySem.F.type_list_extend mt_extend (pv 2) (pa_cons (pe_comp (sc := cLongerRows1) rfl (pi_range1 rfl T.range (pa_cons (pe_callB (call_lenK K) (by rfl) T.len PySem.boot_len (pa_cons (pv 0) pa_nil)) pa_nil)) cLongerRows1s (fun _ _ _ _ => (pg_name (i := 2) cLongerRows1s.nd rfl (Or.inl rfl))) (fun _ _ _ _ => (pif_one (pt_val (pe_cal CGoesOn hr (by rfl) (pa_cons (pv 0) (pa_cons (pv 1) (pa_cons (pv 2) pa_nil))))))) (fun _ _ _ _ => (pe_op op_cat (pv 1) (pe_lst (pa_cons (pv 2) pa_nil))))) pa_nil)))))
      (pss_one (ps_ret (pv 2))))), ?_⟩
    obtain ⟨rs0, hg1, hg2⟩ := hg
    refine ⟨Nat.zero_le _, fun l hl => ?_⟩
    have s0 : Same H (upd H l (.lst [])) := same_upd (Same.refl H) hl
    have hbound : ∀ i, (longerM ws (rows.take i)).length ≤ 100000 := fun i => by
      have h1 := longer_len ws (rows.take i)
      have h2 : (rows.take i).length ≤ rows.length := by rw [List.length_take]; omega
      have h3 : ws.length * (rows.take i).length ≤ 10 * 10000 := Nat.mul_le_mul h10 (by omega)
      omega
    refine ⟨_, rfl, g, rfl, ⟨_, SqL.of (s0 _ _ hg1)⟩, for_list (K := K) (a := g) (xs := rs0.map V.ref) (fun i σ H1 => ∃ rs v, σ = [some (.ref a), some (.ref g), some (.ref l), v] ∧ H1 l = some (.lst (rs.map V.ref)) ∧ Paired (fun r ns => H r = none ∧ r ≠ l ∧ H1 r = some (.lst (vv ns))) rs (longerM ws (rows.take i)) ∧ Same H H1)
      ⟨[], _, rfl, upd_same, .nil, s0⟩ (fun i σ H1 _ ⟨_, _, _, _, _, s⟩ => SqL.of (s _ _ hg1)) ?_ ?_⟩
    · rintro i x σ H1 hx ⟨rs, v, rfl, h1l, h1p, s1⟩
      obtain ⟨r, hr1, rfl⟩ := ref_at hx
      obtain ⟨row, hrow, hT⟩ := paired_get hg2 hr1
      have hrow' := hrl row (List.mem_of_getElem? hrow)
      refine ⟨_, rfl, .inl ⟨rfl, _, SqL.of h1l⟩, _, rfl, a, vv ws, rfl, .inl (s1.seq hw), _, rfl, by rw [vv_len]; omega, by rw [vv_len]; omega, ?_⟩
      rw [vv_len, Int.toNat_natCast]
      refine comp_range (n := ws.length) (fun j ys H2 => ∃ rs', ys = rs'.map V.ref ∧ Paired (fun r' ns => H1 r' = none ∧ H2 r' = some (.lst (vv ns))) rs' (((List.range j).filter (goesM ws row)).map fun p => row ++ [p]) ∧ Same H1 H2) ⟨[], rfl, .nil, Same.refl _⟩ (by rw [sizeLine_eq]; omega) ?_ ?_
      · rintro j ys H2 hj ⟨rs', rfl, h2p, s2⟩ hyl hys
        have e0 : (0 : Int) + (j : Int) = ((j : Nat) : Int) := by omega
        rw [e0]
        refine gset ?_
        refine ⟨_, rfl, _, rfl, _, rfl, a, r, ws, row, j, rfl, (s1.trans s2).seq hw, SqL.of (s2 _ _ (s1 _ _ hT)), hj, by omega, fun H3 s3 => ⟨_, rfl, ?_⟩⟩
        refine ite2 (fun hb1 => ?_) (fun hb1 => ?_)
        · refine ⟨_, rfl, _, rfl, by rw [sizeLine_eq]; show 1 ≤ _; decide, fun q hq => ?_⟩
          have h3r : H3 r = some (.lst (vv row)) := s3 _ _ (s2 _ _ (s1 _ _ hT))
          have s4 := same_upd (o := .lst [V.int (j : Int)]) (Same.refl H3) hq
          refine ⟨r, q, vv row, [V.int (j : Int)], rfl, rfl, s4 _ _ h3r, upd_same, by rw [vv_len, sizeLine_eq]; show _ + 1 ≤ _; omega, fun p hp => ⟨hys, Pn.snoc hj hyl ⟨rs' ++ [p], by rw [List.map_append]; rfl, ?_, ?_⟩⟩⟩
          · rw [List.range_succ, List.filter_append, List.map_append]
            have ef : [j].filter (goesM ws row) = [j] := by simp [hb1]
            rw [ef]
            have s5 : Same H3 (upd (upd H3 q (.lst [V.int (j : Int)])) p (.lst (vv row ++ [V.int (j : Int)]))) := same_upd s4 hp
            refine paired_snoc (paired_mono (fun r' ns h => ⟨h.1, s5 _ _ (s3 _ _ h.2)⟩) h2p) ⟨same_none (s2.trans s3) (same_none s4 hp), by rw [upd_same, vv_snoc]⟩
          · exact (s2.trans s3).trans (same_upd s4 hp)
        · refine Pn.mk hj (by omega) ⟨rs', rfl, ?_, s2.trans s3⟩
          rw [List.range_succ, List.filter_append]
          have ef : [j].filter (goesM ws row) = [] := by simp [hb1]
          rw [ef, List.append_nil]
          exact paired_mono (fun r' ns h => ⟨h.1, s3 _ _ h.2⟩) h2p
      · rintro ys H2 ⟨rs', rfl, h2p, s2⟩ hyl q hq
        have s3 : Same H2 (upd H2 q (.lst (rs'.map V.ref))) := same_upd (Same.refl _) hq
        have h3l := s3 _ _ (s2 _ _ h1l)
        have b1 := hbound (i + 1)
        rw [longer_take hrow, List.length_append] at b1
        have b2 := paired_len h1p
        have b3 := paired_len h2p
        refine ⟨l, q, _, _, rfl, rfl, h3l, upd_same, by rw [List.length_map, List.length_map, sizeLine_eq]; omega, ?_⟩
        refine ⟨rs ++ rs', _, rfl, by rw [upd_same, List.map_append], ?_, same_upd' ((s1.trans s2).trans s3) hl⟩
        rw [longer_take hrow]
        have hne : ∀ r', H1 r' = none → r' ≠ l := fun r' h z => by
          rw [z, h1l] at h
          cases h
        refine paired_app (paired_mono (fun r' ns h => ⟨h.1, h.2.1, by rw [upd_ne h.2.1]; exact s3 _ _ (s2 _ _ h.2.2)⟩) h1p) (paired_mono (fun r' ns h => ⟨same_none s1 h.1, hne r' h.1, by rw [upd_ne (hne r' h.1)]; exact s3 _ _ h.2⟩) h2p)
    · rintro σ H1 ⟨rs, v, rfl, h1l, h1p, s1⟩
      refine ⟨_, rfl, k l H1 hl s1 ⟨rs, h1l, ?_⟩⟩
      rw [List.length_map, paired_len hg2, List.take_length] at h1p
      exact h1p

/-! ### row_in(web) -/
def spRowIn (K : PySem.W.Frag) : Sp := fun vs H Q _ => ∃ (a : Addr) (ws : List Nat), vs = [.ref a] ∧ SqL K H a (vv ws) ∧ ws.length ≤ 10 ∧
  (stepsM ws 4 = [] → ∀ H', Same H H' → Q .non H') ∧ ∀ (r : List Nat) (rest : List (List Nat)) (l : Addr) (H' : Hp), stepsM ws 4 = r :: rest → H l = none → Same H H' → H' l = some (.lst (vv r)) → Q (.ref l) H'
theorem scRowIn : FnScope ["web", "rows", "step"] ["web"] (defScope sRowIn) := ⟨rfl, rfl, rfl, by decide +kernel, rfl, by decide +kernel, by decide +kernel⟩
theorem ok_rowIn (T : Txt K mg cs) : Cal P w K mg base 4 "row_in" ["web"] (spRowIn K) := by
  have CLongerRows : Cal P w K mg base 3 "longer_rows" ["web", "rows"] (spLongerRows K) := (ok_longerRows T).mono (by decide)
  refine T.rowIn.cal scRowIn (fun vs H Q E h => ?_) (fun f cdv A outer s H vs Q E hr h => ?_)
  · obtain ⟨a, ws, rfl, _⟩ := h
    rfl
  · obtain ⟨a, ws, rfl, hw, h10, k1, k2⟩ := h
    have hu := hu_of hr
    have hu64 := hr.units
    refine ⟨_, (pss_cons (ps_set (i := 1) scRowIn.nd rfl (Or.inl rfl) (pe_lst (pa_cons (pe_lst pa_nil) pa_nil)))
      (pss_cons (ps_for PassesOwn.never rfl (pi_range1 rfl T.range (pa_cons pe_int pa_nil)) (pg_name (i := 2) scRowIn.nd rfl (Or.inl rfl))
      (pss_one (ps_set (i := 1) scRowIn.nd rfl (Or.inl rfl) (pe_cal CLongerRows hr (by rfl) (pa_cons (pv 0) (pa_cons (pv 1) pa_nil))))))
      (pss_one (ps_ret (pe_ifExp (pt_cmpR op_gt (pe_callB (call_lenK K) (by rfl) T.len PySem.boot_len (pa_cons (pv 1) pa_nil)) pe_int (nomark _)) (pe_ix (ix_listK K) (pv 1) pe_int (fun _ _ => rfl)) pe_non))))), ?_⟩
    refine ⟨Nat.zero_le _, fun e he => ?_⟩
    refine ⟨by rw [sizeLine_eq]; show 1 ≤ _; decide, fun g hg => ?_⟩
    have s0 : Same H (upd H e (.lst [])) := same_upd (Same.refl H) he
    have s1 : Same H (upd (upd H e (.lst [])) g (.lst [V.ref e])) := same_upd s0 hg
    refine ⟨4, rfl, by decide, by decide, ?_⟩
    refine for_range (n := 4) (fun i σ H1 => ∃ g v, σ = [some (.ref a), some (.ref g), v] ∧ PartsAt H H1 g (stepsM ws i) ∧ Same H H1) ⟨g, _, rfl, ⟨[e], upd_same, .cons ⟨he, ?_, ?_⟩ .nil⟩, s1⟩ ?_ ?_
    · intro z
      rw [← z, upd_same] at hg
      cases hg
    · have : e ≠ g := fun z => by
        rw [← z, upd_same] at hg
        cases hg
      rw [upd_ne this, upd_same]
      rfl
    · rintro i σ H1 hi ⟨g, v, rfl, hp, s1⟩
      have hlen := steps_len h10 i
      have h4 : 10 ^ i ≤ 10 ^ 3 := Nat.pow_le_pow_right (by decide) (by omega)
      refine ⟨_, rfl, _, rfl, a, g, ws, stepsM ws i, rfl, s1.seq hw, hp.rows, h10, by omega, fun r hr => ?_, fun l H2 hl s2 hp2 => ?_⟩
      · have := (steps_row i r hr).1
        omega
      · obtain ⟨rs, q1, q2⟩ := hp2
        exact ⟨l, _, rfl, ⟨rs, q1, paired_mono (fun _ _ z => ⟨same_none s1 z.1, z.2.1, z.2.2⟩) q2⟩, s1.trans s2⟩
    · rintro σ H1 ⟨g, v, rfl, ⟨rs, q1, q2⟩, s1⟩
      refine ⟨_, rfl, g, _, rfl, .inl (SqL.of q1), _, _, rfl, rfl, _, rfl, ?_⟩
      have hl := paired_len q2
      cases q : stepsM ws 4 with
      | nil =>
        rw [q] at hl q2
        have e0 : decide ((0 : Int) < ((rs.map V.ref).length : Int)) = false := decide_eq_false (by rw [List.length_map, hl]; decide)
        refine iteF' e0 ?_
        exact k1 q H1 s1
      | cons r rest =>
        rw [q] at hl q2
        cases q2 with
        | @cons r' _ rs' _ z z2 =>
          have e0 : decide ((0 : Int) < (((r' :: rs').map V.ref).length : Int)) = true := decide_eq_true (by rw [List.length_map, List.length_cons]; omega)
          refine iteT' e0 ?_
          exact ⟨_, rfl, g, _, _, _, rfl, rfl, SqL.of q1, atI_nat (j := 0) rfl, k2 r rest r' H1 q z.1 s1 z.2.2⟩
end
end Bw

set_option Elab.async false
set_option linter.all false
set_option maxRecDepth 100000
set_option maxHeartbeats 4000000
/-! The tree that tells a plain web: tree_among, trees_among -/
namespace Bw
open PySem L2
section
variable {P : Program} {w : World} {K : PySem.W.Frag} {mg : Str → Option Value} {base : Heap} {cs : Cl}
def spTreeAmong (cs : Cl) (f : Nat) : Sp := fun vs H Q _ => ∃ (a b : Addr) (ws pts : List Nat), vs = [.ref a, .ref b] ∧ H a = some (.lst (vv ws)) ∧ Web ws ∧ H b = some (.lst (vv pts)) ∧ GoodP ws pts ∧ pts.length ≤ f ∧ gotTree cs 10 H (treeM f ws pts) Q
/-- a list of trees -/
def TreesAt (cs : Cl) (N H : Hp) (l : Addr) (ts : List Tr) : Prop := ∃ rs : List Addr, H l = some (.lst (rs.map V.ref)) ∧ Paired (TreeAt cs N 10) rs ts
def spTreesAmong (cs : Cl) (f : Nat) : Sp := fun vs H Q _ => ∃ (a b g : Addr) (ws pts : List Nat) (gs : List (List Nat)), vs = [.ref a, .ref b, .ref g] ∧ H a = some (.lst (vv ws)) ∧ Web ws ∧ H b = some (.lst (vv pts)) ∧ GoodP ws pts ∧ RowsAt H g gs ∧ Groups pts gs ∧ pts.length ≤ f + 1 ∧
  ∀ (l : Addr) (H' : Hp), H l = none → Same H H' → TreesAt cs (fresh H H') H' l (gs.map fun g => treeM f ws (atM pts g)) → Q (.ref l) H'
theorem scTreesAmong : FnScope ["web", "points", "groups", "trees", "group"] ["web", "points", "groups"] (defScope sTreesAmong) := ⟨rfl, rfl, rfl, by decide +kernel, rfl, by decide +kernel, by decide +kernel⟩
def cTreesAmong1 : Scope := { kind := .function, names := [(Str.ofString ".0", .local), (Str.ofString "place", .local), (Str.ofString "points", .free)], isGenerator := false, isCoroutine := false, more := [] }
theorem cTreesAmong1s : CScope ["web", "points", "groups", "trees", "group"] (defScope sTreesAmong) cTreesAmong1 ["points", "place"] [1] := ⟨rfl, by decide +kernel, by decide +kernel, by decide +kernel, by decide, by decide +kernel, by decide +kernel⟩
theorem scTreeAmong : FnScope ["web", "points", "alone", "groups"] ["web", "points"] (defScope sTreeAmong) := ⟨rfl, rfl, rfl, by decide +kernel, rfl, by decide +kernel, by decide +kernel⟩
theorem trees_step (T : Txt K mg cs) (n : Nat) (CTreeAmong : Cal P w K mg base (2 * n + 15) "tree_among" ["web", "points"] (spTreeAmong cs n)) : Cal P w K mg base (2 * n + 16) "trees_among" ["web", "points", "groups"] (spTreesAmong cs n) := by
  refine T.treesAmong.cal scTreesAmong (fun vs H Q E h => ?_) (fun f cdv A outer s H vs Q E hr h => ?_)
  · obtain ⟨a, b, g, ws, pts, gs, rfl, _⟩ := h
    rfl
  · obtain ⟨a, b, g, ws, pts, gs, rfl, ha, W, hb, G, hg, gr, hf, k⟩ := h
    obtain ⟨rs0, hg1, hg2⟩ := hg
    have hpl := G.len W
    refine ⟨_, (pss_cons (ps_set (i := 3) scTreesAmong.nd rfl (Or.inl rfl) (pe_lst pa_nil))
      (pss_cons (ps_for PassesOwn.never rfl (pi_listK K (pv 2)) (pg_name (i := 4) scTreesAmong.nd rfl (Or.inl rfl))
      (pss_one (ps_expr (pe_bm PySem.F.plainAttrs_list PySem.F.slot_list_append PySem.F.type_list_append mt_append (pv 3) (pa_cons (pe_cal CTreeAmong hr (by rfl) (pa_cons (pv 0) (pa_cons (pe_comp (sc := cTreesAmong1) rfl (pi_listK K (pv 4)) cTreesAmong1s (fun _ _ _ _ => (pg_name (i := 1) cTreesAmong1s.nd rfl (Or.inl rfl))) (fun _ _ _ _ => pif_nil) (fun _ _ _ _ => (pe_ix (ix_listK K) (pv 0) (pv 1) (fun _ _ => rfl)))) pa_nil))) pa_nil)))))
      (pss_one (ps_ret (pv 3))))), ?_⟩
    refine ⟨Nat.zero_le _, fun l hl => ?_⟩
    have s0 : Same H (upd H l (.lst [])) := same_upd (Same.refl H) hl
    refine ⟨_, rfl, g, rfl, ⟨_, SqL.of (s0 _ _ hg1)⟩, for_list (K := K) (a := g) (xs := rs0.map V.ref) (fun i σ H1 => ∃ rs v, σ = [some (.ref a), some (.ref b), some (.ref g), some (.ref l), v] ∧ H1 l = some (.lst (rs.map V.ref)) ∧ Paired (TreeAt cs (fresh (upd H l (.lst [])) H1) 10) rs ((gs.take i).map fun g => treeM n ws (atM pts g)) ∧ Same H H1)
      ⟨[], _, rfl, upd_same, .nil, s0⟩ (fun i σ H1 _ ⟨_, _, _, _, _, s⟩ => SqL.of (s _ _ hg1)) ?_ ?_⟩
    · rintro i x σ H1 hx ⟨rs, v, rfl, h1l, h1p, s1⟩
      obtain ⟨r, hr1, rfl⟩ := ref_at hx
      obtain ⟨grp, hgrp, hT⟩ := paired_get hg2 hr1
      have hm := List.mem_of_getElem? hgrp
      have gsm := gr.small grp hm
      have hi : i < gs.length := (List.getElem?_eq_some_iff.mp hgrp).1
      refine ⟨_, rfl, .inl ⟨rfl, _, SqL.of h1l⟩, _, rfl, _, rfl, r, rfl, ⟨_, SqL.of (s1 _ _ hT)⟩, comp_list (K := K) (a := r) (xs := vv grp) (fun j ys H2 => ys = vv (atM pts (grp.take j)) ∧ H2 = H1) ⟨rfl, rfl⟩ (by rw [vv_len, sizeLine_eq]; omega) (fun j ys H2 _ h => by rw [h.2]; exact SqL.of (s1 _ _ hT)) ?_ ?_⟩
      · rintro j y ys H2 hy hlt ⟨rfl, rfl⟩ hyl hys
        obtain ⟨hj, rfl⟩ := vv_at hy
        have hjl : grp.getD j 0 < pts.length := gr.lt grp hm _ (getD_mem hj)
        refine gset ?_
        refine yes ?_
        refine iteT ?_
        refine ⟨_, rfl, _, rfl, b, _, _, _, rfl, rfl, SqL.of (s1 _ _ hb), atI_nat (vv_get hjl), hys, Pn.snoc hlt hyl ⟨?_, rfl⟩⟩
        exact map_take_snoc (fun i => pts.getD i 0) grp hj
      · rintro ys H2 ⟨rfl, rfl⟩ hyl q hq
        rw [vv_len, List.take_length]
        have s2 : Same H2 (upd H2 q (.lst (vv (atM pts grp)))) := same_upd (Same.refl _) hq
        have G2 := G.sub (gr.ne grp hm) (gr.srt grp hm) (gr.lt grp hm)
        refine ⟨a, q, ws, atM pts grp, rfl, s2 _ _ (s1 _ _ ha), W, upd_same, G2, by unfold atM; rw [List.length_map]; omega, fun x H3 hx s3 hT3 => ?_⟩
        have h3l := s3 _ _ (s2 _ _ h1l)
        have hlen := paired_len h1p
        rw [List.length_map, List.length_take] at hlen
        refine ⟨l, _, _, rfl, rfl, h3l, by rw [List.length_map, sizeLine_eq]; have := gr.many; omega, ?_⟩
        have hxl : x ≠ l := fun z => by
          have := s2 _ _ h1l
          rw [z, this] at hx
          cases hx
        refine ⟨rs ++ [x], _, rfl, by rw [upd_same, List.map_append]; rfl, ?_, same_upd' ((s1.trans s2).trans s3) hl⟩
        have em : (gs.take (i + 1)).map (fun g => treeM n ws (atM pts g)) = (gs.take i).map (fun g => treeM n ws (atM pts g)) ++ [treeM n ws (atM pts grp)] := by
          rw [List.take_add_one, hgrp, List.map_append]
          rfl
        rw [em]
        have nl : ∀ b, upd H l (.lst []) b = none → b ≠ l := fun b e z => by
          rw [z, upd_same] at e
          cases e
        have nq : ∀ b, upd H2 q (.lst (vv (atM pts grp))) b = none → b ≠ l := fun b e z => by
          have := s2 _ _ h1l
          rw [z, this] at e
          cases e
        have A1 : Same (fresh (upd H l (.lst [])) H2) (fresh (upd H l (.lst [])) (upd H3 l (.lst (rs.map V.ref ++ [V.ref x])))) := fresh_le (fun b e => e) fun b o e e2 => by
          rw [upd_ne (nl b e)]
          exact s3 _ _ (s2 _ _ e2)
        have A2 : Same (fresh (upd H2 q (.lst (vv (atM pts grp)))) H3) (fresh (upd H l (.lst [])) (upd H3 l (.lst (rs.map V.ref ++ [V.ref x])))) := fresh_le (fun b e => by
          rw [upd_ne (nq b e)]
          exact same_none (s1.trans s2) e) fun b o e e2 => by
          rw [upd_ne (nq b e)]
          exact e2
        exact paired_snoc (paired_mono (fun r' t h => h.same A1) h1p) (hT3.same A2)
    · rintro σ H1 ⟨rs, v, rfl, h1l, h1p, s1⟩
      refine ⟨_, rfl, k l H1 hl s1 ⟨rs, h1l, ?_⟩⟩
      rw [List.length_map, paired_len hg2, List.take_length] at h1p
      refine paired_mono (fun r' t h => h.same (fresh_le (fun b e => ?_) fun b o e e2 => e2)) h1p
      by_cases z : b = l
      · rw [z]; exact hl
      · rw [upd_ne z] at e; exact e
theorem tree_all (T : Txt K mg cs) : ∀ n : Nat, Cal P w K mg base (2 * n + 15) "tree_among" ["web", "points"] (spTreeAmong cs n)
  | 0 => by
    refine T.treeAmong.cal scTreeAmong (fun vs H Q E h => ?_) (fun f cdv A outer s H vs Q E hr h => ?_)
    · obtain ⟨a, b, ws, pts, rfl, _⟩ := h
      rfl
    · obtain ⟨a, b, ws, pts, rfl, ha, W, hb, G, hf, k⟩ := h
      exact absurd (List.length_pos_iff.mpr G.ne) (by omega)
  | n + 1 => by
    have CTreesAmong : Cal P w K mg base (2 * n + 16) "trees_among" ["web", "points", "groups"] (spTreesAmong cs n) := trees_step T n (tree_all T n)
    have CAmong : Cal P w K mg base (2 * n + 16) "among" ["web", "points"] spAmong := (ok_among T).mono (by omega)
    have CParts : Cal P w K mg base (2 * n + 16) "parts" ["web"] spParts := (ok_parts T).mono (by omega)
    have CTurned : Cal P w K mg base (2 * n + 16) "turned" ["web"] spTurned := (ok_turned T).mono (by omega)
    have MPoint := mk_Point (P := P) (w := w) (base := base) T
    have MBeside := mk_Beside (P := P) (w := w) (base := base) T
    have MAcross := mk_Across (P := P) (w := w) (base := base) T
    refine FnT.cal (k := 2 * n + 16) T.treeAmong scTreeAmong (fun vs H Q E h => ?_) (fun f cdv A outer s H vs Q E hr h => ?_)
    · obtain ⟨a, b, ws, pts, rfl, _⟩ := h
      rfl
    · obtain ⟨a, b, ws, pts, rfl, ha, W, hb, G, hf, k⟩ := h
      have hpl := G.len W
      have hp0 := List.length_pos_iff.mpr G.ne
      have hbw := SqL.of (K := K) hb
      refine ⟨_, (pss_cons (ps_if (pt_cmpR op_eq (pe_callB (call_lenK K) (by rfl) T.len PySem.boot_len (pa_cons (pv 1) pa_nil)) pe_int (nomark _))
      (pss_one (ps_ret (pe_mk MPoint (hr.mono (by omega)) (by rfl) (pa_cons (pe_ix (ix_listK K) (pv 1) pe_int (fun _ _ => rfl)) pa_nil))))
      pss_nil)
      (pss_cons (ps_set (i := 2) scTreeAmong.nd rfl (Or.inl rfl) (pe_cal CAmong hr (by rfl) (pa_cons (pv 0) (pa_cons (pv 1) pa_nil))))
      (pss_cons (ps_set (i := 3) scTreeAmong.nd rfl (Or.inl rfl) (pe_cal CParts hr (by rfl) (pa_cons (pv 2) pa_nil)))
      (pss_cons (ps_if (pt_cmpR op_gt (pe_callB (call_lenK K) (by rfl) T.len PySem.boot_len (pa_cons (pv 3) pa_nil)) pe_int (nomark _))
      (pss_one (ps_ret (pe_mk MBeside (hr.mono (by omega)) (by rfl) (pa_cons (pe_cal CTreesAmong hr (by rfl) (pa_cons (pv 0) (pa_cons (pv 1) (pa_cons (pv 3) pa_nil)))) pa_nil))))
      pss_nil)
      (pss_one (ps_ret (pe_mk MAcross (hr.mono (by omega)) (by rfl) (pa_cons (pe_cal CTreesAmong hr (by rfl) (pa_cons (pv 0) (pa_cons (pv 1) (pa_cons (pe_cal CParts hr (by rfl) (pa_cons (pe_cal CTurned hr (by rfl) (pa_cons (pv 2) pa_nil)) pa_nil)) pa_nil)))) pa_nil)))))))), ?_⟩
      refine ⟨_, rfl, b, _, rfl, .inl hbw, rfl, _, rfl, ?_⟩
      rw [vv_len]
      by_cases h1 : pts.length = 1
      · refine iteT' (decide_eq_true (by rw [h1]; rfl)) ?_
        obtain ⟨p, rfl⟩ : ∃ p, pts = [p] := by
          match pts, h1 with
          | [p], _ => exact ⟨p, rfl⟩
        have hp10 : p < 10 := Nat.lt_of_lt_of_le (G.lt p (.head _)) W.le
        refine ⟨_, rfl, b, _, _, _, rfl, rfl, hbw, atI_nat (j := 0) rfl, new_point hp10 fun x H' hx sm hT => k x H' hx sm ?_⟩
        exact hT.more (by decide)
      · refine iteF' (decide_eq_false fun z => h1 (by have := V.int.inj z; omega)) ?_
        refine ⟨_, rfl, _, rfl, a, b, ws, pts, rfl, ha, W, hb, G.ne, G.nd, G.lt, fun al H1 hal s1 h1a => ?_⟩
        have WA := G.web W
        refine ⟨_, rfl, al, _, rfl, h1a, WA, fun gl H2 hgl s2 hgs => ?_⟩
        have gr := G.groups W h1
        obtain ⟨rs2, hg1, hg2⟩ := id hgs
        have hgl2 := paired_len hg2
        have e10 := (groups_pts W G hf h1).length_eq
        have ndp := (groups_pts W G hf h1).nodup_iff.mpr G.nd
        have key : ∀ (H3 : Hp) (l : Addr), Same H H3 → TreesAt cs (fresh H H3) H3 l ((groupsM ws pts).2.map fun g => treeM n ws (atM pts g)) → ∀ (ac : Bool), ac = (groupsM ws pts).1 → ∀ x dx, H3 x = none → H3 dx = none → dx ≠ x →
            spDInit cs ac ([V.ref x, V.ref l] ++ []) (upd (upd H3 dx (.own x)) x (.ins (cD cs ac) dx [])) (fun v H2 => v = .non ∧ Q (.ref x) H2) E0 := by
          intro H3 l s3 ht ac hac
          obtain ⟨rs, t1, t2⟩ := ht
          refine new_doing (N := fresh H H3) fresh_sub t1 t2 (by rw [List.length_map]; exact gr.two) ndp (by omega) fun x H' hx s4 hM => ?_
          refine k x H' (same_none s3 hx) (s3.trans s4) ?_
          have := hM (fresh H H') (fresh_le (fun b e => e) fun b o e e2 => s4 _ _ e2) (fresh_le (fun b e => same_none s3 e) fun b o e e2 => e2)
          unfold treeM
          rw [if_neg h1, ← hac]
          exact this
        refine ⟨_, rfl, gl, _, rfl, .inl (SqL.of hg1), _, _, rfl, rfl, _, rfl, ?_⟩
        rw [List.length_map, hgl2]
        by_cases h2 : 1 < (partsM (amongM ws pts)).length
        · have eg : groupsM ws pts = (false, partsM (amongM ws pts)) := by unfold groupsM; rw [if_pos h2]
          refine iteT' (decide_eq_true (by omega)) ?_
          refine ⟨_, rfl, _, rfl, _, rfl, a, b, gl, ws, pts, _, rfl, s2 _ _ (s1 _ _ ha), W, s2 _ _ (s1 _ _ hb), G, hgs.rows, by rw [eg] at gr; exact gr, hf, fun l H3 hl s3 ht => ?_⟩
          have s13 : Same H H2 := s1.trans s2
          refine key H3 l (s13.trans s3) ?_ false (by rw [eg])
          rw [eg]
          obtain ⟨rs, t1, t2⟩ := ht
          exact ⟨rs, t1, paired_mono (fun _ _ z => z.same (fresh_le (fun b e => same_none s13 e) fun b o e e2 => e2)) t2⟩
        · have eg : groupsM ws pts = (true, partsM (turnedM (amongM ws pts))) := by unfold groupsM; rw [if_neg h2]
          refine iteF' (decide_eq_false (by omega)) ?_
          refine ⟨_, rfl, _, rfl, _, rfl, al, _, rfl, s2 _ _ h1a, WA, fun tl H3 htl s3 h3t => ?_⟩
          refine ⟨tl, _, rfl, h3t, WA.turned, fun g2 H4 hg4 s4 hgs4 => ?_⟩
          have s14 : Same H H4 := ((s1.trans s2).trans s3).trans s4
          refine ⟨a, b, g2, ws, pts, _, rfl, s14 _ _ ha, W, s14 _ _ hb, G, hgs4.rows, by rw [eg] at gr; exact gr, hf, fun l H5 hl s5 ht => ?_⟩
          refine key H5 l (s14.trans s5) ?_ true (by rw [eg])
          rw [eg]
          obtain ⟨rs, t1, t2⟩ := ht
          exact ⟨rs, t1, paired_mono (fun _ _ z => z.same (fresh_le (fun b e => same_none s14 e) fun b o e e2 => e2)) t2⟩
end
end Bw

set_option Elab.async false
set_option linter.all false
set_option maxRecDepth 100000
set_option maxHeartbeats 4000000
/-! telling(web) -/
namespace Bw
open PySem L2
section
variable {P : Program} {w : World} {K : PySem.W.Frag} {mg : Str → Option Value} {base : Heap} {cs : Cl}
def fM (v : V) : List (Str × V) := putF "tree" v []
def fR (l : Addr) : List (Str × V) := putF "four" (.ref l) []
def spMadeInit (cs : Cl) : Sp := fun vs H Q _ => ∃ (x dx : Addr) (v : V), vs = [.ref x, v] ∧ H x = some (.ins cs.Made dx []) ∧ Q .non (upd H x (.ins cs.Made dx (fM v)))
theorem scMadeInit : FnScope ["self", "tree"] ["self", "tree"] (defScope sMadeInit) := ⟨rfl, rfl, rfl, by decide +kernel, rfl, by decide +kernel, by decide +kernel⟩
theorem mk_Made (T : Txt K mg cs) : Mak P w K mg base 1 "Made" cs.Made ["self", "tree"] (spMadeInit cs) := by
  obtain ⟨f, fd, hm, F, hb⟩ := T.mkMade
  refine ⟨f, fd, T.gMade, hm, hb, F.ok scMadeInit (fun vs H Q E h => ?_) (fun cdv A outer s H vs Q E hr h => ?_)⟩
  · obtain ⟨x, dx, v, rfl, _⟩ := h
    rfl
  · obtain ⟨x, dx, v, rfl, e, q⟩ := h
    refine ⟨_, pss_one (ps_fld (pv 0) (pv 1) rfl), ?_⟩
    exact ⟨_, rfl, _, rfl, x, _, dx, _, rfl, e, T.oMade.cl, T.nMadeTree, by decide, q⟩
def spRowInit (K : PySem.W.Frag) (cs : Cl) : Sp := fun vs H Q _ => ∃ (x dx l : Addr) (xs : List V), vs = [.ref x, .ref l] ∧ H x = some (.ins cs.Row dx []) ∧ SqL K H l xs ∧ ∀ l2, H l2 = none → Q .non (upd (upd H l2 (.lst xs)) x (.ins cs.Row dx (fR l2)))
theorem scRowInit : FnScope ["self", "four"] ["self", "four"] (defScope sRowInit) := ⟨rfl, rfl, rfl, by decide +kernel, rfl, by decide +kernel, by decide +kernel⟩
theorem mk_Row (T : Txt K mg cs) : Mak P w K mg base 1 "Row" cs.Row ["self", "four"] (spRowInit K cs) := by
  obtain ⟨f, fd, hm, F, hb⟩ := T.mkRow
  refine ⟨f, fd, T.gRow, hm, hb, F.ok scRowInit (fun vs H Q E h => ?_) (fun cdv A outer s H vs Q E hr h => ?_)⟩
  · obtain ⟨x, dx, l, xs, rfl, _⟩ := h
    rfl
  · obtain ⟨x, dx, l, xs, rfl, e, hl, q⟩ := h
    refine ⟨_, pss_one (ps_fld (pv 0) (pe_callTy call_list_of (by rfl) T.list PyProof.Rows.boot_list (pa_cons (pv 1) pa_nil)) rfl), ?_⟩
    refine ⟨_, rfl, l, xs, rfl, .inl hl, fun l2 hl2 => ?_⟩
    have hxl : x ≠ l2 := ne_of_none e hl2
    exact ⟨_, rfl, x, _, dx, _, rfl, (by rw [upd_ne hxl]; exact e), T.oRow.cl, T.nRowFour, by decide, q l2 hl2⟩

/-! ### telling(web) -/
/-- a Made of the tree that tells the web, or a Row -/
def Told (cs : Cl) (ws : List Nat) (H : Hp) (Q : VK) : Prop :=
  (NoRow (bit ws) (List.range ws.length) → ∀ (x dx tx : Addr) (H' : Hp), H x = none → Same H H' → H' x = some (.ins cs.Made dx (fM (.ref tx))) → TreeAt cs (fresh H H') 10 tx (treeM 10 ws (List.range ws.length)) → Q (.ref x) H') ∧
  ∀ (r : List Nat) (rest : List (List Nat)) (x dx l : Addr) (H' : Hp), stepsM ws 4 = r :: rest → H x = none → H l = none → Same H H' → H' x = some (.ins cs.Row dx (fR l)) → H' l = some (.lst (vv r)) → Q (.ref x) H'
def spTelling (cs : Cl) : Sp := fun vs H Q _ => ∃ (a : Addr) (ws : List Nat), vs = [.ref a] ∧ H a = some (.lst (vv ws)) ∧ Web ws ∧ Told cs ws H Q
theorem scTelling : FnScope ["web", "four"] ["web"] (defScope sTelling) := ⟨rfl, rfl, rfl, by decide +kernel, rfl, by decide +kernel, by decide +kernel⟩
theorem ok_treeAmong (T : Txt K mg cs) : Cal P w K mg base 35 "tree_among" ["web", "points"] (spTreeAmong cs 10) := by
  exact tree_all T 10
theorem ok_telling (T : Txt K mg cs) : Cal P w K mg base 36 "telling" ["web"] (spTelling cs) := by
  have CCheckWeb : Cal P w K mg base 35 "check_web" ["web"] spCheckWeb := (ok_checkWeb T).mono (by decide)
  have CRowIn : Cal P w K mg base 35 "row_in" ["web"] (spRowIn K) := (ok_rowIn T).mono (by decide)
  have MRow := mk_Row (P := P) (w := w) (base := base) T
  have MMade := mk_Made (P := P) (w := w) (base := base) T
  have CTreeAmong : Cal P w K mg base 35 "tree_among" ["web", "points"] (spTreeAmong cs 10) := (ok_treeAmong T).mono (by decide)
  refine T.telling.cal scTelling (fun vs H Q E h => ?_) (fun f cdv A outer s H vs Q E hr h => ?_)
  · obtain ⟨a, ws, rfl, _⟩ := h
    rfl
  · obtain ⟨a, ws, rfl, ha, W, k1, k2⟩ := h
    have hu := hu_of hr
    have hu64 := hr.units
    refine ⟨_, (pss_cons (ps_expr (pe_cal CCheckWeb hr (by rfl) (pa_cons (pv 0) pa_nil)))
      (pss_cons (ps_set (i := 1) scTelling.nd rfl (Or.inl rfl) (pe_cal CRowIn hr (by rfl) (pa_cons (pv 0) pa_nil)))
      (pss_cons (ps_if (pt_cmp (pc_isN (pv 1)))
      (pss_one (ps_ret (pe_mk MMade (hr.mono (by omega)) (by rfl) (pa_cons (pe_cal CTreeAmong hr (by rfl) (pa_cons (pv 0) (pa_cons (pe_callTy (call_list_rng rfl) (by rfl) T.list PyProof.Rows.boot_list (pa_cons (pe_callTy call_range1 (by rfl) T.range PyProof.Rows.boot_range (pa_cons (pe_callB (call_lenK K) (by rfl) T.len PySem.boot_len (pa_cons (pv 0) pa_nil)) pa_nil)) pa_nil)) pa_nil))) pa_nil))))
      pss_nil)
      (pss_one (ps_ret (pe_mk MRow (hr.mono (by omega)) (by rfl) (pa_cons (pv 1) pa_nil))))))), ?_⟩
    have hw := SqL.of (K := K) ha
    have h10 := W.le
    refine ⟨_, rfl, a, ws, rfl, ha, W, ?_⟩
    refine ⟨_, rfl, a, ws, rfl, hw, h10, fun hno H1 s1 => ?_, fun r rest l H1 hst hl s1 h1l => ?_⟩
    · have N := (noRow_iff W).mp hno
      refine ⟨_, rfl, _, rfl, iteT ?_⟩
      refine ⟨_, rfl, _, rfl, a, _, rfl, .inl (s1.seq hw), _, rfl, fun rg hrg => ?_⟩
      have s2 := same_upd (o := .rng 0 ((vv ws).length : Nat)) s1 hrg
      refine ⟨rg, 0, _, rfl, upd_same, by decide, by decide, by rw [vv_len]; omega, by rw [vv_len]; omega, by rw [vv_len]; omega, fun pl hpl => ?_⟩
      rw [list_rng_vv]
      have s3 := same_upd (o := .lst (vv (List.range ws.length))) s2 hpl
      refine ⟨a, pl, ws, List.range ws.length, rfl, s3 _ _ ha, W, upd_same, goodP_all W N, by rw [List.length_range]; omega, fun tx H4 htx s4 hT => ?_⟩
      intro x dx hx hdx ne
      have s5 : Same H4 (upd (upd H4 dx (.own x)) x (.ins cs.Made dx [])) := same_upd' (same_upd' (Same.refl H4) hdx) hx
      refine ⟨x, dx, .ref tx, rfl, upd_same, rfl, k1 N x dx tx _ (same_none (s3.trans s4) hx) ?_ upd_same ?_⟩
      · exact same_upd' ((s3.trans s4).trans s5) (same_none (s3.trans s4) hx)
      · refine hT.same (fresh_le (fun b e => same_none s3 e) fun b o e e2 => ?_)
        have hbx : b ≠ x := ne_of_none e2 hx
        have hbd : b ≠ dx := ne_of_none e2 hdx
        rw [upd_ne hbx, upd_ne hbx, upd_ne hbd]
        exact e2
    · refine ⟨_, rfl, _, rfl, iteF ?_⟩
      refine ⟨_, rfl, fun x dx hx hdx ne => ?_⟩
      have s5 : Same H1 (upd (upd H1 dx (.own x)) x (.ins cs.Row dx [])) := same_upd' (same_upd' (Same.refl H1) hdx) hx
      refine ⟨x, dx, l, _, rfl, upd_same, SqL.of (s5 _ _ h1l), fun l2 hl2 => ⟨rfl, ?_⟩⟩
      have hxl2 : x ≠ l2 := fun z => by
        rw [← z, upd_same] at hl2
        cases hl2
      refine k2 r rest x dx l2 _ hst (same_none s1 hx) (same_none s1 (same_none s5 hl2)) ?_ upd_same ?_
      · refine same_upd' (same_upd (s1.trans s5) hl2) (same_none s1 hx)
      · rw [upd_ne (Ne.symm hxl2), upd_same]
end
end Bw

set_option Elab.async false
set_option linter.all false
set_option maxRecDepth 100000
set_option maxHeartbeats 4000000
/-! twins(web) -/
namespace Bw
open PySem L2
section
variable {P : Program} {w : World} {K : PySem.W.Frag} {mg : Str → Option Value} {base : Heap} {cs : Cl}

/-! ### are_twins(web, points, one, other) -/
def spAreTwins (K : PySem.W.Frag) : Sp := fun vs H Q _ => ∃ (a b : Addr) (ws pts : List Nat) (o t : Nat), vs = [.ref a, .ref b, .int o, .int t] ∧ SqL K H a (vv ws) ∧ SqL K H b (vv pts) ∧ o < ws.length ∧ t < ws.length ∧ pts.length ≤ 1000 ∧ ∀ H', Same H H' → Q (.bl (twB ws pts o t)) H'
theorem scAreTwins : FnScope ["web", "points", "one", "other", "others"] ["web", "points", "one", "other"] (defScope sAreTwins) := ⟨rfl, rfl, rfl, by decide +kernel, rfl, by decide +kernel, by decide +kernel⟩
def cAreTwins1 : Scope := { kind := .function, names := [(Str.ofString ".0", .local), (Str.ofString "point", .local), (Str.ofString "one", .free), (Str.ofString "other", .free)], isGenerator := false, isCoroutine := false, more := [] }
theorem cAreTwins1s : CScope ["web", "points", "one", "other", "others"] (defScope sAreTwins) cAreTwins1 ["one", "other", "point"] [2, 3] := ⟨rfl, by decide +kernel, by decide +kernel, by decide +kernel, by decide, by decide +kernel, by decide +kernel⟩
def cAreTwins2 : Scope := { kind := .function, names := [(Str.ofString ".0", .local), (Str.ofString "point", .local), (Str.ofString "tied", .globalImplicit), (Str.ofString "one", .free), (Str.ofString "other", .free), (Str.ofString "web", .free)], isGenerator := false, isCoroutine := false, more := [] }
theorem cAreTwins2s : CScope ["web", "points", "one", "other", "others"] (defScope sAreTwins) cAreTwins2 ["web", "one", "other", "point"] [0, 2, 3] := ⟨rfl, by decide +kernel, by decide +kernel, by decide +kernel, by decide, by decide +kernel, by decide +kernel⟩
theorem inV_two (p o t : Nat) : inV (.int (p : Int)) [.int (o : Int), .int (t : Int)] = (decide (o = p) || decide (t = p)) := by
  show (((o : Int) == (p : Int)) || (((t : Int) == (p : Int)) || false)) = _
  have e : ∀ m : Nat, ((m : Int) == (p : Int)) = decide (m = p) := fun m => by
    rw [Bool.eq_iff_iff, beq_iff_eq, decide_eq_true_iff]
    omega
  rw [e, e, Bool.or_false]
theorem others_snoc (o t : Nat) (pts : List Nat) {i : Nat} (hi : i < pts.length) (h : (decide (o = pts.getD i 0) || decide (t = pts.getD i 0)) = false) : vv (othersM (pts.take i) o t) ++ [V.int ((pts.getD i 0 : Nat) : Int)] = vv (othersM (pts.take (i + 1)) o t) :=
  fil_snoc (fun p => !(decide (o = p) || decide (t = p))) pts hi (by show (!(decide (o = pts.getD i 0) || decide (t = pts.getD i 0))) = true; rw [h]; rfl)
theorem others_skip (o t : Nat) (pts : List Nat) {i : Nat} (hi : i < pts.length) (h : (decide (o = pts.getD i 0) || decide (t = pts.getD i 0)) = true) : othersM (pts.take i) o t = othersM (pts.take (i + 1)) o t :=
  fil_skip (fun p => !(decide (o = p) || decide (t = p))) pts hi (by show (!(decide (o = pts.getD i 0) || decide (t = pts.getD i 0))) = false; rw [h]; rfl)
theorem others_len (pts : List Nat) (o t : Nat) : (othersM pts o t).length ≤ pts.length := List.length_filter_le _ _
theorem bl_dec (x y : Bool) : decide (V.bl x = V.bl y) = decide (x = y) := by
  rw [decide_eq_decide]
  exact ⟨fun z => V.bl.inj z, fun z => by rw [z]⟩
theorem ok_areTwins (T : Txt K mg cs) : Cal P w K mg base 2 "are_twins" ["web", "points", "one", "other"] (spAreTwins K) := by
  have CTied : Cal P w K mg base 1 "tied" ["web", "one", "other"] (spTied K) := (ok_tied T).mono (by decide)
  refine T.areTwins.cal scAreTwins (fun vs H Q E h => ?_) (fun f cdv A outer s H vs Q E hr h => ?_)
  · obtain ⟨a, b, ws, pts, o, t, rfl, _⟩ := h
    rfl
  · obtain ⟨a, b, ws, pts, o, t, rfl, hw, hb, ho, ht, hl, k⟩ := h
    have hu := hu_of hr
    have hu64 := hr.units
    refine ⟨_, (pss_cons (ps_setComp (i := 4) (sc := cAreTwins1) scAreTwins.nd rfl rfl rfl (pi_listK K (pv 1)) cAreTwins1s (fun _ _ _ _ => (pg_name (i := 2) cAreTwins1s.nd rfl (Or.inl rfl))) (fun _ _ _ _ => (pif_one (pt_cmpR (op_notInK K) (pv 2) (pe_tup (pa_cons (pv 0) (pa_cons (pv 1) pa_nil))) rfl))) (fun _ _ _ _ => (pv 2)))
      (pss_one (ps_ret (pe_callB (call_allK K rfl) (by rfl) T.all PyProof.Rows.boot_all (pa_cons (pe_comp (sc := cAreTwins2) rfl (pi_listK K (pv 4)) cAreTwins2s (fun _ _ _ _ => (pg_name (i := 3) cAreTwins2s.nd rfl (Or.inl rfl))) (fun _ _ _ _ => pif_nil) (fun _ _ _ _ => (pe_cmpR op_eq (pe_cal CTied hr (by rfl) (pa_cons (pv 0) (pa_cons (pv 1) (pa_cons (pv 3) pa_nil)))) (pe_cal CTied hr (by rfl) (pa_cons (pv 0) (pa_cons (pv 2) (pa_cons (pv 3) pa_nil)))) (nomark _)))) pa_nil))))), ?_⟩
    refine ⟨_, rfl, b, rfl, ⟨_, hb⟩, comp_list (K := K) (a := b) (xs := vv pts) (fun i ys H' => ys = vv (othersM (pts.take i) o t) ∧ Same H H') ⟨rfl, Same.refl H⟩ (by rw [vv_len, sizeLine_eq]; omega) (fun i ys H' _ h => h.2.seq hb) ?_ ?_⟩
    · rintro i x ys H' hx hlt ⟨rfl, sm⟩ hyl hys
      obtain ⟨hi, rfl⟩ := vv_at hx
      refine gset ?_
      refine ⟨_, rfl, _, rfl, _, rfl, by rw [sizeLine_eq]; show 2 ≤ _; decide, fun q hq => ?_⟩
      refine ⟨q, _, rfl, .inr (SqT.of upd_same), rfl, rfl, _, rfl, ?_⟩
      have e : inV (V.int ((pts.getD i 0 : Nat) : Int)) [V.int (o : Int), V.int (t : Int)] = (decide (o = pts.getD i 0) || decide (t = pts.getD i 0)) := inV_two _ _ _
      show if (!inV (V.int ((pts.getD i 0 : Nat) : Int)) [V.int (o : Int), V.int (t : Int)]) = true then _ else _
      rw [e]
      cases hc : (decide (o = pts.getD i 0) || decide (t = pts.getD i 0)) with
      | false =>
        refine iteT ?_
        refine ⟨_, rfl, hys, Pn.snoc hlt hyl ⟨others_snoc o t pts hi hc, same_upd sm hq⟩⟩
      | true =>
        refine iteF ?_
        refine Pn.mk hlt (by omega) ⟨?_, same_upd sm hq⟩
        rw [others_skip o t pts hi hc]
    · rintro ys H' ⟨rfl, sm⟩ hyl l hl1
      rw [vv_len, List.take_length]
      have s1 := same_upd (o := .lst (vv (othersM pts o t))) sm hl1
      have hol := others_len pts o t
      refine ⟨_, rfl, l, rfl, ⟨_, SqL.of upd_same⟩, comp_list (K := K) (a := l) (xs := vv (othersM pts o t)) (fun i ys H2 => ys = (((othersM pts o t).take i).map fun p => decide (bit ws o p = bit ws t p)).map V.bl ∧ H2 = upd H' l (.lst (vv (othersM pts o t)))) ⟨rfl, rfl⟩ (by rw [vv_len, sizeLine_eq]; omega) (fun i ys H2 _ h => by rw [h.2]; exact SqL.of upd_same) ?_ ?_⟩
      · rintro i x ys H2 hx hlt ⟨rfl, rfl⟩ hyl hys
        obtain ⟨hi, rfl⟩ := vv_at hx
        refine gset ?_
        refine yes ?_
        refine iteT ?_
        refine ⟨_, rfl, _, rfl, _, rfl, a, ws, o, _, rfl, s1.seq hw, ho, _, rfl, _, rfl, _, rfl, a, ws, t, _, rfl, s1.seq hw, ht, rfl, hys, Pn.snoc hlt hyl ⟨?_, rfl⟩⟩
        rw [← all_snoc _ _ hi, bl_dec]
      · rintro ys H2 ⟨rfl, rfl⟩ hyl q hq
        refine ⟨q, _, rfl, SqL.of upd_same, ?_⟩
        rw [vv_len, List.take_length, all_id]
        exact k _ (same_upd s1 hq)

/-! ### twins_among(web, points) -/
def spTwinsAmong (K : PySem.W.Frag) : Sp := fun vs H Q _ => ∃ (a b : Addr) (ws pts : List Nat), vs = [.ref a, .ref b] ∧ SqL K H a (vv ws) ∧ SqL K H b (vv pts) ∧ (∀ p ∈ pts, p < ws.length) ∧ pts.length ≤ 1000 ∧
  (∀ (i j : Nat) (t : Addr) (H' : Hp), j < i → i < pts.length → twB ws pts (pts.getD i 0) (pts.getD j 0) = true → H t = none → Same H H' → H' t = some (.tup [.int ((pts.getD i 0 : Nat) : Int), .int ((pts.getD j 0 : Nat) : Int)]) → Q (.ref t) H') ∧ (NoTw ws pts → ∀ H', Same H H' → Q .non H')
theorem scTwinsAmong : FnScope ["web", "points", "place", "goes", "stays"] ["web", "points"] (defScope sTwinsAmong) := ⟨rfl, rfl, rfl, by decide +kernel, rfl, by decide +kernel, by decide +kernel⟩
theorem cut_take (pts : List Nat) {i : Nat} (hi : i ≤ pts.length) : cutV (vv pts) none (some (i : Int)) = vv (pts.take i) := by
  unfold cutV
  rw [HT.sIx_none, HT.sIx_nat, vv_len, List.drop_zero, Nat.min_eq_left hi, Nat.sub_zero]
  unfold vv iv
  rw [List.map_take, List.map_take]
theorem take_at {pts : List Nat} {i j : Nat} (hj : j < i) (hi : i ≤ pts.length) : (pts.take i).getD j 0 = pts.getD j 0 := by
  rw [List.getD_eq_getElem?_getD, List.getD_eq_getElem?_getD, List.getElem?_take_of_lt hj]
theorem ok_twinsAmong (T : Txt K mg cs) : Cal P w K mg base 3 "twins_among" ["web", "points"] (spTwinsAmong K) := by
  have CAreTwins : Cal P w K mg base 2 "are_twins" ["web", "points", "one", "other"] (spAreTwins K) := (ok_areTwins T).mono (by decide)
  refine T.twinsAmong.cal scTwinsAmong (fun vs H Q E h => ?_) (fun f cdv A outer s H vs Q E hr h => ?_)
  · obtain ⟨a, b, ws, pts, rfl, _⟩ := h
    rfl
  · obtain ⟨a, b, ws, pts, rfl, hw, hb, hlt, hl, k1, k2⟩ := h
    have hu := hu_of hr
    have hu64 := hr.units
    refine ⟨_, (pss_cons (ps_for PassesOwn.never rfl (pi_enumK K rfl T.enum (pa_cons (pv 1) pa_nil)) (pg_tupK K rfl (pgs_cons (pg_name (i := 2) scTwinsAmong.nd rfl (Or.inl rfl)) (pgs_cons (pg_name (i := 3) scTwinsAmong.nd rfl (Or.inl rfl)) pgs_nil)))
      (pss_one (ps_for PassesOwn.never rfl (pi_listK K (pe_slice (sl_listK K) (pv 1) po_none (po_some (pv 2)))) (pg_name (i := 4) scTwinsAmong.nd rfl (Or.inl rfl))
        (pss_one (ps_if (pt_val (pe_cal CAreTwins hr (by rfl) (pa_cons (pv 0) (pa_cons (pv 1) (pa_cons (pv 3) (pa_cons (pv 4) pa_nil))))))
          (pss_one (ps_ret (pe_tup (pa_cons (pv 3) (pa_cons (pv 4) pa_nil)))))
          pss_nil)))))
      (pss_one (ps_ret pe_non))), ?_⟩
    refine ⟨_, rfl, b, rfl, ⟨_, hb⟩, for_enum (K := K) (a := b) (xs := vv pts) (fun i σ H1 => (∃ v1 v2 v3, σ = [some (.ref a), some (.ref b), v1, v2, v3]) ∧ Same H H1 ∧ ∀ i', i' < i → ∀ j, j < i' → i' < pts.length → twB ws pts (pts.getD i' 0) (pts.getD j 0) = false)
      ⟨⟨_, _, _, rfl⟩, Same.refl H, fun i' h => absurd h (by omega)⟩ (fun i σ H1 _ h => h.2.1.seq hb) ?_ ?_⟩
    · rintro i x σ H1 tt hx ⟨⟨v1, v2, v3, rfl⟩, s1, hno⟩ htt
      obtain ⟨hi, rfl⟩ := vv_at hx
      have s2 := same_upd (o := .tup [.int (i : Int), .int ((pts.getD i 0 : Nat) : Int)]) s1 htt
      refine ⟨tt, _, rfl, SqT.of upd_same, rfl, _, _, rfl, _, _, rfl, rfl, ?_⟩
      refine ⟨_, rfl, _, rfl, _, rfl, b, _, rfl, s2.seq hb, fun q hq => ?_⟩
      rw [cut_take pts (Nat.le_of_lt hi)]
      have s3 := same_upd (o := .lst (vv (pts.take i))) s2 hq
      have htl : (pts.take i).length = i := by rw [List.length_take]; omega
      refine ⟨q, rfl, ⟨_, SqL.of upd_same⟩, for_list (K := K) (a := q) (xs := vv (pts.take i)) (fun j σ H2 => (∃ v3, σ = [some (.ref a), some (.ref b), some (.int (i : Int)), some (.int ((pts.getD i 0 : Nat) : Int)), v3]) ∧ Same H H2 ∧ H2 q = some (.lst (vv (pts.take i))) ∧ ∀ j', j' < j → twB ws pts (pts.getD i 0) (pts.getD j' 0) = false)
        ⟨⟨_, rfl⟩, s3, upd_same, fun j' h => absurd h (by omega)⟩ (fun j σ H2 _ h => SqL.of h.2.2.1) ?_ ?_⟩
      · rintro j y σ H2 hy ⟨⟨v3, rfl⟩, s4, h2q, hnj⟩
        obtain ⟨hj, rfl⟩ := vv_at hy
        rw [htl] at hj
        rw [take_at hj (Nat.le_of_lt hi)]
        have hji : j < pts.length := by omega
        refine ⟨_, rfl, _, rfl, _, rfl, _, rfl, a, b, ws, pts, pts.getD i 0, pts.getD j 0, rfl, s4.seq hw, s4.seq hb, hlt _ (getD_mem hi), hlt _ (getD_mem hji), hl, fun H3 s5 => ⟨_, rfl, ?_⟩⟩
        refine ite2 (fun hb1 => ?_) (fun hb1 => ?_)
        · refine ⟨_, rfl, _, rfl, by rw [sizeLine_eq]; show 2 ≤ _; decide, fun r hr => ?_⟩
          exact k1 i j r _ hj hi hb1 (same_none (s4.trans s5) hr) (same_upd (s4.trans s5) hr) upd_same
        · refine ⟨⟨_, rfl⟩, s4.trans s5, s5 _ _ h2q, fun j' hj' => ?_⟩
          by_cases z : j' = j
          · rw [z]; simpa using hb1
          · exact hnj j' (by omega)
      · rintro σ H2 ⟨⟨v3, rfl⟩, s4, h2q, hnj⟩
        rw [vv_len, htl] at hnj
        refine ⟨⟨_, _, _, rfl⟩, s4, fun i' hi' j hj hil => ?_⟩
        by_cases z : i' = i
        · rw [z]; exact hnj j (by omega)
        · exact hno i' (by omega) j hj hil
    · rintro σ H1 ⟨⟨v1, v2, v3, rfl⟩, s1, hno⟩
      rw [vv_len] at hno
      exact k2 (fun i j hj hi => hno i hi j hj hi) H1 s1

/-! ### twins(web) -/
/-- a list of pairs -/
def PairsAt (H : Hp) (l : Addr) (ps : List (Nat × Nat)) : Prop := ∃ ts : List Addr, H l = some (.lst (ts.map V.ref)) ∧ Paired (fun t (p : Nat × Nat) => t ≠ l ∧ H t = some (.tup [.int (p.1 : Int), .int (p.2 : Int)])) ts ps
def spTwins : Sp := fun vs H Q _ => ∃ (a : Addr) (ws : List Nat), vs = [.ref a] ∧ H a = some (.lst (vv ws)) ∧ Web ws ∧ ∀ (ps : List (Nat × Nat)) (left : List Nat) (l : Addr) (H' : Hp), Tk ws ps left → NoTw ws left → H l = none → Same H H' → PairsAt H' l ps → Q (.ref l) H'
theorem scTwins : FnScope ["web", "left", "pairs", "pair"] ["web"] (defScope sTwins) := ⟨rfl, rfl, rfl, by decide +kernel, rfl, by decide +kernel, by decide +kernel⟩
theorem erase_iv (l : List Nat) (x : Nat) : (iv l).erase (x : Int) = iv (l.erase x) := by
  induction l with
  | nil => rfl
  | cons a l ih =>
    by_cases h : a = x
    · subst h
      show ((a : Int) :: iv l).erase (a : Int) = _
      rw [List.erase_cons_head, List.erase_cons_head]
    · have h' : ¬ ((a : Int) == (x : Int)) = true := by
        rw [beq_iff_eq]
        omega
      show ((a : Int) :: iv l).erase (x : Int) = _
      rw [List.erase_cons_tail h', List.erase_cons_tail (by simpa using h), ih]
      rfl
theorem mem_iv {l : List Nat} {x : Nat} (h : x ∈ l) : (x : Int) ∈ iv l := List.mem_map.mpr ⟨x, h, rfl⟩
theorem ok_twins (T : Txt K mg cs) : Cal P w K mg base 4 "twins" ["web"] spTwins := by
  have CCheckWeb : Cal P w K mg base 3 "check_web" ["web"] spCheckWeb := (ok_checkWeb T).mono (by decide)
  have CTwinsAmong : Cal P w K mg base 3 "twins_among" ["web", "points"] (spTwinsAmong K) := (ok_twinsAmong T).mono (by decide)
  refine T.twins.cal scTwins (fun vs H Q E h => ?_) (fun f cdv A outer s H vs Q E hr h => ?_)
  · obtain ⟨a, ws, rfl, _⟩ := h
    rfl
  · obtain ⟨a, ws, rfl, ha, W, k⟩ := h
    have hu := hu_of hr
    have hu64 := hr.units
    refine ⟨_, (pss_cons (ps_expr (pe_cal CCheckWeb hr (by rfl) (pa_cons (pv 0) pa_nil)))
      (pss_cons (ps_set (i := 1) scTwins.nd rfl (Or.inl rfl) (pe_callTy (call_list_rng rfl) (by rfl) T.list PyProof.Rows.boot_list (pa_cons (pe_callTy call_range1 (by rfl) T.range PyProof.Rows.boot_range (pa_cons (pe_callB (call_lenK K) (by rfl) T.len PySem.boot_len (pa_cons (pv 0) pa_nil)) pa_nil)) pa_nil)))
      (pss_cons (ps_set (i := 2) scTwins.nd rfl (Or.inl rfl) (pe_lst pa_nil))
      (pss_cons (ps_set (i := 3) scTwins.nd rfl (Or.inl rfl) (pe_cal CTwinsAmong hr (by rfl) (pa_cons (pv 0) (pa_cons (pv 1) pa_nil))))
      (pss_cons (ps_while PassesOwn.never (pt_cmp (pc_notN (pv 3)))
      (pss_cons (ps_expr (pe_bm PySem.F.plainAttrs_list PySem.F.slot_list_append PySem.F.type_list_append mt_append (pv 2) (pa_cons (pv 3) pa_nil)))
        (pss_cons (ps_expr (pe_bm PySem.F.plainAttrs_list PySem.F.slot_list_remove PySem.F.type_list_remove (mt_remove K) (pv 1) (pa_cons (pe_ix (ix_tupK K) (pv 3) pe_int (fun _ _ => rfl)) pa_nil)))
        (pss_one (ps_set (i := 3) scTwins.nd rfl (Or.inl rfl) (pe_cal CTwinsAmong hr (by rfl) (pa_cons (pv 0) (pa_cons (pv 1) pa_nil))))))))
      (pss_one (ps_ret (pv 2)))))))), ?_⟩
    have hw := SqL.of (K := K) ha
    have h10 := W.le
    refine ⟨_, rfl, a, ws, rfl, ha, W, ?_⟩
    refine ⟨_, rfl, a, _, rfl, .inl hw, _, rfl, fun rg hrg => ?_⟩
    have s2 := same_upd (o := .rng 0 ((vv ws).length : Nat)) (Same.refl H) hrg
    refine ⟨rg, 0, _, rfl, upd_same, by decide, by decide, by rw [vv_len]; omega, by rw [vv_len]; omega, by rw [vv_len]; omega, fun lf hlf => ?_⟩
    rw [list_rng_vv]
    have s3 := same_upd (o := .lst (vv (List.range ws.length))) s2 hlf
    have hHlf : H lf = none := same_none s2 hlf
    refine ⟨Nat.zero_le _, fun pl hpl => ?_⟩
    have s4 := same_upd (o := .lst []) s3 hpl
    have hHpl : H pl = none := same_none s3 hpl
    have hlp : lf ≠ pl := fun z => by
      rw [← z, upd_same] at hpl
      cases hpl
    have loop : ∀ (v : V) (H1 : Hp) (ps : List (Nat × Nat)) (left : List Nat), Tk ws ps left → H1 lf = some (.lst (vv left)) → PairsAt H1 pl ps → Same H H1 → (v = .non → NoTw ws left) → (v ≠ .non → ∃ t x y, v = .ref t ∧ t ≠ lf ∧ t ≠ pl ∧ H1 t = some (.tup [.int ((x : Nat) : Int), .int ((y : Nat) : Int)]) ∧ x ∈ left ∧ y ∈ left ∧ x ≠ y ∧ twB ws left x y = true) →
        (fun (σ : St) (H1 : Hp) => ∃ v ps left, σ = [some (.ref a), some (.ref lf), some (.ref pl), some v] ∧ Tk ws ps left ∧ H1 lf = some (.lst (vv left)) ∧ PairsAt H1 pl ps ∧ Same H H1 ∧ (v = .non → NoTw ws left) ∧ (v ≠ .non → ∃ t x y, v = .ref t ∧ t ≠ lf ∧ t ≠ pl ∧ H1 t = some (.tup [.int ((x : Nat) : Int), .int ((y : Nat) : Int)]) ∧ x ∈ left ∧ y ∈ left ∧ x ≠ y ∧ twB ws left x y = true)) [some (.ref a), some (.ref lf), some (.ref pl), some v] H1 :=
      fun v H1 ps left t1 t2 t3 t4 t5 t6 => ⟨v, ps, left, rfl, t1, t2, t3, t4, t5, t6⟩
    have call : ∀ (H1 : Hp) (ps : List (Nat × Nat)) (left : List Nat) (Q1 : VK), Tk ws ps left → H1 lf = some (.lst (vv left)) → Same H H1 → H1 pl ≠ none → (∀ (v : V) (H2 : Hp), Same H1 H2 → (v = .non → NoTw ws left) → (v ≠ .non → ∃ t x y, v = .ref t ∧ t ≠ lf ∧ t ≠ pl ∧ H2 t = some (.tup [.int ((x : Nat) : Int), .int ((y : Nat) : Int)]) ∧ x ∈ left ∧ y ∈ left ∧ x ≠ y ∧ twB ws left x y = true) → Q1 v H2) →
        spTwinsAmong K [.ref a, .ref lf] H1 Q1 E0 := by
      intro H1 ps left Q1 tk h1 s1 hne kk
      have ok := tk.ok W
      have hlen := nodup_length ok.nd ok.lt
      refine ⟨a, lf, ws, left, rfl, s1.seq hw, SqL.of h1, ok.lt, by omega, fun i j t H2 hj hi htw ht s2 h2 => ?_, fun hno H2 s2 => ?_⟩
      · refine kk (.ref t) H2 s2 (fun z => by cases z) fun _ => ⟨t, left.getD i 0, left.getD j 0, rfl, ?_, ?_, h2, getD_mem hi, getD_mem (by omega), fun z => ?_, htw⟩
        · intro z
          rw [z, h1] at ht
          cases ht
        · intro z
          rw [z] at ht
          exact hne ht
        · have := getD_inj ok.nd hi (by omega) z
          omega
      · exact kk .non H2 s2 (fun _ => hno) fun z => absurd rfl z
    refine ⟨_, rfl, _, rfl, ?_⟩
    dsimp only [tNil]
    refine call _ [] _ _ .nil (by rw [upd_ne hlp, upd_same]) s4 (by rw [upd_same]; intro z; cases z) fun v H2 s5 c1 c2 => ?_
    refine while_of (fun (σ : St) (H1 : Hp) => ∃ v ps left, σ = [some (.ref a), some (.ref lf), some (.ref pl), some v] ∧ Tk ws ps left ∧ H1 lf = some (.lst (vv left)) ∧ PairsAt H1 pl ps ∧ Same H H1 ∧ (v = .non → NoTw ws left) ∧ (v ≠ .non → ∃ t x y, v = .ref t ∧ t ≠ lf ∧ t ≠ pl ∧ H1 t = some (.tup [.int ((x : Nat) : Int), .int ((y : Nat) : Int)]) ∧ x ∈ left ∧ y ∈ left ∧ x ≠ y ∧ twB ws left x y = true))
      (fun _ H1 => lenL (H1 lf)) (loop v H2 [] _ .nil (s5 _ _ (by rw [upd_ne hlp, upd_same])) ⟨[], s5 _ _ upd_same, .nil⟩ (s4.trans s5) c1 c2) ?_
    rintro σ H1 ⟨v, ps, left, rfl, tk, h1lf, hps, s1, d1, d2⟩
    refine ⟨_, rfl, _, rfl, ?_⟩
    by_cases hv : v = .non
    · subst hv
      refine iteF ?_
      exact ⟨_, rfl, k ps left pl H1 tk (d1 rfl) hHpl s1 hps⟩
    · obtain ⟨t, x, y, rfl, htl, htp, h1t, hx, hy, hxy, htw⟩ := d2 hv
      refine iteT' (by rw [decide_eq_false hv]; rfl) ?_
      refine ⟨_, wh, ?_⟩
      obtain ⟨ts, p1, p2⟩ := hps
      have hlen := tk.len
      have hpl2 := paired_len p2
      refine ⟨_, rfl, .inl ⟨rfl, _, SqL.of p1⟩, _, rfl, pl, _, _, rfl, rfl, p1, by rw [List.length_map, sizeLine_eq]; omega, ?_⟩
      have h2lf : upd H1 pl (.lst (ts.map V.ref ++ [V.ref t])) lf = some (.lst (vv left)) := by rw [upd_ne hlp]; exact h1lf
      have h2t : upd H1 pl (.lst (ts.map V.ref ++ [V.ref t])) t = some (.tup [.int ((x : Nat) : Int), .int ((y : Nat) : Int)]) := by rw [upd_ne htp]; exact h1t
      refine ⟨_, rfl, .inl ⟨rfl, _, SqL.of h2lf⟩, _, rfl, t, _, _, _, rfl, rfl, SqT.of h2t, atI_nat (j := 0) rfl, lf, iv left, (x : Int), rfl, rfl, h2lf, mem_iv hx, ?_⟩
      rw [erase_iv]
      have tk2 := Tk.snoc tk hx hy hxy htw
      have s6 : Same H (upd (upd H1 pl (.lst (ts.map V.ref ++ [V.ref t]))) lf (.lst (vv (left.erase x)))) := same_upd' (same_upd' s1 hHpl) hHlf
      have h3pl : upd (upd H1 pl (.lst (ts.map V.ref ++ [V.ref t]))) lf (.lst (vv (left.erase x))) pl = some (.lst ((ts ++ [t]).map V.ref)) := by
        rw [upd_ne (Ne.symm hlp), upd_same, List.map_append]
        rfl
      have hpr : PairsAt (upd (upd H1 pl (.lst (ts.map V.ref ++ [V.ref t]))) lf (.lst (vv (left.erase x)))) pl (ps ++ [(x, y)]) := by
        have A1 : ∀ t' (p : Nat × Nat), (t' ≠ pl ∧ H1 t' = some (.tup [.int (p.1 : Int), .int (p.2 : Int)])) → t' ≠ pl ∧ upd (upd H1 pl (.lst (ts.map V.ref ++ [V.ref t]))) lf (.lst (vv (left.erase x))) t' = some (.tup [.int (p.1 : Int), .int (p.2 : Int)]) := fun t' p h => by
          have hn : t' ≠ lf := ne_of h.2 h1lf (by intro z; cases z)
          exact ⟨h.1, by rw [upd_ne hn, upd_ne h.1]; exact h.2⟩
        exact ⟨ts ++ [t], h3pl, paired_snoc (paired_mono A1 p2) ⟨htp, by rw [upd_ne htl]; exact h2t⟩⟩
      refine ⟨_, rfl, _, rfl, ?_⟩
      dsimp only [tNil]
      refine call _ _ _ _ tk2 upd_same s6 (fun z => by have := h3pl.symm.trans z; cases this) fun v2 H4 s7 e1 e2 => ?_
      obtain ⟨ts2, p3, p4⟩ := hpr
      refine ⟨loop v2 H4 _ _ tk2 (s7 _ _ upd_same) ⟨ts2, s7 _ _ p3, paired_mono (fun t' p h => ⟨h.1, s7 _ _ h.2⟩) p4⟩ (s6.trans s7) e1 e2, ?_⟩
      show lenL (H4 lf) < lenL (H1 lf)
      rw [s7 _ _ upd_same, h1lf]
      show (vv (left.erase x)).length < (vv left).length
      rw [vv_len, vv_len, List.length_erase_of_mem hx]
      have := List.length_pos_of_mem hx
      omega
end
end Bw

set_option Elab.async false
set_option linter.all false
set_option maxRecDepth 100000
set_option maxHeartbeats 8000000
/-! the law's own twins -/
namespace Bw
open PySem L2
section
variable {P : Program} {w : World} {K : PySem.W.Frag} {mg : Str → Option Value} {base : Heap} {cs : Cl}

/-! ### _law_twins(web, left, one, other) -/
def spLTwins (K : PySem.W.Frag) : Sp := fun vs H Q _ => ∃ (a b : Addr) (ws pts : List Nat) (o t : Nat), vs = [.ref a, .ref b, .int o, .int t] ∧ SqL K H a (vv ws) ∧ SqL K H b (vv pts) ∧ o < ws.length ∧ t < ws.length ∧ pts.length ≤ 1000 ∧ ∀ H', Same H H' → Q (.bl (twB ws pts o t)) H'
theorem scLawTwins : FnScope ["_law_web_here", "_law_left", "_law_one", "_law_other", "_law_unlike"] ["_law_web_here", "_law_left", "_law_one", "_law_other"] (defScope sLawTwins) := ⟨rfl, rfl, rfl, by decide +kernel, rfl, by decide +kernel, by decide +kernel⟩
def cLawTwins1 : Scope := { kind := .function, names := [(Str.ofString ".0", .local), (Str.ofString "_law_point", .local), (Str.ofString "_law_one", .free), (Str.ofString "_law_other", .free), (Str.ofString "_law_unlike", .free)], isGenerator := false, isCoroutine := false, more := [] }
theorem cLawTwins1s : CScope ["_law_web_here", "_law_left", "_law_one", "_law_other", "_law_unlike"] (defScope sLawTwins) cLawTwins1 ["_law_one", "_law_other", "_law_unlike", "_law_point"] [2, 3, 4] := ⟨rfl, by decide +kernel, by decide +kernel, by decide +kernel, by decide, by decide +kernel, by decide +kernel⟩
theorem xor_bit (x y k : Nat) : decide (V.int (Builtin.bitAnd (Builtin.bitXor ((x : Nat) : Int) ((y : Nat) : Int) / 2 ^ ((k : Int)).toNat) 1) = V.int 1) = (x.testBit k != y.testBit k) := by
  rw [bitXor_nat, shr_bit, Nat.testBit_xor]
theorem any_not (ws pts : List Nat) (o t : Nat) : (!(((othersM pts o t).map fun p => bit ws o p != bit ws t p).any id)) = twB ws pts o t := by
  unfold twB
  rw [List.any_map, List.not_any_eq_all_not]
  congr 1
  funext p
  show (!(bit ws o p != bit ws t p)) = decide (bit ws o p = bit ws t p)
  cases bit ws o p <;> cases bit ws t p <;> rfl
theorem vv_inj {a b : List Nat} (h : vv a = vv b) : a = b := by
  apply iv_inj
  have e : ∀ l : List Nat, (vv l).map (fun v => match v with | V.int i => i | _ => 0) = iv l := fun l => by
    unfold vv
    rw [List.map_map]
    conv => rhs; rw [← List.map_id (iv l)]
    rfl
  rw [← e a, ← e b, h]
theorem ok_lawTwins (T : Txt K mg cs) : Cal P w K mg base 1 "_law_twins" ["_law_web_here", "_law_left", "_law_one", "_law_other"] (spLTwins K) := by
  refine T.lawTwins.cal scLawTwins (fun vs H Q E h => ?_) (fun f cdv A outer s H vs Q E hr h => ?_)
  · obtain ⟨a, b, ws, pts, o, t, rfl, _⟩ := h
    rfl
  · obtain ⟨a, b, ws, pts, o, t, rfl, hw, hb, ho, ht, hl, k⟩ := h
    have hu := hu_of hr
    have hu64 := hr.units
    refine ⟨_, (pss_cons (ps_set (i := 4) scLawTwins.nd rfl (Or.inr rfl) (pe_op op_xor (pe_ix (ix_listK K) (pv 0) (pv 2) (fun _ _ => rfl)) (pe_ix (ix_listK K) (pv 0) (pv 3) (fun _ _ => rfl))))
      (pss_one (ps_ret (pe_not (pe_callB (call_anyK K rfl) (by rfl) T.any PyProof.Rows.boot_any (pa_cons (pe_comp (sc := cLawTwins1) rfl (pi_listK K (pv 1)) cLawTwins1s (fun _ _ _ _ => (pg_name (i := 3) cLawTwins1s.nd rfl (Or.inl rfl))) (fun _ _ _ _ => (pif_one (PW.pt (pw_and (pt_cmpR op_ne (pv 3) (pv 0) (nomark _)) (pw_and1 (pt_cmpR op_ne (pv 3) (pv 1) (nomark _))))))) (fun _ _ _ _ => (pe_cmpR op_eq (pe_op op_and (pe_op op_shr (pv 2) (pv 3)) pe_int) pe_int (nomark _)))) pa_nil)))))), ?_⟩
    refine ⟨_, rfl, _, rfl, a, _, _, _, rfl, rfl, hw, atI_nat (vv_get ho), _, rfl, _, rfl, a, _, _, _, rfl, rfl, hw, atI_nat (vv_get ht), _, _, rfl, rfl, ?_⟩
    refine ⟨_, rfl, b, rfl, ⟨_, hb⟩, comp_list (K := K) (a := b) (xs := vv pts) (fun i ys H' => ys = (((othersM (pts.take i) o t).map fun p => bit ws o p != bit ws t p)).map V.bl ∧ H' = H) ⟨rfl, rfl⟩ (by rw [vv_len, sizeLine_eq]; omega) (fun i ys H' _ h => by rw [h.2]; exact hb) ?_ ?_⟩
    · rintro i x ys H' hx hlt ⟨rfl, rfl⟩ hyl hys
      obtain ⟨hi, rfl⟩ := vv_at hx
      have e1 : ∀ m : Nat, (!decide (V.int ((pts.getD i 0 : Nat) : Int) = V.int (m : Int))) = !decide (m = pts.getD i 0) := fun m => by
        congr 1
        rw [decide_eq_decide]
        exact ⟨fun z => by have := V.int.inj z; omega, fun z => by rw [z]⟩
      have skip : (decide (o = pts.getD i 0) || decide (t = pts.getD i 0)) = true → Pn (fun i ys H1 => ys = (((othersM (pts.take i) o t).map fun p => bit ws o p != bit ws t p)).map V.bl ∧ H1 = H') (vv pts).length i ((((othersM (pts.take i) o t).map fun p => bit ws o p != bit ws t p)).map V.bl) H' := fun hc => by
        refine Pn.mk hlt (by omega) ⟨?_, rfl⟩
        rw [others_skip o t pts hi hc]
      refine gset ?_
      refine ⟨_, rfl, _, rfl, rfl, _, rfl, ?_⟩
      rw [e1]
      refine ite2 (fun h1 => ?_) (fun h1 => ?_)
      · refine ⟨_, rfl, _, rfl, rfl, _, rfl, ?_⟩
        rw [e1]
        refine ite2 (fun h2 => ?_) (fun h2 => ?_)
        · refine ⟨_, rfl, _, rfl, _, _, rfl, rfl, Int.natCast_nonneg _, _, _, rfl, rfl, rfl, hys, Pn.snoc hlt hyl ⟨?_, rfl⟩⟩
          have hc : (decide (o = pts.getD i 0) || decide (t = pts.getD i 0)) = false := by
            rw [Bool.not_eq_true'] at h1 h2
            rw [h1, h2]
            rfl
          rw [xor_bit]
          have e2 : othersM (pts.take (i + 1)) o t = othersM (pts.take i) o t ++ [pts.getD i 0] := by
            have := others_snoc o t pts hi hc
            rw [vv_snoc] at this
            exact (vv_inj this).symm
          rw [e2, List.map_append, List.map_append]
          rfl
        · exact skip (by rw [Bool.or_eq_true]; right; simpa using h2)
      · refine iteF (skip (by rw [Bool.or_eq_true]; left; simpa using h1))
    · rintro ys H' ⟨rfl, rfl⟩ hyl l hl1
      refine ⟨l, _, rfl, SqL.of upd_same, _, rfl, ?_⟩
      rw [vv_len, List.take_length, any_not]
      exact k _ (same_upd (Same.refl _) hl1)

/-! ### _law_gone(web, found) -/
def spGone (K : PySem.W.Frag) : Sp := fun vs H Q _ => ∃ (a g : Addr) (ws : List Nat) (ps : List (Nat × Nat)) (left : List Nat), vs = [.ref a, .ref g] ∧ H a = some (.lst (vv ws)) ∧ Web ws ∧ PairsAt H g ps ∧ Tk ws ps left ∧ ∀ (l : Addr) (H' : Hp), H l = none → Same H H' → H' l = some (.lst (vv left)) → Q (.ref l) H'
theorem scLawGone : FnScope ["_law_web_here", "_law_found", "_law_left", "_law_pair"] ["_law_web_here", "_law_found"] (defScope sLawGone) := ⟨rfl, rfl, rfl, by decide +kernel, rfl, by decide +kernel, by decide +kernel⟩
theorem kit_tt (K : PySem.W.Frag) : PySem.W.kitOne K (.type "tuple") (.type "tuple") = some true := by rfl
/-- what is left behind the first i pairs -/
theorem Tk.take {ws : List Nat} {ps : List (Nat × Nat)} {left : List Nat} (h : Tk ws ps left) : ∀ i, i ≤ ps.length → ∃ lf, Tk ws (ps.take i) lf := by
  induction h with
  | nil => exact fun i hi => ⟨_, by rw [List.take_nil]; exact .nil⟩
  | @snoc ps left x y h0 hx hy hxy ht ih =>
    intro i hi
    by_cases hl : i ≤ ps.length
    · obtain ⟨lf, h1⟩ := ih i hl
      exact ⟨lf, by rw [List.take_append_of_le_length hl]; exact h1⟩
    · rw [List.length_append, List.length_singleton] at hi
      have e : i = (ps ++ [(x, y)]).length := by rw [List.length_append, List.length_singleton]; omega
      exact ⟨_, by rw [e, List.take_length]; exact .snoc h0 hx hy hxy ht⟩
theorem Tk.inv {ws : List Nat} {ps : List (Nat × Nat)} {left : List Nat} {x y : Nat} (h : Tk ws (ps ++ [(x, y)]) left) : ∃ l0, Tk ws ps l0 ∧ x ∈ l0 ∧ y ∈ l0 ∧ x ≠ y ∧ twB ws l0 x y = true ∧ left = l0.erase x := by
  generalize e : ps ++ [(x, y)] = qs at h
  cases h with
  | nil => exact absurd e (by simp)
  | @snoc ps' l0 x' y' h0 hx hy hxy ht =>
    obtain ⟨e1, e2⟩ := List.append_inj' e rfl
    have e3 : (x, y) = (x', y') := by simpa using e2
    cases e3
    subst e1
    exact ⟨l0, h0, hx, hy, hxy, ht, rfl⟩
theorem Tk.uniq {ws : List Nat} : ∀ {ps : List (Nat × Nat)} {l1 l2 : List Nat}, Tk ws ps l1 → Tk ws ps l2 → l1 = l2 := by
  intro ps l1 l2 h1
  induction h1 generalizing l2 with
  | nil =>
    intro h
    generalize e : ([] : List (Nat × Nat)) = qs at h
    cases h with
    | nil => rfl
    | snoc _ _ _ _ _ => exact absurd e (by simp)
  | @snoc ps left x y h0 hx hy hxy ht ih =>
    intro h
    obtain ⟨l0, k0, _, _, _, _, rfl⟩ := h.inv
    rw [ih k0]
theorem ok_lawGone (T : Txt K mg cs) : Cal P w K mg base 2 "_law_gone" ["_law_web_here", "_law_found"] (spGone K) := by
  have CLawTwins : Cal P w K mg base 1 "_law_twins" ["_law_web_here", "_law_left", "_law_one", "_law_other"] (spLTwins K) := (ok_lawTwins T).mono (by decide)
  refine T.lawGone.cal scLawGone (fun vs H Q E h => ?_) (fun f cdv A outer s H vs Q E hr h => ?_)
  · obtain ⟨a, g, ws, ps, left, rfl, _⟩ := h
    rfl
  · obtain ⟨a, g, ws, ps, left, rfl, ha, W, hg, tk, k⟩ := h
    have hu := hu_of hr
    have hu64 := hr.units
    refine ⟨_, (pss_cons (ps_set (i := 2) scLawGone.nd rfl (Or.inl rfl) (pe_callTy (call_list_rng rfl) (by rfl) T.list PyProof.Rows.boot_list (pa_cons (pe_callTy call_range1 (by rfl) T.range PyProof.Rows.boot_range (pa_cons (pe_callB (call_lenK K) (by rfl) T.len PySem.boot_len (pa_cons (pv 0) pa_nil)) pa_nil)) pa_nil)))
      (pss_cons (ps_for PassesOwn.never rfl (pi_listK K (pv 1)) (pg_name (i := 3) scLawGone.nd rfl (Or.inl rfl))
      (pss_cons (ps_if (PW.pt (pw_or (pt_not (pt_val (pe_callB (call_isinstK K) (by rfl) T.isinst PyProof.Rows.boot_isinstance (pa_cons (pv 3) (pa_cons (pe_bltn (v := .ty "tuple") (by rfl) T.tuple PyProof.Rows.boot_tuple rfl) pa_nil))))) (pw_or (pt_cmpR op_ne (pe_callB (call_lenK K) (by rfl) T.len PySem.boot_len (pa_cons (pv 3) pa_nil)) pe_int (nomark _)) (pw_or1 (pt_cmpR op_eq (pe_ix (ix_tupK K) (pv 3) pe_int (fun _ _ => rfl)) (pe_ix (ix_tupK K) (pv 3) pe_int (fun _ _ => rfl)) (nomark _))))))
        pss_never
        pss_nil)
        (pss_cons (ps_if (PW.pt (pw_or (pt_cmpR (op_notInK K) (pe_ix (ix_tupK K) (pv 3) pe_int (fun _ _ => rfl)) (pv 2) rfl) (pw_or (pt_cmpR (op_notInK K) (pe_ix (ix_tupK K) (pv 3) pe_int (fun _ _ => rfl)) (pv 2) rfl) (pw_or (pt_val (pe_callB (call_isinstK K) (by rfl) T.isinst PyProof.Rows.boot_isinstance (pa_cons (pe_ix (ix_tupK K) (pv 3) pe_int (fun _ _ => rfl)) (pa_cons (pe_bltn (v := .ty "bool") (by rfl) T.bool PyProof.Rows.boot_bool rfl) pa_nil)))) (pw_or1 (pt_val (pe_callB (call_isinstK K) (by rfl) T.isinst PyProof.Rows.boot_isinstance (pa_cons (pe_ix (ix_tupK K) (pv 3) pe_int (fun _ _ => rfl)) (pa_cons (pe_bltn (v := .ty "bool") (by rfl) T.bool PyProof.Rows.boot_bool rfl) pa_nil)))))))))
        pss_never
        pss_nil)
        (pss_cons (ps_if (pt_not (pt_val (pe_cal CLawTwins hr (by rfl) (pa_cons (pv 0) (pa_cons (pv 2) (pa_cons (pe_ix (ix_tupK K) (pv 3) pe_int (fun _ _ => rfl)) (pa_cons (pe_ix (ix_tupK K) (pv 3) pe_int (fun _ _ => rfl)) pa_nil)))))))
        pss_never
        pss_nil)
        (pss_one (ps_expr (pe_bm PySem.F.plainAttrs_list PySem.F.slot_list_remove PySem.F.type_list_remove (mt_remove K) (pv 2) (pa_cons (pe_ix (ix_tupK K) (pv 3) pe_int (fun _ _ => rfl)) pa_nil))))))))
      (pss_one (ps_ret (pv 2))))), ?_⟩
    have hw := SqL.of (K := K) ha
    have h10 := W.le
    obtain ⟨ts, g1, g2⟩ := hg
    refine ⟨_, rfl, a, _, rfl, .inl hw, _, rfl, fun rg hrg => ?_⟩
    have s2 := same_upd (o := .rng 0 ((vv ws).length : Nat)) (Same.refl H) hrg
    refine ⟨rg, 0, _, rfl, upd_same, by decide, by decide, by rw [vv_len]; omega, by rw [vv_len]; omega, by rw [vv_len]; omega, fun lf hlf => ?_⟩
    rw [list_rng_vv]
    have s3 := same_upd (o := .lst (vv (List.range ws.length))) s2 hlf
    have hHlf : H lf = none := same_none s2 hlf
    refine ⟨_, rfl, g, rfl, ⟨_, SqL.of (s3 _ _ g1)⟩, for_list (K := K) (a := g) (xs := ts.map V.ref) (fun i σ H1 => ∃ v l0, σ = [some (.ref a), some (.ref g), some (.ref lf), v] ∧ Tk ws (ps.take i) l0 ∧ H1 lf = some (.lst (vv l0)) ∧ Same H H1)
      ⟨_, _, rfl, by rw [List.take_zero]; exact .nil, upd_same, s3⟩ (fun i σ H1 _ ⟨_, _, _, _, _, s⟩ => SqL.of (s _ _ g1)) ?_ ?_⟩
    · rintro i x σ H1 hx ⟨v, l0, rfl, tk0, h1lf, s1⟩
      obtain ⟨t, ht, rfl⟩ := ref_at hx
      obtain ⟨p, hp, hT⟩ := paired_get g2 ht
      obtain ⟨x, y⟩ := p
      have hi : i < ps.length := (List.getElem?_eq_some_iff.mp hp).1
      obtain ⟨l1, tk1⟩ := tk.take (i + 1) hi
      rw [List.take_add_one, hp] at tk1
      obtain ⟨l2, tk2, mx, my, nxy, htw, rfl⟩ := Tk.inv (x := x) (y := y) tk1
      have e := Tk.uniq tk2 tk0
      subst e
      have ok := tk2.ok W
      have hlen := nodup_length ok.nd ok.lt
      have h1t := s1 _ _ hT.2
      have st : SqT K H1 t [V.int (x : Int), V.int (y : Int)] := SqT.of h1t
      have fl : (vv l2).all flatV = true := by
        rw [List.all_eq_true]
        intro z hz
        obtain ⟨n, _, rfl⟩ := List.mem_map.mp hz
        rfl
      have inn : ∀ z, z ∈ l2 → inV (V.int ((z : Nat) : Int)) (vv l2) = true := fun z hz => by
        unfold inV
        rw [List.any_eq_true]
        exact ⟨V.int (z : Int), List.mem_map.mpr ⟨(z : Int), mem_iv hz, rfl⟩, by show ((z : Int) == (z : Int)) = true; simp⟩
      refine ⟨_, rfl, _, _, _, _, rfl, TyOf.tup h1t, kit_tt K, true, rfl, iteF ?_⟩
      refine ⟨_, rfl, t, _, rfl, .inr st, rfl, _, rfl, iteNS rfl ?_⟩
      refine ⟨_, rfl, t, _, _, _, rfl, rfl, st, atI_nat (j := 0) rfl, _, rfl, t, _, _, _, rfl, rfl, st, atI_nat (j := 1) rfl, rfl, _, rfl, ?_⟩
      refine iteF' (decide_eq_false fun z => nxy (by have := V.int.inj z; omega)) ?_
      refine ⟨_, rfl, t, _, _, _, rfl, rfl, st, atI_nat (j := 0) rfl, _, rfl, lf, _, rfl, .inl (SqL.of h1lf), rfl, fl, _, rfl, ?_⟩
      refine iteF' (by show (!inV (V.int (x : Int)) (vv l2)) = false; rw [inn x mx]; rfl) ?_
      refine ⟨_, rfl, t, _, _, _, rfl, rfl, st, atI_nat (j := 1) rfl, _, rfl, lf, _, rfl, .inl (SqL.of h1lf), rfl, fl, _, rfl, ?_⟩
      refine iteF' (by show (!inV (V.int (y : Int)) (vv l2)) = false; rw [inn y my]; rfl) ?_
      refine ⟨_, rfl, t, _, _, _, rfl, rfl, st, atI_nat (j := 0) rfl, _, _, _, _, rfl, .int _, kit_ib K, _, rfl, iteF ?_⟩
      refine ⟨_, rfl, t, _, _, _, rfl, rfl, st, atI_nat (j := 1) rfl, _, _, _, _, rfl, .int _, kit_ib K, _, rfl, iteF ?_⟩
      refine ⟨_, rfl, _, rfl, _, rfl, t, _, _, _, rfl, rfl, st, atI_nat (j := 0) rfl, _, rfl, t, _, _, _, rfl, rfl, st, atI_nat (j := 1) rfl, a, lf, ws, l2, x, y, rfl, s1.seq hw, SqL.of h1lf, ok.lt x mx, ok.lt y my, by omega, fun H2 s5 => ⟨_, rfl, ?_⟩⟩
      rw [htw]
      refine iteF ?_
      have st2 : SqT K H2 t [V.int (x : Int), V.int (y : Int)] := SqT.of (s5 _ _ h1t)
      have h2lf := s5 _ _ h1lf
      refine ⟨_, rfl, .inl ⟨rfl, _, SqL.of h2lf⟩, _, rfl, t, _, _, _, rfl, rfl, st2, atI_nat (j := 0) rfl, lf, iv l2, (x : Int), rfl, rfl, h2lf, mem_iv mx, ?_⟩
      refine ⟨_, l2.erase x, rfl, ?_, by rw [upd_same, erase_iv]; rfl, same_upd' (s1.trans s5) hHlf⟩
      rw [List.take_add_one, hp]
      exact tk1
    · rintro σ H1 ⟨v, l0, rfl, tk0, h1lf, s1⟩
      rw [List.length_map, paired_len g2, List.take_length] at tk0
      have e := Tk.uniq tk0 tk
      subst e
      exact ⟨_, rfl, k lf H1 hHlf s1 h1lf⟩
end
end Bw

set_option Elab.async false
set_option linter.all false
set_option maxRecDepth 100000
set_option maxHeartbeats 8000000
/-! the law -/
namespace Bw
open PySem L2
section
variable {P : Program} {w : World} {K : PySem.W.Frag} {mg : Str → Option Value} {base : Heap} {cs : Cl}
def spLaw (K : PySem.W.Frag) : Sp := fun vs H Q _ => ∃ (a : Addr) (ns : List Int), vs = [.ref a] ∧ SqL K H a (ns.map V.int) ∧ ns.length ≤ 63 ∧ ∀ H', Q (.bl true) H'
theorem scLaw : FnScope ["_law_script", "_law_web_here", "_law_handed", "_law_again", "_law_found", "_law_left", "_law_k"] ["_law_script"] (defScope sLaw) := ⟨rfl, rfl, rfl, by decide +kernel, rfl, by decide +kernel, by decide +kernel⟩
def cLaw1 : Scope := { kind := .function, names := [(Str.ofString ".0", .local), (Str.ofString "_law_other", .local), (Str.ofString "_law_twins", .globalImplicit), (Str.ofString "_law_k", .free), (Str.ofString "_law_left", .free), (Str.ofString "_law_web_here", .free)], isGenerator := false, isCoroutine := false, more := [] }
theorem cLaw1s : CScope ["_law_script", "_law_web_here", "_law_handed", "_law_again", "_law_found", "_law_left", "_law_k"] (defScope sLaw) cLaw1 ["_law_web_here", "_law_left", "_law_k", "_law_other"] [1, 5, 6] := ⟨rfl, by decide +kernel, by decide +kernel, by decide +kernel, by decide, by decide +kernel, by decide +kernel⟩
theorem ok_law {f : Addr} {fd : FuncData} (T : Txt K mg cs) (F : Fun K "law" "law" sLaw f fd) : FnOk P w K mg base CX0 38 f fd ["_law_script"] (spLaw K) := by
  have CLawWeb : Cal P w K mg base 37 "_law_web" ["_law_script", "_law_first", "_law_most"] (spWeb K) := (ok_web T).mono (by decide)
  have CTwins : Cal P w K mg base 37 "twins" ["web"] spTwins := (ok_twins T).mono (by decide)
  have CLawGone : Cal P w K mg base 37 "_law_gone" ["_law_web_here", "_law_found"] (spGone K) := (ok_lawGone T).mono (by decide)
  have CTelling : Cal P w K mg base 37 "telling" ["web"] (spTelling cs) := (ok_telling T).mono (by decide)
  have CLawTwins : Cal P w K mg base 37 "_law_twins" ["_law_web_here", "_law_left", "_law_one", "_law_other"] (spLTwins K) := (ok_lawTwins T).mono (by decide)
  refine F.ok scLaw (fun vs H Q E h => ?_) (fun cdv A outer s H vs Q E hr h => ?_)
  · obtain ⟨a, ns, rfl, _⟩ := h
    rfl
  · obtain ⟨a, ns, rfl, hs, hlen, k⟩ := h
    have hu64 := hr.units
    refine ⟨_, (pss_cons (ps_set (i := 1) scLaw.nd rfl (Or.inr rfl) (pe_cal CLawWeb hr (by rfl) (pa_cons (pv 0) (pa_cons pe_int (pa_cons pe_int pa_nil)))))
      (pss_cons (ps_set (i := 2) scLaw.nd rfl (Or.inl rfl) (pe_callTy call_list_of (by rfl) T.list PyProof.Rows.boot_list (pa_cons (pv 1) pa_nil)))
      (pss_cons (ps_for PassesOwn.never rfl (pi_range1 rfl T.range (pa_cons pe_int pa_nil)) (pg_name (i := 3) scLaw.nd rfl (Or.inl rfl))
      (pss_cons (ps_set (i := 4) scLaw.nd rfl (Or.inl rfl) (pe_cal CTwins hr (by rfl) (pa_cons (pv 2) pa_nil)))
        (pss_cons (ps_if (PW.pt (pw_or (pt_not (pt_val (pe_callB (call_isinstK K) (by rfl) T.isinst PyProof.Rows.boot_isinstance (pa_cons (pv 4) (pa_cons (pe_bltn (v := .ty "list") (by rfl) T.list PyProof.Rows.boot_list rfl) pa_nil))))) (pw_or1 (pt_cmpR (op_neL hu64) (pv 2) (pv 1) (nomark _)))))
        pss_never
        pss_nil)
        (pss_cons (ps_set (i := 5) scLaw.nd rfl (Or.inr rfl) (pe_cal CLawGone hr (by rfl) (pa_cons (pv 1) (pa_cons (pv 4) pa_nil))))
        (pss_cons (ps_if (pt_cmpR (op_eqL hu64) (pv 5) (pe_lst pa_nil) (nomark _))
        pss_never
        pss_nil)
        (pss_cons (ps_for PassesOwn.never rfl (pi_range1 rfl T.range (pa_cons (pe_callB (call_lenK K) (by rfl) T.len PySem.boot_len (pa_cons (pv 5) pa_nil)) pa_nil)) (pg_name (i := 6) scLaw.nd rfl (Or.inr rfl))
        (pss_one (ps_if (pt_val (pe_callB (call_anyK K rfl) (by rfl) T.any PyProof.Rows.boot_any (pa_cons (pe_comp (sc := cLaw1) rfl (pi_listK K (pe_slice (sl_listK K) (pv 5) po_none (po_some (pv 6)))) cLaw1s (fun _ _ _ _ => (pg_name (i := 3) cLaw1s.nd rfl (Or.inl rfl))) (fun _ _ _ _ => pif_nil) (fun _ _ _ _ => (pe_cal CLawTwins hr (by rfl) (pa_cons (pv 0) (pa_cons (pv 1) (pa_cons (pe_ix (ix_listK K) (pv 1) (pv 2) (fun _ _ => rfl)) (pa_cons (pv 3) pa_nil))))))) pa_nil)))
          pss_never
          pss_nil)))
        (pss_cons (ps_if (pt_cmpR op_ne (pe_cmpR op_eq (pe_callB (call_lenK K) (by rfl) T.len PySem.boot_len (pa_cons (pv 5) pa_nil)) pe_int (nomark _)) (pe_callB (call_isC K) (by rfl) T.isinst PyProof.Rows.boot_isinstance (pa_cons (pe_cal CTelling hr (by rfl) (pa_cons (pv 1) pa_nil)) (pa_cons (pe_glob (v := .ref cs.Made) (by rfl) T.gMade rfl) pa_nil))) (nomark _))
        pss_never
        pss_nil)
        (pss_one (ps_expr (pe_bm0 PySem.F.plainAttrs_list PySem.F.slot_list_clear PySem.F.type_list_clear mt_clear (pv 4)))))))))))
      (pss_one (ps_ret pe_bl))))), ?_⟩
    refine ⟨_, rfl, a, ns, rfl, hs, fun wl H1 ws hwl s1 W h1w => ?_⟩
    have h10 := W.le
    refine ⟨_, rfl, wl, vv ws, rfl, .inl (SqL.of h1w), fun hl hhl => ?_⟩
    have hwh : wl ≠ hl := ne_of_none h1w hhl
    have h2w : upd H1 hl (.lst (vv ws)) wl = some (.lst (vv ws)) := by rw [upd_ne hwh]; exact h1w
    have h2h : upd H1 hl (.lst (vv ws)) hl = some (.lst (vv ws)) := upd_same
    generalize upd H1 hl (.lst (vv ws)) = H2 at h2w h2h
    refine ⟨2, rfl, by decide, by decide, ?_⟩
    refine for_range (n := 2) (fun i σ H3 => (∃ v1 v2 v3 v4, σ = [some (.ref a), some (.ref wl), some (.ref hl), v1, v2, v3, v4]) ∧ H3 wl = some (.lst (vv ws)) ∧ H3 hl = some (.lst (vv ws))) ⟨⟨_, _, _, _, rfl⟩, h2w, h2h⟩ ?_ ?_
    · rintro i σ H3 hi ⟨⟨v1, v2, v3, v4, rfl⟩, h3w, h3h⟩
      refine ⟨_, rfl, hl, ws, rfl, h3h, W, fun ps left fl H4 tk hno hfl s4 hps => ?_⟩
      obtain ⟨ts, p1, p2⟩ := id hps
      have h4w := s4 _ _ h3w
      have h4h := s4 _ _ h3h
      refine ⟨_, rfl, _, _, _, _, rfl, TyOf.lst p1, kit_ll K, true, rfl, iteF ?_⟩
      refine ⟨_, rfl, _, rfl, hl, wl, iv ws, iv ws, rfl, rfl, SqL.of h4h, SqL.of h4w, _, rfl, iteNS rfl ?_⟩
      refine ⟨_, rfl, _, rfl, wl, fl, ws, ps, left, rfl, h4w, W, hps, tk, fun ll H5 hll s5 h5l => ?_⟩
      have ok := tk.ok W
      have hleft := nodup_length ok.nd ok.lt
      have h5w := s5 _ _ h4w
      have h5h := s5 _ _ h4h
      have h5f := s5 _ _ p1
      refine ⟨_, rfl, Nat.zero_le _, fun e he => ?_⟩
      have s6 := same_upd (o := .lst []) (Same.refl H5) he
      refine ⟨ll, e, iv left, [], rfl, rfl, SqL.of (s6 _ _ h5l), SqL.of upd_same, _, rfl, ?_⟩
      refine iteF' (decide_eq_false fun z => ok.ne (List.map_eq_nil_iff.mp z)) ?_
      refine ⟨_, rfl, ll, _, rfl, .inl (SqL.of (s6 _ _ h5l)), _, rfl, by rw [vv_len]; omega, by rw [vv_len]; omega, ?_⟩
      rw [vv_len, Int.toNat_natCast]
      refine for_range (n := left.length) (fun j σ H6 => (∃ v4, σ = [some (.ref a), some (.ref wl), some (.ref hl), some (.int (0 + (i : Int))), some (.ref fl), some (.ref ll), v4]) ∧ Same H5 H6) ⟨⟨_, rfl⟩, s6⟩ ?_ ?_
      · rintro j σ H6 hj ⟨⟨v4, rfl⟩, s7⟩
        have e0 : (0 : Int) + (j : Int) = ((j : Nat) : Int) := by omega
        rw [e0]
        refine ⟨_, rfl, _, rfl, _, rfl, ll, _, rfl, SqL.of (s7 _ _ h5l), fun q hq => ?_⟩
        rw [cut_take left (Nat.le_of_lt hj)]
        have s8 := same_upd (o := .lst (vv (left.take j))) (Same.refl H6) hq
        have htl : (left.take j).length = j := by rw [List.length_take]; omega
        refine ⟨q, rfl, ⟨_, SqL.of upd_same⟩, comp_list (K := K) (a := q) (xs := vv (left.take j)) (fun i ys H7 => ys = (((left.take j).take i).map fun p => false).map V.bl ∧ Same (upd H6 q (.lst (vv (left.take j)))) H7) ⟨rfl, Same.refl _⟩ (by rw [vv_len, sizeLine_eq]; omega) (fun i ys H7 _ h => SqL.of (h.2 _ _ upd_same)) ?_ ?_⟩
        · rintro m x ys H7 hx hlt ⟨rfl, s9⟩ hyl hys
          obtain ⟨hm, rfl⟩ := vv_at hx
          rw [htl] at hm
          have s10 : Same H5 H7 := (s7.trans s8).trans s9
          refine gset ?_
          refine yes ?_
          refine iteT ?_
          refine ⟨_, rfl, _, rfl, _, rfl, _, rfl, ll, _, _, _, rfl, rfl, SqL.of (s10 _ _ h5l), atI_nat (vv_get hj), _, rfl, wl, ll, ws, left, left.getD j 0, (left.take j).getD m 0, rfl, SqL.of (s10 _ _ h5w), SqL.of (s10 _ _ h5l), ok.lt _ (getD_mem hj), ?_, by omega, fun H8 s11 => ⟨hys, Pn.snoc hlt hyl ⟨?_, s9.trans s11⟩⟩⟩
          · rw [take_at hm (Nat.le_of_lt hj)]
            exact ok.lt _ (getD_mem (by omega))
          · rw [take_at hm (Nat.le_of_lt hj), hno j m hm hj, ← all_snoc (fun _ => false) (left.take j) (by rw [htl]; exact hm)]
        · rintro ys H7 ⟨rfl, s9⟩ hyl r hr
          refine ⟨r, _, rfl, SqL.of upd_same, _, rfl, ?_⟩
          have e1 : ((((left.take j).take (vv (left.take j)).length).map fun p => false).any id) = false := by
            rw [List.any_map]
            exact List.any_eq_false.mpr fun _ _ => by simp
          rw [e1]
          refine iteF ?_
          exact ⟨⟨_, rfl⟩, (s7.trans s8).trans (same_upd s9 hr)⟩
      · rintro σ H6 ⟨⟨v4, rfl⟩, s7⟩
        have h6w := s7 _ _ h5w
        have h6h := s7 _ _ h5h
        have h6f := s7 _ _ h5f
        have one := tk.one W hno
        have fin : ∀ (H8 : Hp), Same H6 H8 → (∃ l xs, V.ref fl = .ref l ∧ ([] : List V) = [] ∧ H8 l = some (.lst xs) ∧ ((∃ u1 u2 u3 u4, ([some (.ref a), some (.ref wl), some (.ref hl), some (.int (0 + (i : Int))), some (.ref fl), some (.ref ll), v4] : St) = [some (.ref a), some (.ref wl), some (.ref hl), u1, u2, u3, u4]) ∧ upd H8 l (.lst []) wl = some (.lst (vv ws)) ∧ upd H8 l (.lst []) hl = some (.lst (vv ws)))) := fun H8 s8 => by
          have nw : wl ≠ fl := fun z => by
            rw [← z, h3w] at hfl
            cases hfl
          have nh : hl ≠ fl := fun z => by
            rw [← z, h3h] at hfl
            cases hfl
          exact ⟨fl, _, rfl, rfl, s8 _ _ h6f, ⟨_, _, _, _, rfl⟩, by rw [upd_ne nw]; exact s8 _ _ h6w, by rw [upd_ne nh]; exact s8 _ _ h6h⟩
        refine ⟨_, rfl, ll, _, rfl, .inl (SqL.of (s7 _ _ h5l)), rfl, _, rfl, wl, ws, rfl, h6w, W, fun N x dx tx H8 hx s8 h8x hT => ?_, fun r rest x dx l H8 hst hx hl8 s8 h8x h8l => ?_⟩
        · refine ⟨_, _, _, _, rfl, T.oMade.ty h8x, T.kMadeMade, rfl, _, rfl, ?_⟩
          have e1 : decide (V.int (((vv left).length : Nat) : Int) = V.int 1) = true := decide_eq_true (by rw [vv_len, one.mpr N]; rfl)
          rw [e1]
          refine iteF' rfl ?_
          exact ⟨_, rfl, .inl ⟨rfl, _, SqL.of (s8 _ _ h6f)⟩, fin H8 s8⟩
        · refine ⟨_, _, _, _, rfl, T.oRow.ty h8x, T.kRowMade, rfl, _, rfl, ?_⟩
          have e1 : decide (V.int (((vv left).length : Nat) : Int) = V.int 1) = false := decide_eq_false fun z => by
            rw [vv_len] at z
            have z' : left.length = 1 := by have := V.int.inj z; omega
            have := (noRow_iff W).mpr (one.mp z')
            rw [hst] at this
            cases this
          rw [e1]
          refine iteF' rfl ?_
          exact ⟨_, rfl, .inl ⟨rfl, _, SqL.of (s8 _ _ h6f)⟩, fin H8 s8⟩
    · rintro σ H3 ⟨⟨v1, v2, v3, v4, rfl⟩, h3w, h3h⟩
      exact k H3
end
end Bw

set_option Elab.async false
set_option linter.all false
set_option maxRecDepth 100000
namespace Bw
open PySem L2
theorem txt_mk {l : PySem.W.OpenLaw} {w : World} {K : PySem.W.Frag} {h : Heap} {mg : Str → Option Value} {fa f cTree cPoint cDoing cBeside cAcross cAnswer cMade cRow : Addr} {oc kV doc pm cdv ct : Value} {od an : Option Addr} {osl : Array (Option Value)} (X : K.In h) (G : h.Ns mainGlobals mg) (hfa : mg "law" = some (.ref fa))
    (a_Tree : PySem.W.nsIn K mainGlobals "Tree" = some (some (.ref cTree)))
    (a_Point : PySem.W.nsIn K mainGlobals "Point" = some (some (.ref cPoint)))
    (a_Doing : PySem.W.nsIn K mainGlobals "Doing" = some (some (.ref cDoing)))
    (a_Beside : PySem.W.nsIn K mainGlobals "Beside" = some (some (.ref cBeside)))
    (a_Across : PySem.W.nsIn K mainGlobals "Across" = some (some (.ref cAcross)))
    (a_Answer : PySem.W.nsIn K mainGlobals "Answer" = some (some (.ref cAnswer)))
    (a_Made : PySem.W.nsIn K mainGlobals "Made" = some (some (.ref cMade)))
    (a_Row : PySem.W.nsIn K mainGlobals "Row" = some (some (.ref cRow)))
    (F_isBelow : FnT K mg "is_below" sIsBelow ["value", "bound"])
    (F_tied : FnT K mg "tied" sTied ["web", "one", "other"])
    (F_hasPoints : FnT K mg "has_points" sHasPoints ["web", "points"])
    (F_checkWeb : FnT K mg "check_web" sCheckWeb ["web"])
    (F_checkTies : FnT K mg "check_ties" sCheckTies ["web", "point"])
    (F_checkPoints : FnT K mg "check_points" sCheckPoints ["web", "points"])
    (F_checkTrees : FnT K mg "check_trees" sCheckTrees ["trees"])
    (F_turned : FnT K mg "turned" sTurned ["web"])
    (F_among : FnT K mg "among" sAmong ["web", "points"])
    (F_tiesAmong : FnT K mg "ties_among" sTiesAmong ["web", "point", "points"])
    (F_parts : FnT K mg "parts" sParts ["web"])
    (F_hangingWith : FnT K mg "hanging_with" sHangingWith ["web", "start"])
    (F_telling : FnT K mg "telling" sTelling ["web"])
    (F_goesOn : FnT K mg "goes_on" sGoesOn ["web", "row", "point"])
    (F_rowIn : FnT K mg "row_in" sRowIn ["web"])
    (F_longerRows : FnT K mg "longer_rows" sLongerRows ["web", "rows"])
    (F_treeAmong : FnT K mg "tree_among" sTreeAmong ["web", "points"])
    (F_treesAmong : FnT K mg "trees_among" sTreesAmong ["web", "points", "groups"])
    (F_twins : FnT K mg "twins" sTwins ["web"])
    (F_twinsAmong : FnT K mg "twins_among" sTwinsAmong ["web", "points"])
    (F_areTwins : FnT K mg "are_twins" sAreTwins ["web", "points", "one", "other"])
    (F_lawCellAt : FnT K mg "_law_cell_at" sLawCellAt ["_law_script", "_law_k"])
    (F_lawDraw : FnT K mg "_law_draw" sLawDraw ["_law_cell", "_law_k", "_law_many"])
    (F_lawWeb : FnT K mg "_law_web" sLawWeb ["_law_script", "_law_first", "_law_most"])
    (F_lawTie : FnT K mg "_law_tie" sLawTie ["_law_web_here", "_law_one", "_law_other"])
    (F_lawTwins : FnT K mg "_law_twins" sLawTwins ["_law_web_here", "_law_left", "_law_one", "_law_other"])
    (F_lawGone : FnT K mg "_law_gone" sLawGone ["_law_web_here", "_law_found"])
    (F_oPoint : Own K cPoint)
    (F_nPointAt : NoAttr K cPoint "at")
    (F_mkPoint : MakeT K cPoint "Point.__init__" sPointInit ["self", "at"])
    (F_mPointPoints : MethT K cPoint "points" "Point.points" sPointPoints ["self"])
    (F_oBeside : Own K cBeside)
    (F_nBesideTrees : NoAttr K cBeside "trees")
    (F_nBesideLaid : NoAttr K cBeside "laid")
    (F_mkBeside : MakeT K cBeside "Beside.__init__" sBesideInit ["self", "trees"])
    (F_mBesidePoints : MethT K cBeside "points" "Doing.points" sDoingPoints ["self"])
    (F_mBesideLay : MethT K cBeside "lay" "Doing.lay" sDoingLay ["self", "trees"])
    (F_oAcross : Own K cAcross)
    (F_nAcrossTrees : NoAttr K cAcross "trees")
    (F_nAcrossLaid : NoAttr K cAcross "laid")
    (F_mkAcross : MakeT K cAcross "Across.__init__" sAcrossInit ["self", "trees"])
    (F_mAcrossPoints : MethT K cAcross "points" "Doing.points" sDoingPoints ["self"])
    (F_mAcrossLay : MethT K cAcross "lay" "Doing.lay" sDoingLay ["self", "trees"])
    (F_oMade : Own K cMade)
    (F_nMadeTree : NoAttr K cMade "tree")
    (F_mkMade : MakeT K cMade "Made.__init__" sMadeInit ["self", "tree"])
    (F_oRow : Own K cRow)
    (F_nRowFour : NoAttr K cRow "four")
    (F_mkRow : MakeT K cRow "Row.__init__" sRowInit ["self", "four"])
    (F_kPointTree : PySem.W.kitOne K (.ref cPoint) (.ref cTree) = some true)
    (F_kPointMade : PySem.W.kitOne K (.ref cPoint) (.ref cMade) = some false)
    (F_kBesideTree : PySem.W.kitOne K (.ref cBeside) (.ref cTree) = some true)
    (F_kBesideMade : PySem.W.kitOne K (.ref cBeside) (.ref cMade) = some false)
    (F_kAcrossTree : PySem.W.kitOne K (.ref cAcross) (.ref cTree) = some true)
    (F_kAcrossMade : PySem.W.kitOne K (.ref cAcross) (.ref cMade) = some false)
    (F_kMadeTree : PySem.W.kitOne K (.ref cMade) (.ref cTree) = some false)
    (F_kMadeMade : PySem.W.kitOne K (.ref cMade) (.ref cMade) = some true)
    (F_kRowTree : PySem.W.kitOne K (.ref cRow) (.ref cTree) = some false)
    (F_kRowMade : PySem.W.kitOne K (.ref cRow) (.ref cMade) = some false)
    (F_vMOST_POINTS : ∃ t, mg "MOST_POINTS" = some (.int 10 t))
    (F_all : mg "all" = none)
    (F_any : mg "any" = none)
    (F_bool : mg "bool" = none)
    (F_enum : mg "enumerate" = none)
    (F_int : mg "int" = none)
    (F_isinst : mg "isinstance" = none)
    (F_len : mg "len" = none)
    (F_list : mg "list" = none)
    (F_min : mg "min" = none)
    (F_range : mg "range" = none)
    (F_set : mg "set" = none)
    (F_sorted : mg "sorted" = none)
    (F_str : mg "str" = none)
    (F_tuple : mg "tuple" = none)
    (a : PySem.W.nsIn K mainGlobals "law" = some (some (.ref f)))
    (lk : K.lookup f = some ⟨oc, od, .func (PySem.W.fnOf "law" "law" (defArgs sLaw) (defBody sLaw) (defScope sLaw) .none kV doc pm an cdv ct), osl⟩) (cd : PySem.W.codeIn K cdv "law" = true) (kp : PySem.W.keepIn K (.ref f) = true) :
    ∃ fd : FuncData, (∀ (s : Shared) (v : Value), BindsTo s fd ⟨[v], []⟩ [("_law_script", v)]) ∧ ∀ base : Heap, K.In base → base.Ns mainGlobals mg → FnOk l.prog w K mg base CX0 38 fa fd ["_law_script"] (spLaw K) := by
  have e := hfa.symm.trans (PySem.W.mg_of X G a)
  cases e
  have T : Txt K mg ⟨cTree, cPoint, cDoing, cBeside, cAcross, cAnswer, cMade, cRow⟩ := ⟨PySem.W.mg_of X G a_Tree, PySem.W.mg_of X G a_Point, PySem.W.mg_of X G a_Doing, PySem.W.mg_of X G a_Beside, PySem.W.mg_of X G a_Across, PySem.W.mg_of X G a_Answer, PySem.W.mg_of X G a_Made, PySem.W.mg_of X G a_Row, F_isBelow, F_tied, F_hasPoints, F_checkWeb, F_checkTies, F_checkPoints, F_checkTrees, F_turned, F_among, F_tiesAmong, F_parts, F_hangingWith, F_telling, F_goesOn, F_rowIn, F_longerRows, F_treeAmong, F_treesAmong, F_twins, F_twinsAmong, F_areTwins, F_lawCellAt, F_lawDraw, F_lawWeb, F_lawTie, F_lawTwins, F_lawGone, F_oPoint, F_nPointAt, F_mkPoint, F_mPointPoints, F_oBeside, F_nBesideTrees, F_nBesideLaid, F_mkBeside, F_mBesidePoints, F_mBesideLay, F_oAcross, F_nAcrossTrees, F_nAcrossLaid, F_mkAcross, F_mAcrossPoints, F_mAcrossLay, F_oMade, F_nMadeTree, F_mkMade, F_oRow, F_nRowFour, F_mkRow, F_kPointTree, F_kPointMade, F_kBesideTree, F_kBesideMade, F_kAcrossTree, F_kAcrossMade, F_kMadeTree, F_kMadeMade, F_kRowTree, F_kRowMade, F_vMOST_POINTS, F_all, F_any, F_bool, F_enum, F_int, F_isinst, F_len, F_list, F_min, F_range, F_set, F_sorted, F_str, F_tuple⟩
  exact ⟨PySem.W.fnOf "law" "law" (defArgs sLaw) (defBody sLaw) (defScope sLaw) .none kV doc pm an cdv ct, fun s v => .of_eq rfl, fun base _ _ => ok_law T (fun_mk (st := sLaw) lk cd kp)⟩
theorem walk {l : PySem.W.OpenLaw} {q : Program} {loose : List Str} {XP : (Str → Option Value) → Heap → Prop} {YP : World → Heap → Prop} {d : DefRec} {K : Params → PySem.W.Frag} (hn : l.most = some 63) (hdf : d.params.defaults = [])
    (hY : ∀ (w : World) (h : Heap), YP w h → (K w.params).In h)
    (F : ∀ (w : World) (mg : Str → Option Value) (fa : Addr) (h : Heap), (K w.params).In h → h.Ns mainGlobals mg → mg d.name = some (.ref fa) →
      ∃ fd : FuncData, (∀ (s : Shared) (u : Value), BindsTo s fd ⟨[u], []⟩ [("_law_script", u)]) ∧ ∀ base : Heap, (K w.params).In base → base.Ns mainGlobals mg → FnOk l.prog w (K w.params) mg base CX0 38 fa fd ["_law_script"] (spLaw (K w.params))) :
    PySem.W.WalkO q loose XP YP l.row.toRowW d [] (fun f vs => PySem.call f vs) :=
  L2.walk_of (n := 63) (k := 38) (x := "_law_script") (CX := fun _ => CX0) (sp := fun w => spLaw (K w.params)) hn (by decide) hdf ⟨rfl, by decide, by decide⟩ hY F (fun _ _ a ns hl _ hS => ⟨a, ns, rfl, hS, hl, fun _ => rfl⟩) fun _ _ _ _ _ z => z
end Bw
open PySem PySem.W PyProof.Rows
set_option maxRecDepth 100000 in
set_option maxHeartbeats 0 in
theorem PySem.Challenge.cw_besideweb_k04_whole_twins_holds : PySem.Challenge.rw_besideweb_k04_whole_twins.Holds := by
  w_on; o_law
  refine holds_open (q := Bw.qv) (loose := Bw.looseK) (Xt := fun s => xlAt Bw.qv [] s && recOk (RowW.records (OpenRow.toRowW PySem.Challenge.rw_besideweb_k04_whole_twins.row)) s) (XP := XL Bw.qv []) (Yf := Hook.obs Bw.kH) (Ya := Hook.val Bw.kH) (YP := Hook.says Bw.kH) Bw.head_left (Hook.of Bw.kH) (Hook.keeps Bw.kH) (fun s e => xl_of s (Bool.and_eq_true_iff.mp e).1) XL.keeps (by rfl) (by rfl) (by rfl) (fun s e => recFacts_of (Bool.and_eq_true_iff.mp e).2) (by rfl) (by first | assumption | decide +kernel) (by decide +kernel) ⟨rfl, rfl, rfl, rfl, rfl, by decide +kernel⟩ ?hw ?hc
  (case hw => w_witness2)
  refine Bw.walk (l := PySem.Challenge.rw_besideweb_k04_whole_twins) rfl rfl (K := Bw.KK) (fun w h Y => PySem.W.kIn_of (K := Bw.KK) (as := Bw.KAs) Y) ?F
  case F =>
    k_fill
    intro w mg fa h KX G hmg
    refine' Bw.txt_mk KX G hmg ?a_Tree ?a_Point ?a_Doing ?a_Beside ?a_Across ?a_Answer ?a_Made ?a_Row ?F_isBelow ?F_tied ?F_hasPoints ?F_checkWeb ?F_checkTies ?F_checkPoints ?F_checkTrees ?F_turned ?F_among ?F_tiesAmong ?F_parts ?F_hangingWith ?F_telling ?F_goesOn ?F_rowIn ?F_longerRows ?F_treeAmong ?F_treesAmong ?F_twins ?F_twinsAmong ?F_areTwins ?F_lawCellAt ?F_lawDraw ?F_lawWeb ?F_lawTie ?F_lawTwins ?F_lawGone ?F_oPoint ?F_nPointAt ?F_mkPoint ?F_mPointPoints ?F_oBeside ?F_nBesideTrees ?F_nBesideLaid ?F_mkBeside ?F_mBesidePoints ?F_mBesideLay ?F_oAcross ?F_nAcrossTrees ?F_nAcrossLaid ?F_mkAcross ?F_mAcrossPoints ?F_mAcrossLay ?F_oMade ?F_nMadeTree ?F_mkMade ?F_oRow ?F_nRowFour ?F_mkRow ?F_kPointTree ?F_kPointMade ?F_kBesideTree ?F_kBesideMade ?F_kAcrossTree ?F_kAcrossMade ?F_kMadeTree ?F_kMadeMade ?F_kRowTree ?F_kRowMade ?F_vMOST_POINTS ?F_all ?F_any ?F_bool ?F_enum ?F_int ?F_isinst ?F_len ?F_list ?F_min ?F_range ?F_set ?F_sorted ?F_str ?F_tuple ?la ?ll ?lc ?lk
    (case a_Tree => k_is)
    (case a_Point => k_is)
    (case a_Doing => k_is)
    (case a_Beside => k_is)
    (case a_Across => k_is)
    (case a_Answer => k_is)
    (case a_Made => k_is)
    (case a_Row => k_is)
    case F_isBelow =>
      refine' L2.fnt_mk KX G ?a ?l ?c ?k (fun _ _ _ _ _ _ us hl => match us, hl with | [_, _], _ => rfl)
      (case a => k_is); (case l => k_is); (case c => k_is); (case k => k_is)
    case F_tied =>
      refine' L2.fnt_mk KX G ?a ?l ?c ?k (fun _ _ _ _ _ _ us hl => match us, hl with | [_, _, _], _ => rfl)
      (case a => k_is); (case l => k_is); (case c => k_is); (case k => k_is)
    case F_hasPoints =>
      refine' L2.fnt_mk KX G ?a ?l ?c ?k (fun _ _ _ _ _ _ us hl => match us, hl with | [_, _], _ => rfl)
      (case a => k_is); (case l => k_is); (case c => k_is); (case k => k_is)
    case F_checkWeb =>
      refine' L2.fnt_mk KX G ?a ?l ?c ?k (fun _ _ _ _ _ _ us hl => match us, hl with | [_], _ => rfl)
      (case a => k_is); (case l => k_is); (case c => k_is); (case k => k_is)
    case F_checkTies =>
      refine' L2.fnt_mk KX G ?a ?l ?c ?k (fun _ _ _ _ _ _ us hl => match us, hl with | [_, _], _ => rfl)
      (case a => k_is); (case l => k_is); (case c => k_is); (case k => k_is)
    case F_checkPoints =>
      refine' L2.fnt_mk KX G ?a ?l ?c ?k (fun _ _ _ _ _ _ us hl => match us, hl with | [_, _], _ => rfl)
      (case a => k_is); (case l => k_is); (case c => k_is); (case k => k_is)
    case F_checkTrees =>
      refine' L2.fnt_mk KX G ?a ?l ?c ?k (fun _ _ _ _ _ _ us hl => match us, hl with | [_], _ => rfl)
      (case a => k_is); (case l => k_is); (case c => k_is); (case k => k_is)
    case F_turned =>
      refine' L2.fnt_mk KX G ?a ?l ?c ?k (fun _ _ _ _ _ _ us hl => match us, hl with | [_], _ => rfl)
      (case a => k_is); (case l => k_is); (case c => k_is); (case k => k_is)
    case F_among =>
      refine' L2.fnt_mk KX G ?a ?l ?c ?k (fun _ _ _ _ _ _ us hl => match us, hl with | [_, _], _ => rfl)
      (case a => k_is); (case l => k_is); (case c => k_is); (case k => k_is)
    case F_tiesAmong =>
      refine' L2.fnt_mk KX G ?a ?l ?c ?k (fun _ _ _ _ _ _ us hl => match us, hl with | [_, _, _], _ => rfl)
      (case a => k_is); (case l => k_is); (case c => k_is); (case k => k_is)
    case F_parts =>
      refine' L2.fnt_mk KX G ?a ?l ?c ?k (fun _ _ _ _ _ _ us hl => match us, hl with | [_], _ => rfl)
      (case a => k_is); (case l => k_is); (case c => k_is); (case k => k_is)
    case F_hangingWith =>
      refine' L2.fnt_mk KX G ?a ?l ?c ?k (fun _ _ _ _ _ _ us hl => match us, hl with | [_, _], _ => rfl)
      (case a => k_is); (case l => k_is); (case c => k_is); (case k => k_is)
    case F_telling =>
      refine' L2.fnt_mk KX G ?a ?l ?c ?k (fun _ _ _ _ _ _ us hl => match us, hl with | [_], _ => rfl)
      (case a => k_is); (case l => k_is); (case c => k_is); (case k => k_is)
    case F_goesOn =>
      refine' L2.fnt_mk KX G ?a ?l ?c ?k (fun _ _ _ _ _ _ us hl => match us, hl with | [_, _, _], _ => rfl)
      (case a => k_is); (case l => k_is); (case c => k_is); (case k => k_is)
    case F_rowIn =>
      refine' L2.fnt_mk KX G ?a ?l ?c ?k (fun _ _ _ _ _ _ us hl => match us, hl with | [_], _ => rfl)
      (case a => k_is); (case l => k_is); (case c => k_is); (case k => k_is)
    case F_longerRows =>
      refine' L2.fnt_mk KX G ?a ?l ?c ?k (fun _ _ _ _ _ _ us hl => match us, hl with | [_, _], _ => rfl)
      (case a => k_is); (case l => k_is); (case c => k_is); (case k => k_is)
    case F_treeAmong =>
      refine' L2.fnt_mk KX G ?a ?l ?c ?k (fun _ _ _ _ _ _ us hl => match us, hl with | [_, _], _ => rfl)
      (case a => k_is); (case l => k_is); (case c => k_is); (case k => k_is)
    case F_treesAmong =>
      refine' L2.fnt_mk KX G ?a ?l ?c ?k (fun _ _ _ _ _ _ us hl => match us, hl with | [_, _, _], _ => rfl)
      (case a => k_is); (case l => k_is); (case c => k_is); (case k => k_is)
    case F_twins =>
      refine' L2.fnt_mk KX G ?a ?l ?c ?k (fun _ _ _ _ _ _ us hl => match us, hl with | [_], _ => rfl)
      (case a => k_is); (case l => k_is); (case c => k_is); (case k => k_is)
    case F_twinsAmong =>
      refine' L2.fnt_mk KX G ?a ?l ?c ?k (fun _ _ _ _ _ _ us hl => match us, hl with | [_, _], _ => rfl)
      (case a => k_is); (case l => k_is); (case c => k_is); (case k => k_is)
    case F_areTwins =>
      refine' L2.fnt_mk KX G ?a ?l ?c ?k (fun _ _ _ _ _ _ us hl => match us, hl with | [_, _, _, _], _ => rfl)
      (case a => k_is); (case l => k_is); (case c => k_is); (case k => k_is)
    case F_lawCellAt =>
      refine' L2.fnt_mk KX G ?a ?l ?c ?k (fun _ _ _ _ _ _ us hl => match us, hl with | [_, _], _ => rfl)
      (case a => k_is); (case l => k_is); (case c => k_is); (case k => k_is)
    case F_lawDraw =>
      refine' L2.fnt_mk KX G ?a ?l ?c ?k (fun _ _ _ _ _ _ us hl => match us, hl with | [_, _, _], _ => rfl)
      (case a => k_is); (case l => k_is); (case c => k_is); (case k => k_is)
    case F_lawWeb =>
      refine' L2.fnt_mk KX G ?a ?l ?c ?k (fun _ _ _ _ _ _ us hl => match us, hl with | [_, _, _], _ => rfl)
      (case a => k_is); (case l => k_is); (case c => k_is); (case k => k_is)
    case F_lawTie =>
      refine' L2.fnt_mk KX G ?a ?l ?c ?k (fun _ _ _ _ _ _ us hl => match us, hl with | [_, _, _], _ => rfl)
      (case a => k_is); (case l => k_is); (case c => k_is); (case k => k_is)
    case F_lawTwins =>
      refine' L2.fnt_mk KX G ?a ?l ?c ?k (fun _ _ _ _ _ _ us hl => match us, hl with | [_, _, _, _], _ => rfl)
      (case a => k_is); (case l => k_is); (case c => k_is); (case k => k_is)
    case F_lawGone =>
      refine' L2.fnt_mk KX G ?a ?l ?c ?k (fun _ _ _ _ _ _ us hl => match us, hl with | [_, _], _ => rfl)
      (case a => k_is); (case l => k_is); (case c => k_is); (case k => k_is)
    case F_oPoint =>
      refine' L2.own_mk ?pg ?hd ?po ?sa ?ha ?hn ?ht ?hm
      (case pg => k_is); (case hd => k_is); (case po => k_is); (case sa => k_is); (case ha => k_is); (case hn => k_is); (case ht => k_is); (case hm => k_is)
    case F_nPointAt =>
      refine' L2.noattr_mk ?a
      (case a => k_is)
    case F_mkPoint =>
      refine' L2.maket_mk ?m ?kc ?a ?i ?l ?c ?k (fun _ _ _ _ _ _ us hl => match us, hl with | [_, _], _ => rfl)
      (case m => k_is); (case kc => k_is); (case a => k_is); (case i => k_is); (case l => k_is); (case c => k_is); (case k => k_is)
    case F_mPointPoints =>
      refine' L2.metht_mk ?a ?i ?l ?c ?k (fun _ _ _ _ _ _ us hl => match us, hl with | [_], _ => rfl)
      (case a => k_is); (case i => k_is); (case l => k_is); (case c => k_is); (case k => k_is)
    case F_oBeside =>
      refine' L2.own_mk ?pg ?hd ?po ?sa ?ha ?hn ?ht ?hm
      (case pg => k_is); (case hd => k_is); (case po => k_is); (case sa => k_is); (case ha => k_is); (case hn => k_is); (case ht => k_is); (case hm => k_is)
    case F_nBesideTrees =>
      refine' L2.noattr_mk ?a
      (case a => k_is)
    case F_nBesideLaid =>
      refine' L2.noattr_mk ?a
      (case a => k_is)
    case F_mkBeside =>
      refine' L2.maket_mk ?m ?kc ?a ?i ?l ?c ?k (fun _ _ _ _ _ _ us hl => match us, hl with | [_, _], _ => rfl)
      (case m => k_is); (case kc => k_is); (case a => k_is); (case i => k_is); (case l => k_is); (case c => k_is); (case k => k_is)
    case F_mBesidePoints =>
      refine' L2.metht_mk ?a ?i ?l ?c ?k (fun _ _ _ _ _ _ us hl => match us, hl with | [_], _ => rfl)
      (case a => k_is); (case i => k_is); (case l => k_is); (case c => k_is); (case k => k_is)
    case F_mBesideLay =>
      refine' L2.metht_mk ?a ?i ?l ?c ?k (fun _ _ _ _ _ _ us hl => match us, hl with | [_, _], _ => rfl)
      (case a => k_is); (case i => k_is); (case l => k_is); (case c => k_is); (case k => k_is)
    case F_oAcross =>
      refine' L2.own_mk ?pg ?hd ?po ?sa ?ha ?hn ?ht ?hm
      (case pg => k_is); (case hd => k_is); (case po => k_is); (case sa => k_is); (case ha => k_is); (case hn => k_is); (case ht => k_is); (case hm => k_is)
    case F_nAcrossTrees =>
      refine' L2.noattr_mk ?a
      (case a => k_is)
    case F_nAcrossLaid =>
      refine' L2.noattr_mk ?a
      (case a => k_is)
    case F_mkAcross =>
      refine' L2.maket_mk ?m ?kc ?a ?i ?l ?c ?k (fun _ _ _ _ _ _ us hl => match us, hl with | [_, _], _ => rfl)
      (case m => k_is); (case kc => k_is); (case a => k_is); (case i => k_is); (case l => k_is); (case c => k_is); (case k => k_is)
    case F_mAcrossPoints =>
      refine' L2.metht_mk ?a ?i ?l ?c ?k (fun _ _ _ _ _ _ us hl => match us, hl with | [_], _ => rfl)
      (case a => k_is); (case i => k_is); (case l => k_is); (case c => k_is); (case k => k_is)
    case F_mAcrossLay =>
      refine' L2.metht_mk ?a ?i ?l ?c ?k (fun _ _ _ _ _ _ us hl => match us, hl with | [_, _], _ => rfl)
      (case a => k_is); (case i => k_is); (case l => k_is); (case c => k_is); (case k => k_is)
    case F_oMade =>
      refine' L2.own_mk ?pg ?hd ?po ?sa ?ha ?hn ?ht ?hm
      (case pg => k_is); (case hd => k_is); (case po => k_is); (case sa => k_is); (case ha => k_is); (case hn => k_is); (case ht => k_is); (case hm => k_is)
    case F_nMadeTree =>
      refine' L2.noattr_mk ?a
      (case a => k_is)
    case F_mkMade =>
      refine' L2.maket_mk ?m ?kc ?a ?i ?l ?c ?k (fun _ _ _ _ _ _ us hl => match us, hl with | [_, _], _ => rfl)
      (case m => k_is); (case kc => k_is); (case a => k_is); (case i => k_is); (case l => k_is); (case c => k_is); (case k => k_is)
    case F_oRow =>
      refine' L2.own_mk ?pg ?hd ?po ?sa ?ha ?hn ?ht ?hm
      (case pg => k_is); (case hd => k_is); (case po => k_is); (case sa => k_is); (case ha => k_is); (case hn => k_is); (case ht => k_is); (case hm => k_is)
    case F_nRowFour =>
      refine' L2.noattr_mk ?a
      (case a => k_is)
    case F_mkRow =>
      refine' L2.maket_mk ?m ?kc ?a ?i ?l ?c ?k (fun _ _ _ _ _ _ us hl => match us, hl with | [_, _], _ => rfl)
      (case m => k_is); (case kc => k_is); (case a => k_is); (case i => k_is); (case l => k_is); (case c => k_is); (case k => k_is)
    (case F_kPointTree => kit_is)
    (case F_kPointMade => kit_is)
    (case F_kBesideTree => kit_is)
    (case F_kBesideMade => kit_is)
    (case F_kAcrossTree => kit_is)
    (case F_kAcrossMade => kit_is)
    (case F_kMadeTree => kit_is)
    (case F_kMadeMade => kit_is)
    (case F_kRowTree => kit_is)
    (case F_kRowMade => kit_is)
    case F_vMOST_POINTS =>
      refine' Bw.most_mk (PySem.W.mg_of KX G ?a) ?e
      (case a => k_is)
      (case e => exact ⟨_, rfl⟩)
    case F_all =>
      refine' PySem.W.mg_none_of KX G ?a
      (case a => k_is)
    case F_any =>
      refine' PySem.W.mg_none_of KX G ?a
      (case a => k_is)
    case F_bool =>
      refine' PySem.W.mg_none_of KX G ?a
      (case a => k_is)
    case F_enum =>
      refine' PySem.W.mg_none_of KX G ?a
      (case a => k_is)
    case F_int =>
      refine' PySem.W.mg_none_of KX G ?a
      (case a => k_is)
    case F_isinst =>
      refine' PySem.W.mg_none_of KX G ?a
      (case a => k_is)
    case F_len =>
      refine' PySem.W.mg_none_of KX G ?a
      (case a => k_is)
    case F_list =>
      refine' PySem.W.mg_none_of KX G ?a
      (case a => k_is)
    case F_min =>
      refine' PySem.W.mg_none_of KX G ?a
      (case a => k_is)
    case F_range =>
      refine' PySem.W.mg_none_of KX G ?a
      (case a => k_is)
    case F_set =>
      refine' PySem.W.mg_none_of KX G ?a
      (case a => k_is)
    case F_sorted =>
      refine' PySem.W.mg_none_of KX G ?a
      (case a => k_is)
    case F_str =>
      refine' PySem.W.mg_none_of KX G ?a
      (case a => k_is)
    case F_tuple =>
      refine' PySem.W.mg_none_of KX G ?a
      (case a => k_is)
    (case la => k_is); (case ll => k_is); (case lc => k_is); (case lk => k_is)
#print axioms PySem.Challenge.cw_besideweb_k04_whole_twins_holds

