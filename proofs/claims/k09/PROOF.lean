import PyProof.Rows.All
import Wide.All
import OpenK.AllK
import Wide.FinOn
import Lean
import PyProof.EqAt
import PyProof.EqKinds
import PyProof.TupleCall
import PySem.Challenge.RW_besideweb_k09_texts_misread
set_option Elab.async false
set_option linter.all false
namespace L2
open PySem PySem.Spec PyProof.Rows
def inClass (s : Stmt) (j : Nat) : Stmt := match s with
  | .ClassDef _ _ _ body _ _ _ _ _ _ _ => body.getD j (.Pass ⟨0, 0, 0, 0⟩)
  | _ => .Pass ⟨0, 0, 0, 0⟩
def defArgs (s : Stmt) : Arguments := match s with
  | .FunctionDef _ a _ _ _ _ _ _ _ _ => a
  | _ => { posonlyargs := [], args := [], vararg := none, kwonlyargs := [], kw_defaults := [], kwarg := none, defaults := [] }
def defBody (s : Stmt) : List Stmt := match s with
  | .FunctionDef _ _ b _ _ _ _ _ _ _ => b
  | _ => []
def defScope (s : Stmt) : Scope := match s with
  | .FunctionDef _ _ _ _ _ _ sc _ _ _ => sc
  | _ => { kind := .function, names := [], isGenerator := false, isCoroutine := false }

end L2

set_option Elab.async false
set_option linter.all false
/-! The top's run upon a tree, whole: what it leaves is looked at where it ends -/
namespace Bw
open PySem PySem.W PyProof.Rows
def topRunT (tb : String → Option Builtin) (p : Program) (w : World) (n₀ : Nat) (ann : Option Value) : Nat → SharedT → Thread → Option SharedT
  | 0, _, _ => none
  | n + 1, s, t => match through t with
    | true => some s
    | false => match stepOk n₀ ann t with
      | false => none
      | true => match stepT (denote tb) p w s t with
        | some (s', t') => topRunT tb p w n₀ ann n s' t'
        | none => none
theorem topRun_of {tb : String → Option Builtin} {p : Program} {w : World} {n₀ : Nat} {ann : Option Value} : ∀ {n : Nat} {s s' : SharedT} {t : Thread}, topRunT tb p w n₀ ann n s t = some s' → topRun tb p w n₀ ann n s.abs t = some s'.abs
  | 0, _, _, _, h => by cases h
  | n + 1, s, s', t, h => by
    unfold topRunT at h
    unfold topRun
    cases he : through t with
    | true => rw [he] at h; cases h; rfl
    | false =>
      rw [he] at h
      cases hk : stepOk n₀ ann t with
      | false => rw [hk] at h; cases h
      | true =>
        rw [hk] at h
        cases hs : stepT (denote tb) p w s t with
        | none => rw [hs] at h; cases h
        | some r => obtain ⟨s₂, t₂⟩ := r; rw [hs] at h; rw [stepT_spec hs]; exact topRun_of h
/-- the same run by the quick forms of its parts -/
noncomputable def topRunQ (p : Program) (w : World) (n₀ : Nat) (ann : Option Value) : Nat → SharedT → Thread → Option SharedT
  | 0, _, _ => none
  | n + 1, s, t => match through t with
    | true => some s
    | false => match Fast.tw6613529449190102663 n₀ ann t with
      | false => none
      | true => match Fast.tw10156331382660048174 (Fast.tw11892475500146522536 Fast.tw14364793385576792824) p w s t with
        | some (s', t') => topRunQ p w n₀ ann n s' t'
        | none => none
theorem topRunQ_eq {p : Program} {w : World} {n₀ : Nat} {ann : Option Value} : ∀ (n : Nat) (s : SharedT) (t : Thread), topRunQ p w n₀ ann n s t = topRunT treeTable p w n₀ ann n s t
  | 0, _, _ => rfl
  | n + 1, s, t => by
    unfold topRunQ topRunT
    rw [← Fast.te6613529449190102663, ← Fast.te10156331382660048174, ← Fast.te11892475500146522536, ← Fast.te14364793385576792824]
    cases through t with
    | true => rfl
    | false =>
      cases stepOk n₀ ann t with
      | false => rfl
      | true =>
        cases stepT (denote treeTable) p w s t with
        | none => rfl
        | some r => exact topRunQ_eq n r.1 r.2
def putAll : List Obj → BT → Nat → BT
  | [], t, _ => t
  | o :: l, t, n => putAll l (t.ins n o) (n + 1)
noncomputable def bootT (P : Params) : BT := putAll (boot_heap P).objs.toList .nil 0
theorem bootT_abs (P : Params) : absHeap (bootT P) (boot_heap P).objs.size (boot_heap P).life = boot_heap P := by kernel_rfl
theorem left_of_tree {p q : Program} {loose : List Str} {Xt : Shared → Bool} {α : Type} {Yf : Shared → α} {Ya : World → α} {N : Nat} {g0 : Bool} {m₀ : Nat} {ann : Option Value}
    (e : opening p = plainProg p.main.scope.names) (hN : Nat.ble 600 N = true) (f : ∀ s, fenceModules? p s = some s)
    (size : ∀ w : World, ((boot_heap w.params).isNs mainGlobals, (boot_heap w.params).objs.size, (boot_heap w.params).nsMap mainGlobals "__annotations__") = (true, m₀, ann))
    (run : ∀ (w : World) (os : OsState), (topRunQ p w m₀ ann N ⟨bootT w.params, m₀, (boot_heap w.params).life, #[], boot_drawn, boot_toks, os⟩ (topStub p)).map (fun s => (fun s₁ : Shared =>
      ((staticsOk (importedModules p.main.body) (boot_heap w.params) s₁.heap && namesBound p s₁.heap && gensDone s₁ && laidKept (boot_heap w.params) s₁.heap), openSeen q loose (importedModules p.main.body) Xt g0 s₁, Yf s₁)) s.abs) = some (true, openGood q loose, Ya w)) :
    LeftO p q loose Xt Yf Ya N g0 := fun w => by
  obtain ⟨⟨h, gs, d, k, os⟩, e1, e'⟩ := Option.map_eq_some_iff.mp (boot_open (N := N) e hN f w)
  obtain ⟨rfl, rfl, rfl, rfl⟩ : h = boot_heap w.params ∧ gs = #[] ∧ d = boot_drawn ∧ k = boot_toks := by simpa using e'
  obtain ⟨z1, z2, z3⟩ : _ ∧ _ ∧ _ := by simpa only [Prod.mk.injEq] using size w
  obtain ⟨s, r1, r2⟩ := Option.map_eq_some_iff.mp (run w os)
  obtain ⟨l1, l2, l3⟩ : _ ∧ _ ∧ _ := by simpa only [Prod.mk.injEq] using r2
  have r := topRun_of ((topRunQ_eq _ _ _).symm.trans r1)
  have ab : (⟨bootT w.params, m₀, (boot_heap w.params).life, #[], boot_drawn, boot_toks, os⟩ : SharedT).abs = ⟨boot_heap w.params, #[], boot_drawn, boot_toks, os⟩ := by
    unfold SharedT.abs
    dsimp only
    rw [← z2, bootT_abs]
  rw [ab] at r
  have t : topFrom treeTable p w N ⟨boot_heap w.params, #[], boot_drawn, boot_toks, os⟩ = some s.abs := by
    unfold topFrom
    dsimp only
    rw [z1, z2, z3, r]
    show (match staticsOk (importedModules p.main.body) (boot_heap w.params) s.abs.heap && namesBound p s.abs.heap && gensDone s.abs && laidKept (boot_heap w.params) s.abs.heap with | true => _ | false => _) = _
    rw [l1]
  unfold openEnds
  rw [e1]
  show (topFrom treeTable p w N _).map _ = _
  rw [t]
  exact congrArg some (Prod.ext l2 l3)
end Bw

set_option Elab.async false
set_option linter.all false
set_option maxRecDepth 100000
namespace Bw
open PySem L2
/-! ### the text by places -/
def top (i : Nat) : Stmt := PySem.Challenge.pw_besideweb_k09_texts_misread.main.body.getD i (.Pass ⟨0, 0, 0, 0⟩)
abbrev sIsBelow : Stmt := top 10
abbrev sBracketed : Stmt := top 17
abbrev sCheckTrees : Stmt := top 18
abbrev sRead : Stmt := top 24
abbrev sLawCellAt : Stmt := top 26
abbrev sLawDraw : Stmt := top 27
abbrev sLawText : Stmt := top 28
abbrev sLawWrong : Stmt := top 29
abbrev sLawRefused : Stmt := top 30
abbrev sLawOther : Stmt := top 31
abbrev sLaw : Stmt := top 32
abbrev sNotmadeInit : Stmt := inClass (top 6) 0
abbrev sBadtextInit : Stmt := inClass (top 7) 0
abbrev sTreeInit : Stmt := inClass (top 12) 0
abbrev sTreePoints : Stmt := inClass (top 12) 1
abbrev sTreeTold : Stmt := inClass (top 12) 2
abbrev sTreeShape : Stmt := inClass (top 12) 3
abbrev sPointInit : Stmt := inClass (top 13) 0
abbrev sPointPoints : Stmt := inClass (top 13) 1
abbrev sPointTold : Stmt := inClass (top 13) 2
abbrev sPointShape : Stmt := inClass (top 13) 3
abbrev sDoingInit : Stmt := inClass (top 14) 0
abbrev sDoingLay : Stmt := inClass (top 14) 1
abbrev sDoingSign : Stmt := inClass (top 14) 2
abbrev sDoingPoints : Stmt := inClass (top 14) 3
abbrev sDoingTold : Stmt := inClass (top 14) 4
abbrev sDoingShape : Stmt := inClass (top 14) 5
abbrev sBesideInit : Stmt := inClass (top 15) 0
abbrev sBesideSign : Stmt := inClass (top 15) 1
abbrev sAcrossInit : Stmt := inClass (top 16) 0
abbrev sAcrossSign : Stmt := inClass (top 16) 1
abbrev sBracketInit : Stmt := inClass (top 22) 0
abbrev sBracketGoesOnWith : Stmt := inClass (top 22) 1
abbrev sBracketClosed : Stmt := inClass (top 22) 2
abbrev sReaderInit : Stmt := inClass (top 23) 0
abbrev sReaderTake : Stmt := inClass (top 23) 1
abbrev sReaderTakeTree : Stmt := inClass (top 23) 2
abbrev sReaderTakeBehind : Stmt := inClass (top 23) 3
abbrev sReaderPut : Stmt := inClass (top 23) 4
abbrev so := PySem.Str.ofString
abbrev kh := @PySem.PyData.keyHash
/-- what the top has written, as far as it is asked for -/
def KK : PySem.Params → PySem.W.Frag := fun P =>
  (nat_lit 2, ({ cls := .none, data := .dict #[] } : Obj)) ::
  (nat_lit 3, ({ cls := .type "dict", data := .dict #[{ hash := kh P (so "__name__"), key := .str (so "__name__") 165, val := .str (so "law_besideweb_k09_texts_misread") 688 }, { hash := kh P (so "__doc__"), key := .str (so "__doc__") 166, val := .none }, { hash := kh P (so "__package__"), key := .str (so "__package__") 167, val := .none }, { hash := kh P (so "__loader__"), key := .str (so "__loader__") 168, val := .builtin "__main__.__loader__#opaque" }, { hash := kh P (so "__spec__"), key := .str (so "__spec__") 169, val := .none }, { hash := kh P (so "__annotations__"), key := .str (so "__annotations__") 170, val := .ref 6 }, { hash := kh P (so "__builtins__"), key := .str (so "__builtins__") 171, val := .ref 4 }, { hash := kh P (so "__file__"), key := .str (so "__file__") 173, val := .str (so "/claim/cut.py") 172 }, { hash := kh P (so "__cached__"), key := .str (so "__cached__") 174, val := .none }, { hash := kh P (so "_wall"), key := .str (so "_wall") 193, val := .ref 21 }, { hash := kh P (so "WebError"), key := .str (so "WebError") 213, val := .ref 31 }, { hash := kh P (so "BadWeb"), key := .str (so "BadWeb") 229, val := .ref 44 }, { hash := kh P (so "BadTree"), key := .str (so "BadTree") 245, val := .ref 56 }, { hash := kh P (so "NoPoint"), key := .str (so "NoPoint") 261, val := .ref 68 }, { hash := kh P (so "NotMade"), key := .str (so "NotMade") 286, val := .ref 87 }, { hash := kh P (so "BadText"), key := .str (so "BadText") 311, val := .ref 106 }, { hash := kh P (so "MOST_POINTS"), key := .str (so "MOST_POINTS") 315, val := .int 10 314 }, { hash := kh P (so "is_below"), key := .str (so "is_below") 323, val := .ref 115 }, { hash := kh P (so "Tree"), key := .str (so "Tree") 374, val := .ref 154 }, { hash := kh P (so "Point"), key := .str (so "Point") 420, val := .ref 196 }, { hash := kh P (so "Doing"), key := .str (so "Doing") 483, val := .ref 249 }, { hash := kh P (so "Beside"), key := .str (so "Beside") 514, val := .ref 275 }, { hash := kh P (so "Across"), key := .str (so "Across") 545, val := .ref 301 }, { hash := kh P (so "bracketed"), key := .str (so "bracketed") 554, val := .ref 310 }, { hash := kh P (so "check_trees"), key := .str (so "check_trees") 563, val := .ref 317 }, { hash := kh P (so "MOST_SIGNS"), key := .str (so "MOST_SIGNS") 567, val := .int 100 566 }, { hash := kh P (so "FIGURES"), key := .str (so "FIGURES") 569, val := .str (so "0123456789") 568 }, { hash := kh P (so "Bracket"), key := .str (so "Bracket") 613, val := .ref 348 }, { hash := kh P (so "Reader"), key := .str (so "Reader") 677, val := .ref 397 }, { hash := kh P (so "read"), key := .str (so "read") 687, val := .ref 408 }, { hash := kh P (so "_law_cell_at"), key := .str (so "_law_cell_at") 697, val := .ref 415 }, { hash := kh P (so "_law_draw"), key := .str (so "_law_draw") 708, val := .ref 422 }, { hash := kh P (so "_law_text"), key := .str (so "_law_text") 720, val := .ref 429 }, { hash := kh P (so "_law_wrong"), key := .str (so "_law_wrong") 732, val := .ref 436 }, { hash := kh P (so "_law_refused"), key := .str (so "_law_refused") 742, val := .ref 443 }, { hash := kh P (so "_law_other"), key := .str (so "_law_other") 754, val := .ref 450 }, { hash := kh P (so "law"), key := .str (so "law") 760, val := .ref 455 }] 37 } : Obj)) ::
  (nat_lit 30, ({ cls := .type "dict", data := .dict #[{ hash := kh P (so "__module__"), key := .str (so "__module__") 203, val := .str (so "besideweb.errors") 194 }, { hash := kh P (so "__firstlineno__"), key := .str (so "__firstlineno__") 207, val := .int 5 206 }, { hash := kh P (so "__static_attributes__"), key := .str (so "__static_attributes__") 208, val := .ref 29 }, { hash := kh P (so "__weakref__"), key := .str (so "__weakref__") 210, val := .ref 32 }, { hash := kh P (so "__doc__"), key := .str (so "__doc__") 211, val := .none }] 3 } : Obj)) ::
  (nat_lit 31, ({ cls := .type "type", data := .cls { name := so "WebError", bases := [.type "ValueError"], mro := [.ref 31, .type "ValueError", .type "Exception", .type "BaseException", .type "object"], ns := 30, qualname := so "WebError", subclasses := [.ref 44, .ref 56, .ref 68, .ref 87, .ref 106] }, slots := #[some (.ref 22), none, some (.str (so "WebError") 196), some (.str (so "WebError") 204), some (.builtin "ValueError.__new__"), some (.bool true)] } : Obj)) ::
  (nat_lit 43, ({ cls := .type "dict", data := .dict #[{ hash := kh P (so "__module__"), key := .str (so "__module__") 221, val := .str (so "besideweb.errors") 194 }, { hash := kh P (so "__firstlineno__"), key := .str (so "__firstlineno__") 225, val := .int 7 224 }, { hash := kh P (so "__static_attributes__"), key := .str (so "__static_attributes__") 226, val := .ref 42 }, { hash := kh P (so "__doc__"), key := .str (so "__doc__") 227, val := .none }] 2 } : Obj)) ::
  (nat_lit 44, ({ cls := .type "type", data := .cls { name := so "BadWeb", bases := [.ref 31], mro := [.ref 44, .ref 31, .type "ValueError", .type "Exception", .type "BaseException", .type "object"], ns := 43, qualname := so "BadWeb" }, slots := #[some (.ref 35), none, some (.str (so "BadWeb") 214), some (.str (so "BadWeb") 222), some (.builtin "ValueError.__new__"), some (.bool true)] } : Obj)) ::
  (nat_lit 55, ({ cls := .type "dict", data := .dict #[{ hash := kh P (so "__module__"), key := .str (so "__module__") 237, val := .str (so "besideweb.errors") 194 }, { hash := kh P (so "__firstlineno__"), key := .str (so "__firstlineno__") 241, val := .int 9 240 }, { hash := kh P (so "__static_attributes__"), key := .str (so "__static_attributes__") 242, val := .ref 54 }, { hash := kh P (so "__doc__"), key := .str (so "__doc__") 243, val := .none }] 2 } : Obj)) ::
  (nat_lit 56, ({ cls := .type "type", data := .cls { name := so "BadTree", bases := [.ref 31], mro := [.ref 56, .ref 31, .type "ValueError", .type "Exception", .type "BaseException", .type "object"], ns := 55, qualname := so "BadTree" }, slots := #[some (.ref 47), none, some (.str (so "BadTree") 230), some (.str (so "BadTree") 238), some (.builtin "ValueError.__new__"), some (.bool true)] } : Obj)) ::
  (nat_lit 67, ({ cls := .type "dict", data := .dict #[{ hash := kh P (so "__module__"), key := .str (so "__module__") 253, val := .str (so "besideweb.errors") 194 }, { hash := kh P (so "__firstlineno__"), key := .str (so "__firstlineno__") 257, val := .int 11 256 }, { hash := kh P (so "__static_attributes__"), key := .str (so "__static_attributes__") 258, val := .ref 66 }, { hash := kh P (so "__doc__"), key := .str (so "__doc__") 259, val := .none }] 2 } : Obj)) ::
  (nat_lit 68, ({ cls := .type "type", data := .cls { name := so "NoPoint", bases := [.ref 31], mro := [.ref 68, .ref 31, .type "ValueError", .type "Exception", .type "BaseException", .type "object"], ns := 67, qualname := so "NoPoint" }, slots := #[some (.ref 59), none, some (.str (so "NoPoint") 246), some (.str (so "NoPoint") 254), some (.builtin "ValueError.__new__"), some (.bool true)] } : Obj)) ::
  (nat_lit 83, ({ cls := .type "code", data := .fields #[.str (so "__init__") 274, .str (so "NotMade.__init__") 275, .str (so "/claim/cut.py") 276, .int 15 0, .int 2 0, .int 0 0, .int 0 0, .int 3 0, .ref 78, .bool true, .int 181 0, .ref 79, .none, .ref 80, .ref 81, .ref 82, .int 279 0, .int 15 0, .str (so "/claim/cut.py") 280] } : Obj)) ::
  (nat_lit 84, (⟨.type "function", none, .func (PySem.W.fnOf (so "__init__") (so "NotMade.__init__") (defArgs sNotmadeInit) (defBody sNotmadeInit) (defScope sNotmadeInit) (.none) (.none) (.none) (.str (so "besideweb.errors") 194) (none) (.ref 83) (.none)), #[]⟩ : Obj)) ::
  (nat_lit 86, ({ cls := .type "dict", data := .dict #[{ hash := kh P (so "__module__"), key := .str (so "__module__") 269, val := .str (so "besideweb.errors") 194 }, { hash := kh P (so "__firstlineno__"), key := .str (so "__firstlineno__") 273, val := .int 13 272 }, { hash := kh P (so "__init__"), key := .str (so "__init__") 281, val := .ref 84 }, { hash := kh P (so "__static_attributes__"), key := .str (so "__static_attributes__") 283, val := .ref 85 }, { hash := kh P (so "__doc__"), key := .str (so "__doc__") 284, val := .none }] 2 } : Obj)) ::
  (nat_lit 87, ({ cls := .type "type", data := .cls { name := so "NotMade", bases := [.ref 31], mro := [.ref 87, .ref 31, .type "ValueError", .type "Exception", .type "BaseException", .type "object"], ns := 86, qualname := so "NotMade" }, slots := #[some (.ref 71), none, some (.str (so "NotMade") 262), some (.str (so "NotMade") 270), some (.builtin "ValueError.__new__"), some (.bool true)] } : Obj)) ::
  (nat_lit 102, ({ cls := .type "code", data := .fields #[.str (so "__init__") 299, .str (so "BadText.__init__") 300, .str (so "/claim/cut.py") 301, .int 20 0, .int 2 0, .int 0 0, .int 0 0, .int 3 0, .ref 97, .bool true, .int 181 0, .ref 98, .none, .ref 99, .ref 100, .ref 101, .int 304 0, .int 20 0, .str (so "/claim/cut.py") 305] } : Obj)) ::
  (nat_lit 103, (⟨.type "function", none, .func (PySem.W.fnOf (so "__init__") (so "BadText.__init__") (defArgs sBadtextInit) (defBody sBadtextInit) (defScope sBadtextInit) (.none) (.none) (.none) (.str (so "besideweb.errors") 194) (none) (.ref 102) (.none)), #[]⟩ : Obj)) ::
  (nat_lit 105, ({ cls := .type "dict", data := .dict #[{ hash := kh P (so "__module__"), key := .str (so "__module__") 294, val := .str (so "besideweb.errors") 194 }, { hash := kh P (so "__firstlineno__"), key := .str (so "__firstlineno__") 298, val := .int 18 297 }, { hash := kh P (so "__init__"), key := .str (so "__init__") 306, val := .ref 103 }, { hash := kh P (so "__static_attributes__"), key := .str (so "__static_attributes__") 308, val := .ref 104 }, { hash := kh P (so "__doc__"), key := .str (so "__doc__") 309, val := .none }] 2 } : Obj)) ::
  (nat_lit 106, ({ cls := .type "type", data := .cls { name := so "BadText", bases := [.ref 31], mro := [.ref 106, .ref 31, .type "ValueError", .type "Exception", .type "BaseException", .type "object"], ns := 105, qualname := so "BadText" }, slots := #[some (.ref 90), none, some (.str (so "BadText") 287), some (.str (so "BadText") 295), some (.builtin "ValueError.__new__"), some (.bool true)] } : Obj)) ::
  (nat_lit 114, ({ cls := .type "code", data := .fields #[.str (so "is_below") 316, .str (so "is_below") 317, .str (so "/claim/cut.py") 318, .int 25 0, .int 2 0, .int 0 0, .int 0 0, .int 3 0, .ref 109, .bool true, .int 181 0, .ref 110, .none, .ref 111, .ref 112, .ref 113, .int 321 0, .int 25 0, .str (so "/claim/cut.py") 322] } : Obj)) ::
  (nat_lit 115, (⟨.type "function", none, .func (PySem.W.fnOf (so "is_below") (so "is_below") (defArgs sIsBelow) (defBody sIsBelow) (defScope sIsBelow) (.none) (.none) (.none) (.str (so "besideweb.checks") 312) (none) (.ref 114) (.none)), #[]⟩ : Obj)) ::
  (nat_lit 129, ({ cls := .type "code", data := .fields #[.str (so "__init__") 338, .str (so "Tree.__init__") 339, .str (so "/claim/cut.py") 340, .int 30 0, .int 2 0, .int 0 0, .int 0 0, .int 3 0, .ref 124, .bool true, .int 181 0, .ref 125, .none, .ref 126, .ref 127, .ref 128, .int 343 0, .int 30 0, .str (so "/claim/cut.py") 344] } : Obj)) ::
  (nat_lit 130, (⟨.type "function", none, .func (PySem.W.fnOf (so "__init__") (so "Tree.__init__") (defArgs sTreeInit) (defBody sTreeInit) (defScope sTreeInit) (.ref 123) (.none) (.none) (.str (so "besideweb.trees") 324) (none) (.ref 129) (.none)), #[]⟩ : Obj)) ::
  (nat_lit 136, ({ cls := .type "code", data := .fields #[.str (so "points") 346, .str (so "Tree.points") 347, .str (so "/claim/cut.py") 348, .int 33 0, .int 1 0, .int 0 0, .int 0 0, .int 3 0, .ref 131, .bool true, .int 181 0, .ref 132, .none, .ref 133, .ref 134, .ref 135, .int 350 0, .int 33 0, .str (so "/claim/cut.py") 351] } : Obj)) ::
  (nat_lit 137, (⟨.type "function", none, .func (PySem.W.fnOf (so "points") (so "Tree.points") (defArgs sTreePoints) (defBody sTreePoints) (defScope sTreePoints) (.none) (.none) (.none) (.str (so "besideweb.trees") 324) (none) (.ref 136) (.none)), #[]⟩ : Obj)) ::
  (nat_lit 143, ({ cls := .type "code", data := .fields #[.str (so "told") 353, .str (so "Tree.told") 354, .str (so "/claim/cut.py") 355, .int 36 0, .int 1 0, .int 0 0, .int 0 0, .int 3 0, .ref 138, .bool true, .int 181 0, .ref 139, .none, .ref 140, .ref 141, .ref 142, .int 357 0, .int 36 0, .str (so "/claim/cut.py") 358] } : Obj)) ::
  (nat_lit 144, (⟨.type "function", none, .func (PySem.W.fnOf (so "told") (so "Tree.told") (defArgs sTreeTold) (defBody sTreeTold) (defScope sTreeTold) (.none) (.none) (.none) (.str (so "besideweb.trees") 324) (none) (.ref 143) (.none)), #[]⟩ : Obj)) ::
  (nat_lit 150, ({ cls := .type "code", data := .fields #[.str (so "shape") 360, .str (so "Tree.shape") 361, .str (so "/claim/cut.py") 362, .int 39 0, .int 1 0, .int 0 0, .int 0 0, .int 3 0, .ref 145, .bool true, .int 181 0, .ref 146, .none, .ref 147, .ref 148, .ref 149, .int 364 0, .int 39 0, .str (so "/claim/cut.py") 365] } : Obj)) ::
  (nat_lit 151, (⟨.type "function", none, .func (PySem.W.fnOf (so "shape") (so "Tree.shape") (defArgs sTreeShape) (defBody sTreeShape) (defScope sTreeShape) (.none) (.none) (.none) (.str (so "besideweb.trees") 324) (none) (.ref 150) (.none)), #[]⟩ : Obj)) ::
  (nat_lit 153, ({ cls := .type "dict", data := .dict #[{ hash := kh P (so "__module__"), key := .str (so "__module__") 333, val := .str (so "besideweb.trees") 324 }, { hash := kh P (so "__firstlineno__"), key := .str (so "__firstlineno__") 337, val := .int 28 336 }, { hash := kh P (so "__init__"), key := .str (so "__init__") 345, val := .ref 130 }, { hash := kh P (so "points"), key := .str (so "points") 352, val := .ref 137 }, { hash := kh P (so "told"), key := .str (so "told") 359, val := .ref 144 }, { hash := kh P (so "shape"), key := .str (so "shape") 366, val := .ref 151 }, { hash := kh P (so "__static_attributes__"), key := .str (so "__static_attributes__") 367, val := .ref 152 }, { hash := kh P (so "__dict__"), key := .str (so "__dict__") 369, val := .ref 155 }, { hash := kh P (so "__weakref__"), key := .str (so "__weakref__") 371, val := .ref 156 }, { hash := kh P (so "__doc__"), key := .str (so "__doc__") 372, val := .none }] 4 } : Obj)) ::
  (nat_lit 154, ({ cls := .type "type", data := .cls { name := so "Tree", bases := [.type "object"], mro := [.ref 154, .type "object"], ns := 153, qualname := so "Tree", subclasses := [.ref 196, .ref 249] }, slots := #[none, none, some (.str (so "Tree") 326), some (.str (so "Tree") 334), some (.builtin "object.__new__"), some (.bool true)] } : Obj)) ::
  (nat_lit 171, ({ cls := .type "code", data := .fields #[.str (so "__init__") 387, .str (so "Point.__init__") 388, .str (so "/claim/cut.py") 389, .int 43 0, .int 2 0, .int 0 0, .int 0 0, .int 3 0, .ref 166, .bool true, .int 181 0, .ref 167, .none, .ref 168, .ref 169, .ref 170, .int 392 0, .int 43 0, .str (so "/claim/cut.py") 393] } : Obj)) ::
  (nat_lit 172, (⟨.type "function", none, .func (PySem.W.fnOf (so "__init__") (so "Point.__init__") (defArgs sPointInit) (defBody sPointInit) (defScope sPointInit) (.none) (.none) (.none) (.str (so "besideweb.trees") 324) (none) (.ref 171) (.none)), #[]⟩ : Obj)) ::
  (nat_lit 178, ({ cls := .type "code", data := .fields #[.str (so "points") 395, .str (so "Point.points") 396, .str (so "/claim/cut.py") 397, .int 48 0, .int 1 0, .int 0 0, .int 0 0, .int 3 0, .ref 173, .bool true, .int 181 0, .ref 174, .none, .ref 175, .ref 176, .ref 177, .int 399 0, .int 48 0, .str (so "/claim/cut.py") 400] } : Obj)) ::
  (nat_lit 179, (⟨.type "function", none, .func (PySem.W.fnOf (so "points") (so "Point.points") (defArgs sPointPoints) (defBody sPointPoints) (defScope sPointPoints) (.none) (.none) (.none) (.str (so "besideweb.trees") 324) (none) (.ref 178) (.none)), #[]⟩ : Obj)) ::
  (nat_lit 185, ({ cls := .type "code", data := .fields #[.str (so "told") 402, .str (so "Point.told") 403, .str (so "/claim/cut.py") 404, .int 51 0, .int 1 0, .int 0 0, .int 0 0, .int 3 0, .ref 180, .bool true, .int 181 0, .ref 181, .none, .ref 182, .ref 183, .ref 184, .int 406 0, .int 51 0, .str (so "/claim/cut.py") 407] } : Obj)) ::
  (nat_lit 186, (⟨.type "function", none, .func (PySem.W.fnOf (so "told") (so "Point.told") (defArgs sPointTold) (defBody sPointTold) (defScope sPointTold) (.none) (.none) (.none) (.str (so "besideweb.trees") 324) (none) (.ref 185) (.none)), #[]⟩ : Obj)) ::
  (nat_lit 192, ({ cls := .type "code", data := .fields #[.str (so "shape") 409, .str (so "Point.shape") 410, .str (so "/claim/cut.py") 411, .int 54 0, .int 1 0, .int 0 0, .int 0 0, .int 3 0, .ref 187, .bool true, .int 181 0, .ref 188, .none, .ref 189, .ref 190, .ref 191, .int 413 0, .int 54 0, .str (so "/claim/cut.py") 414] } : Obj)) ::
  (nat_lit 193, (⟨.type "function", none, .func (PySem.W.fnOf (so "shape") (so "Point.shape") (defArgs sPointShape) (defBody sPointShape) (defScope sPointShape) (.none) (.none) (.none) (.str (so "besideweb.trees") 324) (none) (.ref 192) (.none)), #[]⟩ : Obj)) ::
  (nat_lit 195, ({ cls := .type "dict", data := .dict #[{ hash := kh P (so "__module__"), key := .str (so "__module__") 382, val := .str (so "besideweb.trees") 324 }, { hash := kh P (so "__firstlineno__"), key := .str (so "__firstlineno__") 386, val := .int 41 385 }, { hash := kh P (so "__init__"), key := .str (so "__init__") 394, val := .ref 172 }, { hash := kh P (so "points"), key := .str (so "points") 401, val := .ref 179 }, { hash := kh P (so "told"), key := .str (so "told") 408, val := .ref 186 }, { hash := kh P (so "shape"), key := .str (so "shape") 415, val := .ref 193 }, { hash := kh P (so "__static_attributes__"), key := .str (so "__static_attributes__") 417, val := .ref 194 }, { hash := kh P (so "__doc__"), key := .str (so "__doc__") 418, val := .none }] 2 } : Obj)) ::
  (nat_lit 196, ({ cls := .type "type", data := .cls { name := so "Point", bases := [.ref 154], mro := [.ref 196, .ref 154, .type "object"], ns := 195, qualname := so "Point" }, slots := #[some (.ref 159), none, some (.str (so "Point") 375), some (.str (so "Point") 383), some (.builtin "object.__new__"), some (.bool true)] } : Obj)) ::
  (nat_lit 212, ({ cls := .type "code", data := .fields #[.str (so "__init__") 433, .str (so "Doing.__init__") 434, .str (so "/claim/cut.py") 435, .int 58 0, .int 2 0, .int 0 0, .int 0 0, .int 3 0, .ref 207, .bool true, .int 181 0, .ref 208, .none, .ref 209, .ref 210, .ref 211, .int 438 0, .int 58 0, .str (so "/claim/cut.py") 439] } : Obj)) ::
  (nat_lit 213, (⟨.type "function", none, .func (PySem.W.fnOf (so "__init__") (so "Doing.__init__") (defArgs sDoingInit) (defBody sDoingInit) (defScope sDoingInit) (.ref 206) (.none) (.none) (.str (so "besideweb.trees") 324) (none) (.ref 212) (.none)), #[]⟩ : Obj)) ::
  (nat_lit 219, ({ cls := .type "code", data := .fields #[.str (so "lay") 441, .str (so "Doing.lay") 442, .str (so "/claim/cut.py") 443, .int 61 0, .int 2 0, .int 0 0, .int 0 0, .int 3 0, .ref 214, .bool true, .int 181 0, .ref 215, .none, .ref 216, .ref 217, .ref 218, .int 446 0, .int 61 0, .str (so "/claim/cut.py") 447] } : Obj)) ::
  (nat_lit 220, (⟨.type "function", none, .func (PySem.W.fnOf (so "lay") (so "Doing.lay") (defArgs sDoingLay) (defBody sDoingLay) (defScope sDoingLay) (.none) (.none) (.none) (.str (so "besideweb.trees") 324) (none) (.ref 219) (.none)), #[]⟩ : Obj)) ::
  (nat_lit 226, ({ cls := .type "code", data := .fields #[.str (so "sign") 449, .str (so "Doing.sign") 450, .str (so "/claim/cut.py") 451, .int 66 0, .int 1 0, .int 0 0, .int 0 0, .int 3 0, .ref 221, .bool true, .int 181 0, .ref 222, .none, .ref 223, .ref 224, .ref 225, .int 453 0, .int 66 0, .str (so "/claim/cut.py") 454] } : Obj)) ::
  (nat_lit 227, (⟨.type "function", none, .func (PySem.W.fnOf (so "sign") (so "Doing.sign") (defArgs sDoingSign) (defBody sDoingSign) (defScope sDoingSign) (.none) (.none) (.none) (.str (so "besideweb.trees") 324) (none) (.ref 226) (.none)), #[]⟩ : Obj)) ::
  (nat_lit 233, ({ cls := .type "code", data := .fields #[.str (so "points") 456, .str (so "Doing.points") 457, .str (so "/claim/cut.py") 458, .int 69 0, .int 1 0, .int 0 0, .int 0 0, .int 3 0, .ref 228, .bool true, .int 181 0, .ref 229, .none, .ref 230, .ref 231, .ref 232, .int 462 0, .int 69 0, .str (so "/claim/cut.py") 463] } : Obj)) ::
  (nat_lit 234, (⟨.type "function", none, .func (PySem.W.fnOf (so "points") (so "Doing.points") (defArgs sDoingPoints) (defBody sDoingPoints) (defScope sDoingPoints) (.none) (.none) (.none) (.str (so "besideweb.trees") 324) (none) (.ref 233) (.none)), #[]⟩ : Obj)) ::
  (nat_lit 238, ({ cls := .type "code", data := .fields #[.str (so "told") 465, .str (so "Doing.told") 466, .str (so "/claim/cut.py") 467, .int 75 0, .int 1 0, .int 0 0, .int 0 0, .int 3 0, .ref 235, .bool true, .int 181 0, .ref 236, .none, .none, .none, .ref 237, .int 468 0, .int 75 0, .str (so "/claim/cut.py") 469] } : Obj)) ::
  (nat_lit 239, (⟨.type "function", none, .func (PySem.W.fnOf (so "told") (so "Doing.told") (defArgs sDoingTold) (defBody sDoingTold) (defScope sDoingTold) (.none) (.none) (.none) (.str (so "besideweb.trees") 324) (none) (.ref 238) (.none)), #[]⟩ : Obj)) ::
  (nat_lit 245, ({ cls := .type "code", data := .fields #[.str (so "shape") 471, .str (so "Doing.shape") 472, .str (so "/claim/cut.py") 473, .int 78 0, .int 1 0, .int 0 0, .int 0 0, .int 3 0, .ref 240, .bool true, .int 181 0, .ref 241, .none, .ref 242, .ref 243, .ref 244, .int 475 0, .int 78 0, .str (so "/claim/cut.py") 476] } : Obj)) ::
  (nat_lit 246, (⟨.type "function", none, .func (PySem.W.fnOf (so "shape") (so "Doing.shape") (defArgs sDoingShape) (defBody sDoingShape) (defScope sDoingShape) (.none) (.none) (.none) (.str (so "besideweb.trees") 324) (none) (.ref 245) (.none)), #[]⟩ : Obj)) ::
  (nat_lit 248, ({ cls := .type "dict", data := .dict #[{ hash := kh P (so "__module__"), key := .str (so "__module__") 428, val := .str (so "besideweb.trees") 324 }, { hash := kh P (so "__firstlineno__"), key := .str (so "__firstlineno__") 432, val := .int 56 431 }, { hash := kh P (so "__init__"), key := .str (so "__init__") 440, val := .ref 213 }, { hash := kh P (so "lay"), key := .str (so "lay") 448, val := .ref 220 }, { hash := kh P (so "sign"), key := .str (so "sign") 455, val := .ref 227 }, { hash := kh P (so "points"), key := .str (so "points") 464, val := .ref 234 }, { hash := kh P (so "told"), key := .str (so "told") 470, val := .ref 239 }, { hash := kh P (so "shape"), key := .str (so "shape") 477, val := .ref 246 }, { hash := kh P (so "__static_attributes__"), key := .str (so "__static_attributes__") 480, val := .ref 247 }, { hash := kh P (so "__doc__"), key := .str (so "__doc__") 481, val := .none }] 2 } : Obj)) ::
  (nat_lit 249, ({ cls := .type "type", data := .cls { name := so "Doing", bases := [.ref 154], mro := [.ref 249, .ref 154, .type "object"], ns := 248, qualname := so "Doing", subclasses := [.ref 275, .ref 301] }, slots := #[some (.ref 199), none, some (.str (so "Doing") 421), some (.str (so "Doing") 429), some (.builtin "object.__new__"), some (.bool true)] } : Obj)) ::
  (nat_lit 264, ({ cls := .type "code", data := .fields #[.str (so "__init__") 496, .str (so "Beside.__init__") 497, .str (so "/claim/cut.py") 498, .int 82 0, .int 2 0, .int 0 0, .int 0 0, .int 3 0, .ref 259, .bool true, .int 181 0, .ref 260, .none, .ref 261, .ref 262, .ref 263, .int 501 0, .int 82 0, .str (so "/claim/cut.py") 502] } : Obj)) ::
  (nat_lit 265, (⟨.type "function", none, .func (PySem.W.fnOf (so "__init__") (so "Beside.__init__") (defArgs sBesideInit) (defBody sBesideInit) (defScope sBesideInit) (.none) (.none) (.none) (.str (so "besideweb.trees") 324) (none) (.ref 264) (.none)), #[]⟩ : Obj)) ::
  (nat_lit 271, ({ cls := .type "code", data := .fields #[.str (so "sign") 504, .str (so "Beside.sign") 505, .str (so "/claim/cut.py") 506, .int 85 0, .int 1 0, .int 0 0, .int 0 0, .int 3 0, .ref 266, .bool true, .int 181 0, .ref 267, .none, .ref 268, .ref 269, .ref 270, .int 508 0, .int 85 0, .str (so "/claim/cut.py") 509] } : Obj)) ::
  (nat_lit 272, (⟨.type "function", none, .func (PySem.W.fnOf (so "sign") (so "Beside.sign") (defArgs sBesideSign) (defBody sBesideSign) (defScope sBesideSign) (.none) (.none) (.none) (.str (so "besideweb.trees") 324) (none) (.ref 271) (.none)), #[]⟩ : Obj)) ::
  (nat_lit 274, ({ cls := .type "dict", data := .dict #[{ hash := kh P (so "__module__"), key := .str (so "__module__") 491, val := .str (so "besideweb.trees") 324 }, { hash := kh P (so "__firstlineno__"), key := .str (so "__firstlineno__") 495, val := .int 80 494 }, { hash := kh P (so "__init__"), key := .str (so "__init__") 503, val := .ref 265 }, { hash := kh P (so "sign"), key := .str (so "sign") 510, val := .ref 272 }, { hash := kh P (so "__static_attributes__"), key := .str (so "__static_attributes__") 511, val := .ref 273 }, { hash := kh P (so "__doc__"), key := .str (so "__doc__") 512, val := .none }] 2 } : Obj)) ::
  (nat_lit 275, ({ cls := .type "type", data := .cls { name := so "Beside", bases := [.ref 249], mro := [.ref 275, .ref 249, .ref 154, .type "object"], ns := 274, qualname := so "Beside" }, slots := #[some (.ref 252), none, some (.str (so "Beside") 484), some (.str (so "Beside") 492), some (.builtin "object.__new__"), some (.bool true)] } : Obj)) ::
  (nat_lit 290, ({ cls := .type "code", data := .fields #[.str (so "__init__") 527, .str (so "Across.__init__") 528, .str (so "/claim/cut.py") 529, .int 89 0, .int 2 0, .int 0 0, .int 0 0, .int 3 0, .ref 285, .bool true, .int 181 0, .ref 286, .none, .ref 287, .ref 288, .ref 289, .int 532 0, .int 89 0, .str (so "/claim/cut.py") 533] } : Obj)) ::
  (nat_lit 291, (⟨.type "function", none, .func (PySem.W.fnOf (so "__init__") (so "Across.__init__") (defArgs sAcrossInit) (defBody sAcrossInit) (defScope sAcrossInit) (.none) (.none) (.none) (.str (so "besideweb.trees") 324) (none) (.ref 290) (.none)), #[]⟩ : Obj)) ::
  (nat_lit 297, ({ cls := .type "code", data := .fields #[.str (so "sign") 535, .str (so "Across.sign") 536, .str (so "/claim/cut.py") 537, .int 92 0, .int 1 0, .int 0 0, .int 0 0, .int 3 0, .ref 292, .bool true, .int 181 0, .ref 293, .none, .ref 294, .ref 295, .ref 296, .int 539 0, .int 92 0, .str (so "/claim/cut.py") 540] } : Obj)) ::
  (nat_lit 298, (⟨.type "function", none, .func (PySem.W.fnOf (so "sign") (so "Across.sign") (defArgs sAcrossSign) (defBody sAcrossSign) (defScope sAcrossSign) (.none) (.none) (.none) (.str (so "besideweb.trees") 324) (none) (.ref 297) (.none)), #[]⟩ : Obj)) ::
  (nat_lit 300, ({ cls := .type "dict", data := .dict #[{ hash := kh P (so "__module__"), key := .str (so "__module__") 522, val := .str (so "besideweb.trees") 324 }, { hash := kh P (so "__firstlineno__"), key := .str (so "__firstlineno__") 526, val := .int 87 525 }, { hash := kh P (so "__init__"), key := .str (so "__init__") 534, val := .ref 291 }, { hash := kh P (so "sign"), key := .str (so "sign") 541, val := .ref 298 }, { hash := kh P (so "__static_attributes__"), key := .str (so "__static_attributes__") 542, val := .ref 299 }, { hash := kh P (so "__doc__"), key := .str (so "__doc__") 543, val := .none }] 2 } : Obj)) ::
  (nat_lit 301, ({ cls := .type "type", data := .cls { name := so "Across", bases := [.ref 249], mro := [.ref 301, .ref 249, .ref 154, .type "object"], ns := 300, qualname := so "Across" }, slots := #[some (.ref 278), none, some (.str (so "Across") 515), some (.str (so "Across") 523), some (.builtin "object.__new__"), some (.bool true)] } : Obj)) ::
  (nat_lit 309, ({ cls := .type "code", data := .fields #[.str (so "bracketed") 546, .str (so "bracketed") 547, .str (so "/claim/cut.py") 548, .int 94 0, .int 2 0, .int 0 0, .int 0 0, .int 3 0, .ref 304, .bool true, .int 181 0, .ref 305, .none, .ref 306, .ref 307, .ref 308, .int 552 0, .int 94 0, .str (so "/claim/cut.py") 553] } : Obj)) ::
  (nat_lit 310, (⟨.type "function", none, .func (PySem.W.fnOf (so "bracketed") (so "bracketed") (defArgs sBracketed) (defBody sBracketed) (defScope sBracketed) (.none) (.none) (.none) (.str (so "besideweb.trees") 324) (none) (.ref 309) (.none)), #[]⟩ : Obj)) ::
  (nat_lit 316, ({ cls := .type "code", data := .fields #[.str (so "check_trees") 555, .str (so "check_trees") 556, .str (so "/claim/cut.py") 557, .int 97 0, .int 1 0, .int 0 0, .int 0 0, .int 3 0, .ref 311, .bool true, .int 181 0, .ref 312, .none, .ref 313, .ref 314, .ref 315, .int 561 0, .int 97 0, .str (so "/claim/cut.py") 562] } : Obj)) ::
  (nat_lit 317, (⟨.type "function", none, .func (PySem.W.fnOf (so "check_trees") (so "check_trees") (defArgs sCheckTrees) (defBody sCheckTrees) (defScope sCheckTrees) (.none) (.none) (.none) (.str (so "besideweb.trees") 324) (none) (.ref 316) (.none)), #[]⟩ : Obj)) ::
  (nat_lit 330, ({ cls := .type "code", data := .fields #[.str (so "__init__") 582, .str (so "Bracket.__init__") 583, .str (so "/claim/cut.py") 584, .int 112 0, .int 1 0, .int 0 0, .int 0 0, .int 3 0, .ref 325, .bool true, .int 181 0, .ref 326, .none, .ref 327, .ref 328, .ref 329, .int 586 0, .int 112 0, .str (so "/claim/cut.py") 587] } : Obj)) ::
  (nat_lit 331, (⟨.type "function", none, .func (PySem.W.fnOf (so "__init__") (so "Bracket.__init__") (defArgs sBracketInit) (defBody sBracketInit) (defScope sBracketInit) (.none) (.none) (.none) (.str (so "besideweb.notes") 564) (none) (.ref 330) (.none)), #[]⟩ : Obj)) ::
  (nat_lit 337, ({ cls := .type "code", data := .fields #[.str (so "goes_on_with") 589, .str (so "Bracket.goes_on_with") 590, .str (so "/claim/cut.py") 591, .int 116 0, .int 2 0, .int 0 0, .int 0 0, .int 3 0, .ref 332, .bool true, .int 181 0, .ref 333, .none, .ref 334, .ref 335, .ref 336, .int 594 0, .int 116 0, .str (so "/claim/cut.py") 595] } : Obj)) ::
  (nat_lit 338, (⟨.type "function", none, .func (PySem.W.fnOf (so "goes_on_with") (so "Bracket.goes_on_with") (defArgs sBracketGoesOnWith) (defBody sBracketGoesOnWith) (defScope sBracketGoesOnWith) (.none) (.none) (.none) (.str (so "besideweb.notes") 564) (none) (.ref 337) (.none)), #[]⟩ : Obj)) ::
  (nat_lit 344, ({ cls := .type "code", data := .fields #[.str (so "closed") 597, .str (so "Bracket.closed") 598, .str (so "/claim/cut.py") 599, .int 119 0, .int 1 0, .int 0 0, .int 0 0, .int 3 0, .ref 339, .bool true, .int 181 0, .ref 340, .none, .ref 341, .ref 342, .ref 343, .int 601 0, .int 119 0, .str (so "/claim/cut.py") 602] } : Obj)) ::
  (nat_lit 345, (⟨.type "function", none, .func (PySem.W.fnOf (so "closed") (so "Bracket.closed") (defArgs sBracketClosed) (defBody sBracketClosed) (defScope sBracketClosed) (.none) (.none) (.none) (.str (so "besideweb.notes") 564) (none) (.ref 344) (.none)), #[]⟩ : Obj)) ::
  (nat_lit 347, ({ cls := .type "dict", data := .dict #[{ hash := kh P (so "__module__"), key := .str (so "__module__") 577, val := .str (so "besideweb.notes") 564 }, { hash := kh P (so "__firstlineno__"), key := .str (so "__firstlineno__") 581, val := .int 110 580 }, { hash := kh P (so "__init__"), key := .str (so "__init__") 588, val := .ref 331 }, { hash := kh P (so "goes_on_with"), key := .str (so "goes_on_with") 596, val := .ref 338 }, { hash := kh P (so "closed"), key := .str (so "closed") 603, val := .ref 345 }, { hash := kh P (so "__static_attributes__"), key := .str (so "__static_attributes__") 606, val := .ref 346 }, { hash := kh P (so "__dict__"), key := .str (so "__dict__") 608, val := .ref 349 }, { hash := kh P (so "__weakref__"), key := .str (so "__weakref__") 610, val := .ref 350 }, { hash := kh P (so "__doc__"), key := .str (so "__doc__") 611, val := .none }] 4 } : Obj)) ::
  (nat_lit 348, ({ cls := .type "type", data := .cls { name := so "Bracket", bases := [.type "object"], mro := [.ref 348, .type "object"], ns := 347, qualname := so "Bracket" }, slots := #[none, none, some (.str (so "Bracket") 570), some (.str (so "Bracket") 578), some (.builtin "object.__new__"), some (.bool true)] } : Obj)) ::
  (nat_lit 365, ({ cls := .type "code", data := .fields #[.str (so "__init__") 626, .str (so "Reader.__init__") 627, .str (so "/claim/cut.py") 628, .int 123 0, .int 1 0, .int 0 0, .int 0 0, .int 3 0, .ref 360, .bool true, .int 181 0, .ref 361, .none, .ref 362, .ref 363, .ref 364, .int 630 0, .int 123 0, .str (so "/claim/cut.py") 631] } : Obj)) ::
  (nat_lit 366, (⟨.type "function", none, .func (PySem.W.fnOf (so "__init__") (so "Reader.__init__") (defArgs sReaderInit) (defBody sReaderInit) (defScope sReaderInit) (.none) (.none) (.none) (.str (so "besideweb.notes") 564) (none) (.ref 365) (.none)), #[]⟩ : Obj)) ::
  (nat_lit 372, ({ cls := .type "code", data := .fields #[.str (so "take") 633, .str (so "Reader.take") 634, .str (so "/claim/cut.py") 635, .int 129 0, .int 2 0, .int 0 0, .int 0 0, .int 3 0, .ref 367, .bool true, .int 181 0, .ref 368, .none, .ref 369, .ref 370, .ref 371, .int 638 0, .int 129 0, .str (so "/claim/cut.py") 639] } : Obj)) ::
  (nat_lit 373, (⟨.type "function", none, .func (PySem.W.fnOf (so "take") (so "Reader.take") (defArgs sReaderTake) (defBody sReaderTake) (defScope sReaderTake) (.none) (.none) (.none) (.str (so "besideweb.notes") 564) (none) (.ref 372) (.none)), #[]⟩ : Obj)) ::
  (nat_lit 379, ({ cls := .type "code", data := .fields #[.str (so "take_tree") 641, .str (so "Reader.take_tree") 642, .str (so "/claim/cut.py") 643, .int 132 0, .int 2 0, .int 0 0, .int 0 0, .int 3 0, .ref 374, .bool true, .int 181 0, .ref 375, .none, .ref 376, .ref 377, .ref 378, .int 646 0, .int 132 0, .str (so "/claim/cut.py") 647] } : Obj)) ::
  (nat_lit 380, (⟨.type "function", none, .func (PySem.W.fnOf (so "take_tree") (so "Reader.take_tree") (defArgs sReaderTakeTree) (defBody sReaderTakeTree) (defScope sReaderTakeTree) (.none) (.none) (.none) (.str (so "besideweb.notes") 564) (none) (.ref 379) (.none)), #[]⟩ : Obj)) ::
  (nat_lit 386, ({ cls := .type "code", data := .fields #[.str (so "take_behind") 649, .str (so "Reader.take_behind") 650, .str (so "/claim/cut.py") 651, .int 142 0, .int 2 0, .int 0 0, .int 0 0, .int 3 0, .ref 381, .bool true, .int 181 0, .ref 382, .none, .ref 383, .ref 384, .ref 385, .int 655 0, .int 142 0, .str (so "/claim/cut.py") 656] } : Obj)) ::
  (nat_lit 387, (⟨.type "function", none, .func (PySem.W.fnOf (so "take_behind") (so "Reader.take_behind") (defArgs sReaderTakeBehind) (defBody sReaderTakeBehind) (defScope sReaderTakeBehind) (.none) (.none) (.none) (.str (so "besideweb.notes") 564) (none) (.ref 386) (.none)), #[]⟩ : Obj)) ::
  (nat_lit 393, ({ cls := .type "code", data := .fields #[.str (so "put") 658, .str (so "Reader.put") 659, .str (so "/claim/cut.py") 660, .int 156 0, .int 2 0, .int 0 0, .int 0 0, .int 3 0, .ref 388, .bool true, .int 181 0, .ref 389, .none, .ref 390, .ref 391, .ref 392, .int 663 0, .int 156 0, .str (so "/claim/cut.py") 664] } : Obj)) ::
  (nat_lit 394, (⟨.type "function", none, .func (PySem.W.fnOf (so "put") (so "Reader.put") (defArgs sReaderPut) (defBody sReaderPut) (defScope sReaderPut) (.none) (.none) (.none) (.str (so "besideweb.notes") 564) (none) (.ref 393) (.none)), #[]⟩ : Obj)) ::
  (nat_lit 396, ({ cls := .type "dict", data := .dict #[{ hash := kh P (so "__module__"), key := .str (so "__module__") 621, val := .str (so "besideweb.notes") 564 }, { hash := kh P (so "__firstlineno__"), key := .str (so "__firstlineno__") 625, val := .int 121 624 }, { hash := kh P (so "__init__"), key := .str (so "__init__") 632, val := .ref 366 }, { hash := kh P (so "take"), key := .str (so "take") 640, val := .ref 373 }, { hash := kh P (so "take_tree"), key := .str (so "take_tree") 648, val := .ref 380 }, { hash := kh P (so "take_behind"), key := .str (so "take_behind") 657, val := .ref 387 }, { hash := kh P (so "put"), key := .str (so "put") 665, val := .ref 394 }, { hash := kh P (so "__static_attributes__"), key := .str (so "__static_attributes__") 670, val := .ref 395 }, { hash := kh P (so "__dict__"), key := .str (so "__dict__") 672, val := .ref 398 }, { hash := kh P (so "__weakref__"), key := .str (so "__weakref__") 674, val := .ref 399 }, { hash := kh P (so "__doc__"), key := .str (so "__doc__") 675, val := .none }] 4 } : Obj)) ::
  (nat_lit 397, ({ cls := .type "type", data := .cls { name := so "Reader", bases := [.type "object"], mro := [.ref 397, .type "object"], ns := 396, qualname := so "Reader" }, slots := #[none, none, some (.str (so "Reader") 614), some (.str (so "Reader") 622), some (.builtin "object.__new__"), some (.bool true)] } : Obj)) ::
  (nat_lit 407, ({ cls := .type "code", data := .fields #[.str (so "read") 678, .str (so "read") 679, .str (so "/claim/cut.py") 680, .int 162 0, .int 1 0, .int 0 0, .int 0 0, .int 3 0, .ref 402, .bool true, .int 181 0, .ref 403, .none, .ref 404, .ref 405, .ref 406, .int 685 0, .int 162 0, .str (so "/claim/cut.py") 686] } : Obj)) ::
  (nat_lit 408, (⟨.type "function", none, .func (PySem.W.fnOf (so "read") (so "read") (defArgs sRead) (defBody sRead) (defScope sRead) (.none) (.none) (.none) (.str (so "besideweb.notes") 564) (none) (.ref 407) (.none)), #[]⟩ : Obj)) ::
  (nat_lit 414, ({ cls := .type "code", data := .fields #[.str (so "_law_cell_at") 690, .str (so "_law_cell_at") 691, .str (so "/claim/cut.py") 692, .int 175 0, .int 2 0, .int 0 0, .int 0 0, .int 3 0, .ref 409, .bool true, .int 181 0, .ref 410, .none, .ref 411, .ref 412, .ref 413, .int 695 0, .int 175 0, .str (so "/claim/cut.py") 696] } : Obj)) ::
  (nat_lit 415, (⟨.type "function", none, .func (PySem.W.fnOf (so "_law_cell_at") (so "_law_cell_at") (defArgs sLawCellAt) (defBody sLawCellAt) (defScope sLawCellAt) (.none) (.none) (.none) (.str (so "law_besideweb_k09_texts_misread") 688) (none) (.ref 414) (.none)), #[]⟩ : Obj)) ::
  (nat_lit 421, ({ cls := .type "code", data := .fields #[.str (so "_law_draw") 698, .str (so "_law_draw") 699, .str (so "/claim/cut.py") 700, .int 179 0, .int 3 0, .int 0 0, .int 0 0, .int 3 0, .ref 416, .bool true, .int 181 0, .ref 417, .none, .ref 418, .ref 419, .ref 420, .int 706 0, .int 179 0, .str (so "/claim/cut.py") 707] } : Obj)) ::
  (nat_lit 422, (⟨.type "function", none, .func (PySem.W.fnOf (so "_law_draw") (so "_law_draw") (defArgs sLawDraw) (defBody sLawDraw) (defScope sLawDraw) (.none) (.none) (.none) (.str (so "law_besideweb_k09_texts_misread") 688) (none) (.ref 421) (.none)), #[]⟩ : Obj)) ::
  (nat_lit 428, ({ cls := .type "code", data := .fields #[.str (so "_law_text") 709, .str (so "_law_text") 710, .str (so "/claim/cut.py") 711, .int 183 0, .int 1 0, .int 0 0, .int 0 0, .int 3 0, .ref 423, .bool true, .int 181 0, .ref 424, .none, .ref 425, .ref 426, .ref 427, .int 718 0, .int 183 0, .str (so "/claim/cut.py") 719] } : Obj)) ::
  (nat_lit 429, (⟨.type "function", none, .func (PySem.W.fnOf (so "_law_text") (so "_law_text") (defArgs sLawText) (defBody sLawText) (defScope sLawText) (.none) (.none) (.none) (.str (so "law_besideweb_k09_texts_misread") 688) (none) (.ref 428) (.none)), #[]⟩ : Obj)) ::
  (nat_lit 435, ({ cls := .type "code", data := .fields #[.str (so "_law_wrong") 721, .str (so "_law_wrong") 722, .str (so "/claim/cut.py") 723, .int 195 0, .int 1 0, .int 0 0, .int 0 0, .int 3 0, .ref 430, .bool true, .int 181 0, .ref 431, .none, .ref 432, .ref 433, .ref 434, .int 730 0, .int 195 0, .str (so "/claim/cut.py") 731] } : Obj)) ::
  (nat_lit 436, (⟨.type "function", none, .func (PySem.W.fnOf (so "_law_wrong") (so "_law_wrong") (defArgs sLawWrong) (defBody sLawWrong) (defScope sLawWrong) (.none) (.none) (.none) (.str (so "law_besideweb_k09_texts_misread") 688) (none) (.ref 435) (.none)), #[]⟩ : Obj)) ::
  (nat_lit 442, ({ cls := .type "code", data := .fields #[.str (so "_law_refused") 733, .str (so "_law_refused") 734, .str (so "/claim/cut.py") 735, .int 218 0, .int 1 0, .int 0 0, .int 0 0, .int 3 0, .ref 437, .bool true, .int 181 0, .ref 438, .none, .ref 439, .ref 440, .ref 441, .int 740 0, .int 218 0, .str (so "/claim/cut.py") 741] } : Obj)) ::
  (nat_lit 443, (⟨.type "function", none, .func (PySem.W.fnOf (so "_law_refused") (so "_law_refused") (defArgs sLawRefused) (defBody sLawRefused) (defScope sLawRefused) (.none) (.none) (.none) (.str (so "law_besideweb_k09_texts_misread") 688) (none) (.ref 442) (.none)), #[]⟩ : Obj)) ::
  (nat_lit 449, ({ cls := .type "code", data := .fields #[.str (so "_law_other") 743, .str (so "_law_other") 744, .str (so "/claim/cut.py") 745, .int 227 0, .int 3 0, .int 0 0, .int 0 0, .int 3 0, .ref 444, .bool true, .int 181 0, .ref 445, .none, .ref 446, .ref 447, .ref 448, .int 752 0, .int 227 0, .str (so "/claim/cut.py") 753] } : Obj)) ::
  (nat_lit 450, (⟨.type "function", none, .func (PySem.W.fnOf (so "_law_other") (so "_law_other") (defArgs sLawOther) (defBody sLawOther) (defScope sLawOther) (.none) (.none) (.none) (.str (so "law_besideweb_k09_texts_misread") 688) (none) (.ref 449) (.none)), #[]⟩ : Obj)) ::
  (nat_lit 454, ({ cls := .type "code", data := .fields #[.str (so "law") 755, .str (so "law") 756, .str (so "/claim/cut.py") 757, .int 237 0, .int 1 0, .int 0 0, .int 0 0, .int 3 0, .ref 451, .bool true, .int 181 0, .ref 452, .none, .none, .none, .ref 453, .int 758 0, .int 237 0, .str (so "/claim/cut.py") 759] } : Obj)) ::
  (nat_lit 455, (⟨.type "function", none, .func (PySem.W.fnOf (so "law") (so "law") (defArgs sLaw) (defBody sLaw) (defScope sLaw) (.none) (.none) (.none) (.str (so "law_besideweb_k09_texts_misread") 688) (none) (.ref 454) (.none)), #[]⟩ : Obj)) :: []
def KAs : List Addr := [2, 3, 30, 31, 43, 44, 55, 56, 67, 68, 83, 84, 86, 87, 102, 103, 105, 106, 114, 115, 129, 130, 136, 137, 143, 144, 150, 151, 153, 154, 171, 172, 178, 179, 185, 186, 192, 193, 195, 196, 212, 213, 219, 220, 226, 227, 233, 234, 238, 239, 245, 246, 248, 249, 264, 265, 271, 272, 274, 275, 290, 291, 297, 298, 300, 301, 309, 310, 316, 317, 330, 331, 337, 338, 344, 345, 347, 348, 365, 366, 372, 373, 379, 380, 386, 387, 393, 394, 396, 397, 407, 408, 414, 415, 421, 422, 428, 429, 435, 436, 442, 443, 449, 450, 454, 455]
def qv : Program := { PySem.Challenge.pw_besideweb_k09_texts_misread with main := { PySem.Challenge.pw_besideweb_k09_texts_misread.main with body := [top 32] } }
def looseK : List Str := [so "_wall", so "WebError", so "BadWeb", so "BadTree", so "NoPoint", so "NotMade", so "BadText", so "MOST_POINTS", so "is_below", so "Tree", so "Point", so "Doing", so "Beside", so "Across", so "bracketed", so "check_trees", so "MOST_SIGNS", so "FIGURES", so "Bracket", so "Reader", so "read", so "_law_cell_at", so "_law_draw", so "_law_text", so "_law_wrong", so "_law_refused", so "_law_other"]
end Bw
namespace Bw
open PySem PySem.W PyProof.Rows
def kH : Hook := kHook KK KAs (fun _ => by kernel_rfl)
set_option maxHeartbeats 0 in
theorem head_left : LeftO PySem.Challenge.rw_besideweb_k09_texts_misread.row.prog qv looseK (fun s => xlAt qv [] s && recOk (RowW.records (OpenRow.toRowW PySem.Challenge.rw_besideweb_k09_texts_misread.row)) s) kH.obs kH.val 8194 := by
  exact Bw.left_of_tree (m₀ := nat_lit 11) (ann := some (.ref 6)) (by rfl) (by decide) (fun s => by rfl) (fun w => by kernel_rfl) (fun w os => by kernel_rfl)
end Bw

set_option Elab.async false
set_option linter.all false
set_option maxRecDepth 100000
namespace L2
open PySem PySem.Spec PyProof.Rows

/-- a key: an int or a str -/
abbrev Key := Sum Int Str
def keyIs : Key → Value → Bool
  | .inl k, v => Value.isInt k v
  | .inr x, v => Value.isStrOf x v
def keyH (w : World) : Key → Int
  | .inl k => hashInt k
  | .inr x => hashStr w x
theorem keyIs_shape : ∀ {k : Key} {v : Value}, keyIs k v = true → (∃ i t, k = Sum.inl i ∧ v = Value.int i t) ∨ (∃ x t, k = Sum.inr x ∧ v = Value.str x t)
  | .inl i, v, h => by
    obtain ⟨t, e⟩ := Value.isInt_shape (k := i) (v := v) h
    exact .inl ⟨i, t, rfl, e⟩
  | .inr x, v, h => by
    obtain ⟨t, e⟩ := Value.isStrOf_shape (x := x) (v := v) h
    exact .inr ⟨x, t, rfl, e⟩
theorem key_ll (a b : Int) : decide ((Sum.inl a : Key) = Sum.inl b) = (a == b) := by
  by_cases e : a = b
  · subst e; simp
  · have h : ¬ (Sum.inl a : Key) = Sum.inl b := fun q => e (Sum.inl.inj q)
    rw [decide_eq_false h]
    exact (beq_eq_false_iff_ne.mpr e).symm
theorem key_rr (a b : Str) : decide ((Sum.inr a : Key) = Sum.inr b) = decide (a = b) := by
  by_cases e : a = b
  · subst e; simp
  · have h : ¬ (Sum.inr a : Key) = Sum.inr b := fun q => e (Sum.inr.inj q)
    rw [decide_eq_false h, decide_eq_false e]
theorem key_lr (a : Int) (b : Str) : decide ((Sum.inl a : Key) = Sum.inr b) = false := decide_eq_false (fun q => nomatch q)
theorem key_rl (a : Str) (b : Int) : decide ((Sum.inr a : Key) = Sum.inl b) = false := decide_eq_false (fun q => nomatch q)

def mixKind (prog : Program) (w : World) : PySem.KeyKind prog w Key where
  is := keyIs
  hash := keyH w
  inj := fun v a b ha hb => by
    rcases keyIs_shape ha with ⟨i, t, rfl, rfl⟩ | ⟨x, t, rfl, rfl⟩
    · rcases keyIs_shape hb with ⟨j, u, rfl, e⟩ | ⟨y, u, rfl, e⟩
      · injection e with e1 _; rw [e1]
      · exact nomatch e
    · rcases keyIs_shape hb with ⟨j, u, rfl, e⟩ | ⟨y, u, rfl, e⟩
      · exact nomatch e
      · injection e with e1 _; rw [e1]
  byValue := fun k v h => by
    rcases keyIs_shape h with ⟨i, t, rfl, rfl⟩ | ⟨x, t, rfl, rfl⟩ <;> rfl
  pyHash := fun hv h => by
    rcases keyIs_shape hv with ⟨i, t, rfl, rfl⟩ | ⟨x, t, rfl, rfl⟩
    · exact wpAny_pyHash_int h
    · exact wpAny_pyHash_str h
  eqBool := fun hu hv h => by
    rcases keyIs_shape hu with ⟨i, t, rfl, rfl⟩ | ⟨x, t, rfl, rfl⟩
    · rcases keyIs_shape hv with ⟨j, u, rfl, rfl⟩ | ⟨y, u, rfl, rfl⟩
      · rw [key_ll] at h; exact wpAny_eqBool_int h
      · rw [key_lr] at h; exact SeqAt.EqAt.int_str i t y u _ _ _ _ h
    · rcases keyIs_shape hv with ⟨j, u, rfl, rfl⟩ | ⟨y, u, rfl, rfl⟩
      · rw [key_rl] at h; exact SeqAt.EqAt.str_int x t j u _ _ _ _ h
      · rw [key_rr] at h; exact wpAny_eqBool_str h
  «strs» := fun k x t v h => by
    rcases keyIs_shape h with ⟨i, u, rfl, e⟩ | ⟨y, u, rfl, e⟩
    · exact nomatch e
    · injection e with e1 _
      subst e1
      cases v <;> rfl

end L2

namespace L2
open PySem PySem.Spec PyProof.Rows

/-- a value, without the heap -/
inductive V where
  | non | bl (b : Bool) | int (i : Int) | str (x : Str) | byt (b : Array UInt8) | flt (b : UInt64) | ref (a : Addr) | ty (n : String)
  deriving DecidableEq

def RelV : V → Value → Prop
  | .non, u => u = Value.none
  | .bl b, u => u = Value.bool b
  | .int i, u => ∃ t, u = Value.int i t
  | .str x, u => ∃ t, u = Value.str x t
  | .byt b, u => ∃ t, u = Value.bytes b t
  | .flt b, u => ∃ t, u = Value.float b t
  | .ref a, u => u = Value.ref a
  | .ty n, u => u = Value.type n

abbrev Vals : List V → List Value → Prop := Paired RelV
theorem Vals.length {xs : List V} {us : List Value} (r : Vals xs us) : xs.length = us.length := Paired.length r
theorem Vals.get : ∀ {xs : List V} {us : List Value} {i : Nat} {x : V}, Vals xs us → xs[i]? = some x → ∃ u, us[i]? = some u ∧ RelV x u
  | _, _, _, _, .nil, e => by simp at e
  | _, _, 0, _, .cons r _, e => by simp at e; subst e; exact ⟨_, rfl, r⟩
  | _, _, i + 1, x, .cons _ t, e => by
    obtain ⟨u, h1, h2⟩ := Vals.get (i := i) (x := x) t (by simpa using e)
    exact ⟨u, by simpa using h1, h2⟩
theorem Vals.set {x : V} {u : Value} (r : RelV x u) : ∀ {xs : List V} {us : List Value} (i : Nat), Vals xs us → Vals (xs.set i x) (us.set i u)
  | _, _, _, .nil => .nil
  | _, _, 0, .cons _ t => .cons r t
  | _, _, i + 1, .cons q t => .cons q (Vals.set r i t)
theorem Vals.append : ∀ {xs ys : List V} {us ws : List Value}, Vals xs us → Vals ys ws → Vals (xs ++ ys) (us ++ ws)
  | _, _, _, _, .nil, s => s
  | _, _, _, _, .cons r t, s => .cons r (Vals.append t s)
def RelO : Option V → Option Value → Prop
  | some v, some u => RelV v u
  | none, none => True
  | _, _ => False
def KV {κ : Type} : List (κ × V) → List (κ × Value) → Prop := Paired fun (p : κ × V) (q : κ × Value) => p.1 = q.1 ∧ RelV p.2 q.2

/-- a key of a dict (00_mix): an int or a text -/
def kV : Key → V
  | .inl i => .int i
  | .inr x => .str x

/-- what stands at a tracked address -/
inductive HO where
  /-- a list -/
  | lst (xs : List V)
  /-- a tuple (never changes) -/
  | tup (xs : List V)
  /-- a dict whose keys are ints and texts; one whose keys are tuples of ints and texts (the empty one is both) -/
  | dK (kvs : List (Key × V)) | dT (kvs : List (List Key × V))
  /-- a set of ints: its members, its size -/
  | set (S : Int → Bool) (n : Nat)
  /-- an instance of the class at C, its dict at dx, its attributes -/
  | ins (C dx : Addr) (fs : List (Str × V))
  /-- the dict of the instance at x -/
  | own (x : Addr)
  /-- the dict of an exception -/
  | xd (fs : List (Str × V))
  /-- a bound method, f of x -/
  | met (f x : Addr)
  /-- a range object lo, lo + 1, .. below hi -/
  | rng (lo hi : Int)
  /-- a thing that is known to the object (the script; a dict while a loop walks it): read, never written while it is so -/
  | frz (o : Obj) (u : HO)
  /-- a code object's table -/
  | tbl (ps : Array Value)
  /-- any other thing, by what is true of its one object (a def of one's own: SetO a S n := HO.ext fun h => ..) -/
  | ext (φ : Heap → Prop)

abbrev Hp := Addr → Option HO
def upd (H : Hp) (a : Addr) (o : HO) : Hp := fun b => if b = a then some o else H b
theorem upd_same {H : Hp} {a : Addr} {o : HO} : upd H a o a = some o := by unfold upd; rw [if_pos rfl]
theorem upd_ne {H : Hp} {a b : Addr} {o : HO} (h : b ≠ a) : upd H a o b = H b := by unfold upd; rw [if_neg h]
/-- two objects of different content stand apart -/
theorem ne_of {H : Hp} {a b : Addr} {o u : HO} (h : H a = some o) (h' : H b = some u) (d : o ≠ u) : a ≠ b := by
  intro e; subst e; rw [h] at h'; exact d (Option.some.inj h')
theorem ne_of_none {H : Hp} {a b : Addr} {o : HO} (h : H a = some o) (h' : H b = none) : a ≠ b := by
  intro e; subst e; rw [h] at h'; cases h'

section
variable (P : Program) (w : World)
def ObjOk (H : Hp) (h : Heap) (a : Addr) : HO → Prop
  | .lst xs => xs.length ≤ sizeLine ∧ ∃ (its : List Value) (n : Nat), Vals xs its ∧ h.get? a = some { cls := .type "list", data := .seq its.toArray n }
  | .tup xs => xs.length ≤ sizeLine ∧ ∃ its : List Value, Vals xs its ∧ IsTup h a its.toArray
  | .dK kvs => kvs.length ≤ sizeLine ∧ (a == sysModules) = false ∧ ∃ vs, KV kvs vs ∧ h.DictOf (mixKind P w) a vs
  | .dT kvs => kvs.length ≤ sizeLine ∧ (a == sysModules) = false ∧ ∃ xs : List (List Key × Addr × Value),
      Paired (fun (p : List Key × V) (q : List Key × Addr × Value) => p.1 = q.1 ∧ H q.2.1 = some (.tup (p.1.map kV)) ∧ RelV p.2 q.2.2) kvs xs ∧
      ∃ o es ep, h.get? a = some o ∧ o.ExactDict ∧ o.data = .dict es ep ∧ es.toList = xs.map (entryOfKey (tupleKind (mixKind P w))) ∧ (xs.map (·.1)).Nodup
  | .set S n => h.SetOf (intKind P w) a S n
  | .ins C dx fs => H dx = some (.own a) ∧ fs.length ≤ 1000 ∧ dx ≠ a ∧ h.get? a = some (PySem.W.instObj C dx) ∧
      ∃ mA, h.Ns1 dx mA ∧ (∀ f, RelO (fs.lookup f) (mA f)) ∧ PySem.Within mA (fs.map (·.1))
  | .own _ => ∃ o, h.get? a = some o
  | .xd fs => ∃ mA, h.Ns1 a mA ∧ ∀ f, RelO (fs.lookup f) (mA f)
  | .rng lo hi => ∃ t u v, h.get? a = some { cls := .type "range", data := .fields #[.int lo t, .int hi u, .int 1 v] }
  | .frz o u => h.get? a = some o ∧ ObjOk H h a u
  | .tbl ps => h.get? a = some { cls := .none, data := .fields ps }
  | .met f x => h.get? a = some (PySem.W.methodObj (.ref f) (.ref x))
  | .ext φ => φ h ∧ (∃ o, h.get? a = some o) ∧ ∀ h1 h2 : Heap, φ h1 → (∀ o, h1.get? a = some o → h2.get? a = some o) → φ h2
/-- the abstract heap is held -/
def HOk (H : Hp) (h : Heap) : Prop := ∀ a o, H a = some o → ObjOk P w H h a o
end

section
variable {P : Program} {w : World} {H H' : Hp} {h h' : Heap} {a : Addr} {o : HO}
theorem ObjOk.lt (x : ObjOk P w H h a o) : a < h.objs.size := by
  cases o with
  | lst xs => obtain ⟨_, _, _, _, e⟩ := x; exact Heap.lt_size e
  | tup xs => obtain ⟨_, _, _, p⟩ := x; exact p.lt
  | dK kvs => obtain ⟨_, _, _, _, o, _, _, e, _⟩ := x; exact Heap.lt_size e
  | dT kvs => obtain ⟨_, _, _, _, o, _, _, e, _⟩ := x; exact Heap.lt_size e
  | set S n => obtain ⟨o, _, _, _, e, _⟩ := x; exact Heap.lt_size e
  | ins C dx fs => obtain ⟨_, _, _, e, _⟩ := x; exact Heap.lt_size e
  | own y => obtain ⟨_, e⟩ := x; exact Heap.lt_size e
  | xd fs => obtain ⟨_, ⟨_, _, _, e, _⟩, _⟩ := x; exact Heap.lt_size e
  | rng lo hi => obtain ⟨_, _, _, e⟩ := x; exact Heap.lt_size e
  | frz ob u => obtain ⟨e, _⟩ := x; exact Heap.lt_size e
  | tbl ps => exact Heap.lt_size (show h.get? a = some _ from x)
  | met f y => exact Heap.lt_size (show h.get? a = some _ from x)
  | ext φ => obtain ⟨_, ⟨_, e⟩, _⟩ := x; exact Heap.lt_size e
theorem Paired.mapP {α β : Type} {F G : α → β → Prop} : ∀ {l₁ : List α} {l₂ : List β}, Paired F l₁ l₂ → (∀ a b, F a b → G a b) → Paired G l₁ l₂
  | _, _, .nil, _ => .nil
  | _, _, .cons r t, f => .cons (f _ _ r) (Paired.mapP t f)
/-- what an object's description leans on: its own object, its own dict, the tuples -/
theorem ObjOk.stay (x : ObjOk P w H h a o) (k : ∀ b u, (b = a ∨ H b = some (.own a)) → h.get? b = some u → h'.get? b = some u)
    (ho : ∀ b, H b = some (.own a) → H' b = some (.own a)) (ht : ∀ b xs, H b = some (.tup xs) → H' b = some (.tup xs)) : ObjOk P w H' h' a o := by
  induction o with
  | lst xs => obtain ⟨z, its, n, r, e⟩ := x; exact ⟨z, its, n, r, k _ _ (.inl rfl) e⟩
  | tup xs => obtain ⟨z, its, r, ob, e, c⟩ := x; exact ⟨z, its, r, ob, k _ _ (.inl rfl) e, c⟩
  | dK kvs => obtain ⟨z, y, vs, r, ob, es, ep, e, c⟩ := x; exact ⟨z, y, vs, r, ob, es, ep, k _ _ (.inl rfl) e, c⟩
  | dT kvs =>
    obtain ⟨z, y, xs, r, ob, es, ep, e, c⟩ := x
    exact ⟨z, y, xs, Paired.mapP r fun p q z => ⟨z.1, ht _ _ z.2.1, z.2.2⟩, ob, es, ep, k _ _ (.inl rfl) e, c⟩
  | set S n => obtain ⟨ob, es, ep, t, e, c⟩ := x; exact ⟨ob, es, ep, t, k _ _ (.inl rfl) e, c⟩
  | ins C dx fs =>
    obtain ⟨d, z, ne, e, mA, ⟨od, es, ep, e2, c⟩, r⟩ := x
    exact ⟨ho _ d, z, ne, k _ _ (.inl rfl) e, mA, ⟨od, es, ep, k _ _ (.inr d) e2, c⟩, r⟩
  | own y => obtain ⟨ob, e⟩ := x; exact ⟨ob, k _ _ (.inl rfl) e⟩
  | xd fs => obtain ⟨mA, ⟨od, es, ep, e, c⟩, r⟩ := x; exact ⟨mA, ⟨od, es, ep, k _ _ (.inl rfl) e, c⟩, r⟩
  | rng lo hi => obtain ⟨t, u, v, e⟩ := x; exact ⟨t, u, v, k _ _ (.inl rfl) e⟩
  | frz ob u ih => obtain ⟨e, q⟩ := x; exact ⟨k _ _ (.inl rfl) e, ih q⟩
  | tbl ps =>
    have e : h.get? a = some { cls := .none, data := .fields ps } := x
    show h'.get? a = some { cls := .none, data := .fields ps }
    exact k a _ (.inl rfl) e
  | met f y =>
    have e : h.get? a = some (PySem.W.methodObj (.ref f) (.ref y)) := x
    show h'.get? a = some (PySem.W.methodObj (.ref f) (.ref y))
    exact k a _ (.inl rfl) e
  | ext φ => obtain ⟨p, ⟨o, e⟩, st⟩ := x; exact ⟨st _ _ p fun o q => k _ _ (.inl rfl) q, ⟨o, k _ _ (.inl rfl) e⟩, st⟩
theorem HOk.lt (x : HOk P w H h) (e : H a = some o) : a < h.objs.size := (x a o e).lt
theorem HOk.fresh (x : HOk P w H h) (e : h.objs.size ≤ a) : H a = none := by
  cases q : H a with
  | none => rfl
  | some u => exact absurd (Nat.lt_of_lt_of_le (x.lt q) e) (Nat.lt_irrefl _)
/-- every object of the heap is kept -/
theorem HOk.kept (x : HOk P w H h) (k : ∀ b u, h.get? b = some u → h'.get? b = some u) : HOk P w H h' := fun a o e =>
  (x a o e).stay (fun b u _ q => k b u q) (fun _ q => q) fun _ _ q => q
/-- a new object is laid and tracked -/
theorem HOk.laid (x : HOk P w H h) (k : ∀ b u, h.get? b = some u → h'.get? b = some u) (hp : h.objs.size ≤ a) (new : ObjOk P w (upd H a o) h' a o) : HOk P w (upd H a o) h' := fun b u e => by
  have hn := x.fresh hp
  by_cases hb : b = a
  · subst hb; rw [upd_same] at e; cases e; exact new
  · rw [upd_ne hb] at e
    exact (x b u e).stay (fun c v _ q => k c v q) (fun c q => by rw [upd_ne (ne_of_none q hn)]; exact q) fun c xs q => by rw [upd_ne (ne_of_none q hn)]; exact q
end

/-- what may be read as u: it is u, or a known u -/
def Rd (H : Hp) (a : Addr) (u : HO) : Prop := H a = some u ∨ ∃ o, H a = some (.frz o u)
theorem Rd.ok {P : Program} {w : World} {H : Hp} {h : Heap} {a : Addr} {u : HO} (r : Rd H a u) (x : HOk P w H h) : ObjOk P w H h a u := by
  rcases r with r | ⟨o, r⟩
  · exact x a u r
  · obtain ⟨_, q⟩ := x a _ r
    exact q
/-- what may be written -/
def Mut : Option HO → Prop
  | some (.lst _) => True
  | some (.dK _) => True
  | some (.dT _) => True
  | some (.set _ _) => True
  | some (.ins _ _ _) => True
  | some (.ext _) => True
  | _ => False
section
variable {P : Program} {w : World} {H : Hp} {h h' : Heap} {x e : Addr} {o' : HO}
/-- the object at e is changed: x itself, or the dict of the instance x -/
theorem HOk.write (ok : HOk P w H h) (mu : Mut (H x)) (he : e = x ∨ H e = some (.own x)) (k : ∀ b u, b ≠ e → h.get? b = some u → h'.get? b = some u) (heo : ∃ u, h'.get? e = some u)
    (new : ObjOk P w (upd H x o') h' x o') : HOk P w (upd H x o') h' := fun b u q => by
  have nown : ∀ c y, H c = some (.own y) → c ≠ x := fun c y r z => by subst z; rw [r] at mu; exact mu
  have ntup : ∀ c xs, H c = some (.tup xs) → c ≠ x := fun c xs r z => by subst z; rw [r] at mu; exact mu
  by_cases hb : b = x
  · subst hb; rw [upd_same] at q; cases q; exact new
  · rw [upd_ne hb] at q
    by_cases hbe : b = e
    · have q' : H b = some (.own x) := by
        rcases he with z | z
        · exact absurd (hbe.trans z) hb
        · rw [hbe]; exact z
      rw [q] at q'; cases q'
      obtain ⟨v, hv⟩ := heo
      exact ⟨v, by rw [hbe]; exact hv⟩
    · refine (ok b u q).stay (fun c v hc r => k c v ?_ r) (fun c r => by rw [upd_ne (nown c b r)]; exact r) fun c xs r => by rw [upd_ne (ntup c xs r)]; exact r
      rcases hc with rfl | hc
      · exact hbe
      · rintro rfl
        rcases he with z | z
        · exact nown c b hc z
        · rw [hc] at z; cases z; exact hb rfl
end

structure Un (fs ex : List Addr) (H H' : Hp) (h h' : Heap) : Prop where
  keep : ∀ b o, h.get? b = some o → H b = none → b ∉ fs → b ∉ ex → h'.get? b = some o
  slot : ∀ b o, h.get? b = some o → H b = none → b ∈ fs → b ∉ ex → ∃ sl, h'.get? b = some { o with slots := sl }
  free : ∀ b o, h.get? b = some o → H b = none → b ∉ ex → H' b = none
  there : ∀ b o, h.get? b = some o → b ∉ ex → ∃ o', h'.get? b = some o'
  tups : ∀ b xs, H b = some (.tup xs) → H' b = some (.tup xs)
  frzs : ∀ b o u, H b = some (.frz o u) → H' b = some (.frz o u)
  tbls : ∀ b ps, H b = some (.tbl ps) → ∃ more, H' b = some (.tbl (ps ++ more))
section
variable {fs fs' ex ex' : List Addr} {H H1 H2 : Hp} {h h1 h2 h' : Heap} {a x e : Addr} {o : HO}
theorem Un.any (u : Un fs ex H H1 h h1) {b : Addr} {ob : Obj} (q : h.get? b = some ob) (n : H b = none) (hx : b ∉ ex) : ∃ sl, h1.get? b = some { ob with slots := sl } := by
  by_cases hb : b ∈ fs
  · exact u.slot b ob q n hb hx
  · exact ⟨ob.slots, u.keep b ob q n hb hx⟩
theorem Un.kept (k : ∀ b u, h.get? b = some u → h'.get? b = some u) : Un fs ex H H h h' :=
  ⟨fun b ob q _ _ _ => k b ob q, fun b ob q _ _ _ => ⟨ob.slots, k b ob q⟩, fun _ _ _ n _ => n, fun b ob q _ => ⟨ob, k b ob q⟩, fun _ _ q => q, fun _ _ _ q => q, fun _ ps q => ⟨#[], by rw [q]; simp⟩⟩
theorem Un.refl : Un fs ex H H h h := Un.kept fun _ _ q => q
theorem Un.laid (k : ∀ b u, h.get? b = some u → h'.get? b = some u) (hp : h.objs.size ≤ a) (hn : H a = none) : Un fs ex H (upd H a o) h h' where
  keep := fun b u q _ _ _ => k b u q
  slot := fun b u q _ _ _ => ⟨u.slots, k b u q⟩
  free := fun b u q n _ => by rw [upd_ne (Nat.ne_of_lt (Nat.lt_of_lt_of_le (Heap.lt_size q) hp))]; exact n
  there := fun b u q _ => ⟨u, k b u q⟩
  tups := fun b xs q => by rw [upd_ne (ne_of_none q hn)]; exact q
  frzs := fun b u xs q => by rw [upd_ne (ne_of_none q hn)]; exact q
  tbls := fun b ps q => ⟨#[], by rw [upd_ne (ne_of_none q hn), q]; simp⟩
theorem Un.write (mu : Mut (H x)) (he : e = x ∨ H e = some (.own x)) (k : ∀ b u, b ≠ e → h.get? b = some u → h'.get? b = some u) (heo : ∃ u, h'.get? e = some u) : Un fs ex H (upd H x o) h h' := by
  have hx : ∀ b, H b = none → b ≠ x := fun b n z => by subst z; rw [n] at mu; exact mu
  have hb : ∀ b, H b = none → b ≠ e := fun b n z => by
    subst z
    rcases he with r | r
    · exact hx b n r
    · rw [n] at r; cases r
  have hm : ∀ b u, H b = some u → ¬ Mut (some u) → b ≠ x := fun b u q nm z => by subst z; rw [q] at mu; exact nm mu
  refine ⟨fun b u q n _ _ => k b u (hb b n) q, fun b u q n _ _ => ⟨u.slots, k b u (hb b n) q⟩, fun b u q n _ => by rw [upd_ne (hx b n)]; exact n, fun b u q _ => ?_,
    fun b xs q => by rw [upd_ne (hm b _ q fun z => z)]; exact q, fun b u xs q => by rw [upd_ne (hm b _ q fun z => z)]; exact q, fun b ps q => ⟨#[], by rw [upd_ne (hm b _ q fun z => z), q]; simp⟩⟩
  by_cases hbe : b = e
  · subst hbe; exact heo
  · exact ⟨u, k b u hbe q⟩
end

def trk (h : Heap) (H : Hp) : List Addr := (List.range h.objs.size).filter fun a => (H a).isSome
def hidT (h : Heap) (H : Hp) : Heap := PySem.W.hideAll h (trk h H)
theorem hidT_size (h : Heap) (H : Hp) : (hidT h H).objs.size = h.objs.size := PySem.W.hideAll_size _ _
theorem hidT_get {h : Heap} {H : Hp} {b : Addr} {o : Obj} (e : h.get? b = some o) (n : H b = none) : (hidT h H).get? b = some o :=
  PySem.W.hideAll_get _ e fun hm => by
    have q : (H b).isSome = true := (List.mem_filter.mp hm).2
    rw [n] at q; simp at q
theorem of_hidT {h : Heap} {H : Hp} {b : Addr} {o : Obj} (e : (hidT h H).get? b = some o) : h.get? b = some o ∧ H b = none := by
  have e' : h.get? b = some o := PySem.W.of_hideAll (trk h H) e
  refine ⟨e', ?_⟩
  cases q : H b with
  | none => rfl
  | some x =>
    have hm : b ∈ trk h H := List.mem_filter.mpr ⟨List.mem_range.mpr (Heap.lt_size e'), by simp [q]⟩
    have z : (hidT h H).get? b = none := PySem.W.hideAll_none (trk h H) hm
    rw [z] at e; cases e

end L2

namespace L2
open PySem PySem.Spec PyProof.Rows

/-- the module's facts, over the base: the heap at the law's entry without what is tracked there -/
structure Mod (K : PySem.W.Frag) (mg : Str → Option Value) (base : Heap) : Prop where
  kin : K.In base
  glob : base.Ns mainGlobals mg
  blt : ∃ mb, base.Ns builtinsNs mb ∧ ∀ x : Str, x ≠ "__name__" → mb x = bootBuiltins x
  nolimit : base.NoLimit

/-- the context: a def's body (or a comprehension's block) running. base: fixed through the whole law; s₀, H₀: the entry; outer: the frames whose slots others may change (a def's callers); stack: all frames that run;
   ex: iterators that were made ahead of the entry and are walked here (a comprehension's); fn: the names whose cells were made at the entry (a def: all; a comprehension's block: its own); calm: not within an except suite; pn: pins that every state bears; xe: what is wanted of an exception that leaves the code -/
structure Cx where
  prog : Program
  w : World
  K : PySem.W.Frag
  mg : Str → Option Value
  base : Heap
  A : Around
  N : List Str
  s₀ : Shared
  H₀ : Hp
  env : Env
  outer : List Env
  stack : List Env
  ex : List Addr
  fn : Str → Bool
  calm : Bool
  pn : List (Addr × Obj)
  xe : Value → Shared → Prop
/-- the callers' frames -/
def frs (l : List Env) : List Addr := l.filterMap (·.frame)
abbrev Cx.fs (X : Cx) : List Addr := frs X.outer

def Vis (sc : Scope) (x : Str) : Prop := sc.names.lookup x = some .local ∨ sc.names.lookup x = some .cell ∨ sc.names.lookup x = some .free
def Loc (sc : Scope) (x : Str) : Prop := sc.names.lookup x = some .local ∨ sc.names.lookup x = some .cell
def Look (env : Env) (h : Heap) (m : Str → Option Value) (x : Str) (u : Value) : Prop :=
  (env.kindOf x = some .local ∧ m x = some u) ∨ ((env.kindOf x = some .cell ∨ env.kindOf x = some .free) ∧ ∃ c, env.cells.lookup x = some c ∧ h.IsCell c (some u))

structure Cx.Ok (X : Cx) : Prop where
  mod : Mod X.K X.mg X.base
  kind : X.env.scope.kind = .function
  glob : X.env.globals = mainGlobals
  blt : X.env.builtins = builtinsNs
  above : X.s₀.heap.objs.size ≤ X.env.locals
  inj : ∀ x y c, X.env.cells.lookup x = some c → X.env.cells.lookup y = some c → x = y
  has : ∀ x, (X.env.kindOf x = some .cell ∨ X.env.kindOf x = some .free) → ∃ c, X.env.cells.lookup x = some c
  cab : ∀ x c, X.fn x = true → X.env.cells.lookup x = some c → X.s₀.heap.objs.size ≤ c
  hd : X.calm = true → X.A.handled = none
  frames : X.A.frames = some X.stack
  stk : X.stack = X.outer ∨ (X.stack = X.env :: X.outer ∧ X.env.frame = some X.env.locals)
  exf : ∀ b ∈ X.ex, b ≠ X.env.locals ∧ ∀ x c, X.env.cells.lookup x = some c → c ≠ b
  bs : ∀ b o, X.base.get? b = some o → X.s₀.heap.get? b = some o ∧ X.H₀ b = none
  bsz : X.base.objs.size ≤ X.s₀.heap.objs.size
  noex : ∀ b o, X.base.get? b = some o → b ∉ X.ex
  exfs : ∀ b ∈ X.ex, b ∉ X.fs
  funs : X.s₀.heap.FunFrames X.base X.outer
  frf : ∀ b ∈ X.fs, X.H₀ b = none

structure Inv (X : Cx) (pins : List (Addr × Obj)) (σ : List (Option V)) (H : Hp) (s : Shared) : Prop where
  ok : X.Ok
  os : s.os = X.s₀.os
  bare : AllBare s.gens
  base : Un X.fs X.ex X.H₀ H X.s₀.heap s.heap
  loc : ∃ m, s.heap.Ns X.env.locals m ∧ ∀ (i : Nat) (x : Str) (v : V), X.N[i]? = some x → σ[i]? = some (some v) → Vis X.env.scope x → ∃ u, RelV v u ∧ Look X.env s.heap m x u
  cell : ∀ x c, X.env.cells.lookup x = some c → ∃ v, s.heap.IsCell c v
  free : H X.env.locals = none
  freeC : ∀ x c, X.env.cells.lookup x = some c → H c = none
  pin : ∀ p ∈ X.pn ++ pins, s.heap.get? p.1 = some p.2 ∧ H p.1 = none ∧ p.1 ≠ X.env.locals ∧ p.1 ∉ X.fs ∧ ∀ v, p.2.data ≠ .cell v
  hok : HOk X.prog X.w H s.heap
  len : σ.length = X.N.length

section
variable {X : Cx} {pins : List (Addr × Obj)} {σ : List (Option V)} {H H' : Hp} {s : Shared} {h' : Heap}

theorem Cx.Ok.nofr (ok : X.Ok) {b : Addr} {o : Obj} (e : X.base.get? b = some o) : b ∉ X.fs := fun hb => by
  have := (ok.funs.mem hb).1
  rw [e] at this; cases this
theorem Inv.bs (I : Inv X pins σ H s) : ∀ b o, X.base.get? b = some o → s.heap.get? b = some o ∧ H b = none := fun b o e =>
  ⟨I.base.keep b o (I.ok.bs b o e).1 (I.ok.bs b o e).2 (I.ok.nofr e) (I.ok.noex b o e), I.base.free b o (I.ok.bs b o e).1 (I.ok.bs b o e).2 (I.ok.noex b o e)⟩
theorem Inv.bk (I : Inv X pins σ H s) : ∀ b o, X.base.get? b = some o → s.heap.get? b = some o := fun b o e => (I.bs b o e).1
theorem Inv.mod (I : Inv X pins σ H s) : Mod X.K X.mg X.base := I.ok.mod
theorem Inv.kIn (I : Inv X pins σ H s) : X.K.In s.heap := I.ok.mod.kin.keeps I.bk
theorem Inv.lt (I : Inv X pins σ H s) : X.env.locals < s.heap.objs.size := let ⟨_, hn, _⟩ := I.loc; hn.lt
theorem Inv.sz (I : Inv X pins σ H s) : X.s₀.heap.objs.size ≤ s.heap.objs.size := Nat.le_trans I.ok.above (Nat.le_of_lt I.lt)
theorem Inv.nofs (I : Inv X pins σ H s) {a : Addr} (h : s.heap.objs.size ≤ a) : a ∉ X.fs := fun hb => by
  obtain ⟨_, o, ho, _⟩ := I.ok.funs.mem hb
  exact absurd (Nat.lt_of_lt_of_le (Heap.lt_size ho) (Nat.le_trans I.sz h)) (Nat.lt_irrefl _)
theorem Inv.cne (I : Inv X pins σ H s) : ∀ x c, X.env.cells.lookup x = some c → c ≠ X.env.locals := fun x c e z => by
  obtain ⟨v, o, ho, hd⟩ := I.cell x c e
  obtain ⟨m, ⟨o', es, ep, ho', hd', _⟩, _⟩ := I.loc
  rw [z, ho'] at ho; cases ho; rw [hd'] at hd; cases hd
theorem Inv.funs (I : Inv X pins σ H s) : s.heap.FunFrames X.base X.outer := by
  have all : ∀ (l : List Env), (∀ b ∈ frs l, b ∈ X.fs) → X.s₀.heap.FunFrames X.base l → s.heap.FunFrames X.base l := by
    intro l
    induction l with
    | nil => intro _ _; trivial
    | cons env r ih =>
      intro hs hl
      obtain ⟨hk, ⟨L, o, hf, hn, ho, hd⟩, hr⟩ := hl
      have hL : L ∈ X.fs := hs L (by unfold frs; rw [List.filterMap_cons, hf]; exact List.mem_cons_self)
      obtain ⟨sl, e⟩ := I.base.slot L o ho (I.ok.frf L hL) hL fun z => I.ok.exfs L z hL
      exact ⟨hk, ⟨L, _, hf, hn, e, hd⟩, ih (fun b hb => hs b (by unfold frs; rw [List.filterMap_cons, hf]; exact List.mem_cons_of_mem _ hb)) hr⟩
  exact all X.outer (fun _ hb => hb) I.ok.funs

/-- the frames that run, for a call -/
theorem Inv.stack (I : Inv X pins σ H s) : s.heap.FunFrames X.base X.stack := by
  rcases I.ok.stk with e | ⟨e, hf⟩
  · rw [e]; exact I.funs
  · rw [e]
    obtain ⟨m, hn, _⟩ := I.loc
    refine .cons (by rw [I.ok.kind]; decide) hf hn ?_ I.funs
    exact Heap.get?_none_of_le (Nat.le_trans I.ok.bsz I.ok.above)
theorem Inv.stkSub (I : Inv X pins σ H s) : ∀ b ∈ frs X.stack, b ∈ X.env.locals :: X.fs := fun b hb => by
  rcases I.ok.stk with e | ⟨e, hf⟩
  · rw [e] at hb; exact List.mem_cons_of_mem _ hb
  · rw [e] at hb
    unfold frs at hb
    rw [List.filterMap_cons, hf] at hb
    exact hb
theorem Inv.stkFree (I : Inv X pins σ H s) : ∀ b ∈ frs X.stack, H b = none := fun b hb => by
  rcases List.mem_cons.mp (I.stkSub b hb) with e | hb
  · rw [e]; exact I.free
  · obtain ⟨_, o, ho, _⟩ := I.ok.funs.mem hb
    exact I.base.free b o ho (I.ok.frf b hb) fun z => I.ok.exfs b z hb

/-- THE STEP: the untracked objects but the frame and the records at ch are kept (the callers' frames up to slots), the frame's map is kept, the new abstract heap is held -/
theorem Inv.step {g' : Array GenState} {t' : Nat} {d' : Drawn} {ch : List Addr} (I : Inv X pins σ H s)
    (hch : ∀ b ∈ ch, (b ∈ X.ex ∨ X.s₀.heap.objs.size ≤ b) ∧ b ≠ X.env.locals ∧ (∀ x c, X.env.cells.lookup x = some c → c ≠ b) ∧ ∀ p ∈ X.pn ++ pins, p.1 ≠ b)
    (keep : ∀ b o, b ≠ X.env.locals → b ∉ X.fs → b ∉ ch → s.heap.get? b = some o → H b = none → h'.get? b = some o)
    (slot : ∀ b o, b ≠ X.env.locals → b ∈ X.fs → b ∉ ch → s.heap.get? b = some o → H b = none → ∃ sl, h'.get? b = some { o with slots := sl }) (free : ∀ b o, b ∉ ch → s.heap.get? b = some o → H b = none → H' b = none)
    (there : ∀ b o, b ∉ ch → s.heap.get? b = some o → ∃ o', h'.get? b = some o')
    (tups : ∀ b xs, H b = some (.tup xs) → H' b = some (.tup xs)) (frzs : ∀ b o u, H b = some (.frz o u) → H' b = some (.frz o u)) (tbls : ∀ b ps, H b = some (.tbl ps) → ∃ more, H' b = some (.tbl (ps ++ more)))
    (ns : ∀ m, s.heap.Ns X.env.locals m → h'.Ns X.env.locals m) (hok : HOk X.prog X.w H' h') (hg : AllBare g') :
    Inv X pins σ H' { s with heap := h', gens := g', drawn := d', toks := t' } := by
  have neL : ∀ b o, X.s₀.heap.get? b = some o → b ≠ X.env.locals := fun b o e => Nat.ne_of_lt (Nat.lt_of_lt_of_le (Heap.lt_size e) I.ok.above)
  have neC : ∀ b o, X.s₀.heap.get? b = some o → b ∉ X.ex → b ∉ ch := fun b o e hx hb => by
    rcases (hch b hb).1 with z | z
    · exact hx z
    · exact absurd (Nat.lt_of_lt_of_le (Heap.lt_size e) z) (Nat.lt_irrefl _)
  have cellK : ∀ x c, X.env.cells.lookup x = some c → ∀ v, s.heap.IsCell c v → h'.IsCell c v := fun x c e v ⟨o, ho, hd⟩ => by
    have nch : c ∉ ch := fun z => (hch c z).2.2.1 x c e rfl
    by_cases hc : c ∈ X.fs
    · obtain ⟨sl, q⟩ := slot c o (I.cne x c e) hc nch ho (I.freeC x c e)
      exact ⟨_, q, hd⟩
    · exact ⟨o, keep c o (I.cne x c e) hc nch ho (I.freeC x c e), hd⟩
  refine ⟨I.ok, I.os, hg, ⟨fun b o e n hb hx => ?_, fun b o e n hb hx => ?_, fun b o e n hx => ?_, fun b o e hx => ?_, fun b xs e => tups b xs (I.base.tups b xs e), fun b o xs e => frzs b o xs (I.base.frzs b o xs e), fun b ps e => ?_⟩, ?_, fun x c e => ?_, ?_, fun x c e => ?_, fun p hp => ?_, hok, I.len⟩
  · exact keep b o (neL b o e) hb (neC b o e hx) (I.base.keep b o e n hb hx) (I.base.free b o e n hx)
  · obtain ⟨sl, e1⟩ := I.base.slot b o e n hb hx
    obtain ⟨sl', e2⟩ := slot b _ (neL b o e) hb (neC b o e hx) e1 (I.base.free b o e n hx)
    exact ⟨sl', e2⟩
  · obtain ⟨o', e1⟩ := I.base.there b o e hx
    exact free b o' (neC b o e hx) e1 (I.base.free b o e n hx)
  · obtain ⟨o', e1⟩ := I.base.there b o e hx
    exact there b o' (neC b o e hx) e1
  · obtain ⟨m1, e1⟩ := I.base.tbls b ps e
    obtain ⟨m2, e2⟩ := tbls b _ e1
    exact ⟨m1 ++ m2, by rw [e2, Array.append_assoc]⟩
  · obtain ⟨m, hn, hl⟩ := I.loc
    refine ⟨m, ns m hn, fun i x v e1 e2 e3 => ?_⟩
    obtain ⟨u, r, l⟩ := hl i x v e1 e2 e3
    refine ⟨u, r, ?_⟩
    rcases l with l | ⟨k, c, e, z⟩
    · exact .inl l
    · exact .inr ⟨k, c, e, cellK x c e _ z⟩
  · obtain ⟨v, z⟩ := I.cell x c e
    exact ⟨v, cellK x c e v z⟩
  · obtain ⟨m, ⟨o, _, _, ho, _⟩, _⟩ := I.loc
    exact free _ o (fun z => (hch _ z).2.1 rfl) ho I.free
  · obtain ⟨v, o, ho, hd⟩ := I.cell x c e
    exact free c o (fun z => (hch c z).2.2.1 x c e rfl) ho (I.freeC x c e)
  · obtain ⟨e, n, ne, nf, d⟩ := I.pin p hp
    have nch : p.1 ∉ ch := fun z => (hch p.1 z).2.2.2 p hp rfl
    exact ⟨keep p.1 p.2 ne nf nch e n, free p.1 p.2 nch e n, ne, nf, d⟩
/-- .. where the frame's own object is kept too -/
theorem Inv.un {t' : Nat} (I : Inv X pins σ H s) (u : Un X.fs [] H H' s.heap h') (hok : HOk X.prog X.w H' h') : Inv X pins σ H' { s with heap := h', toks := t' } := by
  obtain ⟨m, ⟨o, es, ep, ho, r⟩, _⟩ := id I.loc
  obtain ⟨sl, hL⟩ := u.any ho I.free (by simp)
  exact I.step (g' := s.gens) (d' := s.drawn) (ch := []) (fun _ z => nomatch z) (fun b o _ hb _ e n => u.keep b o e n hb (by simp)) (fun b o _ hb _ e n => u.slot b o e n hb (by simp)) (fun b o _ e n => u.free b o e n (by simp)) (fun b o _ e => u.there b o e (by simp)) u.tups u.frzs u.tbls (fun m' hm => by
    obtain ⟨o', es', ep', ho', r'⟩ := hm
    rw [ho] at ho'; cases ho'
    exact ⟨_, es', ep', hL, r'⟩) hok I.bare
/-- behind a call (or a comprehension's block): the slots of this frame may have changed too, the records at ch may have turned -/
theorem Inv.call {g' : Array GenState} {t' : Nat} {d' : Drawn} {ch : List Addr} (I : Inv X pins σ H s) (u : Un (frs X.stack) ch H H' s.heap h') (hok : HOk X.prog X.w H' h') (hg : AllBare g')
    (hch : ∀ b ∈ ch, (b ∈ X.ex ∨ X.s₀.heap.objs.size ≤ b) ∧ b ≠ X.env.locals ∧ (∀ x c, X.env.cells.lookup x = some c → c ≠ b) ∧ ∀ p ∈ X.pn ++ pins, p.1 ≠ b) :
    Inv X pins σ H' { s with heap := h', gens := g', drawn := d', toks := t' } := by
  obtain ⟨m, ⟨o, es, ep, ho, r⟩, _⟩ := id I.loc
  obtain ⟨sl, hL⟩ := u.any ho I.free fun z => (hch _ z).2.1 rfl
  exact I.step (ch := ch) hch (fun b o hL hb hc e n => u.keep b o e n (fun z => (List.mem_cons.mp (I.stkSub b z)).elim hL hb) hc) (fun b o _ _ hc e n => u.any e n hc) (fun b o hc e n => u.free b o e n hc) (fun b o hc e => u.there b o e hc) u.tups u.frzs u.tbls (fun m' hm => by
    obtain ⟨o', es', ep', ho', r'⟩ := hm
    rw [ho] at ho'; cases ho'
    exact ⟨_, es', ep', hL, r'⟩) hok hg
/-- an untracked record of ours (an iterator) has turned -/
theorem Inv.turned {t' : Nat} {it : Addr} (I : Inv X pins σ H s) (k : ∀ b o, b ≠ it → s.heap.get? b = some o → h'.get? b = some o) (hn : H it = none) (hL : it ≠ X.env.locals)
    (h1 : it ∈ X.ex ∨ X.s₀.heap.objs.size ≤ it) (h2 : ∀ x c, X.env.cells.lookup x = some c → c ≠ it) (h3 : ∀ p ∈ X.pn ++ pins, p.1 ≠ it) : Inv X pins σ H { s with heap := h', toks := t' } := by
  have nit : ∀ b u, H b = some u → b ≠ it := fun b u e z => by rw [z, hn] at e; cases e
  refine I.step (g' := s.gens) (d' := s.drawn) (ch := [it]) (fun b hb => ?_) (fun b o _ _ hc e _ => k b o (fun z => hc (by simp [z])) e) (fun b o _ _ hc e _ => ⟨o.slots, k b o (fun z => hc (by simp [z])) e⟩) (fun _ _ _ _ n => n)
    (fun b o hc e => ⟨o, k b o (fun z => hc (by simp [z])) e⟩) (fun _ _ e => e) (fun _ _ _ e => e) (fun b ps e => ⟨#[], by rw [e]; simp⟩) (fun m hm => ?_) (fun b u e => ?_) I.bare
  · have e : b = it := by simpa using hb
    subst e
    exact ⟨h1, hL, h2, h3⟩
  · obtain ⟨o, es, ep, ho, r⟩ := hm
    exact ⟨o, es, ep, k _ o (Ne.symm hL) ho, r⟩
  · refine (I.hok b u e).stay (fun c v hc q => k c v ?_ q) (fun _ q => q) fun _ _ q => q
    rcases hc with z | z
    · rw [z]; exact nit b u e
    · exact nit c _ z
theorem Inv.tok (I : Inv X pins σ H s) (t : Nat) : Inv X pins σ H { s with toks := t } := I.un (h' := s.heap) (t' := t) Un.refl I.hok
/-- all objects kept -/
theorem Inv.kept {t' : Nat} (I : Inv X pins σ H s) (k : ∀ b u, s.heap.get? b = some u → h'.get? b = some u) : Inv X pins σ H { s with heap := h', toks := t' } := I.un (Un.kept k) (I.hok.kept k)
/-- a new object laid and tracked -/
theorem Inv.laid {a : Addr} {o : HO} {t' : Nat} (I : Inv X pins σ H s) (k : ∀ b u, s.heap.get? b = some u → h'.get? b = some u) (hp : s.heap.objs.size ≤ a) (new : ObjOk X.prog X.w (upd H a o) h' a o) :
    Inv X pins σ (upd H a o) { s with heap := h', toks := t' } := I.un (Un.laid k hp (I.hok.fresh hp)) (I.hok.laid k hp new)
/-- an object written -/
theorem Inv.write {x e : Addr} {o : HO} {t' : Nat} (I : Inv X pins σ H s) (mu : Mut (H x)) (he : e = x ∨ H e = some (.own x)) (k : ∀ b u, b ≠ e → s.heap.get? b = some u → h'.get? b = some u) (heo : ∃ u, h'.get? e = some u)
    (new : ObjOk X.prog X.w (upd H x o) h' x o) : Inv X pins σ (upd H x o) { s with heap := h', toks := t' } := I.un (Un.write mu he k heo) (I.hok.write mu he k heo new)
/-- forgetting slots, pins -/
theorem Inv.weak {σ' : List (Option V)} (I : Inv X pins σ H s) (hl : σ'.length = σ.length) (w : ∀ (i : Nat) v, σ'[i]? = some (some v) → σ[i]? = some (some v)) : Inv X pins σ' H s :=
  ⟨I.ok, I.os, I.bare, I.base, let ⟨m, hn, hl'⟩ := I.loc; ⟨m, hn, fun i x v e1 e2 e3 => hl' i x v e1 (w i v e2) e3⟩, I.cell, I.free, I.freeC, I.pin, I.hok, hl.trans I.len⟩
theorem Inv.pins_of {pins' : List (Addr × Obj)} (I : Inv X pins σ H s) (h : ∀ p ∈ pins', s.heap.get? p.1 = some p.2 ∧ H p.1 = none ∧ p.1 ≠ X.env.locals ∧ p.1 ∉ X.fs ∧ ∀ v, p.2.data ≠ .cell v) : Inv X pins' σ H s :=
  ⟨I.ok, I.os, I.bare, I.base, I.loc, I.cell, I.free, I.freeC, fun p hp => (List.mem_append.mp hp).elim (fun z => I.pin p (List.mem_append_left _ z)) (h p), I.hok, I.len⟩

theorem nodup_ix {N : List Str} (hN : N.Nodup) {i j : Nat} {x : Str} (a : N[i]? = some x) (b : N[j]? = some x) : i = j := by
  obtain ⟨h1, e1⟩ := List.getElem?_eq_some_iff.mp a
  obtain ⟨h2, e2⟩ := List.getElem?_eq_some_iff.mp b
  exact (List.getElem_inj hN).mp (e1.trans e2.symm)

/-- a name is stored; what changed -/
theorem store_ok2 {M : Model} {A : Around} {E : Value → Shared → Prop} {i : Nat} {x : Str} {v : V} {u : Value} {Q : Unit → Shared → Prop} (I : Inv X pins σ H s) (hN : X.N.Nodup) (hi : X.N[i]? = some x) (hx : Loc X.env.scope x) (r : RelV v u)
    (h : ∀ s', Inv X pins (σ.set i (some v)) H s' → (∃ a, Heap.SameBut a s.heap s'.heap ∧ (a = X.env.locals ∨ X.env.cells.lookup x = some a)) → Q () s') (hf : X.fn x = true ∨ X.env.scope.names.lookup x = some .local := by first | exact .inl rfl | exact .inr rfl | assumption) : wpAny M A (storeName X.env x u) Q E s := by
  obtain ⟨m, hn, hl⟩ := id I.loc
  have hcls : (X.env.scope.kind == .class || (X.env.scope.kind == .module && X.env.locals != X.env.globals)) = false := by rw [I.ok.kind]; rfl
  have hiσ : i < σ.length := by rw [I.len]; exact (List.getElem?_eq_some_iff.mp hi).1
  have cne := I.cne
  have tracked : ∀ {a : Addr} {h' : Heap}, (∃ o, s.heap.get? a = some o ∧ H a = none) → Heap.SameBut a s.heap h' → HOk X.prog X.w H h' := fun {a h'} ha hs b ob e => by
    obtain ⟨_, _, hfree⟩ := ha
    refine (I.hok b ob e).stay (fun c w' hc q => (hs.2 c ?_).trans q) (fun _ q => q) fun _ _ q => q
    rintro rfl
    rcases hc with rfl | hc
    · rw [hfree] at e; cases e
    · rw [hfree] at hc; cases hc
  rcases hx with hk | hk
  · refine wpAny_storeName_local hk hn (fun h' hn' hs => ?_) hcls
    obtain ⟨oL, _, _, hoL, _⟩ := id hn
    refine h _ ⟨I.ok, I.os, I.bare, ⟨fun b o e n hb hx => ?_, fun b o e n hb hx => ?_, I.base.free, fun b o e hx => ?_, I.base.tups, I.base.frzs, I.base.tbls⟩, ⟨_, hn', fun j y v' e1 e2 e3 => ?_⟩, fun y c e => ?_, I.free, I.freeC, fun p hp => ?_, tracked ⟨oL, hoL, I.free⟩ hs, by simpa using I.len⟩ ⟨_, hs, .inl rfl⟩
    · exact (hs.2 b (Nat.ne_of_lt (Nat.lt_of_lt_of_le (Heap.lt_size e) I.ok.above))).trans (I.base.keep b o e n hb hx)
    · obtain ⟨sl, e1⟩ := I.base.slot b o e n hb hx
      exact ⟨sl, (hs.2 b (Nat.ne_of_lt (Nat.lt_of_lt_of_le (Heap.lt_size e) I.ok.above))).trans e1⟩
    · obtain ⟨o', e1⟩ := I.base.there b o e hx
      exact ⟨o', (hs.2 b (Nat.ne_of_lt (Nat.lt_of_lt_of_le (Heap.lt_size e) I.ok.above))).trans e1⟩
    · by_cases hj : j = i
      · subst hj
        rw [hi] at e1; cases e1
        rw [List.getElem?_set_self hiσ] at e2
        cases e2
        exact ⟨u, r, .inl ⟨hk, by simp⟩⟩
      · rw [List.getElem?_set_ne (Ne.symm hj)] at e2
        obtain ⟨u', r', q⟩ := hl j y v' e1 e2 e3
        refine ⟨u', r', ?_⟩
        rcases q with ⟨k, e⟩ | ⟨k, c, e, z⟩
        · refine .inl ⟨k, ?_⟩
          have : y ≠ x := fun e => hj (nodup_ix hN e1 (e ▸ hi))
          simp [this, e]
        · exact .inr ⟨k, c, e, z.sameBut hs (cne y c e)⟩
    · obtain ⟨w', z⟩ := I.cell y c e
      exact ⟨w', z.sameBut hs (cne y c e)⟩
    · obtain ⟨e, n, ne, nf, d⟩ := I.pin p hp
      exact ⟨(hs.2 p.1 ne).trans e, n, ne, nf, d⟩
  · have hfn : X.fn x = true := by
      rcases hf with z | z
      · exact z
      · rw [z] at hk; cases hk
    obtain ⟨c, hc⟩ := I.ok.has x (.inl hk)
    obtain ⟨w', z⟩ := I.cell x c hc
    refine wpAny_storeName_cell I.ok.kind hk hc z (fun h' hc' hs => ?_)
    obtain ⟨oc, hoc, hocd⟩ := id z
    refine h { s with heap := h' } ⟨I.ok, I.os, I.bare, ⟨fun b o e n hb hx => ?_, fun b o e n hb hx => ?_, I.base.free, fun b o e hx => ?_, I.base.tups, I.base.frzs, I.base.tbls⟩, ⟨m, hn.sameBut hs (Ne.symm (cne x c hc)), fun j y v' e1 e2 e3 => ?_⟩, fun y c' e => ?_, I.free, I.freeC, fun p hp => ?_, tracked ⟨oc, hoc, I.freeC x c hc⟩ hs, by simpa using I.len⟩ ⟨c, hs, .inr hc⟩
    · exact (hs.2 b (Nat.ne_of_lt (Nat.lt_of_lt_of_le (Heap.lt_size e) (I.ok.cab x c hfn hc)))).trans (I.base.keep b o e n hb hx)
    · obtain ⟨sl, e1⟩ := I.base.slot b o e n hb hx
      exact ⟨sl, (hs.2 b (Nat.ne_of_lt (Nat.lt_of_lt_of_le (Heap.lt_size e) (I.ok.cab x c hfn hc)))).trans e1⟩
    · obtain ⟨o', e1⟩ := I.base.there b o e hx
      exact ⟨o', (hs.2 b (Nat.ne_of_lt (Nat.lt_of_lt_of_le (Heap.lt_size e) (I.ok.cab x c hfn hc)))).trans e1⟩
    · by_cases hj : j = i
      · subst hj
        rw [hi] at e1; cases e1
        rw [List.getElem?_set_self hiσ] at e2
        cases e2
        exact ⟨u, r, .inr ⟨.inl hk, c, hc, hc'⟩⟩
      · rw [List.getElem?_set_ne (Ne.symm hj)] at e2
        obtain ⟨u', r', q⟩ := hl j y v' e1 e2 e3
        refine ⟨u', r', ?_⟩
        rcases q with q | ⟨k, c', e, z'⟩
        · exact .inl q
        · refine .inr ⟨k, c', e, z'.sameBut hs ?_⟩
          rintro rfl
          exact hj (nodup_ix hN e1 (I.ok.inj _ _ _ e hc ▸ hi))
    · by_cases hcc : c' = c
      · subst hcc; exact ⟨_, hc'⟩
      · obtain ⟨w2, z2⟩ := I.cell y c' e
        exact ⟨w2, z2.sameBut hs hcc⟩
    · obtain ⟨e, n, ne, nf, d⟩ := I.pin p hp
      refine ⟨(hs.2 p.1 ?_).trans e, n, ne, nf, d⟩
      intro q
      rw [q, hoc] at e
      have q' : oc = p.2 := Option.some.inj e
      exact d w' (by rw [← q']; exact hocd)
theorem store_ok {M : Model} {A : Around} {E : Value → Shared → Prop} {i : Nat} {x : Str} {v : V} {u : Value} {Q : Unit → Shared → Prop} (I : Inv X pins σ H s) (hN : X.N.Nodup) (hi : X.N[i]? = some x) (hx : Loc X.env.scope x) (r : RelV v u)
    (h : ∀ s', Inv X pins (σ.set i (some v)) H s' → Q () s') (hf : X.fn x = true ∨ X.env.scope.names.lookup x = some .local := by first | exact .inl rfl | exact .inr rfl | assumption) : wpAny M A (storeName X.env x u) Q E s :=
  store_ok2 I hN hi hx r (fun s' I' _ => h s' I') hf
/-- behind a call or a block, the state as it is -/
theorem Inv.call' {s' : Shared} {ch : List Addr} (I : Inv X pins σ H s) (ho : s'.os = s.os) (u : Un (frs X.stack) ch H H' s.heap s'.heap) (hok : HOk X.prog X.w H' s'.heap) (hg : AllBare s'.gens)
    (hch : ∀ b ∈ ch, (b ∈ X.ex ∨ X.s₀.heap.objs.size ≤ b) ∧ b ≠ X.env.locals ∧ (∀ x c, X.env.cells.lookup x = some c → c ≠ b) ∧ ∀ p ∈ X.pn ++ pins, p.1 ≠ b) : Inv X pins σ H' s' := by
  obtain ⟨h', g', d', t', o'⟩ := s'
  have e : o' = s.os := ho
  subst e
  exact I.call (g' := g') (t' := t') (d' := d') u hok hg hch
end

/-- an exception: its class, its own dict's address (where it has one), the abstract heap behind it -/
abbrev XK := Value → Option Addr → Hp → Prop
abbrev St := List (Option V)
abbrev VK := V → Hp → Prop
/-- an expression's reading; a test's; an argument list's -/
abbrev TE := St → Hp → VK → Prop
abbrev TT := St → Hp → (Bool → Hp → Prop) → Prop
abbrev TA := St → Hp → (List V → Hp → Prop) → Prop
/-- what is wanted behind a statement -/
structure Ends where
  nx : St → Hp → Prop
  rt : VK
  bk : St → Hp → Prop := fun _ _ => False
  ct : St → Hp → Prop := fun _ _ => False
abbrev TS := Ends → St → Hp → Prop

def EP (X : Cx) (pins : List (Addr × Obj)) (σ : St) (Q : VK) (u : Value) (s' : Shared) : Prop := ∃ v H', Inv X pins σ H' s' ∧ RelV v u ∧ Q v H'
def TP (X : Cx) (pins : List (Addr × Obj)) (σ : St) (Q : Bool → Hp → Prop) (b : Bool) (s' : Shared) : Prop := ∃ H', Inv X pins σ H' s' ∧ Q b H'
def AP (X : Cx) (pins : List (Addr × Obj)) (σ : St) (Q : List V → Hp → Prop) (us : List Value) (s' : Shared) : Prop := ∃ vs H', Inv X pins σ H' s' ∧ Vals vs us ∧ Q vs H'
def SP (X : Cx) (pins : List (Addr × Obj)) (D : Ends) (f : Flow) (s' : Shared) : Prop :=
  match f with
  | .next => ∃ σ' H', Inv X pins σ' H' s' ∧ D.nx σ' H'
  | .brk => ∃ σ' H', Inv X pins σ' H' s' ∧ D.bk σ' H'
  | .cont => ∃ σ' H', Inv X pins σ' H' s' ∧ D.ct σ' H'
  | .ret u => ∃ v σ' H', Inv X pins σ' H' s' ∧ RelV v u ∧ D.rt v H'

def PE (X : Cx) (e : Expr) (t : TE) : Prop :=
  ∀ (pins : List (Addr × Obj)) (s : Shared) (σ : St) (H : Hp) (Q : VK), Inv X pins σ H s → t σ H Q → wpAny (model X.prog X.w) X.A (eval e X.env) (EP X pins σ Q) X.xe s
def PT (X : Cx) (e : Expr) (t : TT) : Prop :=
  ∀ (pins : List (Addr × Obj)) (s : Shared) (σ : St) (H : Hp) (Q : Bool → Hp → Prop), Inv X pins σ H s → t σ H Q → wpAny (model X.prog X.w) X.A (isTrue e X.env (eval e X.env)) (TP X pins σ Q) X.xe s
/-- a test whatever its 'whole' is (and, or) -/
def PW (X : Cx) (e : Expr) (t : TT) : Prop :=
  ∀ (whole : Sem Value) (pins : List (Addr × Obj)) (s : Shared) (σ : St) (H : Hp) (Q : Bool → Hp → Prop), Inv X pins σ H s → t σ H Q → wpAny (model X.prog X.w) X.A (isTrue e X.env whole) (TP X pins σ Q) X.xe s
theorem PW.pt {X : Cx} {e : Expr} {t : TT} (h : PW X e t) : PT X e t := h _
/-- an argument list (no star), from the left -/
def PA (X : Cx) (es : List Expr) (t : TA) : Prop :=
  ∀ (pos : Pos) (pins : List (Addr × Obj)) (s : Shared) (σ : St) (H : Hp) (Q : List V → Hp → Prop), Inv X pins σ H s → t σ H Q → wpAny (model X.prog X.w) X.A (spliced (backTo pos (starEach es X.env))) (AP X pins σ Q) X.xe s
def PS (X : Cx) (st : Stmt) (t : TS) : Prop :=
  ∀ (pins : List (Addr × Obj)) (s : Shared) (σ : St) (H : Hp) (D : Ends), Inv X pins σ H s → t D σ H → wpAny (model X.prog X.w) X.A (exec st X.env) (SP X pins D) X.xe s
def PSs (X : Cx) (st : List Stmt) (t : TS) : Prop :=
  ∀ (pins : List (Addr × Obj)) (s : Shared) (σ : St) (H : Hp) (D : Ends), Inv X pins σ H s → t D σ H → wpAny (model X.prog X.w) X.A (execs st X.env) (SP X pins D) X.xe s
/-- weaken the end -/
theorem thn {α : Type} {t : Sem α} {Q Q' : α → Shared → Prop} {M : Model} {A : Around} {E : Value → Shared → Prop} {s : Shared} (h : wpAny M A t Q E s) (hQ : ∀ a s, Q a s → Q' a s) : wpAny M A t Q' E s := wpAny_mono h hQ fun _ _ x => x
end L2

namespace L2
open PySem PySem.Spec PyProof.Rows
section
variable {X : Cx}

def tVar (i : Nat) : TE := fun σ H Q => ∃ v, σ[i]? = some (some v) ∧ Q v H
def tC (v : V) : TE := fun _ H Q => Q v H
theorem pe_var {i : Nat} {x : Str} {pos : Pos} (hN : X.N[i]? = some x) (hv : Vis X.env.scope x) (hd : (x == ("__debug__" : Str)) = false := by decide) (hcd : (x == ("__classdict__" : Str)) = false := by decide) : PE X (.Name x pos) (tVar i) := by
  intro pins s σ H Q I h
  obtain ⟨v, e, h⟩ := h
  obtain ⟨m, hn, hl⟩ := I.loc
  obtain ⟨u, r, l⟩ := hl i x v hN e hv
  have fin : EP X pins σ Q u s := ⟨v, H, I, r, h⟩
  rcases l with ⟨hk, hm⟩ | ⟨hk, c, hc, hcell⟩
  · exact wpAny_Name (wpAny_loadName_local I.ok.kind hk hn hm fin) hd
  · rcases hk with hk | hk
    · exact wpAny_Name (wpAny_loadName_cell I.ok.kind hk hc hcell fin) hd
    · exact wpAny_Name (wpAny_loadName_free I.ok.kind hk hc hcell fin hcd) hd
theorem pe_int {i j pos} : PE X (.Constant (.int i) j pos) (tC (.int i)) := fun _ _ _ H _ I h => wpAny_Constant_int ⟨.int i, H, I.tok _, ⟨_, rfl⟩, h⟩
theorem pe_bl {b j pos} : PE X (.Constant (.bool b) j pos) (tC (.bl b)) := fun _ _ _ H _ I h => Constant_bool ⟨.bl b, H, I, rfl, h⟩
theorem pe_non {j pos} : PE X (.Constant .none j pos) (tC .non) := fun _ _ _ H _ I h => Constant_none ⟨.non, H, I, rfl, h⟩
theorem pe_str {x j pos} : PE X (.Constant (.str x) j pos) (tC (.str x)) := fun _ _ _ H _ I h => Calls.Constant_str ⟨.str x, H, I.tok _, ⟨_, rfl⟩, h⟩

/-- a global name of the def -/
def Gl (X : Cx) (x : Str) : Prop := X.env.kindOf x = some .globalImplicit
theorem ld_glob {E : Value → Shared → Prop} {pins : List (Addr × Obj)} {s : Shared} {σ : St} {H : Hp} {x : Str} {u : Value} {pos : Pos} {Q : Value → Shared → Prop} (I : Inv X pins σ H s) (hg : Gl X x) (hm : X.mg x = some u) (h : Q u s)
    (hd : (x == ("__debug__" : Str)) = false := by decide) : wpAny (model X.prog X.w) X.A (eval (.Name x pos) X.env) Q E s :=
  Calls.Name_function_global I.ok.kind hg (Calls.loadGlobal_global (by rw [I.ok.glob]; exact I.mod.glob.keeps I.bk) hm h) hd
theorem ld_blt {E : Value → Shared → Prop} {pins : List (Addr × Obj)} {s : Shared} {σ : St} {H : Hp} {x : Str} {u : Value} {pos : Pos} {Q : Value → Shared → Prop} (I : Inv X pins σ H s) (hg : Gl X x) (hm : X.mg x = none) (hv : bootBuiltins x = some u) (h : Q u s)
    (hn : x ≠ "__name__" := by decide) (hd : (x == ("__debug__" : Str)) = false := by decide) : wpAny (model X.prog X.w) X.A (eval (.Name x pos) X.env) Q E s := by
  obtain ⟨mb, h1, h2⟩ := I.mod.blt
  exact Calls.Name_function_global I.ok.kind hg (Calls.loadGlobal_builtin (by rw [I.ok.glob]; exact I.mod.glob.keeps I.bk) hm (by rw [I.ok.blt]; exact h1.keeps I.bk) ((h2 x hn).trans hv) h) hd
/-- a module's constant, a class, a function, as a value -/
theorem pe_glob {x : Str} {v : V} {u : Value} {pos : Pos} (hg : Gl X x) (hm : X.mg x = some u) (r : RelV v u) (hd : (x == ("__debug__" : Str)) = false := by decide) : PE X (.Name x pos) (tC v) :=
  fun _ _ _ H _ I h => ld_glob I hg hm ⟨v, H, I, r, h⟩ hd
theorem pe_bltn {x : Str} {v : V} {u : Value} {pos : Pos} (hg : Gl X x) (hm : X.mg x = none) (hv : bootBuiltins x = some u) (r : RelV v u) (hn : x ≠ "__name__" := by decide) (hd : (x == ("__debug__" : Str)) = false := by decide) : PE X (.Name x pos) (tC v) :=
  fun _ _ _ H _ I h => ld_blt I hg hm hv ⟨v, H, I, r, h⟩ hn hd

variable {a b : Expr} {ta tb : TE} {pos : Pos}
def PC (X : Cx) (op : CmpOp) (a b : Expr) (t : TE) : Prop :=
  ∀ (pins : List (Addr × Obj)) (s : Shared) (σ : St) (H : Hp) (Q : VK), Inv X pins σ H s → t σ H Q →
    wpAny (model X.prog X.w) X.A (eval a X.env) (fun v s₁ => wpAny (model X.prog X.w) X.A (eval b X.env) (fun u s₂ => wpAny (model X.prog X.w) X.A (compareOp op v u) (EP X pins σ Q) X.xe s₂) X.xe s₁) X.xe s
theorem nobehind (b : Expr) {op : CmpOp} (h : op ≠ .In) (h2 : op ≠ .NotIn) : behindInMarks op b = false := by
  have e1 : (op == CmpOp.In) = false := by cases op <;> first | rfl | exact absurd rfl h
  have e2 : (op == CmpOp.NotIn) = false := by cases op <;> first | rfl | exact absurd rfl h2
  cases b <;> simp [behindInMarks, e1, e2]
/-- is None -/
def tIsN (ta : TE) : TE := fun σ H Q => ta σ H fun x H1 => Q (.bl (decide (x = .non))) H1
theorem RelV.none_iff {x : V} {v : Value} (r : RelV x v) : (v == Value.none) = decide (x = .non) := by
  cases x with
  | non => cases r; rfl
  | bl _ => cases r; rfl
  | int _ => obtain ⟨t, rfl⟩ := r; rfl
  | str _ => obtain ⟨t, rfl⟩ := r; rfl
  | byt _ => obtain ⟨t, rfl⟩ := r; rfl
  | flt _ => obtain ⟨t, rfl⟩ := r; rfl
  | ref _ => cases r; rfl
  | ty _ => cases r; rfl
theorem pc_isN {j pos'} (ha : PE X a ta) : PC X .Is a (.Constant .none j pos') (tIsN ta) := by
  intro pins s σ H Q I h
  refine thn (ha pins s σ H _ I h) fun v s1 ⟨x, H1, I1, r1, q1⟩ => ?_
  exact Constant_none (is_none_gen ⟨.bl _, H1, I1, by rw [r1.none_iff]; rfl, q1⟩)
/-- a comparison as a value, as a test -/
def tB (t : TE) : TT := fun σ H Q => t σ H fun x H1 => ∃ c, x = .bl c ∧ Q c H1
theorem pt_cmp {op : CmpOp} {t : TE} (h : PC X op a b t) (h1 : behindInMarks op b = false := by first | exact nobehind _ (by decide) (by decide) | rfl) : PT X (.Compare a [op] [b] pos) (tB t) := by
  intro pins s σ H Q I hw
  refine wpAny_isTrue_Compare1 (thn (h pins s σ H _ I hw) fun v s1 h1 => thn h1 fun u s2 h2 => thn h2 fun c s3 ⟨x, H1, I1, r1, q1⟩ => ?_) h1
  obtain ⟨d, rfl, q⟩ := q1
  cases r1
  exact wpAny_truthy_bool ⟨H1, I1, q⟩
/-- an expression whose value is a bool, as a test -/
theorem pt_val {e : Expr} {t : TE} (h : PE X e t) (he : ∀ whole, isTrue e X.env whole = (do let v ← whole; standAt e.pos; holding [v] (truthy v)) := by intro _; rfl) : PT X e (tB t) := by
  intro pins s σ H Q I hw
  refine isTrue_plain (thn (h pins s σ H _ I hw) fun v s1 ⟨x, H1, I1, r1, q1⟩ => ?_) (he _)
  obtain ⟨d, rfl, q⟩ := q1
  cases r1
  exact wpAny_truthy_bool ⟨H1, I1, q⟩

variable {tA tB' : TT} {rest : List Expr}
def tAnd (t u : TT) : TT := fun σ H Q => t σ H fun c H1 => if c = true then u σ H1 Q else Q false H1
def tOr (t u : TT) : TT := fun σ H Q => t σ H fun c H1 => if c = true then Q true H1 else u σ H1 Q
def tNot (t : TT) : TT := fun σ H Q => t σ H fun c H1 => Q (!c) H1
theorem pw_and1 (ha : PT X a tA) : PW X (.BoolOp .And [a] pos) tA := by
  intro wh pins s σ H Q I h
  refine isTrue_and (thn (ha pins s σ H Q I h) fun c s1 e => ?_)
  cases c with
  | true => exact isTrue_and_nil e
  | false => exact e
theorem pw_or1 (ha : PT X a tA) : PW X (.BoolOp .Or [a] pos) tA := by
  intro wh pins s σ H Q I h
  refine isTrue_or (thn (ha pins s σ H Q I h) fun c s1 e => ?_)
  cases c with
  | false => exact isTrue_or_nil e
  | true => exact e
theorem pw_and (ha : PT X a tA) (hb : PW X (.BoolOp .And (b :: rest) pos) tB') : PW X (.BoolOp .And (a :: b :: rest) pos) (tAnd tA tB') := by
  intro wh pins s σ H Q I h
  refine isTrue_and (thn (ha pins s σ H _ I h) fun c s1 ⟨H1, I1, q1⟩ => ?_)
  cases c with
  | true => exact hb wh pins s1 σ H1 Q I1 q1
  | false => exact ⟨H1, I1, q1⟩
theorem pw_or (ha : PT X a tA) (hb : PW X (.BoolOp .Or (b :: rest) pos) tB') : PW X (.BoolOp .Or (a :: b :: rest) pos) (tOr tA tB') := by
  intro wh pins s σ H Q I h
  refine isTrue_or (thn (ha pins s σ H _ I h) fun c s1 ⟨H1, I1, q1⟩ => ?_)
  cases c with
  | true => exact ⟨H1, I1, q1⟩
  | false => exact hb wh pins s1 σ H1 Q I1 q1
theorem pt_not (ha : PT X a tA) : PT X (.UnaryOp .Not a pos) (tNot tA) := by
  intro pins s σ H Q I h
  exact isTrue_not (ha pins s σ H (fun c H1 => Q (!c) H1) I h)
/-- .. as values (bools) -/
def tAndV (ta tb : TE) : TE := fun σ H Q => ta σ H fun x H1 => ∃ c, x = .bl c ∧ if c = true then tb σ H1 Q else Q (.bl false) H1
def tNotV (ta : TE) : TE := fun σ H Q => ta σ H fun x H1 => ∃ c, x = .bl c ∧ Q (.bl (!c)) H1
theorem pe_one {op} {t : TE} (h : PE X a t) : PE X (.BoolOp op [a] pos) t := fun pins s σ H Q I hw => BoolOp_one (h pins s σ H Q I hw)
theorem pe_and (ha : PE X a ta) (hb : PE X (.BoolOp .And (b :: rest) pos) tb) : PE X (.BoolOp .And (a :: b :: rest) pos) (tAndV ta tb) := by
  intro pins s σ H Q I h
  refine BoolOp_and (thn (ha pins s σ H _ I h) fun v s1 ⟨x, H1, I1, r1, q1⟩ => ?_)
  obtain ⟨c, rfl, q1⟩ := q1
  cases r1
  refine wpAny_truthy_bool ?_
  cases c with
  | true => exact hb pins s1 σ H1 Q I1 q1
  | false => exact ⟨.bl false, H1, I1, rfl, q1⟩
theorem pe_not (ha : PE X a ta) : PE X (.UnaryOp .Not a pos) (tNotV ta) := by
  intro pins s σ H Q I h
  refine UnaryOp_ (thn (ha pins s σ H _ I h) fun v s1 ⟨x, H1, I1, r1, q1⟩ => ?_)
  obtain ⟨c, rfl, q1⟩ := q1
  cases r1
  exact not_of (wpAny_truthy_bool ⟨.bl (!c), H1, I1, rfl, q1⟩)
/-- a if t else b -/
def tIf (t : TT) (ta tb : TE) : TE := fun σ H Q => t σ H fun c H1 => if c = true then ta σ H1 Q else tb σ H1 Q
theorem pe_ifExp {c : Expr} (hc : PT X c tA) (ha : PE X a ta) (hb : PE X b tb) : PE X (.IfExp c a b pos) (tIf tA ta tb) := by
  intro pins s σ H Q I h
  refine wpAny_IfExp (thn (hc pins s σ H _ I h) fun d s1 ⟨H1, I1, q1⟩ => ?_)
  cases d with
  | true => exact ha pins s1 σ H1 Q I1 q1
  | false => exact hb pins s1 σ H1 Q I1 q1
end
end L2

namespace L2
open PySem PySem.Spec PyProof.Rows

def SqL (K : PySem.W.Frag) (H : Hp) (a : Addr) (xs : List V) : Prop :=
  Rd H a (.lst xs) ∨
    ∃ (o : Obj) (its : Array Value) (n : Nat), K.lookup a = some o ∧ o.cls = .type "list" ∧ o.dict = none ∧ o.data = .seq its n ∧ its.size ≤ sizeLine ∧ Vals xs its.toList
def SqT (K : PySem.W.Frag) (H : Hp) (a : Addr) (xs : List V) : Prop :=
  Rd H a (.tup xs) ∨
    ∃ (o : Obj) (its : Array Value) (n : Nat), K.lookup a = some o ∧ o.cls = .type "tuple" ∧ o.data = .seq its n ∧ its.size ≤ sizeLine ∧ Vals xs its.toList
def absV : Value → Option V
  | .none => some .non
  | .bool b => some (.bl b)
  | .int i _ => some (.int i)
  | .str x _ => some (.str x)
  | .bytes b _ => some (.byt b)
  | .float b _ => some (.flt b)
  | .ref a => some (.ref a)
  | .type n => some (.ty n)
  | _ => none
theorem RelV.abs {x : V} {u : Value} (r : RelV x u) : absV u = some x := by
  cases x with
  | non => cases r; rfl
  | bl _ => cases r; rfl
  | int _ => obtain ⟨t, rfl⟩ := r; rfl
  | str _ => obtain ⟨t, rfl⟩ := r; rfl
  | byt _ => obtain ⟨t, rfl⟩ := r; rfl
  | flt _ => obtain ⟨t, rfl⟩ := r; rfl
  | ref _ => cases r; rfl
  | ty _ => cases r; rfl
theorem RelV.inj {x y : V} {u : Value} (r : RelV x u) (q : RelV y u) : x = y := Option.some.inj (r.abs.symm.trans q.abs)
theorem Vals.inj : ∀ {xs ys : List V} {us : List Value}, Vals xs us → Vals ys us → xs = ys
  | _, _, _, .nil, .nil => rfl
  | _, _, _, .cons r t, .cons r' t' => by rw [r.inj r', Vals.inj t t']
section
variable {X : Cx} {pins : List (Addr × Obj)} {σ : St} {H : Hp} {s : Shared} {a : Addr} {xs ys : List V}
theorem SqL.of {K : PySem.W.Frag} (h : H a = some (.lst xs)) : SqL K H a xs := .inl (.inl h)
theorem SqT.of {K : PySem.W.Frag} (h : H a = some (.tup xs)) : SqT K H a xs := .inl (.inl h)
theorem Inv.list (I : Inv X pins σ H s) (h : SqL X.K H a xs) : ∃ its : List Value, Vals xs its ∧ PlainL s.heap a its.toArray ∧ xs.length ≤ sizeLine := by
  rcases h with h | ⟨o, its, n, hk, hc, hd, hs, hz, r⟩
  · obtain ⟨z, its, n, r, e⟩ := h.ok I.hok
    exact ⟨its, r, ⟨_, n, e, rfl, rfl, rfl⟩, z⟩
  · refine ⟨its.toList, r, ⟨o, n, I.kIn a o hk, hc, hd, by simpa using hs⟩, ?_⟩
    have e := r.length
    simp only [Array.length_toList] at e
    omega
theorem Inv.tuple (I : Inv X pins σ H s) (h : SqT X.K H a xs) : ∃ its : List Value, Vals xs its ∧ IsTup s.heap a its.toArray ∧ xs.length ≤ sizeLine := by
  rcases h with h | ⟨o, its, n, hk, hc, hs, hz, r⟩
  · obtain ⟨z, its, r, p⟩ := h.ok I.hok
    exact ⟨its, r, p, z⟩
  · refine ⟨its.toList, r, ⟨o, I.kIn a o hk, hc, n, by simpa using hs⟩, ?_⟩
    have e := r.length
    simp only [Array.length_toList] at e
    omega
theorem Inv.list_inj (I : Inv X pins σ H s) (h : SqL X.K H a xs) (h' : SqL X.K H a ys) : xs = ys := by
  obtain ⟨its, r, ⟨o, n, e, _, _, d⟩, _⟩ := I.list h
  obtain ⟨its', r', ⟨o', n', e', _, _, d'⟩, _⟩ := I.list h'
  rw [e] at e'; cases e'
  rw [d] at d'
  injection d' with d1 _
  have : its = its' := by simpa using congrArg Array.toList d1
  subst this
  exact r.inj r'
theorem Inv.tuple_inj (I : Inv X pins σ H s) (h : SqT X.K H a xs) (h' : SqT X.K H a ys) : xs = ys := by
  obtain ⟨its, r, ⟨o, e, _, n, d⟩, _⟩ := I.tuple h
  obtain ⟨its', r', ⟨o', e', _, n', d'⟩, _⟩ := I.tuple h'
  rw [e] at e'; cases e'
  rw [d] at d'
  injection d' with d1 _
  have : its = its' := by simpa using congrArg Array.toList d1
  subst this
  exact r.inj r'
end

abbrev Cx.wish (X : Cx) (E : Value → Shared → Prop) : Cx := { X with xe := E }
/-- no exception leaves -/
abbrev Cx.nox (X : Cx) : Cx := X.wish fun _ _ => False
theorem Cx.Ok.wish {X : Cx} (ok : X.Ok) (E : Value → Shared → Prop) : (X.wish E).Ok :=
  ⟨ok.mod, ok.kind, ok.glob, ok.blt, ok.above, ok.inj, ok.has, ok.cab, ok.hd, ok.frames, ok.stk, ok.exf, ok.bs, ok.bsz, ok.noex, ok.exfs, ok.funs, ok.frf⟩
theorem Cx.Ok.unwish {X : Cx} {E : Value → Shared → Prop} (ok : (X.wish E).Ok) : X.Ok :=
  ⟨ok.mod, ok.kind, ok.glob, ok.blt, ok.above, ok.inj, ok.has, ok.cab, ok.hd, ok.frames, ok.stk, ok.exf, ok.bs, ok.bsz, ok.noex, ok.exfs, ok.funs, ok.frf⟩
section
variable {X : Cx} {pins : List (Addr × Obj)} {σ : St} {H : Hp} {s : Shared} {E : Value → Shared → Prop}
theorem Inv.wish (I : Inv X pins σ H s) (E : Value → Shared → Prop) : Inv (X.wish E) pins σ H s := ⟨I.ok.wish E, I.os, I.bare, I.base, I.loc, I.cell, I.free, I.freeC, I.pin, I.hok, I.len⟩
theorem Inv.unwish (I : Inv (X.wish E) pins σ H s) : Inv X pins σ H s := ⟨I.ok.unwish, I.os, I.bare, I.base, I.loc, I.cell, I.free, I.freeC, I.pin, I.hok, I.len⟩
theorem SP.unwish {D : Ends} {f : Flow} {s' : Shared} (h : SP (X.wish E) pins D f s') : SP X pins D f s' := by
  cases f with
  | next => obtain ⟨σ', H', I, q⟩ := h; exact ⟨σ', H', I.unwish, q⟩
  | brk => obtain ⟨σ', H', I, q⟩ := h; exact ⟨σ', H', I.unwish, q⟩
  | cont => obtain ⟨σ', H', I, q⟩ := h; exact ⟨σ', H', I.unwish, q⟩
  | ret u => obtain ⟨v, σ', H', I, r, q⟩ := h; exact ⟨v, σ', H', I.unwish, r, q⟩
theorem PSs.nox {st : List Stmt} {t : TS} (h : PSs X.nox st t) : PSs X st t := fun pins s σ H D I hw =>
  wpAny_mono (h pins s σ H D (I.wish _) hw) (fun _ _ q => q.unwish) fun _ _ z => False.elim z
end

section
variable {X : Cx} {st : Stmt} {rest : List Stmt} {t u : TS} {e : Expr} {te : TE} {pos : Pos}
def tNext : TS := fun D σ H => D.nx σ H
def tSeq (t u : TS) : TS := fun D σ H => t { D with nx := u D } σ H
theorem pss_nil : PSs X [] tNext := fun _ _ σ H _ I h => wpAny_execs_nil ⟨σ, H, I, h⟩
theorem pss_cons (h1 : PS X st t) (h2 : PSs X rest u) : PSs X (st :: rest) (tSeq t u) := by
  intro pins s σ H D I h
  refine wpAny_execs_cons (thn (h1 pins s σ H { D with nx := u D } I h) fun f s1 q => ?_)
  cases f with
  | next =>
    obtain ⟨σ', H', I', q⟩ := q
    exact h2 pins s1 σ' H' D I' q
  | ret v => exact q
  | brk => exact q
  | cont => exact q
theorem pss_one (h1 : PS X st t) : PSs X [st] t := by
  intro pins s σ H D I h
  refine wpAny_execs_cons (thn (h1 pins s σ H D I h) fun f s1 q => ?_)
  cases f with
  | next => exact wpAny_execs_nil q
  | ret v => exact q
  | brk => exact q
  | cont => exact q
/-- in a def's body nothing is shown -/
theorem Inv.quiet {pins : List (Addr × Obj)} {σ : St} {H : Hp} {s : Shared} (I : Inv X pins σ H s) : interactive X.env = false := by simp [interactive, I.ok.kind]
/-- an expression whose value is dropped -/
def tDrop (te : TE) : TS := fun D σ H => te σ H fun _ H1 => D.nx σ H1
theorem ps_expr (he : PE X e te) (hs : swapsWith e none pos.line X.env = pure false := by rfl) : PS X (.Expr e pos) (tDrop te) := by
  intro pins s σ H D I h
  exact wpAny_Expr_any (thn (he pins s σ H _ I h) fun v s1 ⟨x, H1, I1, r1, q1⟩ => ⟨σ, H1, I1, q1⟩) I.quiet hs
def tRet (te : TE) : TS := fun D σ H => te σ H D.rt
theorem ps_ret (he : PE X e te) : PS X (.Return (some e) pos) (tRet te) := by
  intro pins s σ H D I h
  exact wpAny_Return_some (thn (he pins s σ H _ I h) fun v s1 ⟨x, H1, I1, r1, q1⟩ => ⟨x, σ, H1, I1, r1, q1⟩)
def tIfS (c : TT) (t u : TS) : TS := fun D σ H => c σ H fun b H1 => if b = true then t D σ H1 else u D σ H1
theorem ps_if {c : Expr} {a b : List Stmt} {tc : TT} (hc : PT X c tc) (ha : PSs X a t) (hb : PSs X b u) : PS X (.If c a b pos) (tIfS tc t u) := by
  intro pins s σ H D I h
  refine wpAny_If (thn (hc pins s σ H _ I h) fun d s1 ⟨H1, I1, q1⟩ => ?_)
  cases d with
  | true => exact ha pins s1 σ H1 D I1 q1
  | false => exact hb pins s1 σ H1 D I1 q1
/-- code that the proof never comes to -/
def tNever : TS := fun _ _ _ => False
theorem pss_never {sts : List Stmt} : PSs X sts tNever := fun _ _ _ _ _ _ h => h.elim
end

abbrev TG := V → St → Hp → (St → Hp → Prop) → Prop
abbrev TGs := List V → St → Hp → (St → Hp → Prop) → Prop
def PG (X : Cx) (target : Expr) (t : TG) : Prop :=
  ∀ (pins : List (Addr × Obj)) (s : Shared) (σ : St) (H : Hp) (v : V) (u : Value) (Q : St → Hp → Prop), Inv X pins σ H s → RelV v u → t v σ H Q →
    wpAny (model X.prog X.w) X.A (assign target X.env u) (fun _ s' => ∃ σ' H', Inv X pins σ' H' s' ∧ Q σ' H') X.xe s
/-- several targets, one after another -/
def PGs (X : Cx) (ts : List Expr) (t : TGs) : Prop :=
  ∀ (pins : List (Addr × Obj)) (s : Shared) (σ : St) (H : Hp) (vs : List V) (us : List Value) (Q : St → Hp → Prop), Inv X pins σ H s → Vals vs us → t vs σ H Q →
    wpAny (model X.prog X.w) X.A (assignInOrder ((assignEach ts X.env).map (·.2)) us) (fun _ s' => ∃ σ' H', Inv X pins σ' H' s' ∧ Q σ' H') X.xe s
/-- o[i] = v, by values -/
abbrev TSet := V → V → V → Hp → (Hp → Prop) → Prop
def PSet (X : Cx) (t : TSet) : Prop :=
  ∀ (pins : List (Addr × Obj)) (s : Shared) (σ : St) (H : Hp) (o i v : V) (ov iv u : Value) (Q : Hp → Prop), Inv X pins σ H s → RelV o ov → RelV i iv → RelV v u → t o i v H Q →
    wpAny (model X.prog X.w) X.A (setItem ov iv u) (fun _ s' => ∃ H', Inv X pins σ H' s' ∧ Q H') X.xe s
section
variable {X : Cx} {pos : Pos}
def gName (i : Nat) : TG := fun v σ H Q => Q (σ.set i (some v)) H
theorem pg_name {i : Nat} {x : Str} (hN : X.N.Nodup) (hi : X.N[i]? = some x) (hx : Loc X.env.scope x) (hf : X.fn x = true ∨ X.env.scope.names.lookup x = some .local := by first | exact .inl rfl | exact .inr rfl | assumption) : PG X (.Name x pos) (gName i) := by
  intro pins s σ H v u Q I r h
  exact wpAny_assign_Name (store_ok I hN hi hx r (fun s' I' => ⟨_, H, I', h⟩) hf)
def gNil : TGs := fun vs σ H Q => vs = [] ∧ Q σ H
def gCons (t : TG) (u : TGs) : TGs := fun vs σ H Q => ∃ v r, vs = v :: r ∧ t v σ H fun σ' H' => u r σ' H' Q
theorem pgs_nil : PGs X [] gNil := by
  intro pins s σ H vs us Q I r h
  obtain ⟨e, h⟩ := h
  subst e
  cases r
  exact assignInOrder_nil ⟨σ, H, I, h⟩
theorem pgs_cons {e : Expr} {es : List Expr} {t : TG} {u : TGs} (h1 : PG X e t) (h2 : PGs X es u)
    (hs : (assignEach (e :: es) X.env).map (·.2) = assign e X.env :: (assignEach es X.env).map (·.2) := by rfl) : PGs X (e :: es) (gCons t u) := by
  intro pins s σ H vs us Q I r h
  obtain ⟨v, vr, e1, h⟩ := h
  subst e1
  cases r with
  | cons r rr =>
    rw [hs]
    refine assignInOrder_cons (thn (h1 pins s σ H _ _ _ I r h) fun _ s1 ⟨σ1, H1, I1, q1⟩ => ?_)
    exact h2 pins s1 σ1 H1 _ _ Q I1 rr q1
/-- (a, b, ..) = a tuple of that length -/
def gTup (K : PySem.W.Frag) (n : Nat) (t : TGs) : TG := fun v σ H Q => ∃ a xs, v = .ref a ∧ SqT K H a xs ∧ xs.length = n ∧ t xs σ H Q
theorem pg_tup {es : List Expr} {k : Nat} {t : TGs} {n : Nat} (hc : X.calm = true) (h : PGs X es t)
    (hn : (assignEach es X.env).length = n := by rfl) (hst : (assignEach es X.env).findIdx? (·.1) = none := by rfl) : PG X (.Tuple es k pos) (gTup X.K n t) := by
  intro pins s σ H v u Q I r hw
  obtain ⟨a, xs, e1, hq, hl, hw⟩ := hw
  subst e1
  cases r
  obtain ⟨its, rv, ht, hz⟩ := I.tuple hq
  refine assign_Tuple_tuple (I.ok.hd hc) ht (by simp [hn, ← hl, rv.length]) hst fun h' hx => ?_
  have I1 : Inv X pins σ H { s with heap := h' } := I.kept (t' := s.toks) fun b o e => hx b o (Nat.ne_of_lt (Heap.lt_size e)) e
  exact h pins _ σ H xs _ Q I1 (by simpa using rv) hw
/-- o[i] = .. -/
def gSub (to ti : TE) (t : TSet) : TG := fun v σ H Q => to σ H fun o H1 => ti σ H1 fun i H2 => t o i v H2 fun H3 => Q σ H3
theorem pg_sub {o i : Expr} {to ti : TE} {t : TSet} (ho : PE X o to) (hi : PE X i ti) (hs : PSet X t)
    (ha : ∀ v, assign (.Subscript o i pos) X.env v = (do
      let ov ← holding [v] (eval o X.env)
      let iv ← holding [v, ov] (eval i X.env)
      standAt pos
      holding [v, ov, iv] (setItem ov iv v)
      release [v, ov, iv] []) := by intro _; rfl) : PG X (.Subscript o i pos) (gSub to ti t) := by
  intro pins s σ H v u Q I r h
  rw [ha]
  refine wpAny_bind (wpAny_holding (thn (ho pins s σ H _ I h) fun ov s1 ⟨x, H1, I1, r1, q1⟩ => ?_))
  refine wpAny_bind (wpAny_holding (thn (hi pins s1 σ H1 _ I1 q1) fun iv s2 ⟨y, H2, I2, r2, q2⟩ => ?_))
  refine wpAny_bind (wpAny_standAt (wpAny_bind (wpAny_holding (thn (hs pins s2 σ H2 x y v ov iv u _ I2 r1 r2 r q2) fun _ s3 ⟨H3, I3, q3⟩ => ?_))))
  exact wpAny_release ⟨σ, H3, I3, q3⟩
/-- target = value -/
def tAsg (te : TE) (g : TG) : TS := fun D σ H => te σ H fun x H1 => g x σ H1 D.nx
theorem ps_asg {tg e : Expr} {te : TE} {g : TG} (he : PE X e te) (hg : PG X tg g) (hs : swapsWithSole [tg] e pos.line X.env = pure false := by rfl) (hw : swappedStores [tg] e X.env = pure none := by rfl)
    (h1 : (assignEach [tg] X.env).map (·.2) = [assign tg X.env] := by rfl) : PS X (.Assign [tg] e pos) (tAsg te g) := by
  intro pins s σ H D I h
  refine wpAny_Assign_stores (thn (he pins s σ H _ I h) fun v s1 ⟨x, H1, I1, r1, q1⟩ => ?_) hs hw
  rw [h1]
  exact thn (hg pins s1 σ H1 x v _ I1 r1 q1) fun _ s2 q => q
/-- name = value -/
theorem ps_set {i : Nat} {x : Str} {e : Expr} {te : TE} {pos' : Pos} (hN : X.N.Nodup) (hi : X.N[i]? = some x) (hx : Loc X.env.scope x) (he : PE X e te) (hs : swapsWith e (some (.Name x pos')) pos.line X.env = pure false := by rfl) (hf : X.fn x = true ∨ X.env.scope.names.lookup x = some .local := by first | exact .inl rfl | exact .inr rfl | assumption) :
    PS X (.Assign [.Name x pos'] e pos) (tAsg te (gName i)) := by
  intro pins s σ H D I h
  refine wpAny_Assign_Name (thn (he pins s σ H _ I h) fun v s1 ⟨y, H1, I1, r1, q1⟩ => ?_) hs
  exact store_ok I1 hN hi hx r1 (fun s2 I2 => ⟨_, H1, I2, q1⟩) hf
end

section
variable {X : Cx} {pos : Pos}
/-- the invariant W with its measure -/
def tWhile (c : TT) (tb : TS) : TS := fun D σ H => ∃ W : Nat → St → Hp → Prop, (∃ m, W m σ H) ∧ ∀ m σ H, W m σ H →
  c σ H fun b H1 => if b = true then ∃ N : St → Hp → Prop, (∀ σ' H', N σ' H' → ∃ m', m' < m ∧ W m' σ' H') ∧ tb { D with nx := N, ct := N, bk := D.nx } σ H1 else D.nx σ H1
theorem ps_while {c : Expr} {body : List Stmt} {tc : TT} {tb : TS} (hp : PassesOwn (model X.prog X.w) X.A X.env X.xe) (hc : PT X c tc) (hb : PSs X body tb) : PS X (.While c body [] pos) (tWhile tc tb) := by
  intro pins s σ H D I h
  obtain ⟨W, ⟨m0, w0⟩, turn⟩ := h
  refine wpAny_While (codeAny_whileLoop (fun n s' => ∃ σ' H', Inv X pins σ' H' s' ∧ W n σ' H') ?_ m0 ⟨σ, H, I, w0⟩)
  rintro n s1 ⟨σ1, H1, I1, w1⟩
  refine wpAny_passesOwn hp (thn (hc pins s1 σ1 H1 _ I1 (turn n σ1 H1 w1)) fun b s2 ⟨H2, I2, q2⟩ => ?_)
  cases b with
  | true =>
    obtain ⟨N, hN, q2⟩ := q2
    rw [if_pos rfl]
    refine wpAny_passesOwn hp (thn (hb pins s2 σ1 H2 _ I2 q2) fun f s3 q3 => ?_)
    cases f with
    | next =>
      obtain ⟨σ3, H3, I3, n3⟩ := q3
      obtain ⟨m', hm, w3⟩ := hN σ3 H3 n3
      exact ⟨m', hm, σ3, H3, I3, w3⟩
    | cont =>
      obtain ⟨σ3, H3, I3, n3⟩ := q3
      obtain ⟨m', hm, w3⟩ := hN σ3 H3 n3
      exact ⟨m', hm, σ3, H3, I3, w3⟩
    | brk => exact q3
    | ret v => exact q3
  | false =>
    rw [if_neg Bool.false_ne_true]
    exact wpAny_execs_nil ⟨σ1, H2, I2, q2⟩
end

/-- at turn i: it yields x (the heap may grow), or it stops -/
structure It where
  go : Nat → Hp → Prop
  yld : Nat → Hp → V → Hp → Prop
  stop : Nat → Hp → Prop
/-- the iterator's own objects may turn: they are not the frame's, not pinned, younger than the entry (or a comprehension's own) -/
def FpOk (X : Cx) (pins : List (Addr × Obj)) (H : Hp) (b : Addr) : Prop :=
  H b = none ∧ b ≠ X.env.locals ∧ b ∉ X.fs ∧ (b ∈ X.ex ∨ X.s₀.heap.objs.size ≤ b) ∧ (∀ x c, X.env.cells.lookup x = some c → c ≠ b) ∧ ∀ p ∈ X.pn ++ pins, p.1 ≠ b
theorem Inv.fpOk {X : Cx} {pins : List (Addr × Obj)} {σ : St} {H H' : Hp} {s : Shared} {b : Addr} (I : Inv X pins σ H s) (hb : s.heap.objs.size ≤ b) (hn : H' b = none) : FpOk X pins H' b := by
  refine ⟨hn, Nat.ne_of_gt (Nat.lt_of_lt_of_le I.lt hb), I.nofs hb, .inr (Nat.le_trans I.sz hb), fun x c e z => ?_, fun p hp z => ?_⟩
  · obtain ⟨v, q⟩ := I.cell x c e
    exact absurd (Nat.lt_of_lt_of_le q.lt (by rw [z]; exact hb)) (Nat.lt_irrefl _)
  · exact absurd (Nat.lt_of_lt_of_le (Heap.lt_size (I.pin p hp).1) (by rw [z]; exact hb)) (Nat.lt_irrefl _)
structure Turn (P : Program) (w : World) (K : PySem.W.Frag) (tg : Expr) (J : It) (fp : List Addr) (it : Addr) (tn : Nat → Heap → Prop) : Prop where
  mem : it ∈ fp
  obj : ∀ i h, tn i h → ∀ b ∈ fp, ∃ o, h.get? b = some o ∧ ∀ v, o.data ≠ .cell v
  keep : ∀ i h h', tn i h → (∀ b ∈ fp, ∀ o, h.get? b = some o → h'.get? b = some o) → tn i h'
  item : ∀ (X : Cx), X.prog = P → X.w = w → X.K = K → X.calm = true → ∀ (i : Nat) (pins : List (Addr × Obj)) (s : Shared) (σ : St) (H : Hp) (E : Value → Shared → Prop), Inv X pins σ H s → (∀ b ∈ fp, FpOk X pins H b) → tn i s.heap → J.go i H →
    wpAny (model P w) X.A (pyNext (.ref it)) (fun r s1 => ∃ u, r = some u ∧
      wpAny (model P w) X.A (letOwnedTupleGo tg (.ref it) u) (fun _ s2 => ∃ x H', Inv X pins σ H' s2 ∧ RelV x u ∧ J.yld i H x H' ∧ tn (i + 1) s2.heap ∧ ∀ b ∈ fp, H' b = none) E s1) E s
  done : ∀ (X : Cx), X.prog = P → X.w = w → X.K = K → X.calm = true → ∀ (i : Nat) (pins : List (Addr × Obj)) (s : Shared) (σ : St) (H : Hp) (E : Value → Shared → Prop), Inv X pins σ H s → (∀ b ∈ fp, FpOk X pins H b) → tn i s.heap → J.stop i H →
    wpAny (model P w) X.A (pyNext (.ref it)) (fun r s1 => r = none ∧ Inv X pins σ H s1) E s
  self : ∀ (A : Around) (i : Nat) (s : Shared) (Q : Value → Shared → Prop) (E : Value → Shared → Prop), tn i s.heap → Q (.ref it) s → wpAny (model P w) A (pyIter (.ref it)) Q E s
abbrev TI := St → Hp → (It → Hp → Prop) → Prop
/-- an iterator has come -/
def PIE (X : Cx) (pins : List (Addr × Obj)) (σ : St) (tg : Expr) (R : It → Hp → Prop) (itv : Value) (s2 : Shared) : Prop :=
  ∃ (it : Addr) (fp : List Addr) (tn : Nat → Heap → Prop) (J : It) (H' : Hp), itv = .ref it ∧ Inv X pins σ H' s2 ∧ Turn X.prog X.w X.K tg J fp it tn ∧ tn 0 s2.heap ∧ (∀ b ∈ fp, FpOk X pins H' b) ∧ R J H'
def PI (X : Cx) (tg iter : Expr) (wi : TI) : Prop :=
  ∀ (pins : List (Addr × Obj)) (s : Shared) (σ : St) (H : Hp) (R : It → Hp → Prop), Inv X pins σ H s → wi σ H R →
    wpAny (model X.prog X.w) X.A (eval iter X.env) (fun v s1 => wpAny (model X.prog X.w) X.A (pyIter v) (PIE X pins σ tg R) X.xe s1) X.xe s

/-- the step ahead of the store is nothing for an iterator that keeps no tuple -/
theorem go_of {M : Model} {A : Around} {E : Value → Shared → Prop} {s : Shared} {tg : Expr} {it : Addr} {u : Value} {o : Obj} {n : String} {vs : Array Value} {Q : Unit → Shared → Prop} (ho : s.heap.get? it = some o) (hc : o.cls = .type n) (hd : o.data = .fields vs)
    (hn : ["enumerate", "zip", "dict_itemiterator", "dict_reverseitemiterator", "odict_iterator", "itertools.zip_longest", "itertools.pairwise"].contains n = false) (hQ : Q () s) : wpAny M A (letOwnedTupleGo tg (.ref it) u) Q E s := by
  unfold letOwnedTupleGo
  cases tg <;> first
    | exact wpAny_pure hQ
    | (cases u <;> first
        | exact wpAny_pure hQ
        | (refine wpAny_bind (wpAny_load ho ?_)
           rw [hc, hd]
           show wpAny M A (if (["enumerate", "zip", "dict_itemiterator", "dict_reverseitemiterator", "odict_iterator", "itertools.zip_longest", "itertools.pairwise"].contains n && vs[0]? == some (rawInt _)) = true then _ else _) Q E s
           rw [if_neg (by intro h; rw [hn, Bool.false_and] at h; cases h)]
           exact wpAny_pure hQ))

/-- the list at a, as it stands at each turn (a loop may append to it) -/
def Itl (K : PySem.W.Frag) (a : Addr) : It :=
  ⟨fun i H => ∃ xs x, SqL K H a xs ∧ xs[i]? = some x, fun i H x H' => H' = H ∧ ∀ xs, SqL K H a xs → xs[i]? = some x, fun i H => ∃ xs, SqL K H a xs ∧ xs.length ≤ i⟩
def Itt (K : PySem.W.Frag) (a : Addr) : It :=
  ⟨fun i H => ∃ xs x, SqT K H a xs ∧ xs[i]? = some x, fun i H x H' => H' = H ∧ ∀ xs, SqT K H a xs → xs[i]? = some x, fun i H => ∃ xs, SqT K H a xs ∧ xs.length ≤ i⟩
/-- lo, lo + 1, .. (n of them) -/
def Itr (lo : Int) (n : Nat) : It := ⟨fun i _ => i < n, fun i H x H' => H' = H ∧ x = .int (lo + i), fun i _ => n ≤ i⟩
theorem turn_list {P : Program} {w : World} {K : PySem.W.Frag} {tg : Expr} (a it : Addr) : Turn P w K tg (Itl K a) [it] it (fun i h => h.IsListIter it a i) where
  mem := by simp
  obj := fun i h st b hb => by
    have e : b = it := by simpa using hb
    subst e
    obtain ⟨o, e, c, d⟩ := st
    exact ⟨o, e, fun v z => by rw [d] at z; cases z⟩
  keep := fun i h h' st k => st.at fun o e => k it (by simp) o e
  item := by
    intro X hP hw hK hc i pins s σ H E I hf st hg
    subst hP hw hK
    obtain ⟨xs, x, hq, hx⟩ := hg
    obtain ⟨its, rv, p, hz⟩ := I.list hq
    obtain ⟨u, hu, ru⟩ := rv.get hx
    obtain ⟨f0, f1, f2, f3, f4, f5⟩ := hf it (by simp)
    refine wpAny_pyNext_list_item st p.isList (x := u) (by simpa using hu) fun h' st' sb => ?_
    have I1 : Inv X pins σ H { s with heap := h' } := I.turned (t' := s.toks) (fun b o hb e => (sb.2 b hb).trans e) f0 f1 f3 f4 f5
    obtain ⟨o, e, c, d⟩ := id st'
    exact ⟨u, rfl, go_of (s := { s with heap := h' }) e c d (by decide) ⟨x, H, I1, ru, ⟨rfl, fun ys hy => by rw [I.list_inj hy hq]; exact hx⟩, st', fun b hb => (hf b hb).1⟩⟩
  done := by
    intro X hP hw hK hc i pins s σ H E I hf st hg
    subst hP hw hK
    obtain ⟨xs, hq, hx⟩ := hg
    obtain ⟨its, rv, p, hz⟩ := I.list hq
    obtain ⟨f0, f1, f2, f3, f4, f5⟩ := hf it (by simp)
    have hl := rv.length
    exact wpAny_pyNext_list_end (I.ok.hd hc) st p.isList (by simp; omega) fun h' eb => ⟨rfl, I.turned (t' := s.toks) (fun b o hb e => eb b o hb e) f0 f1 f3 f4 f5⟩
  self := fun _ _ _ _ _ st h => wpAny_pyIter_listiter st h
theorem turn_tuple {P : Program} {w : World} {K : PySem.W.Frag} {tg : Expr} (a it : Addr) : Turn P w K tg (Itt K a) [it] it (fun i h => h.IsTupleIter it a i) where
  mem := by simp
  obj := fun i h st b hb => by
    have e : b = it := by simpa using hb
    subst e
    obtain ⟨o, e, c, d⟩ := st
    exact ⟨o, e, fun v z => by rw [d] at z; cases z⟩
  keep := fun i h h' st k => st.at fun o e => k it (by simp) o e
  item := by
    intro X hP hw hK hc i pins s σ H E I hf st hg
    subst hP hw hK
    obtain ⟨xs, x, hq, hx⟩ := hg
    obtain ⟨its, rv, p, hz⟩ := I.tuple hq
    obtain ⟨u, hu, ru⟩ := rv.get hx
    obtain ⟨f0, f1, f2, f3, f4, f5⟩ := hf it (by simp)
    refine wpAny_pyNext_tuple_item st (show s.heap.IsTuple a its.toArray from p) (x := u) (by simpa using hu) fun h' st' sb => ?_
    have I1 : Inv X pins σ H { s with heap := h' } := I.turned (t' := s.toks) (fun b o hb e => (sb.2 b hb).trans e) f0 f1 f3 f4 f5
    obtain ⟨o, e, c, d⟩ := id st'
    exact ⟨u, rfl, go_of (s := { s with heap := h' }) e c d (by decide) ⟨x, H, I1, ru, ⟨rfl, fun ys hy => by rw [I.tuple_inj hy hq]; exact hx⟩, st', fun b hb => (hf b hb).1⟩⟩
  done := by
    intro X hP hw hK hc i pins s σ H E I hf st hg
    subst hP hw hK
    obtain ⟨xs, hq, hx⟩ := hg
    obtain ⟨its, rv, p, hz⟩ := I.tuple hq
    obtain ⟨f0, f1, f2, f3, f4, f5⟩ := hf it (by simp)
    have hl := rv.length
    exact wpAny_pyNext_tuple_end (I.ok.hd hc) st (show s.heap.IsTuple a its.toArray from p) (by simp; omega) fun h' eb => ⟨rfl, I.turned (t' := s.toks) (fun b o hb e => eb b o hb e) f0 f1 f3 f4 f5⟩
  self := fun _ _ _ _ _ st h => wpAny_pyIter_tupleiter st h
theorem turn_range {P : Program} {w : World} {K : PySem.W.Frag} {tg : Expr} (it : Addr) (lo : Int) (n : Nat) : Turn P w K tg (Itr lo n) [it] it (fun i h => IsRangeIter h it (lo + (i : Nat) * 1) ((n : Int) - (i : Nat)) 1) where
  mem := by simp
  obj := fun i h st b hb => by
    have e : b = it := by simpa using hb
    subst e
    exact ⟨_, st, fun v z => by
      have z' : Data.fields _ = Data.cell v := z
      cases z'⟩
  keep := fun i h h' st k => k it (by simp) _ st
  item := by
    intro X hP hw hK hc i pins s σ H E I hf st hg
    subst hP hw hK
    obtain ⟨f0, f1, f2, f3, f4, f5⟩ := hf it (by simp)
    have W := Walks.range (prog := X.prog) (w := X.w) (I.ok.hd hc) it lo 1 n
    refine W.item i s _ _ hg st fun v h' tk hv st' kk => ?_
    obtain ⟨t, rfl⟩ := hv
    have I1 : Inv X pins σ H { s with heap := h', toks := tk } := I.turned (fun b o hb e => kk b o (by simpa using hb) e) f0 f1 f3 f4 f5
    refine ⟨_, rfl, go_of (s := { s with heap := h', toks := tk }) (n := "range_iterator") st' rfl rfl (by decide) ⟨.int (lo + i), H, I1, ⟨t, ?_⟩, ⟨rfl, rfl⟩, st', fun b hb => (hf b hb).1⟩⟩
    rw [Int.mul_one]
  done := by
    intro X hP hw hK hc i pins s σ H E I hf st hg
    subst hP hw hK
    obtain ⟨f0, f1, f2, f3, f4, f5⟩ := hf it (by simp)
    exact wpAny_pyNext_range_end (I.ok.hd hc) st (by have : n ≤ i := hg; omega) fun h' eb => ⟨rfl, I.turned (t' := s.toks) (fun b o hb e => eb b o hb e) f0 f1 f3 f4 f5⟩
  self := fun _ _ _ _ _ st h => wpAny_pyIter_rangeiter st h
end L2

namespace L2
open PySem PySem.Spec PyProof.Rows
section
variable {X : Cx} {tg : Expr}
def iList (K : PySem.W.Frag) (tl : TE) : TI := fun σ H R => tl σ H fun x H1 => ∃ a, x = .ref a ∧ (∃ xs, SqL K H1 a xs) ∧ R (Itl K a) H1
def iTup (K : PySem.W.Frag) (tl : TE) : TI := fun σ H R => tl σ H fun x H1 => ∃ a, x = .ref a ∧ (∃ xs, SqT K H1 a xs) ∧ R (Itt K a) H1
theorem pi_list {l : Expr} {tl : TE} (hl : PE X l tl) : PI X tg l (iList X.K tl) := by
  intro pins s σ H R I h
  refine thn (hl pins s σ H _ I h) fun v s1 ⟨x, H1, I1, r1, q1⟩ => ?_
  obtain ⟨a, e, ⟨xs, hq⟩, q⟩ := q1
  subst e
  cases r1
  obtain ⟨its, rv, p, hz⟩ := I1.list hq
  refine wpAny_pyIter_list p.isList ?_
  refine ⟨s1.heap.objs.size, [s1.heap.objs.size], _, _, H1, rfl, I1.kept (t' := s1.toks) fun b o e => Heap.get?_push_of_some _ e, turn_list a _, ⟨_, Heap.get?_push_size _ rfl, rfl, rfl⟩, fun b hb => ?_, q⟩
  have e : b = s1.heap.objs.size := by simpa using hb
  subst e
  exact I1.fpOk (Nat.le_refl _) (I1.hok.fresh (Nat.le_refl _))
theorem pi_tup {l : Expr} {tl : TE} (hl : PE X l tl) : PI X tg l (iTup X.K tl) := by
  intro pins s σ H R I h
  refine thn (hl pins s σ H _ I h) fun v s1 ⟨x, H1, I1, r1, q1⟩ => ?_
  obtain ⟨a, e, ⟨xs, hq⟩, q⟩ := q1
  subst e
  cases r1
  obtain ⟨its, rv, p, hz⟩ := I1.tuple hq
  refine wpAny_pyIter_tuple (show s1.heap.IsTuple a its.toArray from p) ?_
  refine ⟨s1.heap.objs.size, [s1.heap.objs.size], _, _, H1, rfl, I1.kept (t' := s1.toks) fun b o e => Heap.get?_push_of_some _ e, turn_tuple a _, ⟨_, Heap.get?_push_size _ rfl, rfl, rfl⟩, fun b hb => ?_, q⟩
  have e : b = s1.heap.objs.size := by simpa using hb
  subst e
  exact I1.fpOk (Nat.le_refl _) (I1.hok.fresh (Nat.le_refl _))
/-- a range object just made, walked -/
theorem range_it {pins : List (Addr × Obj)} {σ : St} {H : Hp} {s : Shared} {R : It → Hp → Prop} {E : Value → Shared → Prop} {lo hi : Int} {t u v : Tok} {tk : Nat} (I : Inv X pins σ H s) (h1 : -(2 ^ 62) ≤ lo) (h2 : lo < 2 ^ 62) (h3 : -(2 ^ 62) ≤ hi) (h4 : hi < 2 ^ 62)
    (q : R (Itr lo (hi - lo).toNat) H) : wpAny (model X.prog X.w) X.A (pyIter (.ref s.heap.objs.size)) (PIE X pins σ tg R) E { s with heap := s.heap.push { cls := .type "range", data := .fields #[.int lo t, .int hi u, .int 1 v] }, toks := tk } := by
  refine wpAny_pyIter_range (IsRange.new ..) (small_one h1 h2 h3 h4) ?_
  have I1 : Inv X pins σ H { s with heap := s.heap.push { cls := .type "range", data := .fields #[.int lo t, .int hi u, .int 1 v] }, toks := tk } := I.kept fun b o e => Heap.get?_push_of_some _ e
  refine ⟨(s.heap.push { cls := .type "range", data := .fields #[.int lo t, .int hi u, .int 1 v] }).objs.size, [(s.heap.push { cls := .type "range", data := .fields #[.int lo t, .int hi u, .int 1 v] }).objs.size], _, _, H, rfl,
    I1.kept (t' := tk) fun b o e => Heap.get?_push_of_some _ e, turn_range _ lo (hi - lo).toNat, ?_, fun b hb => ?_, q⟩
  · have e1 : lo + ((0 : Nat) : Int) * 1 = lo := by simp
    have e2 : (((hi - lo).toNat : Nat) : Int) - ((0 : Nat) : Int) = Builtin.Range.rangeSize lo hi 1 := by rw [rangeSize_one]; split <;> omega
    show IsRangeIter _ _ (lo + ((0 : Nat) : Int) * 1) ((((hi - lo).toNat : Nat) : Int) - ((0 : Nat) : Int)) 1
    rw [e1, e2]
    exact Heap.get?_push_size _ rfl
  · have e : b = (s.heap.push { cls := .type "range", data := .fields #[.int lo t, .int hi u, .int 1 v] }).objs.size := by simpa using hb
    subst e
    exact I1.fpOk (Nat.le_refl _) (I1.hok.fresh (Nat.le_refl _))
def iRng1 (ta : TA) : TI := fun σ H R => ta σ H fun vs H1 => ∃ j : Int, vs = [.int j] ∧ -(2 ^ 62) ≤ j ∧ j < 2 ^ 62 ∧ R (Itr 0 j.toNat) H1
theorem pi_range1 {a : Expr} {ta : TA} {p pos : Pos} (hg : Gl X "range") (hm : X.mg "range" = none) (ha : PA X [a] ta) (hs : starEach [a] X.env = [(false, eval a X.env)] := by rfl) : PI X tg (.Call (.Name "range" p) [a] [] pos) (iRng1 ta) := by
  intro pins s σ H R I h
  refine Call_ (ld_blt I hg hm boot_range (PyProof.Rows.callWith_type1 (thn (ha pos pins s σ H _ I h) fun us s1 ⟨vs, H1, I1, r1, q1⟩ => ?_) hs rfl))
  obtain ⟨j, e, q1, q2, q⟩ := q1
  subst e
  cases r1 with
  | cons r rr =>
    cases rr
    obtain ⟨t, rfl⟩ := r
    exact call_range_1 (range_it I1 (by omega) (by omega) q1 q2 (by simpa using q))
/-- W: the invariant by the turn and a measure; N: what the body is to reach -/
def tFor (wi : TI) (g : TG) (tb : TS) : TS := fun D σ H => wi σ H fun J H1 => ∃ W : Nat → Nat → St → Hp → Prop, (∃ m, W 0 m σ H1) ∧ ∀ i m σ H, W i m σ H →
  (J.stop i H ∧ D.nx σ H) ∨ (J.go i H ∧ ∃ N : St → Hp → Prop, (∀ σ' H', N σ' H' → ∃ m', m' < m ∧ W (i + 1) m' σ' H') ∧ ∀ x H', J.yld i H x H' → g x σ H' fun σ2 H2 => tb { D with nx := N, ct := N, bk := D.nx } σ2 H2)
/-- the records at fp as they stand -/
def pinsAt (fp : List Addr) (h : Heap) : List (Addr × Obj) := fp.filterMap fun b => (h.get? b).map fun o => (b, o)
theorem mem_pinsAt {fp : List Addr} {h : Heap} {b : Addr} {o : Obj} (hb : b ∈ fp) (e : h.get? b = some o) : (b, o) ∈ pinsAt fp h := List.mem_filterMap.mpr ⟨b, hb, by rw [e]; rfl⟩
theorem of_pinsAt {fp : List Addr} {h : Heap} {p : Addr × Obj} (hp : p ∈ pinsAt fp h) : p.1 ∈ fp ∧ h.get? p.1 = some p.2 := by
  obtain ⟨b, hb, e⟩ := List.mem_filterMap.mp hp
  cases q : h.get? b with
  | none => rw [q] at e; cases e
  | some o =>
    rw [q] at e
    have e' : (b, o) = p := Option.some.inj e
    subst e'
    exact ⟨hb, q⟩
theorem Inv.pinned {pins : List (Addr × Obj)} {σ : St} {H : Hp} {s : Shared} {fp : List Addr} (I : Inv X pins σ H s) (hf : ∀ b ∈ fp, FpOk X pins H b) (ho : ∀ b ∈ fp, ∃ o, s.heap.get? b = some o ∧ ∀ v, o.data ≠ .cell v) : Inv X (pins ++ pinsAt fp s.heap) σ H s :=
  I.pins_of fun p hp => (List.mem_append.mp hp).elim (fun z => I.pin p (List.mem_append_right _ z)) fun z => by
    obtain ⟨hb, e⟩ := of_pinsAt z
    obtain ⟨f0, f1, f2, _⟩ := hf p.1 hb
    obtain ⟨o, e', d⟩ := ho p.1 hb
    rw [e] at e'; cases e'
    exact ⟨e, f0, f1, f2, d⟩
theorem Inv.unpinned {pins pl : List (Addr × Obj)} {σ : St} {H : Hp} {s : Shared} (I : Inv X (pins ++ pl) σ H s) : Inv X pins σ H s := I.pins_of fun p hp => I.pin p (List.mem_append_right _ (List.mem_append_left _ hp))
theorem ps_for {iter : Expr} {body : List Stmt} {wi : TI} {g : TG} {tb : TS} {pos : Pos} (hp : PassesOwn (model X.prog X.w) X.A X.env X.xe) (hc : X.calm = true) (hi : PI X tg iter wi) (hg : PG X tg g) (hb : PSs X body tb)
    (hs : ∀ x, foldedSetIterable iter X.env x = pure x := by intro _; rfl) : PS X (.For tg iter body [] pos) (tFor wi g tb) := by
  intro pins s σ H D I h
  refine wpAny_For (thn (hi pins s σ H _ I h) fun v s1 h1 => thn h1 fun itv s2 h2 => ?_) hs
  obtain ⟨it, fp, tn, J, H2, e, I2, T, st2, f2, W, ⟨m0, w0⟩, turn⟩ := h2
  subst e
  -- what stays true of the iterator's objects through the loop
  have stat : ∀ {H' : Hp}, (∀ b ∈ fp, H' b = none) → ∀ b ∈ fp, FpOk X pins H' b := fun hn b hb => ⟨hn b hb, (f2 b hb).2⟩
  refine codeAny_forLoop_any (fun n s' => ∃ i σ' H', Inv X pins σ' H' s' ∧ tn i s'.heap ∧ (∀ b ∈ fp, H' b = none) ∧ W i n σ' H') ?_ m0 ⟨0, σ, H2, I2, st2, fun b hb => (f2 b hb).1, w0⟩
  rintro n s3 ⟨i, σ3, H3, I3, st3, fr3, w3⟩
  rcases turn i n σ3 H3 w3 with ⟨stop, qn⟩ | ⟨go, N, hN, step⟩
  · refine wpAny_passesOwn hp (thn (T.done X rfl rfl rfl hc i pins s3 σ3 H3 X.xe I3 (stat fr3) st3 stop) fun r s4 ⟨hr, I4⟩ => ?_)
    subst hr
    exact wpAny_execs_nil ⟨σ3, H3, I4, qn⟩
  · refine wpAny_passesOwn hp (thn (T.item X rfl rfl rfl hc i pins s3 σ3 H3 X.xe I3 (stat fr3) st3 go) fun r s4 ⟨u, hr, h4⟩ => ?_)
    subst hr
    refine wpAny_passesOwn hp (thn h4 fun _ s5 ⟨x, H5, I5, r5, y5, st5, fr5⟩ => ?_)
    have I5' := I5.pinned (stat fr5) (T.obj _ _ st5)
    refine wpAny_passesOwn hp (thn (hg _ s5 σ3 H5 x u _ I5' r5 (step x H5 y5)) fun _ s6 ⟨σ6, H6, I6, q6⟩ => ?_)
    refine wpAny_passesOwn hp (thn (hb _ s6 σ6 H6 _ I6 q6) fun f s7 q7 => ?_)
    have again : ∀ {σ7 : St} {H7 : Hp}, Inv X (pins ++ pinsAt fp s5.heap) σ7 H7 s7 → N σ7 H7 → ∃ m, m < n ∧ ∃ i σ' H', Inv X pins σ' H' s7 ∧ tn i s7.heap ∧ (∀ b ∈ fp, H' b = none) ∧ W i m σ' H' := fun {σ7 H7} I7 n7 => by
      obtain ⟨m', hm, w7⟩ := hN σ7 H7 n7
      refine ⟨m', hm, i + 1, σ7, H7, I7.unpinned, T.keep _ _ _ st5 fun b hb o e => (I7.pin (b, o) (List.mem_append_right _ (List.mem_append_right _ (mem_pinsAt hb e)))).1, fun b hb => ?_, w7⟩
      obtain ⟨o, e, d⟩ := T.obj _ _ st5 b hb
      exact (I7.pin (b, o) (List.mem_append_right _ (List.mem_append_right _ (mem_pinsAt hb e)))).2.1
    cases f with
    | next => obtain ⟨σ7, H7, I7, n7⟩ := q7; exact again I7 n7
    | cont => obtain ⟨σ7, H7, I7, n7⟩ := q7; exact again I7 n7
    | brk => obtain ⟨σ7, H7, I7, q7⟩ := q7; exact ⟨σ7, H7, I7.unpinned, q7⟩
    | ret v => obtain ⟨x7, σ7, H7, I7, r7, q7⟩ := q7; exact ⟨x7, σ7, H7, I7.unpinned, r7, q7⟩
end

/-- over a list that the body leaves as it is -/
theorem for_list {K : PySem.W.Frag} {a : Addr} {xs : List V} {g : TG} {tb : TS} {D : Ends} {σ : St} {H : Hp} (Pv : Nat → St → Hp → Prop) (h0 : Pv 0 σ H) (hl : ∀ i σ H, i ≤ xs.length → Pv i σ H → SqL K H a xs)
    (hs : ∀ i x σ H, xs[i]? = some x → Pv i σ H → g x σ H fun σ2 H2 => tb { D with nx := Pv (i + 1), ct := Pv (i + 1), bk := D.nx } σ2 H2) (hd : ∀ σ H, Pv xs.length σ H → D.nx σ H) :
    ∃ W : Nat → Nat → St → Hp → Prop, (∃ m, W 0 m σ H) ∧ ∀ i m σ H, W i m σ H →
      ((Itl K a).stop i H ∧ D.nx σ H) ∨ ((Itl K a).go i H ∧ ∃ N : St → Hp → Prop, (∀ σ' H', N σ' H' → ∃ m', m' < m ∧ W (i + 1) m' σ' H') ∧ ∀ x H', (Itl K a).yld i H x H' → g x σ H' fun σ2 H2 => tb { D with nx := N, ct := N, bk := D.nx } σ2 H2) := by
  refine ⟨fun i m σ H => m = xs.length - i ∧ i ≤ xs.length ∧ Pv i σ H, ⟨xs.length, by simp, Nat.zero_le _, h0⟩, ?_⟩
  rintro i m σ H ⟨rfl, hi, p⟩
  have q := hl i σ H hi p
  by_cases hlt : i < xs.length
  · refine .inr ⟨⟨xs, xs[i], q, by simp [hlt]⟩, Pv (i + 1), fun σ' H' p' => ⟨xs.length - (i + 1), by omega, rfl, hlt, p'⟩, fun x H' y => ?_⟩
    obtain ⟨e, y⟩ := y
    subst e
    exact hs i x σ _ (y xs q) p
  · have e : i = xs.length := by omega
    subst e
    exact .inl ⟨⟨xs, q, Nat.le_refl _⟩, hd σ H p⟩
theorem for_tup {K : PySem.W.Frag} {a : Addr} {xs : List V} {g : TG} {tb : TS} {D : Ends} {σ : St} {H : Hp} (Pv : Nat → St → Hp → Prop) (h0 : Pv 0 σ H) (hl : ∀ i σ H, i ≤ xs.length → Pv i σ H → SqT K H a xs)
    (hs : ∀ i x σ H, xs[i]? = some x → Pv i σ H → g x σ H fun σ2 H2 => tb { D with nx := Pv (i + 1), ct := Pv (i + 1), bk := D.nx } σ2 H2) (hd : ∀ σ H, Pv xs.length σ H → D.nx σ H) :
    ∃ W : Nat → Nat → St → Hp → Prop, (∃ m, W 0 m σ H) ∧ ∀ i m σ H, W i m σ H →
      ((Itt K a).stop i H ∧ D.nx σ H) ∨ ((Itt K a).go i H ∧ ∃ N : St → Hp → Prop, (∀ σ' H', N σ' H' → ∃ m', m' < m ∧ W (i + 1) m' σ' H') ∧ ∀ x H', (Itt K a).yld i H x H' → g x σ H' fun σ2 H2 => tb { D with nx := N, ct := N, bk := D.nx } σ2 H2) := by
  refine ⟨fun i m σ H => m = xs.length - i ∧ i ≤ xs.length ∧ Pv i σ H, ⟨xs.length, by simp, Nat.zero_le _, h0⟩, ?_⟩
  rintro i m σ H ⟨rfl, hi, p⟩
  have q := hl i σ H hi p
  by_cases hlt : i < xs.length
  · refine .inr ⟨⟨xs, xs[i], q, by simp [hlt]⟩, Pv (i + 1), fun σ' H' p' => ⟨xs.length - (i + 1), by omega, rfl, hlt, p'⟩, fun x H' y => ?_⟩
    obtain ⟨e, y⟩ := y
    subst e
    exact hs i x σ _ (y xs q) p
  · have e : i = xs.length := by omega
    subst e
    exact .inl ⟨⟨xs, q, Nat.le_refl _⟩, hd σ H p⟩
theorem for_range {lo : Int} {n : Nat} {g : TG} {tb : TS} {D : Ends} {σ : St} {H : Hp} (Pv : Nat → St → Hp → Prop) (h0 : Pv 0 σ H)
    (hs : ∀ i σ H, i < n → Pv i σ H → g (.int (lo + i)) σ H fun σ2 H2 => tb { D with nx := Pv (i + 1), ct := Pv (i + 1), bk := D.nx } σ2 H2) (hd : ∀ σ H, Pv n σ H → D.nx σ H) :
    ∃ W : Nat → Nat → St → Hp → Prop, (∃ m, W 0 m σ H) ∧ ∀ i m σ H, W i m σ H →
      ((Itr lo n).stop i H ∧ D.nx σ H) ∨ ((Itr lo n).go i H ∧ ∃ N : St → Hp → Prop, (∀ σ' H', N σ' H' → ∃ m', m' < m ∧ W (i + 1) m' σ' H') ∧ ∀ x H', (Itr lo n).yld i H x H' → g x σ H' fun σ2 H2 => tb { D with nx := N, ct := N, bk := D.nx } σ2 H2) := by
  refine ⟨fun i m σ H => m = n - i ∧ i ≤ n ∧ Pv i σ H, ⟨n, by simp, Nat.zero_le _, h0⟩, ?_⟩
  rintro i m σ H ⟨rfl, hi, p⟩
  by_cases hlt : i < n
  · refine .inr ⟨hlt, Pv (i + 1), fun σ' H' p' => ⟨n - (i + 1), by omega, rfl, hlt, p'⟩, fun x H' y => ?_⟩
    obtain ⟨e, y⟩ := y
    subst e y
    exact hs i σ _ hlt p
  · have e : i = n := by omega
    subst e
    exact .inl ⟨Nat.le_refl _, hd σ H p⟩
end L2

namespace L2
open PySem PySem.Spec PyProof.Rows

abbrev R2 := V → V → Hp → VK → Prop
/-- a two-place operation on values: f is binaryOp op, inplaceOp op or compareOp op -/
def OpR (X : Cx) (f : Value → Value → Sem Value) (r : R2) : Prop :=
  ∀ (pins : List (Addr × Obj)) (s : Shared) (σ : St) (H : Hp) (x y : V) (v u : Value) (Q : VK), Inv X pins σ H s → RelV x v → RelV y u → r x y H Q →
    wpAny (model X.prog X.w) X.A (f v u) (EP X pins σ Q) X.xe s
/-- a one-place operation -/
def UnR (X : Cx) (f : Value → Sem Value) (r : V → Hp → VK → Prop) : Prop :=
  ∀ (pins : List (Addr × Obj)) (s : Shared) (σ : St) (H : Hp) (x : V) (v : Value) (Q : VK), Inv X pins σ H s → RelV x v → r x H Q →
    wpAny (model X.prog X.w) X.A (f v) (EP X pins σ Q) X.xe s
/-- a call of a value that is known (a builtin, a type) with values -/
def CallR (X : Cx) (f : Value) (r : List V → Hp → VK → Prop) : Prop :=
  ∀ (pins : List (Addr × Obj)) (s : Shared) (σ : St) (H : Hp) (xs : List V) (us : List Value) (Q : VK), Inv X pins σ H s → Vals xs us → r xs H Q →
    wpAny (model X.prog X.w) X.A (call f us) (EP X pins σ Q) X.xe s
def tOp (r : R2) (ta tb : TE) : TE := fun σ H Q => ta σ H fun x H1 => tb σ H1 fun y H2 => r x y H2 Q
def tUn (r : V → Hp → VK → Prop) (ta : TE) : TE := fun σ H Q => ta σ H fun x H1 => r x H1 Q
/-- ints in, under C, and a value out -/
def rI (C : Int → Int → Prop) (g : Int → Int → V) : R2 := fun x y H Q => ∃ i j, x = .int i ∧ y = .int j ∧ C i j ∧ Q (g i j) H
def rI0 (g : Int → Int → V) : R2 := fun x y H Q => ∃ i j, x = .int i ∧ y = .int j ∧ Q (g i j) H
def rU (g : Int → V) : V → Hp → VK → Prop := fun x H Q => ∃ i, x = .int i ∧ Q (g i) H

section
variable {X : Cx} {a b c : Expr} {ta tb tc : TE} {pos : Pos}

theorem binT (ha : PE X a ta) (hb : PE X b tb) {pins : List (Addr × Obj)} {s : Shared} {σ : St} {H : Hp} {R : V → V → Hp → Prop} (I : Inv X pins σ H s)
    (h : ta σ H fun x H1 => tb σ H1 fun y H2 => R x y H2) {Q : Value → Shared → Prop} {f : Value → Value → Sem Value}
    (hf : ∀ v u s2 x y H2, Inv X pins σ H2 s2 → RelV x v → RelV y u → R x y H2 → wpAny (model X.prog X.w) X.A (f v u) Q X.xe s2) :
    wpAny (model X.prog X.w) X.A (eval a X.env) (fun v s₁ => wpAny (model X.prog X.w) X.A (eval b X.env) (fun u s₂ => wpAny (model X.prog X.w) X.A (f v u) Q X.xe s₂) X.xe s₁) X.xe s := by
  refine thn (ha pins s σ H _ I h) fun v s1 ⟨x, H1, I1, r1, q1⟩ => ?_
  refine thn (hb pins s1 σ H1 _ I1 q1) fun u s2 ⟨y, H2, I2, r2, q2⟩ => ?_
  exact hf v u s2 x y H2 I2 r1 r2 q2

theorem pe_op {op : Operator} {r : R2} (ho : OpR X (binaryOp op) r) (ha : PE X a ta) (hb : PE X b tb) : PE X (.BinOp a op b pos) (tOp r ta tb) := by
  intro pins s σ H Q I h
  exact wpAny_BinOp (binT ha hb I h fun v u s2 x y H2 I2 rx ry q => ho pins s2 σ H2 x y v u Q I2 rx ry q)
theorem pe_un {op : UnaryOp} {r : V → Hp → VK → Prop} (ho : UnR X (unaryOp op) r) (ha : PE X a ta) : PE X (.UnaryOp op a pos) (tUn r ta) := by
  intro pins s σ H Q I h
  exact UnaryOp_ (thn (ha pins s σ H _ I h) fun v s1 ⟨x, H1, I1, r1, q1⟩ => ho pins s1 σ H1 x v Q I1 r1 q1)
theorem opI {f : Value → Value → Sem Value} {C : Int → Int → Prop} {g : Int → Int → Int}
    (rule : ∀ (i j : Int) (t u : Tok) (s : Shared) (Q : Value → Shared → Prop) (E : Value → Shared → Prop), C i j → Q (.int (g i j) s.toks) { s with toks := s.toks + 1 } → wpAny (model X.prog X.w) X.A (f (.int i t) (.int j u)) Q E s) :
    OpR X f (rI C fun i j => .int (g i j)) := by
  intro pins s σ H x y v u Q I rx ry h
  obtain ⟨i, j, rfl, rfl, hc, q⟩ := h
  obtain ⟨t, rfl⟩ := rx
  obtain ⟨t', rfl⟩ := ry
  exact rule i j t t' s _ _ hc ⟨.int (g i j), H, I.tok _, ⟨_, rfl⟩, q⟩
theorem opI0 {f : Value → Value → Sem Value} {g : Int → Int → Int}
    (rule : ∀ (i j : Int) (t u : Tok) (s : Shared) (Q : Value → Shared → Prop) (E : Value → Shared → Prop), Q (.int (g i j) s.toks) { s with toks := s.toks + 1 } → wpAny (model X.prog X.w) X.A (f (.int i t) (.int j u)) Q E s) :
    OpR X f (rI0 fun i j => .int (g i j)) := by
  intro pins s σ H x y v u Q I rx ry h
  obtain ⟨i, j, rfl, rfl, q⟩ := h
  obtain ⟨t, rfl⟩ := rx
  obtain ⟨t', rfl⟩ := ry
  exact rule i j t t' s _ _ ⟨.int (g i j), H, I.tok _, ⟨_, rfl⟩, q⟩
theorem opB0 {f : Value → Value → Sem Value} {g : Int → Int → Bool}
    (rule : ∀ (i j : Int) (t u : Tok) (s : Shared) (Q : Value → Shared → Prop) (E : Value → Shared → Prop), Q (.bool (g i j)) s → wpAny (model X.prog X.w) X.A (f (.int i t) (.int j u)) Q E s) :
    OpR X f (rI0 fun i j => .bl (g i j)) := by
  intro pins s σ H x y v u Q I rx ry h
  obtain ⟨i, j, rfl, rfl, q⟩ := h
  obtain ⟨t, rfl⟩ := rx
  obtain ⟨t', rfl⟩ := ry
  exact rule i j t t' s _ _ ⟨.bl (g i j), H, I, rfl, q⟩

def CDiv (i j : Int) : Prop := 0 < j ∧ j < 1073741824
def CMul (i j : Int) : Prop := (-(2 ^ 64) < i ∧ i < 2 ^ 64) ∨ (-(2 ^ 64) < j ∧ j < 2 ^ 64)
theorem CMul.ok {i j : Int} (h : CMul i j) : IntMulOk i j := by
  rcases h with ⟨h1, h2⟩ | ⟨h1, h2⟩
  · exact .of_left (intBits_le_64 h1 h2)
  · exact .of_right (intBits_le_64 h1 h2)
theorem op_add : OpR X (binaryOp .Add) (rI0 fun i j => .int (i + j)) := opI0 fun _ _ _ _ _ _ _ q => add_int q
theorem op_sub : OpR X (binaryOp .Sub) (rI0 fun i j => .int (i - j)) := opI0 fun _ _ _ _ _ _ _ q => sub_int q
theorem op_mul : OpR X (binaryOp .Mult) (rI CMul fun i j => .int (i * j)) := opI fun _ _ _ _ _ _ _ hc q => mul_int q hc.ok
/-- // by a positive divisor -/
theorem op_fdiv : OpR X (binaryOp .FloorDiv) (rI CDiv fun i j => .int (i / j)) := opI fun i j _ _ _ _ _ hc q => by
  have h1 : (0 : Int) < j := hc.1
  have h2 : j < 1073741824 := hc.2
  exact floordiv_int (by omega) (by rw [Int.fdiv_eq_ediv_of_nonneg i (by omega)]; exact q) (.inl (PyProof.noPylong_small (by omega)))
/-- % by a positive divisor of any size -/
theorem op_mod : OpR X (binaryOp .Mod) (rI (fun _ j => 0 < j) fun i j => .int (i % j)) := opI fun i j _ _ _ _ _ hc q => by
  have h1 : (0 : Int) < j := hc
  exact mod_int' (by omega) (by rw [Int.fmod_eq_emod_of_nonneg i (by omega)]; exact q)
theorem unI {f : Value → Sem Value} {g : Int → Int}
    (rule : ∀ (i : Int) (t : Tok) (s : Shared) (Q : Value → Shared → Prop) (E : Value → Shared → Prop), Q (.int (g i) s.toks) { s with toks := s.toks + 1 } → wpAny (model X.prog X.w) X.A (f (.int i t)) Q E s) :
    UnR X f (rU fun i => .int (g i)) := by
  intro pins s σ H x v Q I rx h
  obtain ⟨i, rfl, q⟩ := h
  obtain ⟨t, rfl⟩ := rx
  exact rule i t s _ _ ⟨.int (g i), H, I.tok _, ⟨_, rfl⟩, q⟩
theorem un_neg : UnR X (unaryOp .USub) (rU fun i => .int (-i)) := unI fun _ _ _ _ _ q => neg_int q
end

/-- the scalars that == tells apart as data does -/
def scal : V → V → Bool
  | .non, .non => true | .non, .int _ => true | .int _, .non => true | .non, .bl _ => true | .bl _, .non => true | .non, .str _ => true | .str _, .non => true
  | .int _, .int _ => true | .bl _, .bl _ => true | .str _, .str _ => true | .byt _, .byt _ => true
  | .int _, .str _ => true | .str _, .int _ => true | .bl _, .str _ => true | .str _, .bl _ => true
  | _, _ => false
def rEq : R2 := fun x y H Q => scal x y = true ∧ Q (.bl (decide (x = y))) H
def rNe : R2 := fun x y H Q => scal x y = true ∧ Q (.bl (!decide (x = y))) H

theorem dec_int {i j : Int} : decide (V.int i = V.int j) = (i == j) := by
  rw [Bool.eq_iff_iff]
  simp
theorem dec_bl {i j : Bool} : decide (V.bl i = V.bl j) = (i == j) := by
  rw [Bool.eq_iff_iff]
  simp
theorem dec_str {i j : Str} : decide (V.str i = V.str j) = (i == j) := by
  rw [Bool.eq_iff_iff]
  simp
theorem dec_byt {i j : Array UInt8} : decide (V.byt i = V.byt j) = (i.toList == j.toList) := by
  rw [Bool.eq_iff_iff]
  cases i
  cases j
  simp

section
variable {X : Cx} {a b c : Expr} {ta tb tc : TE} {pos : Pos}
theorem fin_bl {pins : List (Addr × Obj)} {σ : St} {H : Hp} {s : Shared} {Q : VK} {k k' : Bool} (I : Inv X pins σ H s) (q : Q (.bl k) H) (e : k = k') : EP X pins σ Q (.bool k') s := by
  subst e
  exact ⟨.bl k, H, I, rfl, q⟩
theorem op_eq : OpR X (compareOp .Eq) rEq := by
  intro pins s σ H x y v u Q I rx ry h
  obtain ⟨hs, q⟩ := h
  cases x with
  | non =>
    cases rx
    cases y with
    | non => cases ry; exact PySem.EqNone.eq_none_none (fin_bl I q (by simp))
    | bl j => cases ry; exact PySem.EqNone.eq_none_bool (fin_bl I q (by simp))
    | int j => obtain ⟨t', rfl⟩ := ry; exact PySem.EqNone.eq_none_int (fin_bl I q (by simp))
    | str j => obtain ⟨t', rfl⟩ := ry; exact PySem.EqNone.eq_none_str (fin_bl I q (by simp))
    | _ => exact absurd (show false = true from hs) Bool.false_ne_true
  | bl i =>
    cases rx
    cases y with
    | non => cases ry; exact PySem.EqNone.eq_bool_none (fin_bl I q (by simp))
    | bl j => cases ry; exact eq_bool (fin_bl I q dec_bl)
    | str j => obtain ⟨t', rfl⟩ := ry; exact PySem.EqMixed.eq_bool_str (fin_bl I q (by simp))
    | _ => exact absurd (show false = true from hs) Bool.false_ne_true
  | int i =>
    obtain ⟨t, rfl⟩ := rx
    cases y with
    | non => cases ry; exact PySem.EqNone.eq_int_none (fin_bl I q (by simp))
    | int j => obtain ⟨t', rfl⟩ := ry; exact eq_int (fin_bl I q dec_int)
    | str j => obtain ⟨t', rfl⟩ := ry; exact PySem.EqMixed.eq_int_str (fin_bl I q (by simp))
    | _ => exact absurd (show false = true from hs) Bool.false_ne_true
  | str i =>
    obtain ⟨t, rfl⟩ := rx
    cases y with
    | non => cases ry; exact PySem.EqNone.eq_str_none (fin_bl I q (by simp))
    | bl j => cases ry; exact PySem.EqMixed.eq_str_bool (fin_bl I q (by simp))
    | int j => obtain ⟨t', rfl⟩ := ry; exact PySem.EqMixed.eq_str_int (fin_bl I q (by simp))
    | str j => obtain ⟨t', rfl⟩ := ry; exact eq_str (fin_bl I q dec_str)
    | _ => exact absurd (show false = true from hs) Bool.false_ne_true
  | byt i =>
    obtain ⟨t, rfl⟩ := rx
    cases y with
    | byt j => obtain ⟨t', rfl⟩ := ry; exact PySem.W.eq_bytes (fin_bl I q dec_byt)
    | _ => exact absurd (show false = true from hs) Bool.false_ne_true
  | _ => cases y <;> exact absurd (show false = true from hs) Bool.false_ne_true
theorem op_ne : OpR X (compareOp .NotEq) rNe := by
  intro pins s σ H x y v u Q I rx ry h
  obtain ⟨hs, q⟩ := h
  cases x with
  | non =>
    cases rx
    cases y with
    | non => cases ry; exact PySem.EqNone.ne_none_none (fin_bl I q (by simp))
    | bl j => cases ry; exact PySem.EqNone.ne_none_bool (fin_bl I q (by simp))
    | int j => obtain ⟨t', rfl⟩ := ry; exact PySem.EqNone.ne_none_int (fin_bl I q (by simp))
    | str j => obtain ⟨t', rfl⟩ := ry; exact PySem.EqNone.ne_none_str (fin_bl I q (by simp))
    | _ => exact absurd (show false = true from hs) Bool.false_ne_true
  | bl i =>
    cases rx
    cases y with
    | non => cases ry; exact PySem.EqNone.ne_bool_none (fin_bl I q (by simp))
    | bl j => cases ry; exact ne_bool (fin_bl I q (congrArg not dec_bl))
    | str j => obtain ⟨t', rfl⟩ := ry; exact PySem.EqMixed.ne_bool_str (fin_bl I q (by simp))
    | _ => exact absurd (show false = true from hs) Bool.false_ne_true
  | int i =>
    obtain ⟨t, rfl⟩ := rx
    cases y with
    | non => cases ry; exact PySem.EqNone.ne_int_none (fin_bl I q (by simp))
    | int j => obtain ⟨t', rfl⟩ := ry; exact ne_int (fin_bl I q (congrArg not dec_int))
    | str j => obtain ⟨t', rfl⟩ := ry; exact PySem.EqMixed.ne_int_str (fin_bl I q (by simp))
    | _ => exact absurd (show false = true from hs) Bool.false_ne_true
  | str i =>
    obtain ⟨t, rfl⟩ := rx
    cases y with
    | non => cases ry; exact PySem.EqNone.ne_str_none (fin_bl I q (by simp))
    | bl j => cases ry; exact PySem.EqMixed.ne_str_bool (fin_bl I q (by simp))
    | int j => obtain ⟨t', rfl⟩ := ry; exact PySem.EqMixed.ne_str_int (fin_bl I q (by simp))
    | str j => obtain ⟨t', rfl⟩ := ry; exact ne_str (fin_bl I q (congrArg not dec_str))
    | _ => exact absurd (show false = true from hs) Bool.false_ne_true
  | byt i =>
    obtain ⟨t, rfl⟩ := rx
    cases y with
    | byt j => obtain ⟨t', rfl⟩ := ry; exact PySem.W.ne_bytes (fin_bl I q (congrArg not dec_byt))
    | _ => exact absurd (show false = true from hs) Bool.false_ne_true
  | _ => cases y <;> exact absurd (show false = true from hs) Bool.false_ne_true

theorem op_lt : OpR X (compareOp .Lt) (rI0 fun i j => .bl (decide (i < j))) := opB0 fun _ _ _ _ _ _ _ q => lt_int q
theorem op_le : OpR X (compareOp .LtE) (rI0 fun i j => .bl (decide (i ≤ j))) := opB0 fun _ _ _ _ _ _ _ q => le_int q
theorem op_gt : OpR X (compareOp .Gt) (rI0 fun i j => .bl (decide (j < i))) := opB0 fun _ _ _ _ _ _ _ q => gt_int q
/-- the one string within the other -/
theorem op_in_str : OpR X (compareOp .In) (fun x y H Q => ∃ i j, x = .str i ∧ y = .str j ∧ Q (.bl (!(Builtin.Str.occurrences j i 0 j.length 1).isEmpty)) H) := by
  intro pins s σ H x y v u Q I rx ry h
  obtain ⟨i, j, rfl, rfl, q⟩ := h
  obtain ⟨t, rfl⟩ := rx
  obtain ⟨t', rfl⟩ := ry
  exact in_str (fin_bl I q rfl)

theorem nomark (b : Expr) {op : CmpOp} (h : op ≠ .In := by decide) (h2 : op ≠ .NotIn := by decide) : behindInMarks op b = false := by
  have e1 : (op == CmpOp.In) = false := by cases op <;> first | rfl | exact absurd rfl h
  have e2 : (op == CmpOp.NotIn) = false := by cases op <;> first | rfl | exact absurd rfl h2
  cases b <;> simp [behindInMarks, e1, e2]
/-- a comparison as a value; hm: nomark b, or (for in, not in) by with_unfolding_all rfl -/
theorem pe_cmpR {op : CmpOp} {r : R2} (ho : OpR X (compareOp op) r) (ha : PE X a ta) (hb : PE X b tb) (hm : behindInMarks op b = false) : PE X (.Compare a [op] [b] pos) (tOp r ta tb) := by
  intro pins s σ H Q I h
  exact wpAny_Compare1 (binT ha hb I h fun v u s2 x y H2 I2 rx ry q => ho pins s2 σ H2 x y v u Q I2 rx ry q) hm
/-- a reading of a value as a test -/
def tTest (t : TE) : TT := fun σ H Q => t σ H fun x H' => ∃ k, x = .bl k ∧ Q k H'
theorem pt_cmpR {op : CmpOp} {r : R2} (ho : OpR X (compareOp op) r) (ha : PE X a ta) (hb : PE X b tb) (hm : behindInMarks op b = false) : PT X (.Compare a [op] [b] pos) (tTest (tOp r ta tb)) := by
  intro pins s σ H Q I h
  refine wpAny_isTrue_Compare1 (thn (ha pins s σ H _ I h) fun v s1 ⟨x, H1, I1, r1, q1⟩ => thn (hb pins s1 σ H1 _ I1 q1) fun u s2 ⟨y, H2, I2, r2, q2⟩ =>
    thn (ho pins s2 σ H2 x y v u _ I2 r1 r2 q2) fun c s3 ⟨z, H3, I3, r3, k, e, q3⟩ => ?_) hm
  subst e
  cases r3
  exact wpAny_truthy_bool ⟨H3, I3, q3⟩
/-- a op1 b op2 c -/
def tChain (r r' : R2) (ta tb tc : TE) : TE := fun σ H Q => ta σ H fun x H1 => tb σ H1 fun y H2 => r x y H2 fun z H3 => ∃ k, z = .bl k ∧
  (if k = true then tc σ H3 fun w' H4 => r' y w' H4 Q else Q (.bl false) H3)
theorem pe_chain {op op' : CmpOp} {r r' : R2} (ho : OpR X (compareOp op) r) (ho' : OpR X (compareOp op') r') (ha : PE X a ta) (hb : PE X b tb) (hc : PE X c tc)
    (hm : lastMarks [op, op'] [b, c] = false := by with_unfolding_all rfl) : PE X (.Compare a [op, op'] [b, c] pos) (tChain r r' ta tb tc) := by
  intro pins s σ H Q I h
  refine Compare_chain (thn (ha pins s σ H _ I h) fun v s1 ⟨x, H1, I1, r1, q1⟩ => chain_link (thn (hb pins s1 σ H1 _ I1 q1) fun u s2 ⟨y, H2, I2, r2, q2⟩ =>
    thn (ho pins s2 σ H2 x y v u _ I2 r1 r2 q2) fun d s3 ⟨z, H3, I3, r3, k, e, q3⟩ => ?_)) hm
  subst e
  cases r3
  refine wpAny_truthy_bool ?_
  cases k with
  | false => exact ite_ff ⟨.bl false, H3, I3, rfl, q3⟩
  | true => exact ite_tt (chain_last (thn (hc pins s3 σ H3 _ I3 q3) fun w' s4 ⟨z', H4, I4, r4, q4⟩ => ho' pins s4 σ H4 y z' u w' Q I4 r2 r4 q4))
theorem line63 : (sizeLine : Nat) < 2 ^ 63 := by rw [sizeLine_eq]; decide
theorem op_add_str : OpR X (binaryOp .Add) (fun x y H Q => ∃ i j, x = .str i ∧ y = .str j ∧ i.length + j.length ≤ sizeLine ∧ Q (.str (i ++ j)) H) := by
  intro pins s σ H x y v u Q I rx ry h
  obtain ⟨i, j, rfl, rfl, hz, q⟩ := h
  obtain ⟨t, rfl⟩ := rx
  obtain ⟨t', rfl⟩ := ry
  exact add_str (fun t' tk => ⟨.str (i ++ j), H, I.tok _, ⟨_, rfl⟩, q⟩) hz
theorem vals1 {x : V} {us : List Value} (r : Vals [x] us) : ∃ u, us = [u] ∧ RelV x u := by
  cases r with
  | cons r1 r2 => cases r2; exact ⟨_, rfl, r1⟩
theorem vals2 {x y : V} {us : List Value} (r : Vals [x, y] us) : ∃ u w', us = [u, w'] ∧ RelV x u ∧ RelV y w' := by
  cases r with
  | cons r1 r2 =>
    cases r2 with
    | cons r3 r4 => cases r4; exact ⟨_, _, rfl, r1, r3⟩
theorem call_min2 (hc : X.calm = true) : CallR X (.builtin "min") (fun xs H Q => ∃ i j, xs = [.int i, .int j] ∧ Q (.int (if j < i then j else i)) H) := by
  intro pins s σ H xs us Q I r h
  obtain ⟨i, j, rfl, q⟩ := h
  obtain ⟨u, w', rfl, ⟨t, rfl⟩, ⟨t', rfl⟩⟩ := vals2 r
  refine min_two_ints (I.ok.hd hc) fun h' tk k => ⟨_, H, I.kept k, ?_, q⟩
  by_cases hj : j < i
  · rw [if_pos hj, if_pos hj]; exact ⟨_, rfl⟩
  · rw [if_neg hj, if_neg hj]; exact ⟨_, rfl⟩
theorem call_str_int : CallR X (.type "str") (fun xs H Q => ∃ i, xs = [.int i] ∧ i.natAbs.log2 < 1920 ∧ Q (.str (toString i)) H) := by
  intro pins s σ H xs us Q I r h
  obtain ⟨i, rfl, hz, q⟩ := h
  obtain ⟨u, rfl, t, rfl⟩ := vals1 r
  exact PySem.P.str_of_int hz ⟨.str _, H, I.tok _, ⟨_, rfl⟩, q⟩
end
end L2

namespace L2
open PySem PySem.Spec PyProof.Rows

structure ObjM (h : Heap) (x dx C : Addr) (mA : Str → Option Value) : Prop where
  obj : h.get? x = some (PySem.W.instObj C dx)
  ns : h.Ns1 dx mA
  ne : dx ≠ x

theorem lookIn_ns {h : Heap} {dx : Addr} {mA : Str → Option Value} (n : h.Ns1 dx mA) : ∃ od, h.get? dx = some od ∧ ∀ name, PySem.W.lookIn name od = some (mA name) := by
  obtain ⟨o, es, ep, ho, hd, hk, _, hm⟩ := n
  refine ⟨o, ho, fun name => ?_⟩
  have e := hm name
  unfold nsFind findBy at e
  rw [← Array.find?_toList] at e
  unfold PySem.W.lookIn
  rw [hd]
  dsimp only
  split
  · rename_i y q
    rw [q] at e
    exact congrArg some e
  · rename_i q
    rw [q] at e
    have a : es.toList.any (·.refKey) = false := by
      rw [List.any_eq_false]
      intro y hy
      obtain ⟨z, t, hkey⟩ := hk y (Array.mem_toList_iff.mp hy)
      simp [DictEntry.refKey, hkey]
    have a' : ¬ es.toList.any (·.refKey) = true := by rw [a]; exact Bool.false_ne_true
    rw [if_neg a']
    exact congrArg some e

theorem ObjM.look {h : Heap} {x dx C : Addr} {mA : Str → Option Value} (I : ObjM h x dx C mA) : ∃ od, PySem.W.InstAt h x (PySem.W.instObj C dx) C (some od) ∧ ∀ name, PySem.W.lookIn name od = some (mA name) :=
  let ⟨od, ho, hl⟩ := lookIn_ns I.ns
  ⟨od, ⟨I.obj, rfl, rfl, ho⟩, hl⟩

section
variable {prog : Program} {w : World} {A : Around} {E : Value → Shared → Prop} {s : Shared} {K : PySem.W.Frag} {x dx C f : Addr} {mA : Str → Option Value} {name : Str} {v : Value}

theorem get_map {expr : Bool} {Q : Value → Shared → Prop} (X : K.In s.heap) (I : ObjM s.heap x dx C mA) (hg : PySem.W.plainGet K C name = true) (hh : PySem.W.hasDictIn K C = true)
    (ha : PySem.W.findIn K (.ref C) name = some none) (hv : mA name = some v) (hv' : PySem.W.handedIn v = true) (h : Q v { s with toks := s.toks + 1 }) :
    wpAny (model prog w) A (getAttr (.ref x) name expr) Q E s := by
  obtain ⟨od, J, hl⟩ := I.look
  exact PySem.W.get_value X J (PySem.W.plainGet_of hg).1 (PySem.W.findObj_own hh ha rfl (by rw [hl, hv])) hv' h

theorem get_meth {pl : Sem Bool} {Q : Value × List Value → Shared → Prop} (X : K.In s.heap) (I : ObjM s.heap x dx C mA) (hg : PySem.W.plainGet K C name = true)
    (hf : PySem.W.findIn K (.ref C) name = some (some (.ref f))) (ht : PySem.W.isFn K (.ref f) = true) (hv : mA name = none) (h : Q (.ref f, [.ref x]) s) :
    wpAny (model prog w) A (getMethod (.ref x) name pl) Q E s := by
  obtain ⟨od, J, hl⟩ := I.look
  exact PySem.W.method_fn X J (PySem.W.plainGet_of hg).1 (PySem.W.plainGet_of hg).2 hf (beq_iff_eq.mp ht) (by show (PySem.W.lookIn name od).map (·.isSome) = some false; rw [hl, hv]; rfl) h

theorem set_map {ns : List Str} {Q : Unit → Shared → Prop} (X : K.In s.heap) (I : ObjM s.heap x dx C mA)
    (hs : PySem.W.findIn K (.ref C) "__setattr__" = some (some (.builtin "object.__setattr__"))) (hp : PySem.W.plainOver K C = true) (ht : PySem.W.takerIn K C name = some none) (hh : PySem.W.hasDictIn K C = true)
    (hw : PySem.Within mA ns) (hsz : ns.length ≤ sizeLine)
    (h : ∀ h', ObjM h' x dx C (fun y => if y = name then some v else mA y) → Heap.SameBut dx s.heap h' → Q () { s with heap := h', toks := s.toks + 2 }) :
    wpAny (model prog w) A (setAttr (.ref x) name v) Q E s := by
  obtain ⟨od, J, hl⟩ := I.look
  refine PySem.W.set_plain X J hs (PySem.W.osa_open (s := { s with toks := s.toks + 1 }) (r := none) X J hp ht fun b => ?_)
  obtain ⟨cd, hc, hd'⟩ := PySem.W.any_some hh
  have hx : s.heap.get? x = some ⟨.ref C, some dx, .plain, #[]⟩ := I.obj
  refine wpAny_bind (wpAny_pure (wpAny_bind (wpAny_bind (wpAny_loadPart hx (wpAny_bind (PySem.W.Looks.here (s := { s with toks := s.toks + 1 }) (PySem.W.looks_clsIn X hc) ?_))))))
  rw [hd']
  refine wpAny_pure (a := some dx) (wpAny_bind (wpAny_pure (wpAny_bind ?_)))
  refine wpAny_nsSet1 (s := { s with toks := s.toks + 1 }) I.ns fun h' hn2 hs2 => ?_
  obtain ⟨oD, esD, epD, hoD, hdD, hcD⟩ := hn2.count (PySem.Within.cons name v hw)
  refine wpAny_bind (wpAny_lookBehind hoD (by rw [hdD]; exact pastItsLine_dict (Nat.le_trans hcD (by rw [List.length_cons]; omega))) ?_)
  exact wpAny_pure (h _ ⟨(hs2.2 _ (Ne.symm I.ne)).trans I.obj, hn2, I.ne⟩ hs2)

/-- C(..): the dict at the heap's end, the instance behind it; then its __init__ -/
theorem make_map {R : Result → Shared → Prop} {vs : List Value} {kw : List (Str × Value)} (X : K.In s.heap) (hm : PySem.W.makesIn K C = true)
    (hi : PySem.W.findIn K (.ref C) "__init__" = some (some (.ref f))) (hf : PySem.W.typeIn K (.ref f) = some (.type "function"))
    (h : codeAny (model prog w) (A.under (.builtin "type.__call__" ⟨.ref C :: vs, kw⟩)) (.call (.ref f) ⟨.ref (s.heap.objs.size + 1) :: vs, kw⟩) (PySem.W.InitBack (s.heap.objs.size + 1) R)
      { s with heap := (s.heap.push PySem.W.emptyDict).push (PySem.W.instObj C s.heap.objs.size) }) :
    codeAny (model prog w) A (.call (.ref C) ⟨vs, kw⟩) R s := by
  obtain ⟨hh, g, d, t, os⟩ := s
  exact PySem.W.make_core (PySem.W.makes_of X hm) (PySem.W.looks_findIn X hi) (fun self => PySem.W.bind_fn X self hf) (.inl rfl) h
end

def putF (f : Str) (v : V) : List (Str × V) → List (Str × V)
  | [] => [(f, v)]
  | (g, x) :: r => if g = f then (g, v) :: r else (g, x) :: putF f v r
theorem lookup_putF (f g : Str) (v : V) : ∀ fs : List (Str × V), (putF f v fs).lookup g = if g = f then some v else fs.lookup g
  | [] => by
    show List.lookup g [(f, v)] = _
    by_cases h : g = f
    · have hb : (g == f) = true := beq_iff_eq.mpr h
      simp only [List.lookup, hb, if_pos h]
    · have hb : (g == f) = false := beq_eq_false_iff_ne.mpr h
      simp only [List.lookup, hb, if_neg h]
  | (k, x) :: r => by
    have ih := lookup_putF f g v r
    rw [show putF f v ((k, x) :: r) = (if k = f then (k, v) :: r else (k, x) :: putF f v r) from rfl]
    by_cases hk : k = f
    · rw [if_pos hk]
      by_cases h : g = k
      · have hb : (g == k) = true := beq_iff_eq.mpr h
        simp only [List.lookup, hb, if_pos (h.trans hk)]
      · have hb : (g == k) = false := beq_eq_false_iff_ne.mpr h
        simp only [List.lookup, hb, if_neg (fun e : g = f => h (e.trans hk.symm))]
    · rw [if_neg hk]
      by_cases h : g = k
      · have hb : (g == k) = true := beq_iff_eq.mpr h
        simp only [List.lookup, hb, if_neg (fun e : g = f => hk (h.symm.trans e))]
      · have hb : (g == k) = false := beq_eq_false_iff_ne.mpr h
        simp only [List.lookup, hb]
        exact ih
theorem keys_putF (f : Str) (v : V) : ∀ fs : List (Str × V), f ∈ (putF f v fs).map (·.1) ∧ ∀ g, g ∈ fs.map (·.1) → g ∈ (putF f v fs).map (·.1)
  | [] => ⟨by simp [putF], fun g h => by simp at h⟩
  | (k, x) :: r => by
    obtain ⟨i1, i2⟩ := keys_putF f v r
    rw [show putF f v ((k, x) :: r) = (if k = f then (k, v) :: r else (k, x) :: putF f v r) from rfl]
    by_cases hk : k = f
    · rw [if_pos hk]
      subst hk
      exact ⟨by simp, fun g h => by simpa using h⟩
    · rw [if_neg hk]
      refine ⟨?_, fun g h => ?_⟩
      · rw [List.map_cons]
        exact List.mem_cons_of_mem _ i1
      · rw [List.map_cons] at h ⊢
        rcases List.mem_cons.mp h with e | e
        · exact List.mem_cons.mpr (.inl e)
        · exact List.mem_cons_of_mem _ (i2 g e)
theorem length_putF (f : Str) (v : V) : ∀ fs : List (Str × V), (putF f v fs).length ≤ fs.length + 1
  | [] => by simp [putF]
  | (k, x) :: r => by
    have ih := length_putF f v r
    rw [show putF f v ((k, x) :: r) = (if k = f then (k, v) :: r else (k, x) :: putF f v r) from rfl]
    by_cases hk : k = f
    · rw [if_pos hk, List.length_cons, List.length_cons]; omega
    · rw [if_neg hk, List.length_cons, List.length_cons]; omega

theorem RelO.some_of {v : V} {o : Option Value} (r : RelO (some v) o) : ∃ u, o = some u ∧ RelV v u := by
  cases o with
  | none => exact (show False from r).elim
  | some u => exact ⟨u, rfl, r⟩
theorem RelO.none_of {o : Option Value} (r : RelO none o) : o = none := by
  cases o with
  | none => rfl
  | some u => exact (show False from r).elim
theorem handed_of {v : V} {u : Value} (r : RelV v u) : PySem.W.handedIn u = true := by
  cases v with
  | non => cases (show u = Value.none from r); rfl
  | bl b => cases (show u = Value.bool b from r); rfl
  | int i => obtain ⟨t, e⟩ := (show ∃ t, u = Value.int i t from r); cases e; rfl
  | str x => obtain ⟨t, e⟩ := (show ∃ t, u = Value.str x t from r); cases e; rfl
  | byt b => obtain ⟨t, e⟩ := (show ∃ t, u = Value.bytes b t from r); cases e; rfl
  | flt b => obtain ⟨t, e⟩ := (show ∃ t, u = Value.float b t from r); cases e; rfl
  | ref a => cases (show u = Value.ref a from r); rfl
  | ty n => cases (show u = Value.type n from r); rfl

section
variable {P : Program} {w : World} {H H' : Hp} {h h' : Heap} {a C dx : Addr} {fs fs' : List (Str × V)}
theorem ins_get (hok : HOk P w H h) (e : H a = some (.ins C dx fs)) : ∃ mA, ObjM h a dx C mA ∧ (∀ f, RelO (fs.lookup f) (mA f)) ∧ PySem.Within mA (fs.map (·.1)) ∧ fs.length ≤ 1000 ∧ H dx = some (.own a) := by
  obtain ⟨d, z, ne, ob, mA, n, r, q⟩ := (show ObjOk P w H h a (.ins C dx fs) from hok a _ e)
  exact ⟨mA, ⟨ob, n, ne⟩, r, q, z, d⟩
end

structure Cls (K : PySem.W.Frag) (C : Addr) : Prop where
  pg : PySem.W.plainGet K C Str.empty = true
  hd : PySem.W.hasDictIn K C = true
  po : PySem.W.plainOver K C = true
  sa : PySem.W.findIn K (.ref C) "__setattr__" = some (some (.builtin "object.__setattr__"))
theorem Cls.get {K : PySem.W.Frag} {C : Addr} (c : Cls K C) (f : Str) : PySem.W.plainGet K C f = true := c.pg
/-- no class of it has the name -/
def NoAttr (K : PySem.W.Frag) (C : Addr) (f : Str) : Prop := PySem.W.findIn K (.ref C) f = some none
theorem NoAttr.taker {K : PySem.W.Frag} {C : Addr} {f : Str} (n : NoAttr K C f) : PySem.W.takerIn K C f = some none := by
  unfold PySem.W.takerIn
  rw [show PySem.W.findIn K (.ref C) f = some none from n]
  rfl
/-- a method: a plain def of the class or of one above it -/
structure Meth (K : PySem.W.Frag) (C : Addr) (m : Str) (f : Addr) : Prop where
  at_ : PySem.W.findIn K (.ref C) m = some (some (.ref f))
  fn : PySem.W.isFn K (.ref f) = true
  kp : PySem.W.keepIn K (.ref f) = true

section
variable {X : Cx} {pins : List (Addr × Obj)} {σ : St} {H : Hp} {s : Shared} {a C dx : Addr} {fs : List (Str × V)} {f : Str} {v : V} {A : Around} {E : Value → Shared → Prop}

theorem getattr_ok {b : Bool} {Q : Value → Shared → Prop} (I : Inv X pins σ H s) (e : H a = some (.ins C dx fs)) (c : Cls X.K C) (n : NoAttr X.K C f) (l : fs.lookup f = some v)
    (h : ∀ u s', Inv X pins σ H s' → RelV v u → Q u s') : wpAny (model X.prog X.w) A (getAttr (.ref a) f b) Q E s := by
  obtain ⟨mA, O, r, _, _, _⟩ := ins_get I.hok e
  obtain ⟨u, hu, ru⟩ := RelO.some_of (v := v) (o := mA f) (by rw [← l]; exact r f)
  exact get_map I.kIn O (c.get f) c.hd n hu (handed_of ru) (h u _ (I.tok _) ru)

theorem getmeth_ok {m : Str} {g : Addr} {pl : Sem Bool} {Q : Value × List Value → Shared → Prop} (I : Inv X pins σ H s) (e : H a = some (.ins C dx fs)) (c : Cls X.K C) (k : Meth X.K C m g) (l : fs.lookup m = none)
    (h : Q (.ref g, [.ref a]) s) : wpAny (model X.prog X.w) A (getMethod (.ref a) m pl) Q E s := by
  obtain ⟨mA, O, r, _, _, _⟩ := ins_get I.hok e
  have hn : mA m = none := RelO.none_of (by rw [← l]; exact r m)
  exact get_meth I.kIn O (c.get m) k.at_ k.fn hn h

theorem setattr_ok {y : V} {u : Value} {Q : Unit → Shared → Prop} (I : Inv X pins σ H s) (e : H a = some (.ins C dx fs)) (c : Cls X.K C) (n : NoAttr X.K C f) (hl : fs.length < 1000) (ry : RelV y u)
    (h : ∀ s', Inv X pins σ (upd H a (.ins C dx (putF f y fs))) s' → Q () s') : wpAny (model X.prog X.w) A (setAttr (.ref a) f u) Q E s := by
  obtain ⟨mA, O, r, wi, _, ho⟩ := ins_get I.hok e
  have hz : (fs.map (·.1)).length ≤ sizeLine := by rw [List.length_map, sizeLine_eq]; omega
  refine set_map I.kIn O c.sa c.po n.taker c.hd wi hz fun h' O' sb => h _ ?_
  have hd : ∃ o, h'.get? dx = some o := let ⟨o, _, _, e', _⟩ := O'.ns; ⟨o, e'⟩
  refine I.write (x := a) (e := dx) (by rw [e]; exact True.intro) (.inr ho) (fun b q hb z => (sb.2 b hb).trans z) hd ?_
  refine ⟨by rw [upd_ne O.ne]; exact ho, ?_, O.ne, O'.obj, _, O'.ns, fun g => ?_, fun g hg => ?_⟩
  · have := length_putF f y fs; omega
  · show RelO ((putF f y fs).lookup g) (if g = f then some u else mA g)
    rw [lookup_putF]
    by_cases q : g = f
    · rw [if_pos q, if_pos q]; exact ry
    · rw [if_neg q, if_neg q]; exact r g
  · by_cases q : g = f
    · rw [q]; exact (keys_putF f y fs).1
    · refine (keys_putF f y fs).2 g (wi g fun z => hg ?_)
      show (if g = f then some u else mA g) = none
      rw [if_neg q]; exact z

/-- a new instance, tracked, without attributes -/
theorem Inv.made (I : Inv X pins σ H s) : Inv X pins σ (upd (upd H s.heap.objs.size (.own (s.heap.objs.size + 1))) (s.heap.objs.size + 1) (.ins C s.heap.objs.size []))
    { s with heap := (s.heap.push PySem.W.emptyDict).push (PySem.W.instObj C s.heap.objs.size) } := by
  have e1 : (s.heap.push PySem.W.emptyDict).get? s.heap.objs.size = some PySem.W.emptyDict := Heap.get?_push_size s.heap rfl
  have e2 : ((s.heap.push PySem.W.emptyDict).push (PySem.W.instObj C s.heap.objs.size)).get? (s.heap.objs.size + 1) = some (PySem.W.instObj C s.heap.objs.size) := by
    have := Heap.get?_push_size (s.heap.push PySem.W.emptyDict) (o := PySem.W.instObj C s.heap.objs.size) rfl
    rwa [Heap.size_push] at this
  have e3 : (s.heap.push PySem.W.emptyDict).Ns s.heap.objs.size (fun _ => none) := ⟨PySem.W.emptyDict, #[], _, e1, rfl, (fun e he => absurd he (by simp)), fun _ => rfl⟩
  have I1 := I.laid (a := s.heap.objs.size) (o := .own (s.heap.objs.size + 1)) (h' := s.heap.push PySem.W.emptyDict) (t' := s.toks) (fun b u q => Heap.get?_push_of_some _ q) (Nat.le_refl _) ⟨_, e1⟩
  refine I1.laid (a := s.heap.objs.size + 1) (o := .ins C s.heap.objs.size []) (t' := s.toks) (fun b u q => Heap.get?_push_of_some _ q) (Nat.le_of_eq (Heap.size_push _ _)) ?_
  have ne : s.heap.objs.size ≠ s.heap.objs.size + 1 := Nat.ne_of_lt (Nat.lt_succ_self _)
  refine ⟨by rw [upd_ne ne, upd_same], Nat.zero_le _, ne, e2, fun _ => none, (Heap.Ns1.of_empty e3).at fun o q => Heap.get?_push_of_some _ q, fun _ => True.intro, fun y hy => absurd rfl hy⟩

/-- e.f where nothing but the object is asked: through attributeBase (super) and the last hold -/
theorem attr_of {prog : Program} {w : World} {env : Env} {e : Expr} {f : Str} {pos : Pos} {s : Shared} {Q : Value → Shared → Prop} (hb : attributeBase e f env (eval e env) = eval e env)
    (h : wpAny (model prog w) A (eval e env) (fun o s₁ => wpAny (model prog w) A (getAttr o f true) Q E s₁) E s) : wpAny (model prog w) A (eval (.Attribute e f pos) env) Q E s :=
  Attribute_any_ h (by rw [arm_eval_Attribute, hb])
end

/-- e.f, an attribute of the instance -/
def tFld (K : PySem.W.Frag) (ta : TE) (f : Str) : TE := fun σ H Q => ta σ H fun x H1 => ∃ a C dx fs v, x = .ref a ∧ H1 a = some (.ins C dx fs) ∧ Cls K C ∧ NoAttr K C f ∧ fs.lookup f = some v ∧ Q v H1
/-- e.f = value -/
def sFld (K : PySem.W.Frag) (ta tv : TE) (f : Str) : TS := fun D σ H => tv σ H fun y H1 => ta σ H1 fun x H2 => ∃ a C dx fs, x = .ref a ∧ H2 a = some (.ins C dx fs) ∧ Cls K C ∧ NoAttr K C f ∧ fs.length < 1000 ∧
  D.nx σ (upd H2 a (.ins C dx (putF f y fs)))
section
variable {X : Cx} {o e value : Expr} {f : Str} {pos pos' tpos : Pos} {ta tv : TE}
theorem pe_fld (he : PE X e ta) (hb : attributeBase e f X.env (eval e X.env) = eval e X.env) : PE X (.Attribute e f pos) (tFld X.K ta f) := by
  intro pins s σ H Q I h
  refine attr_of hb (thn (he pins s σ H _ I h) fun u s1 ⟨x, H1, I1, rx, a, C, dx, fs, v, ex, ea, c, n, l, q⟩ => ?_)
  subst ex
  obtain rfl : u = Value.ref a := rx
  exact getattr_ok I1 ea c n l fun u' s2 I2 ru => ⟨v, H1, I2, ru, q⟩
theorem ps_fld (ha : PE X o ta) (hv : PE X value tv) (hs : swapsWith value (some (.Attribute o f pos')) pos.line X.env = pure false) : PS X (.Assign [.Attribute o f pos'] value pos) (sFld X.K ta tv f) := by
  intro pins s σ H D I h
  refine plainObj_wpAny_Assign_Attribute (thn (hv pins s σ H _ I h) fun u s1 ⟨y, H1, I1, ry, q⟩ => thn (ha pins s1 σ H1 _ I1 q) fun ov s2 ⟨x, H2, I2, rx, a, C, dx, fs, ex, ea, c, n, l, q2⟩ => ?_) hs
  subst ex
  obtain rfl : ov = Value.ref a := rx
  exact setattr_ok I2 ea c n l ry fun s3 I3 => ⟨σ, _, I3, q2⟩
end

section
variable {X : Cx} {pins : List (Addr × Obj)} {σ : St} {H : Hp} {s : Shared} {A : Around} {E : Value → Shared → Prop} {Q : Value → Shared → Prop} {c : Value} {b : Bool}
/-- the type of a value, as the fragment's deciders take it; for an instance its class -/
inductive TyOf (K : PySem.W.Frag) (H : Hp) : V → Value → Prop where
  | non : TyOf K H .non (.type "NoneType")
  | bl (x : Bool) : TyOf K H (.bl x) (.type "bool")
  | int (i : Int) : TyOf K H (.int i) (.type "int")
  | str (x : Str) : TyOf K H (.str x) (.type "str")
  | flt (x : UInt64) : TyOf K H (.flt x) (.type "float")
  | lst {a : Addr} {xs : List V} (e : H a = some (.lst xs)) : TyOf K H (.ref a) (.type "list")
  | frz {a : Addr} {o : Obj} {xs : List V} (e : H a = some (.frz o (.lst xs))) : TyOf K H (.ref a) (.type "list")
  | tup {a : Addr} {xs : List V} (e : H a = some (.tup xs)) : TyOf K H (.ref a) (.type "tuple")
  | dK {a : Addr} {kvs : List (Key × V)} (e : H a = some (.dK kvs)) : TyOf K H (.ref a) (.type "dict")
  | dT {a : Addr} {kvs : List (List Key × V)} (e : H a = some (.dT kvs)) : TyOf K H (.ref a) (.type "dict")
  | ins {a C dx : Addr} {fs : List (Str × V)} (e : H a = some (.ins C dx fs)) (cl : Cls K C) (ha : PySem.W.findIn K (.ref C) "__class__" = some (some (.builtin "object.__class__")))
      (hn : PySem.W.specialIn K (.builtin "object.__class__") "__get__" = some (some (.builtin "getset_descriptor.__get__"))) (htk : PySem.W.takesIn K (.builtin "object.__class__") = some true)
      (hm : PySem.W.mroIn K C (.type "object") = some true) : TyOf K H (.ref a) (.ref C)
/-- isinstance(x, c) for one class c, a built-in or an own one: kitOne's answer -/
theorem isinst_ok {x : V} {u t : Value} (I : Inv X pins σ H s) (rx : RelV x u) (ty : TyOf X.K H x t) (e : PySem.W.kitOne X.K t c = some b) (h : ∀ tk, Q (.bool b) { s with toks := tk }) :
    wpAny (model X.prog X.w) A (call (.builtin "isinstance") [u, c]) Q E s := by
  cases ty with
  | non => cases (show u = Value.none from rx); exact PySem.W.kia_one PySem.W.kitx_none I.kIn True.intro e (fun z => nomatch z) h
  | bl y => cases (show u = Value.bool y from rx); exact PySem.W.kia_one PySem.W.kitx_bool I.kIn True.intro e (fun z => nomatch z) h
  | int i => obtain ⟨t, q⟩ := (show ∃ t, u = Value.int i t from rx); cases q; exact PySem.W.kia_one PySem.W.kitx_int I.kIn True.intro e (fun z => nomatch z) h
  | str y => obtain ⟨t, q⟩ := (show ∃ t, u = Value.str y t from rx); cases q; exact PySem.W.kia_one PySem.W.kitx_str I.kIn True.intro e (fun z => nomatch z) h
  | flt y => obtain ⟨t, q⟩ := (show ∃ t, u = Value.float y t from rx); cases q; exact PySem.W.kia_one PySem.W.kitx_float I.kIn True.intro e (fun z => nomatch z) h
  | @lst a xs ea =>
    cases (show u = Value.ref a from rx)
    obtain ⟨_, _, n, _, h1⟩ := (show ObjOk X.prog X.w H s.heap a (.lst xs) from I.hok a _ ea)
    exact PySem.W.kia_one PySem.W.kitx_list I.kIn ⟨_, h1, rfl⟩ e (fun z => nomatch z) h
  | @frz a ob xs ea =>
    cases (show u = Value.ref a from rx)
    obtain ⟨_, _, _, n, _, h1⟩ := (show ObjOk X.prog X.w H s.heap a (.frz ob (.lst xs)) from I.hok a _ ea)
    exact PySem.W.kia_one PySem.W.kitx_list I.kIn ⟨_, h1, rfl⟩ e (fun z => nomatch z) h
  | @tup a xs ea =>
    cases (show u = Value.ref a from rx)
    obtain ⟨_, _, _, p⟩ := (show ObjOk X.prog X.w H s.heap a (.tup xs) from I.hok a _ ea)
    obtain ⟨o, h1, h2, _⟩ := p
    exact PySem.W.kia_one PySem.W.kitx_tuple I.kIn ⟨o, h1, h2⟩ e (fun z => nomatch z) h
  | @dK a kvs ea =>
    cases (show u = Value.ref a from rx)
    obtain ⟨_, _, vs, _, p⟩ := (show ObjOk X.prog X.w H s.heap a (.dK kvs) from I.hok a _ ea)
    obtain ⟨o, es, ep, h1, h2, _⟩ := p
    exact PySem.W.kia_one PySem.W.kitx_dict I.kIn ⟨o, h1, h2.1⟩ e (fun z => nomatch z) h
  | @dT a kvs ea =>
    cases (show u = Value.ref a from rx)
    obtain ⟨_, _, xs, _, o, es, ep, h1, h2, _⟩ := (show ObjOk X.prog X.w H s.heap a (.dT kvs) from I.hok a _ ea)
    exact PySem.W.kia_one PySem.W.kitx_dict I.kIn ⟨o, h1, h2.1⟩ e (fun z => nomatch z) h
  | @ins a C dx fs ea cl ha hn htk hm =>
    cases (show u = Value.ref a from rx)
    obtain ⟨mA, O, _⟩ := ins_get I.hok ea
    obtain ⟨od, J, _⟩ := O.look
    exact PySem.W.kia_one (PySem.W.kitx_own (cl.get _) cl.hd ha hn htk hm) I.kIn J e (fun z => nomatch z) h
end
end L2

namespace L2
open PySem PySem.Spec PyProof.Rows

structure Room (k : Nat) (A : Around) : Prop where
  hd : A.handled = none
  dp : A.depth + 3 * k + 5 < recursionLimit
  un : A.units + 16 * k + 200 < cLine
theorem Room.mono {j k : Nat} {A : Around} (r : Room k A) (h : j ≤ k) : Room j A := ⟨r.hd, by have := r.dp; omega, by have := r.un; omega⟩
theorem Room.deeper {k : Nat} {A : Around} (r : Room (k + 1) A) (env : Env) : Room k (A.deeper env) :=
  ⟨r.hd, by have := r.dp; show A.depth + 1 + 3 * k + 5 < _; omega, by have := r.un; show A.units + 3 + 16 * k + 200 < _; omega⟩
theorem make_depth {A : Around} {C : Addr} {us : List Value} {kw : List (Str × Value)} : (A.under (.builtin "type.__call__" ⟨.ref C :: us, kw⟩)).depth = A.depth + 1 := by
  first | rfl | simp [Around.under, Code.weight, Code.isCreation, Code.isGuard, Code.isCaller, Code.frames, Code.isFrame, guardIds]
theorem make_units {A : Around} {C : Addr} {us : List Value} {kw : List (Str × Value)} : (A.under (.builtin "type.__call__" ⟨.ref C :: us, kw⟩)).units = A.units + 1 := by
  first | rfl | simp [Around.under, Code.cUnits, Code.frames, Code.isFrame]
theorem Room.make {k : Nat} {A : Around} (r : Room (k + 1) A) (C : Addr) (us : List Value) (kw : List (Str × Value)) : Room k (A.under (.builtin "type.__call__" ⟨.ref C :: us, kw⟩)) :=
  ⟨r.hd, by have := r.dp; rw [make_depth]; omega, by have := r.un; rw [make_units]; omega⟩
theorem Room.depth {k : Nat} {A : Around} (r : Room k A) : A.depth < recursionLimit := by have := r.dp; omega
theorem Room.units {k : Nat} {A : Around} (r : Room k A) : A.units + 64 < cLine := by have := r.un; omega
def tNil : TA := fun _ H Q => Q [] H
def tCons (ta : TE) (tr : TA) : TA := fun σ H Q => ta σ H fun x H1 => tr σ H1 fun xs H2 => Q (x :: xs) H2
section
variable {X : Cx} {e : Expr} {es : List Expr} {te : TE} {t : TA} {pos : Pos}
theorem pa_nil : PA X [] tNil := fun _ _ _ _ H Q I h => Calls.spliced_nil ⟨[], H, I, .nil, h⟩
theorem pa_cons (ha : PE X e te) (hr : PA X es t) (hs : starEach (e :: es) X.env = (false, eval e X.env) :: starEach es X.env := by rfl) : PA X (e :: es) (tCons te t) := by
  intro pos pins s σ H Q I h
  rw [hs]
  show wpAny _ _ (spliced ((false, eval e X.env) :: backTo pos (starEach es X.env))) _ _ s
  refine Calls.spliced_cons (thn (ha pins s σ H _ I h) fun u s1 ⟨x, H1, I1, r1, q1⟩ => ?_)
  exact thn (hr pos pins s1 σ H1 _ I1 q1) fun us s2 ⟨xs, H2, I2, r2, q2⟩ => ⟨x :: xs, H2, I2, .cons r1 r2, q2⟩

/-- a tuple, a list of written items -/
def tTup (t : TA) : TE := fun σ H Q => t σ H fun xs H1 => xs.length ≤ sizeLine ∧ ∀ p, H1 p = none → Q (.ref p) (upd H1 p (.tup xs))
def tLst (t : TA) : TE := fun σ H Q => t σ H fun xs H1 => xs.length ≤ sizeLine ∧ ∀ p, H1 p = none → Q (.ref p) (upd H1 p (.lst xs))
theorem pe_tup {x1} (h : PA X es t) : PE X (.Tuple es x1 pos) (tTup t) := by
  intro pins s σ H Q I hq
  refine wpAny_Tuple_spliced (thn (h pos pins s σ H _ I hq) fun us s1 ⟨xs, H1, I1, r, z, q⟩ => ⟨by rw [← r.length]; exact z, ?_⟩)
  have hf : H1 s1.heap.objs.size = none := I1.hok.fresh (Nat.le_refl _)
  refine ⟨.ref s1.heap.objs.size, upd H1 s1.heap.objs.size (.tup xs), I1.laid (t' := s1.toks) (fun b u e => Heap.get?_push_of_some _ e) (Nat.le_refl _) ?_, rfl, q _ hf⟩
  exact ⟨z, us, r, ⟨_, Heap.get?_push_size _ rfl, rfl, _, rfl⟩⟩
theorem pe_lst (h : PA X es t) : PE X (.List es pos) (tLst t) := by
  intro pins s σ H Q I hq
  refine wpAny_List_spliced (thn (h pos pins s σ H _ I hq) fun us s1 ⟨xs, H1, I1, r, z, q⟩ => ⟨by rw [← r.length]; exact z, ?_⟩)
  have hf : H1 s1.heap.objs.size = none := I1.hok.fresh (Nat.le_refl _)
  refine ⟨.ref s1.heap.objs.size, upd H1 s1.heap.objs.size (.lst xs), I1.laid (t' := s1.toks) (fun b u e => Heap.get?_push_of_some _ e) (Nat.le_refl _) ?_, rfl, q _ hf⟩
  exact ⟨z, us, 0, r, Heap.get?_push_size _ rfl⟩
end

/-- a def's promise: the bound arguments in the parameters' order, the heap, the wanted end, the wanted exception -/
abbrev Sp := List V → Hp → VK → XK → Prop
/-- how an exception lies behind a call (file 08 gives it): the callers' frames, abstract heap and state ahead of the call, the wish, the exception, the state -/
abbrev CXT := List Env → Hp → Shared → XK → Value → Shared → Prop

/-- the state at a call -/
structure Env0 (P : Program) (w : World) (K : PySem.W.Frag) (mg : Str → Option Value) (base : Heap) (A : Around) (outer : List Env) (s : Shared) (H : Hp) : Prop where
  frames : A.frames = some outer
  mod : Mod K mg base
  bs : ∀ b o, base.get? b = some o → s.heap.get? b = some o ∧ H b = none
  bsz : base.objs.size ≤ s.heap.objs.size
  funs : s.heap.FunFrames base outer
  frf : ∀ b ∈ frs outer, H b = none
  hok : HOk P w H s.heap
  bare : AllBare s.gens
/-- a call's end -/
def CE (outer : List Env) (P : Program) (w : World) (H : Hp) (s : Shared) (Q : VK) (u : Value) (s' : Shared) : Prop :=
  ∃ v H', s'.os = s.os ∧ AllBare s'.gens ∧ Un (frs outer) [] H H' s.heap s'.heap ∧ HOk P w H' s'.heap ∧ RelV v u ∧ Q v H'
def CR (CX : CXT) (outer : List Env) (P : Program) (w : World) (H : Hp) (s : Shared) (Q : VK) (E : XK) (r : Result) (s' : Shared) : Prop :=
  match r with
  | .ok (.ret u) => CE outer P w H s Q u s'
  | .ok _ => False
  | .error e => CX outer H s E e s'
structure FnOk (P : Program) (w : World) (K : PySem.W.Frag) (mg : Str → Option Value) (base : Heap) (CX : CXT) (k : Nat) (f : Addr) (fd : FuncData) (ps : List Str) (sp : Sp) : Prop where
  len : ∀ vs H Q E, sp vs H Q E → vs.length = ps.length
  run : ∀ (A : Around) (outer : List Env) (s : Shared) (H : Hp) (args : Args) (us : List Value) (vs : List V) (Q : VK) (E : XK), Room k A → Env0 P w K mg base A outer s H → BindsTo s fd args (ps.zip us) → Vals vs us → sp vs H Q E →
    codeAny (model P w) A (.call (.ref f) args) (CR CX outer P w H s Q E) s
theorem FnOk.mono {P : Program} {w : World} {K : PySem.W.Frag} {mg : Str → Option Value} {base : Heap} {CX : CXT} {j k : Nat} {f : Addr} {fd : FuncData} {ps : List Str} {sp : Sp} (F : FnOk P w K mg base CX j f fd ps sp) (h : j ≤ k) :
    FnOk P w K mg base CX k f fd ps sp := ⟨F.len, fun A outer s H args us vs Q E hr => F.run A outer s H args us vs Q E (hr.mono h)⟩
theorem Env0.make {P : Program} {w : World} {K : PySem.W.Frag} {mg : Str → Option Value} {base : Heap} {A : Around} {outer : List Env} {s : Shared} {H : Hp} (e : Env0 P w K mg base A outer s H) (C : Addr) (us : List Value) (kw : List (Str × Value)) :
    Env0 P w K mg base (A.under (.builtin "type.__call__" ⟨.ref C :: us, kw⟩)) outer s H := ⟨by first | exact e.frames | (simpa [Around.under, Code.envs, Code.isFrame, pushEnvs] using e.frames), e.mod, e.bs, e.bsz, e.funs, e.frf, e.hok, e.bare⟩
section
variable {X : Cx} {pins : List (Addr × Obj)} {σ : St} {H : Hp} {s s' : Shared}
/-- from a body: what a callee wants -/
theorem Inv.env0 (I : Inv X pins σ H s) : Env0 X.prog X.w X.K X.mg X.base X.A X.stack s H :=
  ⟨I.ok.frames, I.ok.mod, I.bs, Nat.le_trans I.ok.bsz I.sz, I.stack, I.stkFree, I.hok, I.bare⟩
/-- behind a call -/
theorem Inv.after {Q : VK} {u : Value} (I : Inv X pins σ H s) (h : CE X.stack X.prog X.w H s Q u s') : EP X pins σ Q u s' := by
  obtain ⟨v, H', os, bare, un, hok, r, q⟩ := h
  obtain ⟨hh, g, d, t, os'⟩ := s'
  obtain rfl : os' = s.os := os
  exact ⟨v, H', I.call (h' := hh) (g' := g) (d' := d) (t' := t) (ch := []) un hok bare (fun b z => absurd z (by simp)), r, q⟩
end

/-- f(..): the written arguments, then the defaults dvs; E: what is wanted of an exception -/
def tCall (sp : Sp) (dvs : List V) (E : XK) (t : TA) : TE := fun σ H Q => t σ H fun vs H1 => sp (vs ++ dvs) H1 Q E
/-- C(..): a new instance and its dict, then __init__ -/
def tMake (C : Addr) (sp : Sp) (dvs : List V) (E : XK) (t : TA) : TE := fun σ H Q => t σ H fun vs H1 => ∀ x dx, H1 x = none → H1 dx = none → dx ≠ x →
  sp (.ref x :: (vs ++ dvs)) (upd (upd H1 dx (.own x)) x (.ins C dx [])) (fun v H2 => v = .non ∧ Q (.ref x) H2) E

/-- how the parameters are bound: us the positional arguments, kw the keywords' values by name, ds the defaults that fill up -/
def Binds (K : PySem.W.Frag) (fd : FuncData) (ps : List Str) (ds : List Value) : Prop :=
  ∀ (s : Shared) (us : List Value), K.In s.heap → (us ++ ds).length = ps.length → BindsTo s fd ⟨us, []⟩ (ps.zip (us ++ ds))
/-- every parameter is given -/
theorem Binds.all {K : PySem.W.Frag} {fd : FuncData} {ps : List Str} (h : ∀ us : List Value, us.length = ps.length → bindArgs fd ⟨us, []⟩ = pure (ps.zip us)) : Binds K fd ps [] := fun s us _ hl => by
  rw [List.append_nil] at hl ⊢
  exact .of_eq (h us hl)

/-- an exception of a callee reaches what this body wants of exceptions -/
def Passes (CX : CXT) (X : Cx) (E : XK) : Prop := ∀ (pins : List (Addr × Obj)) (σ : St) (H : Hp) (s : Shared) (e : Value) (s' : Shared), Inv X pins σ H s → CX X.stack H s E e s' → X.xe e s'

section
variable {X : Cx} {CX : CXT} {k : Nat} {f C : Addr} {fd : FuncData} {ps : List Str} {sp : Sp} {dvs : List V} {ds : List Value} {E : XK} {x m : Str} {p pos apos : Pos} {e o : Expr} {es : List Expr} {ta : TE} {t : TA}

/-- the callee runs -/
theorem run_fn {pins : List (Addr × Obj)} {σ : St} {H : Hp} {s : Shared} {Q : VK} {us : List Value} {vs : List V} (F : FnOk X.prog X.w X.K X.mg X.base CX k f fd ps sp) (hr : Room k X.A) (hb : Binds X.K fd ps ds) (hd : Vals dvs ds) (hx : Passes CX X E)
    (I : Inv X pins σ H s) (r : Vals vs us) (h : sp (vs ++ dvs) H Q E) : wpAny (model X.prog X.w) X.A (call (.ref f) us) (EP X pins σ Q) X.xe s := by
  have r2 : Vals (vs ++ dvs) (us ++ ds) := r.append hd
  have hl : (us ++ ds).length = ps.length := by rw [← r2.length]; exact F.len _ _ _ _ h
  refine wpAny_call (codeAny_mono (F.run X.A X.stack s H ⟨us, []⟩ (us ++ ds) (vs ++ dvs) Q E hr I.env0 (hb s us I.kIn hl) r2 h) fun r s' hq => ?_)
  cases r with
  | error e => exact hx pins σ H s e s' I hq
  | ok fl =>
    cases fl with
    | ret u => exact I.after hq
    | next => exact False.elim hq
    | brk => exact False.elim hq
    | cont => exact False.elim hq

theorem pe_call (F : FnOk X.prog X.w X.K X.mg X.base CX k f fd ps sp) (hr : Room k X.A) (hg : Gl X x) (hm : X.mg x = some (.ref f)) (hk : PySem.W.keepIn X.K (.ref f) = true) (hb : Binds X.K fd ps ds) (hd : Vals dvs ds) (hx : Passes CX X E)
    (ha : PA X (e :: es) t) (hdb : (x == ("__debug__" : Str)) = false := by decide) (he : starEach (e :: es) X.env = (false, eval e X.env) :: starEach es X.env := by rfl) (hpl : (backTo pos (starEach es X.env)).any (·.1) = false := by rfl) :
    PE X (.Call (.Name x p) (e :: es) [] pos) (tCall sp dvs E t) := by
  intro pins s σ H Q I h
  refine wpAny_Call_Name_kw (ld_glob I hg hm ?_ hdb)
  refine PySem.W.callWith_K (h₀ := X.base) I.ok.mod.kin hk (thn (ha pos pins s σ H _ I h) fun us s1 ⟨vs, H1, I1, r, q⟩ => ⟨I1.kIn, ?_⟩) he hpl
  exact run_fn F hr hb hd hx I1 r q
/-- what a class must have to be made -/
structure Mk (K : PySem.W.Frag) (C f : Addr) : Prop where
  makes : PySem.W.makesIn K C = true
  init : PySem.W.findIn K (.ref C) "__init__" = some (some (.ref f))
  fn : PySem.W.isFn K (.ref f) = true
  kp : PySem.W.keepIn K (.ref C) = true

theorem run_make {pins : List (Addr × Obj)} {σ : St} {H : Hp} {s : Shared} {Q : VK} {us : List Value} {vs : List V} (M : Mk X.K C f) (F : FnOk X.prog X.w X.K X.mg X.base CX k f fd ps sp) (hr : Room (k + 1) X.A) (hb : Binds X.K fd ps ds) (hd : Vals dvs ds)
    (hx : Passes CX X E) (I : Inv X pins σ H s) (r : Vals vs us)
    (h : ∀ x dx, H x = none → H dx = none → dx ≠ x → sp (.ref x :: (vs ++ dvs)) (upd (upd H dx (.own x)) x (.ins C dx [])) (fun v H2 => v = .non ∧ Q (.ref x) H2) E) :
    wpAny (model X.prog X.w) X.A (call (.ref C) us) (EP X pins σ Q) X.xe s := by
  have hq := h (s.heap.objs.size + 1) s.heap.objs.size (I.hok.fresh (Nat.le_succ _)) (I.hok.fresh (Nat.le_refl _)) (Nat.ne_of_lt (Nat.lt_succ_self _))
  have I2 := Inv.made (C := C) I
  have r2 : Vals (V.ref (s.heap.objs.size + 1) :: (vs ++ dvs)) (Value.ref (s.heap.objs.size + 1) :: (us ++ ds)) := .cons rfl (r.append hd)
  have hl : (Value.ref (s.heap.objs.size + 1) :: us ++ ds).length = ps.length := by
    have e := r2.length
    rw [F.len _ _ _ _ hq] at e
    exact e.symm
  refine wpAny_call (make_map (f := f) I.kIn M.makes M.init (beq_iff_eq.mp M.fn) (codeAny_mono (F.run _ X.stack _ _ ⟨Value.ref (s.heap.objs.size + 1) :: us, []⟩ (Value.ref (s.heap.objs.size + 1) :: (us ++ ds)) _ _ E (hr.make C us [])
    (I2.env0.make C us []) (hb _ (Value.ref (s.heap.objs.size + 1) :: us) I2.kIn hl) r2 hq) fun r s' hq' => ?_))
  cases r with
  | error e => exact hx pins σ _ _ e s' I2 hq'
  | ok fl =>
    cases fl with
    | ret u =>
      obtain ⟨v, H', I3, rv, ev, q3⟩ := I2.after hq'
      subst ev
      exact ⟨rv, ⟨V.ref (s.heap.objs.size + 1), H', I3, rfl, q3⟩⟩
    | next => exact False.elim hq'
    | brk => exact False.elim hq'
    | cont => exact False.elim hq'
theorem pe_make (M : Mk X.K C f) (F : FnOk X.prog X.w X.K X.mg X.base CX k f fd ps sp) (hr : Room (k + 1) X.A) (hg : Gl X x) (hm : X.mg x = some (.ref C)) (hb : Binds X.K fd ps ds) (hd : Vals dvs ds) (hx : Passes CX X E)
    (ha : PA X (e :: es) t) (hdb : (x == ("__debug__" : Str)) = false := by decide) (he : starEach (e :: es) X.env = (false, eval e X.env) :: starEach es X.env := by rfl) (hpl : (backTo pos (starEach es X.env)).any (·.1) = false := by rfl) :
    PE X (.Call (.Name x p) (e :: es) [] pos) (tMake C sp dvs E t) := by
  intro pins s σ H Q I h
  refine wpAny_Call_Name_kw (ld_glob I hg hm ?_ hdb)
  refine PySem.W.callWith_K (h₀ := X.base) I.ok.mod.kin M.kp (thn (ha pos pins s σ H _ I h) fun us s1 ⟨vs, H1, I1, r, q⟩ => ⟨I1.kIn, ?_⟩) he hpl
  exact run_make M F hr hb hd hx I1 r q
theorem pe_make0 (M : Mk X.K C f) (F : FnOk X.prog X.w X.K X.mg X.base CX k f fd ps sp) (hr : Room (k + 1) X.A) (hg : Gl X x) (hm : X.mg x = some (.ref C)) (hb : Binds X.K fd ps ds) (hd : Vals dvs ds) (hx : Passes CX X E)
    (hdb : (x == ("__debug__" : Str)) = false := by decide) : PE X (.Call (.Name x p) [] [] pos) (tMake C sp dvs E tNil) := by
  intro pins s σ H Q I h
  refine wpAny_Call_Name_kw (ld_glob I hg hm ?_ hdb)
  exact PySem.W.callWith_K0 I.kIn M.kp (run_make (us := []) M F hr hb hd hx I .nil h)
end

section
variable {X : Cx} {CX : CXT} {k : Nat} {f C : Addr} {fd : FuncData} {ps ks : List Str} {sp : Sp} {E : XK} {x m : Str} {p pos apos kpos : Pos} {e o : Expr} {es : List Expr} {kws : List Keyword} {te ta : TE} {t tk : TA} {nm : Option Str}
variable {g : List Value → List Value → List Value} {gV : List V → List V → List V}
end

/-- names: the parameters first -/
structure FnScope (N P : List Str) (sc : Scope) : Prop where
  kind : sc.kind = .function
  co : sc.isCoroutine = false
  gen : sc.isGenerator = false
  nd : N.Nodup
  pre : N.take P.length = P
  par : ∀ x ∈ P, sc.names.lookup x = some .local ∨ sc.names.lookup x = some .cell
  nofree : ∀ y ∈ sc.names, y.2 ≠ .free

theorem bindL_out {kindOf : Str → Option NameKind} {x : Str} : ∀ {binds : List (Str × Value)} {m : Str → Option Value}, (∀ v, (x, v) ∉ binds) → bindL kindOf binds m x = m x
  | [], _, _ => rfl
  | (n, v) :: r, m, h => by
    unfold bindL
    rw [bindL_out fun w hw => h w (List.mem_cons_of_mem _ hw)]
    split
    · have : x ≠ n := by rintro rfl; exact h v List.mem_cons_self
      simp [this]
    · rfl
theorem bindC_out {kindOf : Str → Option NameKind} {x : Str} : ∀ {binds : List (Str × Value)} {m : Str → Option Value}, (∀ v, (x, v) ∉ binds) → bindC kindOf binds m x = m x
  | [], _, _ => rfl
  | (n, v) :: r, m, h => by
    unfold bindC
    rw [bindC_out fun w hw => h w (List.mem_cons_of_mem _ hw)]
    split
    · rfl
    · have : x ≠ n := by rintro rfl; exact h v List.mem_cons_self
      simp [this]
theorem bindL_get {kindOf : Str → Option NameKind} {x : Str} {v : Value} : ∀ {P : List Str} {vs : List Value} {i : Nat} {m : Str → Option Value}, P.Nodup → P[i]? = some x → vs[i]? = some v → kindOf x = some .local →
    bindL kindOf (P.zip vs) m x = some v
  | [], _, _, _, _, h, _, _ => by simp at h
  | _ :: _, [], _, _, _, _, h, _ => by simp at h
  | p :: P, w :: vs, 0, m, nd, h1, h2, hk => by
    simp at h1 h2; subst h1; subst h2
    show bindL kindOf ((p, w) :: P.zip vs) m p = _
    unfold bindL
    rw [bindL_out fun v hv => (List.nodup_cons.mp nd).1 (List.of_mem_zip hv).1, if_pos hk]
    simp
  | p :: P, w :: vs, i + 1, m, nd, h1, h2, hk => by
    show bindL kindOf ((p, w) :: P.zip vs) m x = _
    unfold bindL
    exact bindL_get (i := i) (List.nodup_cons.mp nd).2 (by simpa using h1) (by simpa using h2) hk
theorem bindC_get {kindOf : Str → Option NameKind} {x : Str} {v : Value} : ∀ {P : List Str} {vs : List Value} {i : Nat} {m : Str → Option Value}, P.Nodup → P[i]? = some x → vs[i]? = some v → kindOf x ≠ some .local →
    bindC kindOf (P.zip vs) m x = some v
  | [], _, _, _, _, h, _, _ => by simp at h
  | _ :: _, [], _, _, _, _, h, _ => by simp at h
  | p :: P, w :: vs, 0, m, nd, h1, h2, hk => by
    simp at h1 h2; subst h1; subst h2
    show bindC kindOf ((p, w) :: P.zip vs) m p = _
    unfold bindC
    rw [bindC_out fun v hv => (List.nodup_cons.mp nd).1 (List.of_mem_zip hv).1, if_neg hk]
    simp
  | p :: P, w :: vs, i + 1, m, nd, h1, h2, hk => by
    show bindC kindOf ((p, w) :: P.zip vs) m x = _
    unfold bindC
    exact bindC_get (i := i) (List.nodup_cons.mp nd).2 (by simpa using h1) (by simpa using h2) hk

/-- the names' values at the entry -/
def start (N : List Str) (vs : List V) : St := vs.map some ++ List.replicate (N.length - vs.length) none

/-- the context of a def's body, at its entry; an exception leaves the frame, then lies as CX says -/
def cxOf (CX : CXT) (P : Program) (w : World) (K : PySem.W.Frag) (mg : Str → Option Value) (base : Heap) (N : List Str) (qual : Str) (scope : Scope) (f : Addr) (cd : Value) (A : Around) (outer : List Env) (s : Shared) (H : Hp) (E : XK) : Cx where
  prog := P
  w := w
  K := K
  mg := mg
  base := base
  A := A.deeper (envOfC qual scope s.heap.objs.size f cd)
  N := N
  s₀ := s
  H₀ := H
  env := envOfC qual scope s.heap.objs.size f cd
  outer := outer
  stack := envOfC qual scope s.heap.objs.size f cd :: outer
  ex := []
  calm := true
  fn := fun _ => true
  pn := []
  xe := fun e s' => wpAny (model P w) (A.deeper (envOfC qual scope s.heap.objs.size f cd)) (leaving (envOfC qual scope s.heap.objs.size f cd) e) (fun _ s'' => CX outer H s E e s'') (fun e' s'' => CX outer H s E e' s'') s'

theorem cell_has {sc : Scope} {n : Nat} {x : Str} (h : sc.names.lookup x = some .cell) : ∃ c, (cellsFrom n sc.names []).lookup x = some c := by
  have q := PySem.W.cellsFrom_some sc.names n [] (.inl h)
  exact Option.isSome_iff_exists.mp q

theorem inv_start {CX : CXT} {P : Program} {w : World} {K : PySem.W.Frag} {mg : Str → Option Value} {base : Heap} {N ps : List Str} {qual : Str} {scope : Scope} {f : Addr} {cd : Value} {A : Around} {outer : List Env} {s s1 : Shared} {H : Hp} {E : XK} {us : List Value} {vs : List V}
    (S : FnScope N ps scope) (hd : A.handled = none) (e0 : Env0 P w K mg base A outer s H) (hl : vs.length = ps.length) (r : Vals vs us)
    (x : InCallC s s.heap.objs.size (bindL (envOfC qual scope s.heap.objs.size f cd).kindOf (ps.zip us) fun _ => none) (cellsFrom (s.heap.objs.size + 1) scope.names []) (bindC (envOfC qual scope s.heap.objs.size f cd).kindOf (ps.zip us) fun _ => none) s1) :
    Inv (cxOf CX P w K mg base N qual scope f cd A outer s H E) [] (start N vs) H s1 := by
  have hpl : ps.length ≤ N.length := by have := congrArg List.length S.pre; rw [List.length_take] at this; omega
  obtain ⟨h1, tk, rfl, hk⟩ := x.done
  have noA : ∀ b : Addr, b ∉ (cxOf CX P w K mg base N qual scope f cd A outer s H E).ex := fun b z => absurd (show b ∈ ([] : List Addr) from z) (by simp)
  refine ⟨⟨e0.mod, S.kind, rfl, rfl, Nat.le_refl _, fun y z c h1 h2 => ?_, fun y hy => ?_, fun y c _ h => ?_, fun _ => hd, Around.frames_deeper e0.frames, .inr ⟨rfl, rfl⟩, fun b z => absurd z (noA b), e0.bs, e0.bsz, fun b _ _ => noA b, fun b z => absurd z (noA b), e0.funs, e0.frf⟩,
    rfl, e0.bare, Un.kept hk, ⟨_, x.toInCall.ns, fun i y v h1 h2 h3 => ?_⟩, fun y c h => ⟨_, x.cell y c h⟩, e0.hok.fresh (Nat.le_refl _), fun y c h => ?_, fun p hp => absurd (show p ∈ ([] : List (Addr × Obj)) from hp) (by simp), e0.hok.kept hk, ?_⟩
  · exact name_of_addr x.apart (PySem.mem_of_lookup h1) (PySem.mem_of_lookup h2)
  · have hy : scope.names.lookup y = some .cell ∨ scope.names.lookup y = some .free := hy
    rcases hy with hy | hy
    · exact cell_has hy
    · exact absurd rfl (S.nofree _ (PySem.mem_of_lookup hy))
  · exact Nat.le_of_lt (x.above y c (PySem.mem_of_lookup h))
  · have hi : i < vs.length := by
      unfold start at h2
      by_cases hi : i < vs.length
      · exact hi
      · rw [List.getElem?_append_right (by simpa using hi)] at h2
        rw [List.getElem?_replicate] at h2
        split at h2 <;> cases h2
    have ha : vs[i]? = some v := by
      unfold start at h2
      rw [List.getElem?_append_left (by simpa using hi), List.getElem?_map] at h2
      cases e : vs[i]? with
      | none => rw [e] at h2; cases h2
      | some a => rw [e] at h2; cases h2; rfl
    obtain ⟨u, hu, rv⟩ := r.get ha
    have hp : ps[i]? = some y := by
      rw [← S.pre, List.getElem?_take_of_lt (by omega)]; exact h1
    have ndP : ps.Nodup := by rw [← S.pre]; exact S.nd.sublist (List.take_sublist _ _)
    refine ⟨u, rv, ?_⟩
    rcases S.par y (List.mem_of_getElem? hp) with k | k
    · exact .inl ⟨k, bindL_get ndP hp hu k⟩
    · obtain ⟨c, e⟩ := cell_has (n := s.heap.objs.size + 1) k
      refine .inr ⟨.inl k, c, e, ?_⟩
      have q := x.cell y c e
      rw [bindC_get ndP hp hu (by show scope.names.lookup y ≠ _; rw [k]; decide)] at q
      exact q
  · exact e0.hok.fresh (Nat.le_of_lt (x.above y c (PySem.mem_of_lookup h)))
  · unfold start
    show _ = N.length
    rw [List.length_append, List.length_map, List.length_replicate]
    omega

/-- THE RULE: a def (or a method) of the text, by its body. The body's reading t is chosen for each entry; it is run at the parameters' values -/
theorem fn_of {CX : CXT} {P : Program} {w : World} {K : PySem.W.Frag} {mg : Str → Option Value} {base : Heap} {k : Nat} {f : Addr} {name qual : Str} {params : Arguments} {body : List Stmt} {scope : Scope} {dV kV doc pm cdv ct oc : Value} {an od : Option Addr}
    {osl : Array (Option Value)} {N ps : List Str} {sp : Sp} (lk : K.lookup f = some ⟨oc, od, .func (PySem.W.fnOf name qual params body scope dV kV doc pm an cdv ct), osl⟩) (hcd : PySem.W.codeIn K cdv qual = true) (S : FnScope N ps scope)
    (len : ∀ vs H Q E, sp vs H Q E → vs.length = ps.length)
    (hbody : ∀ (A : Around) (outer : List Env) (s : Shared) (H : Hp) (vs : List V) (Q : VK) (E : XK), Room k (A.deeper (envOfC qual scope s.heap.objs.size f cdv)) → sp vs H Q E →
      ∃ t, PSs (cxOf CX P w K mg base N qual scope f cdv A outer s H E) body t ∧ t { nx := fun _ H' => Q .non H', rt := Q } (start N vs) H) :
    FnOk P w K mg base CX (k + 1) f (PySem.W.fnOf name qual params body scope dV kV doc pm an cdv ct) ps sp := by
  refine ⟨len, fun A outer s H args us vs Q E hr e0 hb r hsp => ?_⟩
  have hl := len _ _ _ _ hsp
  have KX : K.In s.heap := e0.mod.kin.keeps fun b o e => (e0.bs b o e).1
  have lim : s.heap.NoLimit := e0.mod.nolimit.keeps fun b o e => (e0.bs b o e).1
  have hkind : ∀ y ∈ ps.zip us, scope.names.lookup y.1 = some .local ∨ (scope.names.lookup y.1 = some .cell ∧ ((cellsFrom (s.heap.objs.size + 1) scope.names []).lookup y.1).isSome = true) := fun ⟨n, v⟩ hy => by
    rcases S.par n (List.of_mem_zip hy).1 with q | q
    · exact .inl q
    · exact .inr ⟨q, PySem.W.cellsFrom_some _ _ _ (.inl q)⟩
  refine codeAny_call_function hr.depth (KX _ _ lk) rfl S.co S.gen rfl (PySem.W.codeRec_of KX hcd) (hb _ _ _ _ ?_)
  refine wpAny_newFunctionEnv_cells S.kind hkind fun env he s1 x => ?_
  subst he
  refine ⟨lim.keeps x.toInCall.keep, codeAny_func ?_⟩
  obtain ⟨t, ht, hq⟩ := hbody A outer s H vs Q E (hr.deeper _) hsp
  have I : Inv (cxOf CX P w K mg base N qual scope f cdv A outer s H E) [] (start N vs) H s1 := inv_start S hr.hd e0 hl r x
  refine wpAny_mono (ht [] s1 (start N vs) H _ I hq) (fun fl s' hs => ?_) fun e s' hs => hs
  have fin : ∀ {σ' : St} {H' : Hp} {v : V} {u : Value}, Inv (cxOf CX P w K mg base N qual scope f cdv A outer s H E) [] σ' H' s' → RelV v u → Q v H' → CE outer P w H s Q u s' :=
    fun {σ' H' v u} J rv q => ⟨v, H', J.os, J.bare, J.base, J.hok, rv, q⟩
  cases fl with
  | ret u =>
    obtain ⟨v, σ', H', J, rv, q⟩ := hs
    exact fin J rv q
  | next =>
    obtain ⟨σ', H', J, q⟩ := hs
    exact fin (v := V.non) (u := Value.none) J rfl q
  | brk =>
    obtain ⟨_, _, _, q⟩ := hs
    exact False.elim q
  | cont =>
    obtain ⟨_, _, _, q⟩ := hs
    exact False.elim q
end L2

namespace L2
open PySem PySem.Spec PyProof.Rows
section
variable {X : Cx} {x : Str} {p pos : Pos} {e : Expr} {es : List Expr} {t : TA} {id T : String} {r : List V → Hp → VK → Prop}

def tCB (r : List V → Hp → VK → Prop) (t : TA) : TE := fun σ H Q => t σ H fun vs H1 => r vs H1 Q
/-- f(e, ..), f a built-in function -/
theorem pe_callB (hc : CallR X (.builtin id) r) (hg : Gl X x) (hm : X.mg x = none) (hv : bootBuiltins x = some (.builtin id)) (ha : PA X (e :: es) t) (hn : x ≠ "__name__" := by decide) (hdb : (x == ("__debug__" : Str)) = false := by decide)
    (he : starEach (e :: es) X.env = (false, eval e X.env) :: starEach es X.env := by rfl) (hpl : (backTo pos (starEach es X.env)).any (·.1) = false := by rfl) : PE X (.Call (.Name x p) (e :: es) [] pos) (tCB r t) := by
  intro pins s σ H Q I h
  refine wpAny_Call_Name_kw (ld_blt I hg hm hv ?_ hn hdb)
  exact PyProof.Rows.callWith_builtin1 (thn (ha pos pins s σ H _ I h) fun us s1 ⟨vs, H1, I1, r1, q1⟩ => hc pins s1 σ H1 vs us Q I1 r1 q1) he hpl
/-- T(e, ..), T a built-in type -/
theorem pe_callTy (hc : CallR X (.type T) r) (hg : Gl X x) (hm : X.mg x = none) (hv : bootBuiltins x = some (.type T)) (ha : PA X (e :: es) t) (hn : x ≠ "__name__" := by decide) (hdb : (x == ("__debug__" : Str)) = false := by decide)
    (he : starEach (e :: es) X.env = (false, eval e X.env) :: starEach es X.env := by rfl) (hpl : (backTo pos (starEach es X.env)).any (·.1) = false := by rfl) : PE X (.Call (.Name x p) (e :: es) [] pos) (tCB r t) := by
  intro pins s σ H Q I h
  refine wpAny_Call_Name_kw (ld_blt I hg hm hv ?_ hn hdb)
  exact PyProof.Rows.callWith_type1 (thn (ha pos pins s σ H _ I h) fun us s1 ⟨vs, H1, I1, r1, q1⟩ => hc pins s1 σ H1 vs us Q I1 r1 q1) he hpl
end
end L2

namespace HT
open PySem PyProof.Rows

section
open PySem.SeqAt
open PySem.AutoSeq1 (wpAny_loadPart')
open PySem.MeetsSeq PySem.MeetsSeq2 PySem.MeetsSeq3

end

section
variable {prog : Program} {w : World} {A : Around} {E : Value → Shared → Prop} {s : Shared}

end
end HT

namespace L2
open PySem PySem.Spec PyProof.Rows

abbrev TO := St → Hp → (Option Int → Hp → Prop) → Prop
/-- a slice's part (left out, or an int) -/
def PO (X : Cx) (e : Option Expr) (t : TO) : Prop :=
  ∀ (pins : List (Addr × Obj)) (s : Shared) (σ : St) (H : Hp) (Q : Option Int → Hp → Prop), Inv X pins σ H s → t σ H Q →
    wpAny (model X.prog X.w) X.A (evalPart e X.env) (fun u s' => ∃ o H', Inv X pins σ H' s' ∧ IsPart u o ∧ Q o H') X.xe s
def tNoPart : TO := fun _ H Q => Q none H
def tPart (t : TE) : TO := fun σ H Q => t σ H fun x H1 => ∃ i, x = .int i ∧ Q (some i) H1

theorem intsAre_of {ns : List Int} : ∀ {us : List Value}, Vals (ns.map V.int) us → IntsAre us ns := by
  induction ns with
  | nil => intro us r; rw [List.map_nil] at r; cases r; exact .nil
  | cons n ns ih =>
    intro us r
    rw [List.map_cons] at r
    cases r with
    | cons r1 r2 =>
      obtain ⟨t, e⟩ := r1
      subst e
      exact .cons n t (ih r2)

section
variable {X : Cx} {e : Expr} {te : TE} {lo hi : Option Expr} {tl th : TO} {pos p2 : Pos}

theorem po_none : PO X none tNoPart := by
  intro pins s σ H Q I h
  rw [evalPart_none]
  exact wpAny_pure ⟨none, H, I, .none, h⟩
theorem po_some (h : PE X e te) : PO X (some e) (tPart te) := by
  intro pins s σ H Q I hw
  rw [evalPart_some]
  refine thn (h pins s σ H _ I hw) fun u s1 ⟨x, H1, I1, r1, q1⟩ => ?_
  obtain ⟨i, rfl, q⟩ := q1
  obtain ⟨t, rfl⟩ := r1
  exact ⟨some i, H1, I1, .int i t, q⟩

/-- what a slice of a value is, by values: the slice object stands at sl -/
def SlR (X : Cx) (r : V → Option Int → Option Int → Hp → VK → Prop) : Prop :=
  ∀ (pins : List (Addr × Obj)) (s : Shared) (σ : St) (H : Hp) (x : V) (v vl vu : Value) (lo hi : Option Int) (sl : Addr) (Q : VK), Inv X pins σ H s → RelV x v → s.heap.IsSliceOf sl vl vu .none → IsPart vl lo → IsPart vu hi → r x lo hi H Q →
    ∃ T id, typeLookup (.type T) "__getitem__" = pure (some (.builtin id)) ∧ s.TypeIs v T ∧ wpAny (model X.prog X.w) X.A (getItem v (.ref sl)) (EP X pins σ Q) X.xe s
def tSl (r : V → Option Int → Option Int → Hp → VK → Prop) (te : TE) (tl th : TO) : TE := fun σ H Q => te σ H fun x H1 => tl σ H1 fun l H2 => th σ H2 fun u H3 => r x l u H3 Q
/-- a[lo:hi], any a -/
theorem pe_slice {r : V → Option Int → Option Int → Hp → VK → Prop} (hr : SlR X r) (he : PE X e te) (hl : PO X lo tl) (hu : PO X hi th) : PE X (.Subscript e (.Slice lo hi none p2) pos) (tSl r te tl th) := by
  intro pins s σ H Q I h
  refine Subscript_ (thn (he pins s σ H _ I h) fun v s1 ⟨x, H1, I1, r1, q1⟩ => ?_)
  refine wpAny_Slice (thn (hl pins s1 σ H1 _ I1 q1) fun vl s2 ⟨l, H2, I2, pl, q2⟩ => thn (hu pins s2 σ H2 _ I2 q2) fun vu s3 ⟨u, H3, I3, pu, q3⟩ => ?_)
  rw [evalPart_none]
  refine wpAny_pure ?_
  have I4 : Inv X pins σ H3 { s3 with heap := s3.heap.push { cls := .type "slice", data := .fields #[vl, vu, .none] } } := I3.kept (t' := s3.toks) fun b ob q => Heap.get?_push_of_some _ q
  obtain ⟨T, id, hT, ht, hg⟩ := hr pins { s3 with heap := s3.heap.push { cls := .type "slice", data := .fields #[vl, vu, .none] } } σ H3 x v vl vu l u s3.heap.objs.size Q I4 r1 (Heap.IsSliceOf.new ..) pl pu q3
  show wpAny (model X.prog X.w) X.A (subscriptTail e (.Slice lo hi none p2) v (.ref s3.heap.objs.size)) (EP X pins σ Q) X.xe { s3 with heap := s3.heap.push { cls := .type "slice", data := .fields #[vl, vu, .none] } }
  exact tail_any (ops := [.ref s3.heap.objs.size, v]) ht hT hg (by with_unfolding_all rfl)

end
end L2

namespace L2
open PySem PySem.Spec PyProof.Rows

/-- the place that an index of any sign means -/
def ixN (n : Nat) (i : Int) : Option Nat := if 0 ≤ i then (if i < n then some i.toNat else none) else if -(n : Int) ≤ i then some (i + n).toNat else none
def atI {α : Type} (xs : List α) (i : Int) : Option α := (ixN xs.length i).bind fun j => xs[j]?
theorem ixN_seq {n : Nat} {i : Int} {j : Nat} (h : ixN n i = some j) : seqIndex? i n = some j ∧ j < n ∧ -(n : Int) ≤ i ∧ i < n := by
  unfold ixN at h
  by_cases h0 : 0 ≤ i
  · rw [if_pos h0] at h
    by_cases h1 : i < n
    · rw [if_pos h1] at h
      have e : i.toNat = j := Option.some.inj h
      exact ⟨by rw [seqIndex_of h0 h1, e], by omega, by omega, h1⟩
    · rw [if_neg h1] at h; cases h
  · rw [if_neg h0] at h
    by_cases h1 : -(n : Int) ≤ i
    · rw [if_pos h1] at h
      have e : (i + n).toNat = j := Option.some.inj h
      exact ⟨by rw [seqIndex_neg (by omega) h1, e], by omega, h1, by omega⟩
    · rw [if_neg h1] at h; cases h
theorem atI_get {α : Type} {xs : List α} {i : Int} {v : α} (h : atI xs i = some v) : ∃ j, seqIndex? i xs.length = some j ∧ xs[j]? = some v ∧ j < xs.length ∧ -(xs.length : Int) ≤ i ∧ i < xs.length := by
  unfold atI at h
  cases e : ixN xs.length i with
  | none => rw [e] at h; cases h
  | some j =>
    rw [e] at h
    obtain ⟨h1, h2, h3, h4⟩ := ixN_seq e
    exact ⟨j, h1, h, h2, h3, h4⟩
theorem atI_nat {α : Type} {xs : List α} {j : Nat} {v : α} (h : xs[j]? = some v) : atI xs (j : Int) = some v := by
  have hj : j < xs.length := (List.getElem?_eq_some_iff.mp h).1
  have e : ixN xs.length (j : Int) = some j := by
    unfold ixN
    rw [if_pos (by omega), if_pos (by omega)]; simp
  unfold atI; rw [e]; exact h
theorem atI_last {α : Type} (xs : List α) (v : α) : atI (xs ++ [v]) (-1) = some v := by
  have hl : (xs ++ [v]).length = xs.length + 1 := by simp
  have e : ixN (xs ++ [v]).length (-1) = some xs.length := by
    unfold ixN
    rw [hl, if_neg (by decide), if_pos (by omega)]
    congr 1
    omega
  unfold atI
  rw [e]
  show (xs ++ [v])[xs.length]? = some v
  simp

/-- what stands as an index of a plain subscript -/
def PlainIx (b : Expr) : Prop := ∀ o i, subscripted b false o i = operate [o, i] (getItem o i)
/-- a subscript by values -/
def IxR (X : Cx) (r : R2) : Prop :=
  ∀ (value slice : Expr) (pins : List (Addr × Obj)) (s : Shared) (σ : St) (H : Hp) (x y : V) (v u : Value) (Q : VK), Inv X pins σ H s → RelV x v → RelV y u → r x y H Q →
    subscripted slice false v u = operate [v, u] (getItem v u) → wpAny (model X.prog X.w) X.A (subscriptTail value slice v u) (EP X pins σ Q) X.xe s
/-- a call of a builtin's method by values: the receiver, the arguments -/
def MtR (X : Cx) (id : String) (r : V → List V → Hp → VK → Prop) : Prop :=
  ∀ (pins : List (Addr × Obj)) (s : Shared) (σ : St) (H : Hp) (x : V) (xs : List V) (v : Value) (us : List Value) (Q : VK), Inv X pins σ H s → RelV x v → Vals xs us → r x xs H Q →
    wpAny (model X.prog X.w) X.A (call (.builtin id) (v :: us)) (EP X pins σ Q) X.xe s
section
variable {X : Cx} {a b : Expr} {ta tb : TE} {pos : Pos}
/-- a[b] -/
theorem pe_ix {r : R2} (hr : IxR X r) (ha : PE X a ta) (hb : PE X b tb) (hs : PlainIx b) : PE X (.Subscript a b pos) (tOp r ta tb) := by
  intro pins s σ H Q I h
  exact Subscript_ (binT ha hb I h fun v u s2 x y H2 I2 rx ry q => hr a b pins s2 σ H2 x y v u Q I2 rx ry q (hs _ _))

def rIxL (K : PySem.W.Frag) : R2 := fun x y H Q => ∃ p xs i v, x = .ref p ∧ y = .int i ∧ SqL K H p xs ∧ atI xs i = some v ∧ Q v H
def rIxT (K : PySem.W.Frag) : R2 := fun x y H Q => ∃ p xs i v, x = .ref p ∧ y = .int i ∧ SqT K H p xs ∧ atI xs i = some v ∧ Q v H
def rIxS : R2 := fun x y H Q => ∃ z i c, x = .str z ∧ y = .int i ∧ z.length ≤ sizeLine ∧ atI z.cps.toList i = some c ∧ Q (.str ⟨#[c]⟩) H
theorem ix_list : IxR X (rIxL X.K) := by
  intro value slice pins s σ H x y v u Q I rx ry h hs
  obtain ⟨p, xs, i, z, rfl, rfl, hq, he, q⟩ := h
  cases rx
  obtain ⟨t, rfl⟩ := ry
  obtain ⟨its, r, pl, hz⟩ := I.list hq
  obtain ⟨j, h1, h2, h3, h4, h5⟩ := atI_get he
  obtain ⟨w, ew, rw'⟩ := r.get h2
  have hl := r.length
  have hn := line63
  have fin : EP X pins σ Q w s := ⟨z, H, I, rw', q⟩
  by_cases h0 : 0 ≤ i
  · have hj : i.toNat = j := by
      rw [seqIndex_of h0 h5] at h1
      exact Option.some.inj h1
    exact item_listR pl.isList h0 (by omega) (by rw [hj]; simpa using ew) fin hs
  · have hj : (i + (its.toArray.size : Int)).toNat = j := by
      rw [seqIndex_neg (by omega) h4] at h1
      rw [List.size_toArray, ← hl]
      exact Option.some.inj h1
    exact subscriptTail_builtinR (x := w) pl.isList.typeIs slot_list_getitem.lookup
      (wpAny_getItem_list_neg (Q := fun r s' => r = w ∧ EP X pins σ Q r s') pl.isList (by omega) (by rw [List.size_toArray] <;> omega) (by omega) (by rw [hj]; simpa using ew) ⟨rfl, fin⟩) hs
theorem ix_tup : IxR X (rIxT X.K) := by
  intro value slice pins s σ H x y v u Q I rx ry h hs
  obtain ⟨p, xs, i, z, rfl, rfl, hq, he, q⟩ := h
  cases rx
  obtain ⟨t, rfl⟩ := ry
  obtain ⟨its, r, pl, hz⟩ := I.tuple hq
  obtain ⟨j, h1, h2, h3, h4, h5⟩ := atI_get he
  obtain ⟨w, ew, rw'⟩ := r.get h2
  have hl := r.length
  have hn := line63
  have fin : EP X pins σ Q w s := ⟨z, H, I, rw', q⟩
  exact subscriptTail_builtinR (x := w) pl.typeIs slot_tuple_getitem.lookup
    (getItem_tuple (j := j) (Q := fun r s' => r = w ∧ EP X pins σ Q r s') pl (by omega) (by omega) (by rw [List.size_toArray, ← hl]; exact h1) (by simpa using ew) ⟨rfl, fin⟩) hs
theorem ix_str : IxR X rIxS := by
  intro value slice pins s σ H x y v u Q I rx ry h hs
  obtain ⟨z, i, c, rfl, rfl, hz, he, q⟩ := h
  obtain ⟨t, rfl⟩ := rx
  obtain ⟨t', rfl⟩ := ry
  obtain ⟨j, h1, h2, h3, h4, h5⟩ := atI_get he
  have hl : z.cps.toList.length = z.length := by simp [Str.length]
  rw [hl] at h1 h4 h5
  have hn := line63
  exact tail_any (typeIs_str s z t) slot_str_getitem.lookup (getItem_str (c := c) (by
    have e1 : decide (i < -(2 ^ 63 : Int)) = false := decide_eq_false (by omega)
    have e2 : decide (i ≥ 2 ^ 63) = false := decide_eq_false (by omega)
    rw [e1, e2, Bool.or_false]) (by rw [h1]; simpa using h2) ⟨.str ⟨#[c]⟩, H, I.tok _, ⟨_, rfl⟩, q⟩) hs
/-- the list's object behind a store -/
theorem mapSeq_set (its : List Value) (n j : Nat) (u : Value) : Obj.mapSeq (·.setIfInBounds j u) { cls := .type "list", data := .seq its.toArray n } = { cls := .type "list", data := .seq (its.set j u).toArray n } := by
  simp [Obj.mapSeq]
theorem Inv.lst {pins : List (Addr × Obj)} {σ : St} {H : Hp} {s : Shared} {p : Addr} {xs : List V} (I : Inv X pins σ H s) (h : H p = some (.lst xs)) :
    ∃ (its : List Value) (n : Nat), Vals xs its ∧ s.heap.get? p = some { cls := .type "list", data := .seq its.toArray n } ∧ xs.length ≤ sizeLine := by
  obtain ⟨z, its, n, r, e⟩ := I.hok p _ h
  exact ⟨its, n, r, e, z⟩
/-- the list at p is written by an update of its object -/
theorem Inv.lstUpd {pins : List (Addr × Obj)} {σ : St} {H : Hp} {s : Shared} {p : Addr} {xs ys : List V} {its its' : List Value} {n n' : Nat} {f : Obj → Obj} (I : Inv X pins σ H s) (h : H p = some (.lst xs))
    (ho : s.heap.get? p = some { cls := .type "list", data := .seq its.toArray n }) (hf : f { cls := .type "list", data := .seq its.toArray n } = { cls := .type "list", data := .seq its'.toArray n' }) (r : Vals ys its') (hz : ys.length ≤ sizeLine) (t : Nat) :
    Inv X pins σ (upd H p (.lst ys)) { s with heap := s.heap.update p f, toks := t } := by
  have e : (s.heap.update p f).get? p = some { cls := .type "list", data := .seq its'.toArray n' } := by
    rw [Heap.get?_update_self f ho (by rw [hf] <;> rfl), hf]
  refine I.write (x := p) (e := p) (by rw [h]; trivial) (.inl rfl) (fun b u hb q => (Heap.get?_update_other _ _ (Ne.symm hb)).trans q) ⟨_, e⟩ ?_
  exact ⟨hz, its', n', r, e⟩
def rSetL : V → V → V → Hp → (Hp → Prop) → Prop := fun o i v H Q => ∃ p xs k j, o = .ref p ∧ i = .int k ∧ H p = some (.lst xs) ∧ ixN xs.length k = some j ∧ Q (upd H p (.lst (xs.set j v)))
theorem set_list : PSet X rSetL := by
  intro pins s σ H o i v ov iv u Q I ro ri rv h
  obtain ⟨p, xs, k, j, rfl, rfl, hp, hj, q⟩ := h
  cases ro
  obtain ⟨t, rfl⟩ := ri
  obtain ⟨its, n, r, ho, hz⟩ := I.lst hp
  obtain ⟨h1, h2, h3, h4⟩ := ixN_seq hj
  have hl := r.length
  have hn := line63
  have I' : Inv X pins σ (upd H p (.lst (xs.set j v))) { s with heap := s.heap.update p (Obj.mapSeq (·.setIfInBounds j u)) } :=
    I.lstUpd hp ho (mapSeq_set its n j u) (r.set rv j) (by rw [List.length_set]; exact hz) s.toks
  by_cases h0 : 0 ≤ k
  · have hk : k.toNat = j := by
      rw [seqIndex_of h0 h4] at h1
      exact Option.some.inj h1
    exact PySem.W.ki_setAt ho h0 (by omega) (by rw [List.size_toArray, ← hl]; exact h4) (by rw [hk]; exact ⟨_, I', q⟩)
  · have hk : (k + (its.toArray.size : Int)).toNat = j := by
      rw [seqIndex_neg (by omega) h3] at h1
      rw [List.size_toArray, ← hl]
      exact Option.some.inj h1
    exact PySem.W.ki_setBack ho (by omega) (by rw [List.size_toArray, ← hl]; exact h3) (by omega) (by rw [hk]; exact ⟨_, I', q⟩)

def flatV : V → Bool
  | .non => true
  | .bl _ => true
  | .int _ => true
  | .str _ => true
  | _ => false
/-- == of flat values -/
def eqV : V → V → Bool
  | .non, .non => true
  | .bl a, .bl b => a == b
  | .bl a, .int b => (if a then 1 else 0) == b
  | .int a, .bl b => a == (if b then 1 else 0)
  | .int a, .int b => a == b
  | .str a, .str b => a == b
  | _, _ => false
theorem eqAt_V {A : Around} {s : Shared} {y x : V} {u v : Value} (ry : RelV y u) (rx : RelV x v) (fy : flatV y = true) (fx : flatV x = true) : SeqAt.EqAt A s u v (eqV y x) := by
  cases y with
  | non =>
    cases ry
    cases x with
    | non => cases rx; exact SeqAt.EqAt.same _
    | bl b => cases rx; exact SeqAt.EqAt.none_bool b
    | int b => obtain ⟨t, rfl⟩ := rx; exact SeqAt.EqAt.none_int b t
    | str b => obtain ⟨t, rfl⟩ := rx; exact SeqAt.EqAt.none_str b t
    | _ => exact absurd (show false = true from fx) Bool.false_ne_true
  | bl a =>
    cases ry
    cases x with
    | non => cases rx; exact SeqAt.EqAt.bool_none a
    | bl b => cases rx; exact SeqAt.EqAt.bool_bool a b
    | int b => obtain ⟨t, rfl⟩ := rx; exact SeqAt.EqAt.bool_int a b t
    | str b => obtain ⟨t, rfl⟩ := rx; exact SeqAt.EqAt.bool_str a b t
    | _ => exact absurd (show false = true from fx) Bool.false_ne_true
  | int a =>
    obtain ⟨t', rfl⟩ := ry
    cases x with
    | non => cases rx; exact SeqAt.EqAt.int_none a t'
    | bl b => cases rx; exact SeqAt.EqAt.int_bool a t' b
    | int b => obtain ⟨t, rfl⟩ := rx; exact SeqAt.EqAt.int_int a t' b t
    | str b => obtain ⟨t, rfl⟩ := rx; exact SeqAt.EqAt.int_str a t' b t
    | _ => exact absurd (show false = true from fx) Bool.false_ne_true
  | str a =>
    obtain ⟨t', rfl⟩ := ry
    cases x with
    | non => cases rx; exact SeqAt.EqAt.str_none a t'
    | bl b => cases rx; exact SeqAt.EqAt.str_bool a t' b
    | int b => obtain ⟨t, rfl⟩ := rx; exact SeqAt.EqAt.str_int a t' b t
    | str b => obtain ⟨t, rfl⟩ := rx; exact SeqAt.EqAt.str_str a t' b t
    | _ => exact absurd (show false = true from fx) Bool.false_ne_true
  | _ => exact absurd (show false = true from fy) Bool.false_ne_true
/-- the items' answers, read off the values (a value's own answer does not lean on its token) -/
def eqU (x : V) (u : Value) : Bool := match u with
  | .none => eqV .non x
  | .bool b => eqV (.bl b) x
  | .int i _ => eqV (.int i) x
  | .str z _ => eqV (.str z) x
  | _ => false
theorem eqU_of {x y : V} {u : Value} (r : RelV y u) (f : flatV y = true) : eqU x u = eqV y x := by
  cases y with
  | non => cases r; rfl
  | bl b => cases r; rfl
  | int i => obtain ⟨t, rfl⟩ := r; rfl
  | str z => obtain ⟨t, rfl⟩ := r; rfl
  | _ => exact absurd (show false = true from f) Bool.false_ne_true
theorem any_eqU {x : V} : ∀ {xs : List V} {us : List Value}, Vals xs us → xs.all flatV = true → us.any (eqU x) = xs.any fun y => eqV y x
  | _, _, .nil, _ => rfl
  | y :: xs, u :: us, .cons r t, f => by
    rw [List.all_cons, Bool.and_eq_true] at f
    rw [List.any_cons, List.any_cons, eqU_of r f.1, any_eqU t f.2]
theorem mem_eqAt {A : Around} {s : Shared} {x : V} {v : Value} (rx : RelV x v) (fx : flatV x = true) : ∀ {xs : List V} {us : List Value}, Vals xs us → xs.all flatV = true → ∀ u ∈ us, SeqAt.EqAt A s u v (eqU x u)
  | _, _, .nil, _ => fun u hu => by cases hu
  | y :: xs, u :: us, .cons r t, f => fun u' hu => by
    rw [List.all_cons, Bool.and_eq_true] at f
    rcases List.mem_cons.mp hu with rfl | hu
    · rw [eqU_of r f.1]; exact eqAt_V r rx f.1 fx
    · exact mem_eqAt rx fx t f.2 u' hu
def inV (x : V) (xs : List V) : Bool := xs.any fun y => eqV y x
/-- x in a list or tuple of flat items -/
def rIn (K : PySem.W.Frag) (neg : Bool) : R2 := fun x y H Q => ∃ p xs, y = .ref p ∧ (SqL K H p xs ∨ SqT K H p xs) ∧ flatV x = true ∧ xs.all flatV = true ∧ Q (.bl (if neg then !inV x xs else inV x xs)) H
theorem op_in_seq : OpR X (compareOp .In) (rIn X.K false) := by
  intro pins s σ H x y v u Q I rx ry h
  obtain ⟨p, xs, rfl, hq, fx, fs, q⟩ := h
  cases ry
  rcases hq with hq | hq
  · obtain ⟨its, r, pl, hz⟩ := I.list hq
    refine SeqAt.in_listAt (eqU x) pl.isList (fun w hw => mem_eqAt rx fx r fs w (by simpa using hw)) ⟨.bl _, H, I, rfl, ?_⟩
    rw [show its.toArray.any (eqU x) = its.any (eqU x) by simp, any_eqU r fs]
    exact q
  · obtain ⟨its, r, pl, hz⟩ := I.tuple hq
    refine SeqAt.in_tupleAt (eqU x) pl (fun w hw => mem_eqAt rx fx r fs w (by simpa using hw)) ⟨.bl _, H, I, rfl, ?_⟩
    rw [show its.toArray.any (eqU x) = its.any (eqU x) by simp, any_eqU r fs]
    exact q
theorem op_notIn_str : OpR X (compareOp .NotIn) (fun x y H Q => ∃ i j, x = .str i ∧ y = .str j ∧ Q (.bl (!(!(Builtin.Str.occurrences j i 0 j.length 1).isEmpty))) H) := by
  intro pins s σ H x y v u Q I rx ry h
  obtain ⟨i, j, rfl, rfl, q⟩ := h
  obtain ⟨t, rfl⟩ := rx
  obtain ⟨t', rfl⟩ := ry
  exact notIn_str ⟨.bl _, H, I, rfl, q⟩

theorem call_len_seq : CallR X (.builtin "len") (fun xs H Q => ∃ p ys, xs = [.ref p] ∧ (SqL X.K H p ys ∨ SqT X.K H p ys) ∧ Q (.int ys.length) H) := by
  intro pins s σ H xs us Q I r h
  obtain ⟨p, ys, rfl, hq, q⟩ := h
  obtain ⟨u, rfl, rx⟩ := vals1 r
  cases rx
  have hn := line63
  rcases hq with hq | hq
  · obtain ⟨its, r', pl, hz⟩ := I.list hq
    have hlen := r'.length
    exact Calls.call_len_list pl.isList (by simp only [List.size_toArray] <;> omega) ⟨.int ys.length, H, I.tok _, ⟨s.toks + 1, by rw [List.size_toArray, hlen]⟩, q⟩
  · obtain ⟨its, r', pl, hz⟩ := I.tuple hq
    have hlen := r'.length
    exact len_tuple pl (by simp only [List.size_toArray] <;> omega) ⟨.int ys.length, H, I.tok _, ⟨s.toks + 1, by rw [List.size_toArray, hlen]⟩, q⟩
theorem call_len_str : CallR X (.builtin "len") (fun xs H Q => ∃ z, xs = [.str z] ∧ z.length ≤ sizeLine ∧ Q (.int z.length) H) := by
  intro pins s σ H xs us Q I r h
  obtain ⟨z, rfl, hz, q⟩ := h
  obtain ⟨u, rfl, t, rfl⟩ := vals1 r
  have hn := line63
  exact len_str (by omega) ⟨.int z.length, H, I.tok _, ⟨_, rfl⟩, q⟩
theorem call_list_of : CallR X (.type "list") (fun xs H Q => ∃ p ys, xs = [.ref p] ∧ (SqL X.K H p ys ∨ SqT X.K H p ys) ∧ ∀ l, H l = none → Q (.ref l) (upd H l (.lst ys))) := by
  intro pins s σ H xs us Q I r h
  obtain ⟨p, ys, rfl, hq, q⟩ := h
  obtain ⟨u, rfl, rx⟩ := vals1 r
  cases rx
  have fin : ∀ (its : List Value), Vals ys its → ys.length ≤ sizeLine → ∀ (h' : Heap) (c' : Nat), (∀ b o', s.heap.get? b = some o' → h'.get? b = some o') →
      h'.get? s.heap.objs.size = some { cls := .type "list", dict := none, data := .seq its.toArray c', slots := #[] } → EP X pins σ Q (.ref s.heap.objs.size) { s with heap := h' } := fun its r' hz h' c' kp e =>
    ⟨.ref s.heap.objs.size, _, I.laid (t' := s.toks) kp (Nat.le_refl _) (show ObjOk X.prog X.w _ h' _ (.lst ys) from ⟨hz, its, c', r', e⟩), rfl, q _ (I.hok.fresh (Nat.le_refl _))⟩
  rcases hq with hq | hq
  · obtain ⟨its, r', pl, hz⟩ := I.list hq
    have hlen := r'.length
    obtain ⟨o, ho, hc, n, hd⟩ := pl.isList
    exact call_list_seq p (.inl rfl) ho hc hd (fun h' c' kp e => fin its r' hz h' c' kp e) (by simp only [List.size_toArray] <;> omega)
  · obtain ⟨its, r', pl, hz⟩ := I.tuple hq
    have hlen := r'.length
    obtain ⟨o, ho, hc, n, hd⟩ := pl
    exact call_list_seq p (.inr rfl) ho hc hd (fun h' c' kp e => fin its r' hz h' c' kp e) (by simp only [List.size_toArray] <;> omega)
theorem call_tuple_of : CallR X (.type "tuple") (fun xs H Q => ∃ p ys, xs = [.ref p] ∧ ((SqL X.K H p ys ∧ ∀ l, H l = none → Q (.ref l) (upd H l (.tup ys))) ∨ (SqT X.K H p ys ∧ Q (.ref p) H))) := by
  intro pins s σ H xs us Q I r h
  obtain ⟨p, ys, rfl, h⟩ := h
  obtain ⟨u, rfl, rx⟩ := vals1 r
  cases rx
  rcases h with ⟨hq, q⟩ | ⟨hq, q⟩
  · obtain ⟨its, r', pl, hz⟩ := I.list hq
    have hlen := r'.length
    refine call_tuple_list pl.isList (fun h' kp => ?_) (by simp only [List.size_toArray] <;> omega)
    have I1 : Inv X pins σ H { s with heap := h' } := I.kept (t' := s.toks) kp
    have I2 : Inv X pins σ (upd H h'.objs.size (.tup ys)) { s with heap := h'.push { cls := .type "tuple", data := .seq its.toArray } } :=
      I1.laid (t' := s.toks) (fun b o e => Heap.get?_push_of_some _ e) (Nat.le_refl _) (show ObjOk X.prog X.w _ _ _ (.tup ys) from ⟨hz, its, r', IsTup.new _ _⟩)
    exact ⟨.ref h'.objs.size, _, I2, rfl, q _ (I1.hok.fresh (Nat.le_refl _))⟩
  · obtain ⟨its, r', pl, hz⟩ := I.tuple hq
    exact call_tuple_same pl ⟨.ref p, H, I, rfl, q⟩

/-- the value is of that builtin type -/
def tyV (K : PySem.W.Frag) (T : String) (x : V) (H : Hp) : Prop := match x with
  | .str _ => T = "str"
  | .int _ => T = "int"
  | .ref p => (T = "list" ∧ ∃ xs, SqL K H p xs) ∨ (T = "tuple" ∧ ∃ o, K.lookup p = some o ∧ o.cls = .type "tuple" ∧ o.dict = none) ∨
      (T = "dict" ∧ ((∃ kvs, H p = some (.dK kvs)) ∨ ∃ kvs, H p = some (.dT kvs))) ∨ (T = "set" ∧ ∃ S n, H p = some (.set S n))
  | _ => False
theorem tyV_is {pins : List (Addr × Obj)} {σ : St} {H : Hp} {s : Shared} {T : String} {x : V} {v : Value} (I : Inv X pins σ H s) (r : RelV x v) (ty : tyV X.K T x H) :
    s.TypeIs v T ∧ ∀ a, v = .ref a → ∃ ob, s.heap.get? a = some ob ∧ ob.dict = none := by
  cases x with
  | str z =>
    obtain ⟨t, rfl⟩ := r
    cases (show T = "str" from ty)
    exact ⟨typeIs_str s z t, fun _ e => nomatch e⟩
  | int i =>
    obtain ⟨t, rfl⟩ := r
    cases (show T = "int" from ty)
    exact ⟨typeIs_int s i t, fun _ e => nomatch e⟩
  | ref p =>
    cases r
    rcases ty with ⟨rfl, xs, hq⟩ | ⟨rfl, o, hk, hc, hd⟩ | ⟨rfl, hk⟩ | ⟨rfl, S, n, hk⟩
    · obtain ⟨its, _, pl, _⟩ := I.list hq
      refine ⟨pl.isList.typeIs, fun a e => ?_⟩
      cases e
      obtain ⟨o, n, e, c, hd, _⟩ := pl
      exact ⟨o, e, hd⟩
    · refine ⟨⟨o, I.kIn p o hk, hc⟩, fun a e => ?_⟩
      cases e
      exact ⟨o, I.kIn _ o hk, hd⟩
    · have z : ∃ o, s.heap.get? p = some o ∧ o.ExactDict := by
        rcases hk with ⟨kvs, hk⟩ | ⟨kvs, hk⟩
        · obtain ⟨_, _, _, _, o, _, _, e, ex, _⟩ := I.hok p _ hk
          exact ⟨o, e, ex⟩
        · obtain ⟨_, _, _, _, o, _, _, e, ex, _⟩ := I.hok p _ hk
          exact ⟨o, e, ex⟩
      obtain ⟨o, e, ex⟩ := z
      refine ⟨⟨o, e, ex.1⟩, fun a e2 => ?_⟩
      cases e2
      exact ⟨o, e, ex.2.1⟩
    · obtain ⟨o, _, _, _, e, ex, _⟩ := I.hok p _ hk
      refine ⟨⟨o, e, ex.1⟩, fun a e2 => ?_⟩
      cases e2
      exact ⟨o, e, ex.2.1⟩
  | _ => exact False.elim ty
def tBM0 (K : PySem.W.Frag) (T : String) (r : V → List V → Hp → VK → Prop) (to : TE) : TE := fun σ H Q => to σ H fun x H1 => tyV K T x H1 ∧ r x [] H1 Q
def tBM (K : PySem.W.Frag) (T : String) (r : V → List V → Hp → VK → Prop) (to : TE) (t : TA) : TE := fun σ H Q => to σ H fun x H1 => tyV K T x H1 ∧ t σ H1 fun xs H2 => r x xs H2 Q
variable {o e : Expr} {es : List Expr} {to : TE} {t : TA} {name : Str} {apos cpos : Pos} {T id : String} {r : V → List V → Hp → VK → Prop}
theorem pe_bm0 (pa : PlainAttrs T) (slot : Slot T name id) (hty : typeOf (.builtin id) = pure (.type "method_descriptor")) (hm : MtR X id r) (ho : PE X o to)
    (hbase : attributeBase o name X.env (eval o X.env) = eval o X.env := by rfl) (hline : (apos.endLine == cpos.line) = true := by rfl) : PE X (.Call (.Attribute o name apos) [] [] cpos) (tBM0 X.K T r to) := by
  intro pins s σ H Q I h
  refine wpAny_Call_method0_late hbase hline (thn (ho pins s σ H _ I h) fun v s1 ⟨x, H1, I1, r1, ty, q1⟩ => ?_)
  obtain ⟨h1, h2⟩ := tyV_is I1 r1 ty
  exact ⟨T, id, pa, slot, hty, h1, h2, Calls.callWith_builtin rfl (PySem.evalArgs_none (hm pins s1 σ H1 x [] v [] Q I1 r1 .nil q1))⟩
theorem pe_bm (pa : PlainAttrs T) (slot : Slot T name id) (hty : typeOf (.builtin id) = pure (.type "method_descriptor")) (hm : MtR X id r) (ho : PE X o to) (ha : PA X (e :: es) t)
    (hbase : attributeBase o name X.env (eval o X.env) = eval o X.env := by rfl)
    (hfew : ((backTo cpos (starEach (e :: es) X.env)).all (fun x => !x.1) && (backToKw cpos (keywordEach [] X.env)).all (fun x => x.1.isSome)
      && decide ((e :: es).length + ([] : List Keyword).length + (if ([] : List Keyword).isEmpty then 0 else 1) < 30)) = true := by rfl)
    (hline : (apos.endLine == cpos.line) = true := by rfl) (hs : starEach (e :: es) X.env = (false, eval e X.env) :: starEach es X.env := by rfl) (hplain : (backTo cpos (starEach es X.env)).any (·.1) = false := by rfl) :
    PE X (.Call (.Attribute o name apos) (e :: es) [] cpos) (tBM X.K T r to t) := by
  intro pins s σ H Q I h
  refine wpAny_Call_method_late hbase hfew hline rfl (thn (ho pins s σ H _ I h) fun v s1 ⟨x, H1, I1, r1, ty, q1⟩ => ?_)
  obtain ⟨h1, h2⟩ := tyV_is I1 r1 ty
  refine ⟨T, id, pa, slot, hty, h1, h2, ?_⟩
  have hA := ha cpos pins s1 σ H1 _ I1 q1
  rw [hs] at hA ⊢
  refine Calls.callWith_builtin (by show (false || (backTo cpos (starEach es X.env)).any (·.1)) = false; rw [hplain] <;> rfl) (Calls.evalArgs_plain ?_)
  exact thn hA fun us s2 ⟨vs, H2, I2, r2, q2⟩ => hm pins s2 σ H2 x vs v us Q I2 r1 r2 q2
/- xs.append(e), list.index on a module's tuple .. are MtR facts of 06m -/
end
end L2

namespace L2
open PySem PySem.Spec PyProof.Rows

def MtM (X : Cx) (id : String) (r : V → List V → Hp → VK → Prop) : Prop :=
  ∀ (pins : List (Addr × Obj)) (s : Shared) (σ : St) (H : Hp) (x : V) (xs : List V) (v : Value) (us : List Value) (Q : VK), Inv X pins σ H s → RelV x v → Vals xs us → r x xs H Q →
    wpAny (model X.prog X.w) X.A (call (.builtin id) (v :: us)) (EP X pins σ Q) X.xe s

theorem Vals.one : ∀ {x : V} {us : List Value}, Vals [x] us → ∃ u, us = [u] ∧ RelV x u
  | _, _, .cons r .nil => ⟨_, rfl, r⟩
theorem Vals.zero : ∀ {us : List Value}, Vals [] us → us = []
  | _, .nil => rfl
theorem Vals.dropLast {xs : List V} {us : List Value} (h : Vals xs us) : Vals xs.dropLast us.dropLast := by
  induction h with
  | nil => exact .nil
  | cons r t ih =>
    cases t with
    | nil => exact .nil
    | cons q t' => exact .cons r ih
theorem Vals.eraseIdx : ∀ {xs : List V} {us : List Value} (i : Nat), Vals xs us → Vals (xs.eraseIdx i) (us.eraseIdx i)
  | _, _, _, .nil => .nil
  | _, _, 0, .cons _ t => t
  | _, _, i + 1, .cons r t => .cons r (Vals.eraseIdx i t)
theorem erase_last {α : Type} (l : List α) : l.eraseIdx (l.length - 1) = l.dropLast := by
  induction l with
  | nil => rfl
  | cons a r ih =>
    cases r with
    | nil => rfl
    | cons b r =>
      have e : (a :: b :: r).length - 1 = ((b :: r).length - 1) + 1 := by
        have h1 : (a :: b :: r).length = r.length + 2 := rfl
        have h2 : (b :: r).length = r.length + 1 := rfl
        omega
      rw [e, List.eraseIdx_cons_succ, ih]
      all_goals rfl
theorem len_erase {α : Type} : ∀ (l : List α) (i : Nat), (l.eraseIdx i).length ≤ l.length
  | [], _ => Nat.le_refl _
  | _ :: _, 0 => Nat.le_succ _
  | _ :: r, i + 1 => Nat.succ_le_succ (len_erase r i)
section
variable {X : Cx} {pins : List (Addr × Obj)} {σ : St} {H : Hp} {s : Shared} {l b : Addr} {xs ys zs : List V}

theorem Inv.lset {its its' : List Value} {n : Nat} {f : Array Value → Array Value} {t' : Nat} (I : Inv X pins σ H s) (hH : H l = some (.lst xs))
    (e : s.heap.get? l = some { cls := .type "list", data := .seq its.toArray n }) (hf : f its.toArray = its'.toArray) (hv : Vals ys its') (hz : ys.length ≤ sizeLine) :
    Inv X pins σ (upd H l (.lst ys)) { s with heap := s.heap.update l (Obj.mapSeq f), toks := t' } := by
  have q := PySem.IsL.update e f
  rw [hf] at q
  refine I.write (x := l) (e := l) (by rw [hH]; exact trivial) (.inl rfl) (fun b' u hb hu => (Heap.get?_update_other s.heap (Obj.mapSeq f) (Ne.symm hb)).trans hu) ⟨_, q⟩ ?_
  exact ⟨hz, its', _, hv, q⟩
theorem Inv.lnew {its : List Value} {t' : Nat} (I : Inv X pins σ H s) (hv : Vals ys its) (hz : ys.length ≤ sizeLine) :
    Inv X pins σ (upd H s.heap.objs.size (.lst ys)) { s with heap := s.heap.push { cls := .type "list", data := .seq its.toArray }, toks := t' } :=
  I.laid (fun _ _ q => Heap.get?_push_of_some _ q) (Nat.le_refl _) ⟨hz, its, 0, hv, Heap.get?_push_size _ rfl⟩
theorem Inv.fresh (I : Inv X pins σ H s) : H s.heap.objs.size = none := I.hok.fresh (Nat.le_refl _)
theorem Inv.lstM (I : Inv X pins σ H s) (hH : H l = some (.lst xs)) : xs.length ≤ sizeLine ∧ ∃ (its : List Value) (n : Nat), Vals xs its ∧ xs.length = its.length ∧ s.heap.get? l = some { cls := .type "list", data := .seq its.toArray n } := by
  obtain ⟨z, its, n, r, e⟩ := I.hok l _ hH
  exact ⟨z, its, n, r, r.length, e⟩

theorem notLongL {n : Nat} (h : n ≤ sizeLine) : Builtin.List.listTooLong n = false := by
  unfold Builtin.List.listTooLong
  exact decide_eq_false (by omega)
end

section
variable {X : Cx}

def rAppend : V → List V → Hp → VK → Prop := fun x vs H Q => ∃ l xs y, x = .ref l ∧ vs = [y] ∧ H l = some (.lst xs) ∧ xs.length < sizeLine ∧ Q .non (upd H l (.lst (xs ++ [y])))
theorem mt_append : MtM X "list.append" rAppend := by
  intro pins s σ H x vs v us Q I rx rv h
  obtain ⟨l, xs, y, rfl, rfl, hH, hz, q⟩ := h
  cases rx
  obtain ⟨u, rfl, ru⟩ := rv.one
  obtain ⟨z, its, n, r, hl, e⟩ := I.lstM hH
  refine call_meets F.slot_list_append ⟨_, e, rfl⟩ F.entry_list_append (F.args_list_append_2 _ _) (PySem.list_append l its.toArray n u (by rw [List.size_toArray]; omega)) ⟨e, ?_⟩
  refine ⟨.non, _, I.lset (its' := its ++ [u]) hH e (by simp) (r.append (.cons ru .nil)) ?_, rfl, q⟩
  rw [List.length_append, List.length_singleton]
  omega

def rExtend : V → List V → Hp → VK → Prop := fun x vs H Q => ∃ l b xs zs, x = .ref l ∧ vs = [.ref b] ∧ H l = some (.lst xs) ∧ H b = some (.lst zs) ∧ xs.length + zs.length ≤ sizeLine ∧ Q .non (upd H l (.lst (xs ++ zs)))
theorem mt_extend : MtM X "list.extend" rExtend := by
  intro pins s σ H x vs v us Q I rx rv h
  obtain ⟨l, b, xs, zs, rfl, rfl, hH, hB, hz, q⟩ := h
  cases rx
  obtain ⟨u, rfl, ru⟩ := rv.one
  cases ru
  obtain ⟨z, its, n, r, hl, e⟩ := I.lstM hH
  obtain ⟨z2, its2, n2, r2, hl2, e2⟩ := I.lstM hB
  have hsz : its.toArray.size + its2.toArray.size ≤ sizeLine := by rw [List.size_toArray, List.size_toArray]; omega
  have hlong : ¬ (!its.toArray.isEmpty && Builtin.List.listTooLong (its.toArray.size + its2.toArray.size)) = true := by
    rw [notLongL hsz, Bool.and_false]
    exact Bool.false_ne_true
  refine call_meets F.slot_list_extend ⟨_, e, rfl⟩ F.entry_list_extend (F.args_list_extend_2 _ _)
    (AutoSeq1.list_extend_list_list_0 l its.toArray n b its2.toArray n2 hlong (by rw [List.size_toArray]; omega) (by omega)) ⟨e, e2, ?_⟩
  refine ⟨.non, _, I.lset (its' := its ++ its2) hH e (by simp) (r.append r2) ?_, rfl, q⟩
  rw [List.length_append]
  omega

def rPop : V → List V → Hp → VK → Prop := fun x vs H Q => ∃ l xs y, x = .ref l ∧ vs = [] ∧ H l = some (.lst xs) ∧ xs[xs.length - 1]? = some y ∧ Q y (upd H l (.lst xs.dropLast))
theorem mt_pop : MtM X "list.pop" rPop := by
  intro pins s σ H x vs v us Q I rx rv h
  obtain ⟨l, xs, y, rfl, rfl, hH, hy, q⟩ := h
  cases rx
  have hus := rv.zero
  subst hus
  obtain ⟨z, its, n, r, hl, e⟩ := I.lstM hH
  obtain ⟨u, hu, ru⟩ := r.get hy
  have hy' : its.toArray[its.toArray.size - 1]? = some u := by
    show its.toArray[its.length - 1]? = some u
    rw [← Array.getElem?_toList, ← hl]
    exact hu
  refine call_meets F.slot_list_pop ⟨_, e, rfl⟩ F.entry_list_pop (F.args_list_pop_1 _) (MeetsSeq.list_pop_last l its.toArray n u hy' (by rw [List.size_toArray]; omega)) ⟨e, ?_⟩
  refine ⟨y, _, I.lset (its' := its.dropLast) hH e ?_ r.dropLast ?_, ru, q⟩
  · show its.toArray.eraseIdxIfInBounds (its.toArray.size - 1) = its.dropLast.toArray
    rw [List.size_toArray, List.eraseIdxIfInBounds_toArray, erase_last]
  · rw [List.length_dropLast]
    omega

def rPopAt : V → List V → Hp → VK → Prop := fun x vs H Q => ∃ l xs i k y, x = .ref l ∧ vs = [.int i] ∧ H l = some (.lst xs) ∧ -(2 ^ 63) ≤ i ∧ i < 2 ^ 63 ∧ seqIndex? i xs.length = some k ∧ xs[k]? = some y ∧ Q y (upd H l (.lst (xs.eraseIdx k)))
theorem mt_popAt : MtM X "list.pop" rPopAt := by
  intro pins s σ H x vs v us Q I rx rv h
  obtain ⟨l, xs, i, k, y, rfl, rfl, hH, h1, h2, hk, hy, q⟩ := h
  cases rx
  obtain ⟨u, rfl, ru⟩ := rv.one
  obtain ⟨t, rfl⟩ := ru
  obtain ⟨z, its, n, r, hl, e⟩ := I.lstM hH
  obtain ⟨w, hw, rw'⟩ := r.get hy
  refine call_meets F.slot_list_pop ⟨_, e, rfl⟩ F.entry_list_pop (F.args_list_pop_2 _ _)
    (MeetsSeq.list_pop_at l its.toArray n i t k w (fitsIndex_both h1 h2) (by rw [List.size_toArray, ← hl]; exact hk) (by rw [← Array.getElem?_toList]; exact hw) (by rw [List.size_toArray]; omega)) ⟨e, ?_⟩
  refine ⟨y, _, I.lset (its' := its.eraseIdx k) hH e ?_ (r.eraseIdx k) ?_, rw', q⟩
  · show its.toArray.eraseIdxIfInBounds k = (its.eraseIdx k).toArray
    rw [List.eraseIdxIfInBounds_toArray]
  · have := len_erase xs k
    omega

def rCat : R2 := fun x y H Q => ∃ l b xs zs, x = .ref l ∧ y = .ref b ∧ H l = some (.lst xs) ∧ H b = some (.lst zs) ∧ xs.length + zs.length ≤ sizeLine ∧ ∀ p, H p = none → Q (.ref p) (upd H p (.lst (xs ++ zs)))
theorem op_cat : OpR X (binaryOp .Add) rCat := by
  intro pins s σ H x y v u Q I rx ry h
  obtain ⟨l, b, xs, zs, rfl, rfl, hH, hB, hz, q⟩ := h
  cases rx
  cases ry
  obtain ⟨z, its, n, r, hl, e⟩ := I.lstM hH
  obtain ⟨z2, its2, n2, r2, hl2, e2⟩ := I.lstM hB
  refine PySem.P.add_list e e2 ?_ (by rw [List.size_toArray, List.size_toArray]; omega)
  have ea : its.toArray ++ its2.toArray = (its ++ its2).toArray := by simp
  rw [ea]
  exact ⟨.ref _, _, I.lnew (t' := s.toks) (r.append r2) (by rw [List.length_append]; omega), rfl, q _ I.fresh⟩
end

section
variable {prog : Program} {w : World} {A : Around} {E : Value → Shared → Prop} {s : Shared}
end

section
variable {X : Cx}
end
end L2

namespace L2
open PySem PySem.Spec PyProof.Rows

section
variable {κ : Type} [DecidableEq κ]
end


section
variable {P : Program} {w : World} {H : Hp} {h : Heap} {a : Addr}
end

section
variable {X : Cx} {pins : List (Addr × Obj)} {σ : St} {H : Hp} {s : Shared} {a : Addr} {y v : V} {u r : Value} {o : Option V} {A : Around} {E : Value → Shared → Prop}

end

section
variable {X : Cx} {pins : List (Addr × Obj)} {σ : St} {H : Hp} {s : Shared} {a : Addr} {kvs : List (Key × V)} {k : Key} {u : Value} {A : Around} {E : Value → Shared → Prop}
end


section
variable {X : Cx} {o i e value : Expr} {pos pos' tpos : Pos} {td ty tv : TE}
end


section
variable {X : Cx} {pos : Pos}
end

section
variable {X : Cx} {pins : List (Addr × Obj)} {σ : St} {H : Hp} {s : Shared} {a : Addr} {y d : V} {u r : Value} {o : Option V} {A : Around} {E : Value → Shared → Prop}
end

section
variable {X : Cx} {o e f : Expr} {apos cpos : Pos} {td ty tx : TE}
end

section
variable {X : Cx} {pins : List (Addr × Obj)} {σ : St} {H : Hp} {s : Shared} {a : Addr} {kvs : List (Key × V)} {A : Around} {E : Value → Shared → Prop}
end


section
variable {X : Cx} {pins : List (Addr × Obj)} {σ : St} {H : Hp} {s : Shared} {a : Addr} {y : V} {u : Value} {A : Around} {E : Value → Shared → Prop}
end
end L2

namespace Att
open PySem PySem.W PySem.Calls PyProof.Rows

theorem ints_of_wellAll {P : Params} {h : Heap} : ∀ (ns : List Int) (vs : List Value), WellAll P h vs (ns.map WData.int) → IntsAre vs ns := by
  intro ns
  induction ns with
  | nil =>
    intro vs w
    rw [List.map_nil] at w
    cases w
    exact .nil
  | cons n ns ih =>
    intro vs w
    rw [List.map_cons] at w
    cases w with
    | cons a b =>
      cases a
      exact .cons _ _ (ih _ b)

theorem script_of {l : OpenLaw} {n : Nat} (hn : l.most = some n) {P : Params} {h : Heap} {args : List WData} {vals : List Value}
    (hpre : l.row.toRowW.claim.pre args = true) (hwl : WellAll P h vals args) :
    ∃ a vs ns, vals = [Value.ref a] ∧ args = [WData.list (ns.map WData.int)] ∧ h.get? a = some { cls := .type "list", data := .seq vs.toArray } ∧ IntsAre vs ns ∧ ns.length ≤ n := by
  have hsh : WShape.hasAll [] args [.list .int] = true := (pre_splitW hpre).1
  have hc : l.pre.holds [] { args := args } = true := (pre_splitW hpre).2
  obtain ⟨d, r, rfl, h1, h2⟩ := hasAllW_cons hsh
  obtain rfl := hasAllW_nil h2
  obtain ⟨xs, rfl, h3⟩ := hasW_list h1
  obtain ⟨ns, rfl⟩ := items_int h3
  have hlen : ns.length ≤ n := by
    unfold OpenLaw.pre at hc
    have h4 : (WTm.not (.lt (.lit (.int (n : Int))) (.len (.arg 0)))).holds [] { args := [.list (ns.map .int)] } = true := by
      have h4 := (holds_andW hc).1
      rw [hn] at h4
      exact h4
    have h5 := condW_of h4 (w_not (w_lt w_lit (w_len_list (w_arg rfl))))
    rw [List.length_map] at h5
    refine Nat.le_of_not_lt fun q => ?_
    have q' : (n : Int) < ((ns.length : Nat) : Int) := by omega
    first
      | (rw [decide_eq_true q'] at h5; exact absurd h5 (by decide))
      | (simp at h5; omega)
  cases hwl with
  | cons w1 w2 =>
    cases w2
    cases w1 with
    | list ho hall => exact ⟨_, _, ns, rfl, rfl, ho, ints_of_wellAll ns _ hall, hlen⟩

theorem post_true (l : OpenLaw) (args : List WData) : l.row.toRowW.claim.post args (.bool true) args = true :=
  postW_of (r := l.row.toRowW) (X := (true == true))
    (show WShape.has [] (.bool true) .bool = true by first | rfl | decide | simp [WShape.has, WShape.arms, WShape.armsAll])
    (show (WTm.eq .res (.lit (.bool true))).value [] { args := args, res := some (.bool true), after := args } = some (.bool (true == true)) from w_eq_bool (w_res rfl) w_lit) rfl

/-- the same from a codeAny of the CALL (for a layer whose function contracts speak of calls) -/
theorem attach_call {l : OpenLaw} {n : Nat} {q : Program} {loose : List Str} {XP : (Str → Option Value) → Heap → Prop} {YP : World → Heap → Prop} {d : DefRec}
    (hn : l.most = some n) (hdf : d.params.defaults = [])
    (call : ∀ (w : World) (s₀ s₁ : Shared) (mg mb : Str → Option Value) (fa : Addr) (o : Obj) (pm cd doc : Value) (a : Addr) (vs : List Value) (ns : List Int),
      Ground q loose [] XP w s₀ mg mb s₁.heap → YP w s₁.heap →
      s₁.heap.get? fa = some o → o.data = .func (docDef d.name d.params d.body d.scope pm cd doc) → s₁.heap.CodeRec cd d.name → mg d.name = some (.ref fa) →
      s₁.heap.get? a = some { cls := .type "list", data := .seq vs.toArray } → IntsAre vs ns → ns.length ≤ n → s₁.gens = #[] →
      codeAny (model l.prog w) callerA (.call (.ref fa) ⟨[.ref a], []⟩) (fun r s' => r = .ok (.ret (.bool true)) ∧ OldK s₁.heap s'.heap ∧ s'.os = s₁.os ∧ AllBare s'.gens) s₁) :
    WalkO q loose XP YP l.row.toRowW d [] (fun f vs => PySem.call f vs) := by
  intro w s₀ s₁ mg mb G Y fa o pm cd doc dV kV ho hd hcd hD hmg hg args vals as hpre hlay hrd hwl hlo
  obtain rfl : dV = .none := Dflts.none hD hdf
  obtain rfl : kV = .none := Dflts.noKw hD
  obtain ⟨a, vs, ns, rfl, rfl, hobj, hints, hlen⟩ := script_of hn hpre hwl
  refine enter_call (codeAny_mono (call w s₀ s₁ mg mb fa o pm cd doc a vs ns G Y ho (fd_plain hd) hcd hmg hobj hints hlen hg) fun r s' hq => ?_)
  obtain ⟨rfl, h2, h3, h4⟩ := hq
  exact ⟨.inl ⟨.bool true, .bool true, [], rfl, fun _ => rfl, .bool true, post_true l _, fun _ => ⟨List.Pairwise.nil, fun _ hm => (nomatch hm)⟩⟩, h2, h3, h4⟩

section
variable {prog : Program} {w : World} {A : Around} {E : Value → Shared → Prop} {s : Shared} {K : Frag}

end
end Att

namespace L2
open PySem PySem.Spec PyProof.Rows

theorem vals_ints : ∀ {vs : List Value} {ns : List Int}, IntsAre vs ns → Vals (ns.map V.int) vs
  | _, _, .nil => .nil
  | _, _, .cons n t h => .cons ⟨t, rfl⟩ (vals_ints h)

/-- nothing is tracked but the script, known to the object (or it is an object of the module) -/
def Only (H : Hp) : Prop := ∀ b, H b = none ∨ ∃ o xs, H b = some (.frz o (.lst xs))

/-- THE HEAD: the law's promise, at the heap behind the top. F, the promise of the law's def, may use that base is part of the heap (so K.In base, base.Ns mainGlobals mg stand in Mod) -/
theorem law_call {P : Program} {w : World} {K : PySem.W.Frag} {mg mb : Str → Option Value} {CX : CXT} {k : Nat} {fa a : Addr} {fd : FuncData} {x : Str} {sp : Sp} {s₁ : Shared} {vs : List Value} {ns : List Int}
    (KX : K.In s₁.heap) (hns : s₁.heap.Ns mainGlobals mg) (hb : s₁.heap.Ns builtinsNs mb) (hbb : ∀ x : Str, x ≠ "__name__" → mb x = bootBuiltins x) (hlim : s₁.heap.NoLimit) (hg : s₁.gens = #[])
    (ha : s₁.heap.get? a = some { cls := .type "list", data := .seq vs.toArray }) (hi : IntsAre vs ns) (hl : ns.length ≤ sizeLine) (hr : Room k callerA)
    (F : ∀ base : Heap, K.In base → base.Ns mainGlobals mg → FnOk P w K mg base CX k fa fd [x] sp) (hbind : ∀ (s : Shared) (u : Value), BindsTo s fd ⟨[u], []⟩ [(x, u)])
    (hsp : ∀ H : Hp, Only H → SqL K H a (ns.map V.int) → sp [.ref a] H (fun v _ => v = .bl true) fun _ _ _ => False)
    (hCX : ∀ H e s', CX [] H s₁ (fun _ _ _ => False) e s' → False) :
    codeAny (model P w) callerA (.call (.ref fa) ⟨[.ref a], []⟩) (fun r s' => r = .ok (.ret (.bool true)) ∧ OldK s₁.heap s'.heap ∧ s'.os = s₁.os ∧ AllBare s'.gens) s₁ := by
  have rv := vals_ints hi
  have lenV := hi.length
  -- from an abstract heap in which nothing but the script may be tracked
  have core : ∀ H : Hp, Only H → SqL K H a (ns.map V.int) → HOk P w H s₁.heap → (∀ b, H b ≠ none → b = a) → (H a ≠ none → K.lookup a = none) →
      codeAny (model P w) callerA (.call (.ref fa) ⟨[.ref a], []⟩) (fun r s' => r = .ok (.ret (.bool true)) ∧ OldK s₁.heap s'.heap ∧ s'.os = s₁.os ∧ AllBare s'.gens) s₁ := by
    intro H hO hS hok hA hK
    have base_of : ∀ {b : Addr} {o : Obj}, s₁.heap.get? b = some o → H b = none → (hidT s₁.heap H).get? b = some o := fun e n => hidT_get e n
    have noA : ∀ {b : Addr} {o : Obj} {es : Array DictEntry} {ep : Nat}, s₁.heap.get? b = some o → o.data = .dict es ep → H b = none := fun {b o es ep} e d => by
      cases q : H b with
      | none => rfl
      | some u =>
        have e' : b = a := hA b (by rw [q]; simp)
        subst e'
        rw [ha] at e; cases e
        have d' : Data.seq vs.toArray _ = Data.dict es ep := d
        cases d'
    have nsK : ∀ {b : Addr} {m : Str → Option Value}, s₁.heap.Ns b m → (hidT s₁.heap H).Ns b m := fun {b m} ⟨o, es, ep, e, d, r⟩ => ⟨o, es, ep, base_of e (noA e d), d, r⟩
    have hKb : K.In (hidT s₁.heap H) := fun b o e => base_of (KX b o e) (by
      cases q : H b with
      | none => rfl
      | some u =>
        have e' : b = a := hA b (by rw [q]; simp)
        subst e'
        rw [hK (by rw [q]; simp)] at e; cases e)
    have hM : Mod K mg (hidT s₁.heap H) := ⟨hKb, nsK hns, ⟨mb, nsK hb, hbb⟩, let ⟨mc, h1, h2⟩ := hlim; ⟨mc, nsK h1, h2⟩⟩
    have e0 : Env0 P w K mg (hidT s₁.heap H) callerA [] s₁ H := ⟨rfl, hM, fun b o e => of_hidT e, Nat.le_of_eq (hidT_size _ _), trivial, fun b hb => absurd (show b ∈ ([] : List Addr) from hb) (by simp), hok, .of_eq hg⟩
    refine codeAny_mono ((F _ hKb (nsK hns)).run callerA [] s₁ H ⟨[.ref a], []⟩ [.ref a] [.ref a] _ _ hr e0 (hbind s₁ (.ref a)) (.cons rfl .nil) (hsp H hO hS)) fun r s' h => ?_
    cases r with
    | error e => exact (hCX H e s' h).elim
    | ok fl =>
      cases fl with
      | next => exact False.elim h
      | brk => exact False.elim h
      | cont => exact False.elim h
      | ret u =>
        obtain ⟨v, H', os, bare, un, hok', r', q⟩ := h
        have q' : v = .bl true := q
        subst q'
        obtain rfl : u = Value.bool true := r'
        refine ⟨rfl, OldK.of_keep fun b o e => ?_, os, bare⟩
        cases q : H b with
        | none => exact un.keep b o e q (by intro z; exact absurd (show b ∈ ([] : List Addr) from z) (by simp)) (by simp)
        | some u =>
          rcases hO b with z | ⟨ob, xs, z⟩
          · rw [q] at z; cases z
          · have z2 := un.frzs b ob _ z
            obtain ⟨e1, _⟩ := hok b _ z
            obtain ⟨e2, _⟩ := hok' b _ z2
            rw [e] at e1; cases e1
            exact e2
  cases hk : K.lookup a with
  | some o =>
    -- the script is one of the module's own objects
    have e := KX a o hk
    rw [ha] at e
    cases e
    refine core (fun _ => none) (fun _ => .inl rfl) (.inr ⟨_, vs.toArray, _, hk, rfl, rfl, rfl, by rw [List.size_toArray, lenV]; exact hl, by simpa using rv⟩) (fun b u z => by have z' : (none : Option HO) = some u := z; cases z') (fun b z => absurd rfl z) fun z => absurd rfl z
  | none =>
    refine core (fun b => if b = a then some (.frz { cls := .type "list", data := .seq vs.toArray } (.lst (ns.map V.int))) else none) (fun b => ?_) (.inl (.inr ⟨{ cls := .type "list", data := .seq vs.toArray }, if_pos rfl⟩)) (fun b u z => ?_) (fun b z => ?_) fun _ => hk
    · by_cases hb : b = a
      · exact .inr ⟨_, _, if_pos hb⟩
      · exact .inl (if_neg hb)
    · by_cases hb : b = a
      · have z' := (if_pos hb).symm.trans z
        cases z'
        subst hb
        exact ⟨ha, by rw [List.length_map]; exact hl, vs, _, rv, ha⟩
      · have z' := (if_neg hb).symm.trans z
        cases z'
    · by_cases hb : b = a
      · exact hb
      · exact absurd (if_neg hb) z
end L2

namespace L2
open PySem PySem.Spec PyProof.Rows

/-- the goal that k_head leaves (case hc), from the law's promise. F gives the function object fd (K's own) once, then the promise over every base -/
theorem walk_of {l : PySem.W.OpenLaw} {n k : Nat} {q : Program} {loose : List Str} {XP : (Str → Option Value) → Heap → Prop} {YP : World → Heap → Prop} {d : DefRec} {K : Params → PySem.W.Frag} {CX : World → CXT} {sp : World → Sp} {x : Str}
    (hn : l.most = some n) (hn2 : n ≤ sizeLine) (hdf : d.params.defaults = []) (hr : Room k callerA)
    (hY : ∀ (w : World) (h : Heap), YP w h → (K w.params).In h)
    (F : ∀ (w : World) (mg : Str → Option Value) (fa : Addr) (h : Heap), (K w.params).In h → h.Ns mainGlobals mg → mg d.name = some (.ref fa) →
      ∃ fd : FuncData, (∀ (s : Shared) (u : Value), BindsTo s fd ⟨[u], []⟩ [(x, u)]) ∧
        ∀ base : Heap, (K w.params).In base → base.Ns mainGlobals mg → FnOk l.prog w (K w.params) mg base (CX w) k fa fd [x] (sp w))
    (hsp : ∀ (w : World) (H : Hp) (a : Addr) (ns : List Int), ns.length ≤ n → Only H → SqL (K w.params) H a (ns.map V.int) → sp w [.ref a] H (fun v _ => v = .bl true) fun _ _ _ => False)
    (hCX : ∀ (w : World) (H : Hp) (s : Shared) (e : Value) (s' : Shared), CX w [] H s (fun _ _ _ => False) e s' → False) :
    PySem.W.WalkO q loose XP YP l.row.toRowW d [] (fun f vs => PySem.call f vs) := by
  refine Att.attach_call hn hdf fun w s₀ s₁ mg mb fa o pm cd doc a vs ns G Y ho hd hcd hmg hobj hints hlen hg => ?_
  have KX := hY w _ Y
  obtain ⟨fd, hb, hF⟩ := F w mg fa _ KX G.T.g hmg
  exact law_call KX G.T.g G.T.b G.T.builtins G.T.nolimit hg hobj hints (Nat.le_trans hlen hn2) hr hF hb (fun H hO hS => hsp w H a ns hlen hO hS) fun H e s' => hCX w H s₁ e s'
end L2

/- THE LAST THEOREM (shape; LID, My.* are yours):
   My.Adr: a structure of the addresses that your layer names (classes, functions); My.Txt K t: a structure (Prop) of the equations over K;
   My.txt_mk : {K} {implicit addresses ..} (e1 : nsIn K mainGlobals "law" = some (some (.ref f))) (e2 : K.lookup f = some ⟨oc, od, .func (fnOf "law" "law" params body scope dV kV doc pm an cdv ct), sl⟩) (e3 : codeIn K cdv "law" = true) .. : ∃ t, My.Txt K t

set_option maxRecDepth 100000 in
set_option maxHeartbeats 0 in
theorem PySem.Challenge.cw_LID_holds : PySem.Challenge.rw_LID.Holds := by
  w_on; o_law; k_head; (case hw => w_witness2)
  k_fill
  refine L2.walk_of (l := PySem.Challenge.rw_LID) (n := 63) (k := 40) (x := "script") (CX := fun w => ..) (sp := fun _ => My.sp_law) rfl (by decide) rfl ⟨rfl, by decide, by decide⟩ (fun w h Y => PySem.W.kIn_of Y) ?F ?S ?C
  case F =>
    intro w mg fa h KX G hmg
    have T : ∃ t, My.Txt (L2.KOf KX) t := by
      dsimp only [L2.KOf]                          -- K must stand as «<heap const> w.params» for k_is
      refine' My.txt_mk ?e1 ?e2 ?e3 ..
      (case e1 => PySem.W.k_is)                    -- in the order: a name -> its address -> its object -> its parts
      (case e2 => PySem.W.k_is)
      ..
    obtain ⟨t, T⟩ := T
    have e0 := hmg.symm.trans (PySem.W.mg_of KX G T.law)
    cases e0                                       -- fa is the law's own address
    exact ⟨_, fun s u => .of_eq rfl, fun base kb nb => My.law_fn T kb nb⟩     -- if «.of_eq rfl» comes too early: refine' ⟨_, ?b, fun base kb nb => My.law_fn T kb nb⟩; exact fun s u => .of_eq rfl
  case S => exact fun w H a ns hl hO hS => ..
  case C => exact ..
(the tactic k_is has no namespace: write k_is) -/

namespace L2
open PySem PySem.Spec PyProof.Rows

abbrev CX0 : CXT := fun _ _ _ _ _ _ => False
abbrev E0 : XK := fun _ _ _ => False
theorem pass0 {X : Cx} : Passes CX0 X E0 := fun _ _ _ _ _ _ _ h => h.elim

structure Fun (K : PySem.W.Frag) (x qual : Str) (st : Stmt) (f : Addr) (fd : FuncData) : Prop where
  ex : ∃ (oc : Value) (od : Option Addr) (kV doc pm : Value) (an : Option Addr) (cdv ct : Value) (osl : Array (Option Value)),
    fd = PySem.W.fnOf x qual (defArgs st) (defBody st) (defScope st) .none kV doc pm an cdv ct ∧ K.lookup f = some ⟨oc, od, .func fd, osl⟩ ∧ PySem.W.codeIn K cdv qual = true
  kp : PySem.W.keepIn K (.ref f) = true
section
variable {P : Program} {w : World} {K : PySem.W.Frag} {mg : Str → Option Value} {base : Heap}
/-- THE RULE for a def: its body as a term of rules, and the reading of that term -/
theorem Fun.ok {x qual : Str} {st : Stmt} {f : Addr} {fd : FuncData} {N ps : List Str} {k : Nat} {sp : Sp} (F : Fun K x qual st f fd) (S : FnScope N ps (defScope st)) (len : ∀ vs H Q E, sp vs H Q E → vs.length = ps.length)
    (hbody : ∀ (cdv : Value) (A : Around) (outer : List Env) (s : Shared) (H : Hp) (vs : List V) (Q : VK) (E : XK), Room k (A.deeper (envOfC qual (defScope st) s.heap.objs.size f cdv)) → sp vs H Q E →
      ∃ t, PSs (cxOf CX0 P w K mg base N qual (defScope st) f cdv A outer s H E).nox (defBody st) t ∧ t { nx := fun _ H' => Q .non H', rt := Q } (start N vs) H) : FnOk P w K mg base CX0 (k + 1) f fd ps sp := by
  obtain ⟨oc, od, kV, doc, pm, an, cdv, ct, osl, rfl, lk, hcd⟩ := F.ex
  refine fn_of lk hcd S len fun A outer s H vs Q E hr hsp => ?_
  obtain ⟨t, h, q⟩ := hbody cdv A outer s H vs Q E hr hsp
  exact ⟨t, h.nox, q⟩
/-- how its arguments bind (no defaults): h is «fun _ _ _ _ _ _ us hl => match us, hl with | [_, _], _ => rfl», one _ a parameter -/
theorem Fun.binds {x qual : Str} {st : Stmt} {f : Addr} {fd : FuncData} {ps : List Str} (F : Fun K x qual st f fd)
    (h : ∀ (kV doc pm : Value) (an : Option Addr) (cdv ct : Value) (us : List Value), us.length = ps.length → bindArgs (PySem.W.fnOf x qual (defArgs st) (defBody st) (defScope st) .none kV doc pm an cdv ct) ⟨us, []⟩ = pure (ps.zip us)) : Binds K fd ps [] := by
  obtain ⟨oc, od, kV, doc, pm, an, cdv, ct, osl, rfl, lk, hcd⟩ := F.ex
  exact .all (h kV doc pm an cdv ct)
theorem fun_mk {x qual : Str} {st : Stmt} {f : Addr} {oc : Value} {od an : Option Addr} {osl : Array (Option Value)} {kV doc pm cdv ct : Value} (l : K.lookup f = some ⟨oc, od, .func (PySem.W.fnOf x qual (defArgs st) (defBody st) (defScope st) .none kV doc pm an cdv ct), osl⟩)
    (c : PySem.W.codeIn K cdv qual = true) (k : PySem.W.keepIn K (.ref f) = true) : Fun K x qual st f (PySem.W.fnOf x qual (defArgs st) (defBody st) (defScope st) .none kV doc pm an cdv ct) := ⟨⟨oc, od, kV, doc, pm, an, cdv, ct, osl, rfl, l, c⟩, k⟩
end
theorem hu_of {A : Around} {k : Nat} (hr : Room k A) : A.units + 1 < cLine := Nat.lt_of_le_of_lt (Nat.add_le_add_left (by decide : 1 ≤ 64) _) hr.units
section
variable {X : Cx}
theorem pv (i : Nat) {x : Str} {pos : Pos} (hN : X.N[i]? = some x := by rfl) (hv : Vis X.env.scope x := by first | exact Or.inl rfl | exact Or.inr (Or.inl rfl) | exact Or.inr (Or.inr rfl)) (hd : (x == ("__debug__" : Str)) = false := by decide)
    (hcd : (x == ("__classdict__" : Str)) = false := by decide) : PE X (.Name x pos) (tVar i) := pe_var hN hv hd hcd
end

theorem iteF {A B : Prop} (h : B) : if false = true then A else B := by
  rw [if_neg Bool.false_ne_true]
  exact h
theorem iteT {A B : Prop} (h : A) : if true = true then A else B := by
  rw [if_pos rfl]
  exact h
theorem ite2 {c A B : Prop} [Decidable c] (h1 : c → A) (h2 : ¬ c → B) : if c then A else B := by
  by_cases h : c
  · rw [if_pos h]
    exact h1 h
  · rw [if_neg h]
    exact h2 h
theorem iteNS {c A B : Prop} [Decidable c] (hc : c) (h : B) : if (!decide c) = true then A else B := by
  rw [decide_eq_true hc]
  exact iteF h

/-- all that was tracked is as it was -/
def Same (H H' : Hp) : Prop := ∀ b o, H b = some o → H' b = some o
theorem Same.refl (H : Hp) : Same H H := fun _ _ h => h
theorem Same.trans {H H1 H2 : Hp} (a : Same H H1) (b : Same H1 H2) : Same H H2 := fun c o h => b c o (a c o h)
theorem Same.free {H H' : Hp} (e : Same H H') {l : Addr} (h : H' l = Option.none) : H l = Option.none := by
  cases q : H l with
  | none => rfl
  | some o =>
    rw [e l o q] at h
    cases h
theorem Same.seq {K : PySem.W.Frag} {H H' : Hp} {a : Addr} {xs : List V} (e : Same H H') (h : SqL K H a xs) : SqL K H' a xs := by
  rcases h with (h | ⟨o, h⟩) | h
  · exact .inl (.inl (e _ _ h))
  · exact .inl (.inr ⟨o, e _ _ h⟩)
  · exact .inr h

end L2

namespace L2
open PySem PySem.Spec PyProof.Rows
section
variable {X : Cx}
end
section
variable {κ : Type} [DecidableEq κ]
end
end L2

namespace Bw

theorem nodup_length : ∀ {n : Nat} {l : List Nat}, l.Nodup → (∀ p ∈ l, p < n) → l.length ≤ n
  | 0, [], _, _ => Nat.le_refl _
  | 0, a :: _, _, h => absurd (h a (.head _)) (Nat.not_lt_zero _)
  | n + 1, l, nd, h => by
    by_cases hm : n ∈ l
    · have h1 := nodup_length (n := n) (nd.erase n) fun p hp => by
        have := (nd.mem_erase_iff).mp hp
        have := h p this.2
        omega
      rw [List.length_erase_of_mem hm] at h1
      omega
    · have h1 := nodup_length (n := n) nd fun p hp => by
        have := h p hp
        have : p ≠ n := fun e => hm (e ▸ hp)
        omega
      omega
end Bw

namespace Bw

end Bw

set_option Elab.async false
set_option linter.all false
namespace Bw
end Bw

set_option Elab.async false
set_option linter.all false
namespace Bw
inductive Tr where
  | pt (n : Nat)
  | doing (ac : Bool) (ts : List Tr)
mutual
def Tr.pts : Tr → List Nat
  | .pt n => [n]
  | .doing _ ts => ptsL ts
def ptsL : List Tr → List Nat
  | [] => []
  | t :: ts => t.pts ++ ptsL ts
end
theorem ptsL_app : ∀ (a b : List Tr), ptsL (a ++ b) = ptsL a ++ ptsL b
  | [], _ => rfl
  | t :: a, b => by
    show t.pts ++ ptsL (a ++ b) = (t.pts ++ ptsL a) ++ ptsL b
    rw [ptsL_app a b, List.append_assoc]
theorem ptsL_take {ts : List Tr} {i : Nat} {tr : Tr} (h : ts[i]? = some tr) : ptsL (ts.take (i + 1)) = ptsL (ts.take i) ++ tr.pts := by
  rw [List.take_add_one, h, ptsL_app]
  show ptsL (ts.take i) ++ (tr.pts ++ []) = _
  rw [List.append_nil]
theorem ptsL_le (ts : List Tr) (i : Nat) : (ptsL (ts.take i)).length ≤ (ptsL ts).length := by
  have h := ptsL_app (ts.take i) (ts.drop i)
  rw [List.take_append_drop] at h
  rw [h, List.length_append]
  omega
theorem ptsL_mem {ts : List Tr} {i : Nat} {tr : Tr} (h : ts[i]? = some tr) : tr.pts.length ≤ (ptsL ts).length := by
  have h1 := ptsL_take h
  have h2 := ptsL_le ts (i + 1)
  rw [h1, List.length_append] at h2
  omega
end Bw

set_option Elab.async false
set_option linter.all false
namespace Bw
end Bw

set_option Elab.async false
set_option linter.all false
namespace Bw
def joinC (c : Nat) : List (List Nat) → List Nat
  | [] => []
  | [x] => x
  | x :: y :: r => x ++ c :: joinC c (y :: r)
def sgnC (ac : Bool) : Nat := if ac then 42 else 43
def brkC (x : List Nat) : List Nat := 40 :: (x ++ [41])
theorem joinC_len (c : Nat) : ∀ l : List (List Nat), (joinC c l).length ≤ (l.map (·.length)).sum + l.length - 1
  | [] => by simp [joinC]
  | [x] => by simp [joinC]
  | x :: y :: r => by
    have ih := joinC_len c (y :: r)
    have e : (joinC c (x :: y :: r)).length = x.length + ((joinC c (y :: r)).length + 1) := by
      show (x ++ c :: joinC c (y :: r)).length = _
      rw [List.length_append, List.length_cons]
    rw [e, List.map_cons, List.sum_cons, List.length_cons]
    simp only [List.length_cons] at ih ⊢
    omega
mutual
def Tr.told : Tr → List Nat
  | .pt n => [48 + n]
  | .doing ac ts => brkC (joinC (sgnC ac) (toldL ts))
def toldL : List Tr → List (List Nat)
  | [] => []
  | t :: ts => t.told :: toldL ts
end
theorem toldL_map : ∀ ts : List Tr, toldL ts = ts.map Tr.told
  | [] => rfl
  | t :: ts => by
    show t.told :: toldL ts = _
    rw [toldL_map ts]
    rfl
mutual
def Tr.two : Tr → Prop
  | .pt n => n < 10
  | .doing _ ts => 2 ≤ ts.length ∧ twoL ts
def twoL : List Tr → Prop
  | [] => True
  | t :: ts => t.two ∧ twoL ts
end
mutual
theorem told_len : ∀ t : Tr, t.two → t.told.length + 3 ≤ 4 * t.pts.length
  | .pt n, _ => Nat.le_refl _
  | .doing ac ts, h => by
    have h' : 2 ≤ ts.length ∧ twoL ts := h
    have ih := toldL_len ts h'.2
    show (brkC (joinC (sgnC ac) (toldL ts))).length + 3 ≤ 4 * (ptsL ts).length
    have hj := joinC_len (sgnC ac) (toldL ts)
    have hl : (toldL ts).length = ts.length := by rw [toldL_map, List.length_map]
    unfold brkC
    rw [List.length_cons, List.length_append, List.length_singleton]
    omega
theorem toldL_len : ∀ ts : List Tr, twoL ts → ((toldL ts).map (·.length)).sum + 3 * ts.length ≤ 4 * (ptsL ts).length
  | [], _ => Nat.le_refl _
  | t :: ts, h => by
    have h' : t.two ∧ twoL ts := h
    have a := told_len t h'.1
    have b := toldL_len ts h'.2
    show ((t.told :: toldL ts).map (·.length)).sum + 3 * (t :: ts).length ≤ 4 * (t.pts ++ ptsL ts).length
    rw [List.map_cons, List.sum_cons, List.length_cons, List.length_append]
    omega
end
structure RS where
  opened : List (List Tr × Nat)
  figs : List Nat
  due : Bool
  whole : Option Tr
def RS.start : RS := ⟨[], [], true, none⟩
def RS.put (st : RS) (t : Tr) : RS := match st.opened.getLast? with
  | none => { st with whole := some t, due := false }
  | some b => { st with opened := st.opened.dropLast ++ [(b.1 ++ [t], b.2)], due := false }
def RS.take (st : RS) (c : Nat) : Option RS :=
  if st.due = true then
    if c = 40 then some { st with opened := st.opened ++ [([], 0)] }
    else if ¬ (48 ≤ c ∧ c < 58) ∨ c ∈ st.figs then none
    else some ({ st with figs := st.figs ++ [c] }.put (.pt (c - 48)))
  else match st.opened.getLast? with
    | none => none
    | some b =>
      if (c = 43 ∨ c = 42) ∧ (b.2 = 0 ∨ b.2 = c) then some { st with opened := st.opened.dropLast ++ [(b.1, c)], due := true }
      else if c ≠ 41 ∨ b.2 = 0 then none
      else some ({ st with opened := st.opened.dropLast }.put (.doing (decide (b.2 ≠ 43)) b.1))
def RS.run (st : RS) : List Nat → Option RS
  | [] => some st
  | c :: r => match st.take c with
    | none => none
    | some st' => st'.run r
theorem RS.run_cons (st : RS) (c : Nat) (r : List Nat) : st.run (c :: r) = match st.take c with
    | none => none
    | some st' => st'.run r := rfl
theorem RS.run_app : ∀ (a b : List Nat) (st : RS), st.run (a ++ b) = (st.run a).bind fun s => s.run b
  | [], b, st => rfl
  | c :: a, b, st => by
    rw [List.cons_append, RS.run_cons, RS.run_cons]
    cases h : st.take c with
    | none => rfl
    | some s' => exact RS.run_app a b s'
theorem RS.put_d (o : List (List Tr × Nat)) (f : List Nat) (d d' : Bool) (w : Option Tr) (t : Tr) : (RS.mk o f d w).put t = (RS.mk o f d' w).put t := by
  unfold RS.put
  dsimp only
theorem RS.put_due (st : RS) (t : Tr) : (st.put t).due = false := by unfold RS.put; split <;> rfl
theorem RS.put_figs (st : RS) (t : Tr) : (st.put t).figs = st.figs := by unfold RS.put; split <;> rfl
theorem RS.put_snoc (o : List (List Tr × Nat)) (inner : List Tr) (b : Nat) (f : List Nat) (d : Bool) (w : Option Tr) (t : Tr) : (RS.mk (o ++ [(inner, b)]) f d w).put t = ⟨o ++ [(inner ++ [t], b)], f, false, w⟩ := by
  unfold RS.put
  simp
/-- the figures of these points -/
def figC (pts : List Nat) : List Nat := pts.map fun n => 48 + n
theorem sgn_cases (ac : Bool) : sgnC ac = 43 ∨ sgnC ac = 42 := by cases ac <;> simp [sgnC]
mutual
/-- a tree's text, read where a tree is due, puts the tree there -/
theorem run_told : ∀ (t : Tr) (st : RS), t.two → st.due = true → (st.figs ++ figC t.pts).Nodup → st.run t.told = some ({ st with figs := st.figs ++ figC t.pts }.put t)
  | .pt n, st, h, hd, nd => by
    have hn : n < 10 := h
    show (match st.take (48 + n) with | none => none | some st' => st'.run []) = _
    have hni : 48 + n ∉ st.figs := fun z => by
      rw [List.nodup_append] at nd
      exact nd.2.2 _ z (48 + n) (by simp [figC, Tr.pts]) rfl
    have e : st.take (48 + n) = some ({ st with figs := st.figs ++ [48 + n] }.put (.pt n)) := by
      unfold RS.take
      rw [if_pos hd, if_neg (by omega), if_neg]
      · rw [show 48 + n - 48 = n by omega]
      · rintro (z | z)
        · exact z ⟨by omega, by omega⟩
        · exact hni z
    rw [e]
    rfl
  | .doing ac ts, st, h, hd, nd => by
    have h' : 2 ≤ ts.length ∧ twoL ts := h
    show st.run (brkC (joinC (sgnC ac) (toldL ts))) = _
    unfold brkC
    have e1 : st.take 40 = some { st with opened := st.opened ++ [([], 0)] } := by
      unfold RS.take
      rw [if_pos hd, if_pos rfl]
    show (match st.take 40 with | none => none | some st' => st'.run (joinC (sgnC ac) (toldL ts) ++ [41])) = _
    rw [e1]
    dsimp only
    match ts, h' with
    | t :: ts', h' =>
      have ht : t.two ∧ twoL ts' := h'.2
      have e2 := run_toldL ac ts' t [] 0 (.inl rfl) { st with opened := st.opened ++ [([], 0)] } st.opened ht.1 ht.2 rfl hd nd
      rw [RS.run_app, e2]
      have hne : ts' ≠ [] := fun z => by rw [z] at h'; exact absurd h'.1 (by simp)
      rw [if_neg hne]
      show (match RS.take _ 41 with | none => none | some st' => st'.run []) = _
      have e3 : RS.take ⟨st.opened ++ [([] ++ t :: ts', sgnC ac)], st.figs ++ figC (ptsL (t :: ts')), false, st.whole⟩ 41 = some (({ st with figs := st.figs ++ figC (ptsL (t :: ts')) } : RS).put (.doing ac (t :: ts'))) := by
        unfold RS.take
        rw [if_neg (by simp)]
        simp only [List.getLast?_append, List.getLast?_singleton, Option.some_or, List.nil_append, List.dropLast_concat]
        rw [if_neg (by simp), if_neg (by rcases sgn_cases ac with z | z <;> rw [z] <;> simp)]
        have ed : decide (sgnC ac ≠ 43) = ac := by cases ac <;> simp [sgnC]
        rw [ed]
        exact congrArg some (RS.put_d _ _ _ _ _ _)
      rw [e3]
      rfl
  termination_by t => sizeOf t
/-- the rest of a bracket's trees, from the one that is due -/
theorem run_toldL : ∀ (ac : Bool) (ts : List Tr) (t : Tr) (inner : List Tr) (b : Nat), b = 0 ∨ b = sgnC ac → ∀ (st : RS) (o : List (List Tr × Nat)), t.two → twoL ts → st.opened = o ++ [(inner, b)] → st.due = true → (st.figs ++ figC (ptsL (t :: ts))).Nodup →
    st.run (joinC (sgnC ac) (toldL (t :: ts))) = some ⟨o ++ [(inner ++ t :: ts, if ts = [] then b else sgnC ac)], st.figs ++ figC (ptsL (t :: ts)), false, st.whole⟩
  | ac, [], t, inner, b, hb, st, o, h1, _, ho, hd, nd => by
    have e : ptsL [t] = t.pts := by show t.pts ++ [] = _; rw [List.append_nil]
    rw [e] at nd ⊢
    show st.run t.told = _
    rw [run_told t st h1 hd nd, if_pos rfl]
    obtain ⟨o', f, d, w⟩ := st
    dsimp only at ho hd ⊢
    rw [ho, RS.put_snoc]
  | ac, u :: ts, t, inner, b, hb, st, o, h1, h2, ho, hd, nd => by
    have h2' : u.two ∧ twoL ts := h2
    have e : ptsL (t :: u :: ts) = t.pts ++ ptsL (u :: ts) := rfl
    have ef : figC (ptsL (t :: u :: ts)) = figC t.pts ++ figC (ptsL (u :: ts)) := by rw [e]; unfold figC; rw [List.map_append]
    rw [ef, ← List.append_assoc] at nd
    show st.run (t.told ++ sgnC ac :: joinC (sgnC ac) (toldL (u :: ts))) = _
    rw [RS.run_app, run_told t st h1 hd (by rw [List.nodup_append] at nd; exact nd.1)]
    obtain ⟨o', f, d, w⟩ := st
    dsimp only at ho hd nd ⊢
    rw [ho, RS.put_snoc]
    show (match RS.take _ (sgnC ac) with | none => none | some st' => st'.run (joinC (sgnC ac) (toldL (u :: ts)))) = _
    have e3 : RS.take ⟨o ++ [(inner ++ [t], b)], f ++ figC t.pts, false, w⟩ (sgnC ac) = some ⟨o ++ [(inner ++ [t], sgnC ac)], f ++ figC t.pts, true, w⟩ := by
      unfold RS.take
      rw [if_neg (by simp)]
      simp only [List.getLast?_append, List.getLast?_singleton, Option.some_or, List.dropLast_concat]
      rw [if_pos ⟨sgn_cases ac, hb⟩]
    rw [e3]
    dsimp only
    rw [run_toldL ac ts u (inner ++ [t]) (sgnC ac) (.inr rfl) ⟨o ++ [(inner ++ [t], sgnC ac)], f ++ figC t.pts, true, w⟩ o h2'.1 h2'.2 rfl rfl nd]
    have en : (if ts = [] then sgnC ac else sgnC ac) = sgnC ac := by split <;> rfl
    rw [en, if_neg (by simp), ef]
    simp
  termination_by ac ts t => sizeOf t + sizeOf ts + 1
end
theorem read_told (t : Tr) (h : t.two) (nd : t.pts.Nodup) : RS.start.run t.told = some ⟨[], figC t.pts, false, some t⟩ := by
  have nd' : (RS.start.figs ++ figC t.pts).Nodup := by
    show ([] ++ figC t.pts).Nodup
    rw [List.nil_append]
    unfold figC
    rw [List.nodup_iff_pairwise_ne, List.pairwise_map]
    exact nd.imp fun h z => h (by omega)
  rw [run_told t RS.start h rfl nd']
  rfl
end Bw

set_option Elab.async false
set_option linter.all false
set_option maxHeartbeats 4000000
namespace Bw
def RS.pts (st : RS) : List Nat := st.opened.flatMap (fun b => ptsL b.1) ++ match st.whole with
  | none => []
  | some t => t.pts
structure RS.Good (st : RS) : Prop where
  fig : st.figs = figC st.pts
  nd : st.figs.Nodup
  rng : ∀ c ∈ st.figs, 48 ≤ c ∧ c < 58
  sgn : ∀ b ∈ st.opened, b.2 = 0 ∨ b.2 = 43 ∨ b.2 = 42
  one : ∀ b ∈ st.opened, b.2 ≠ 0 → 1 ≤ b.1.length
  two : st.due = false → ∀ o b, st.opened = o ++ [b] → 1 ≤ b.1.length ∧ (b.2 ≠ 0 → 2 ≤ b.1.length)
  wh : st.whole ≠ none → st.opened = [] ∧ st.due = false
  end_ : st.due = false → st.opened = [] → st.whole ≠ none
theorem RS.start_good : RS.start.Good where
  fig := rfl
  nd := List.Pairwise.nil
  rng := fun _ h => nomatch h
  sgn := fun _ h => nomatch h
  one := fun _ h => nomatch h
  two := fun h => nomatch h
  wh := fun h => absurd rfl h
  end_ := fun h => nomatch h
theorem RS.last_cases (l : List (List Tr × Nat)) : l = [] ∨ ∃ o b, l = o ++ [b] := by
  rcases List.eq_nil_or_concat l with h | ⟨o, b, h⟩
  · exact .inl h
  · exact .inr ⟨o, b, by rw [h, List.concat_eq_append]⟩
theorem RS.put_nil (f : List Nat) (d : Bool) (w : Option Tr) (t : Tr) : (RS.mk [] f d w).put t = ⟨[], f, false, some t⟩ := rfl
theorem ptsL_snoc : ∀ (l : List Tr) (t : Tr), ptsL (l ++ [t]) = ptsL l ++ t.pts
  | [], t => by show t.pts ++ [] = _; rw [List.append_nil]; rfl
  | a :: l, t => by
    show a.pts ++ ptsL (l ++ [t]) = (a.pts ++ ptsL l) ++ t.pts
    rw [ptsL_snoc l t, List.append_assoc]
/-- a tree put where its figures are the last read -/
theorem RS.good_put {o : List (List Tr × Nat)} {f : List Nat} {d : Bool} {t : Tr} (h1 : f = figC (o.flatMap (fun b => ptsL b.1) ++ t.pts)) (nd : f.Nodup) (rng : ∀ c ∈ f, 48 ≤ c ∧ c < 58)
    (sgn : ∀ b ∈ o, b.2 = 0 ∨ b.2 = 43 ∨ b.2 = 42) (one : ∀ b ∈ o, b.2 ≠ 0 → 1 ≤ b.1.length) : ((RS.mk o f d none).put t).Good := by
  rcases RS.last_cases o with rfl | ⟨o', ⟨inner, b⟩, rfl⟩
  · rw [RS.put_nil]
    exact { fig := h1, nd := nd, rng := rng, sgn := (fun _ h => nomatch h), one := (fun _ h => nomatch h), two := (fun _ o b h => absurd h (by simp)), wh := (fun _ => ⟨rfl, rfl⟩), end_ := (fun _ _ h => nomatch h) }
  · rw [RS.put_snoc]
    have l1 := one (inner, b) (by simp)
    refine ⟨?_, nd, rng, ?_, ?_, ?_, fun h => absurd rfl h, fun _ h => absurd h (by simp)⟩
    · rw [h1]
      unfold RS.pts
      dsimp only
      rw [List.append_nil, List.flatMap_append, List.flatMap_append]
      simp only [List.flatMap_cons, List.flatMap_nil, List.append_nil]
      rw [ptsL_snoc, List.append_assoc]
    · intro x hx
      rcases List.mem_append.mp hx with hx | hx
      · exact sgn x (List.mem_append_left _ hx)
      · rw [List.mem_singleton.mp hx]
        exact sgn (inner, b) (by simp)
    · intro x hx
      rcases List.mem_append.mp hx with hx | hx
      · exact one x (List.mem_append_left _ hx)
      · rw [List.mem_singleton.mp hx]
        intro _
        show 1 ≤ (inner ++ [t]).length
        rw [List.length_append]
        exact Nat.le_add_left 1 _
    · intro _ o2 b2 he
      have := List.append_inj_right' he rfl
      have e2 : (inner ++ [t], b) = b2 := by simpa using this
      subst e2
      refine ⟨?_, fun hb => ?_⟩
      · show 1 ≤ (inner ++ [t]).length
        rw [List.length_append]
        exact Nat.le_add_left 1 _
      · show 2 ≤ (inner ++ [t]).length
        have := l1 hb
        rw [List.length_append]
        show 2 ≤ inner.length + 1
        have : 1 ≤ inner.length := this
        omega
theorem RS.due_whole {st : RS} (g : st.Good) (h : st.due = true) : st.whole = none := by
  cases e : st.whole with
  | none => rfl
  | some t =>
    have := (g.wh (by rw [e]; exact fun z => nomatch z)).2
    rw [h] at this
    cases this
theorem RS.opened_whole {st : RS} (g : st.Good) {o : List (List Tr × Nat)} {b : List Tr × Nat} (h : st.opened = o ++ [b]) : st.whole = none := by
  cases e : st.whole with
  | none => rfl
  | some t =>
    have := (g.wh (by rw [e]; exact fun z => nomatch z)).1
    rw [h] at this
    exact absurd this (by simp)
theorem RS.take_open {st : RS} (h : st.due = true) : st.take 40 = some { st with opened := st.opened ++ [([], 0)] } := by
  unfold RS.take
  rw [if_pos h, if_pos rfl]
theorem RS.take_bad {st : RS} (h : st.due = true) {c : Nat} (h1 : c ≠ 40) (h2 : ¬ (48 ≤ c ∧ c < 58) ∨ c ∈ st.figs) : st.take c = none := by
  unfold RS.take
  rw [if_pos h, if_neg h1, if_pos h2]
theorem RS.take_fig {st : RS} (h : st.due = true) {c : Nat} (h1 : c ≠ 40) (h2 : ¬ (¬ (48 ≤ c ∧ c < 58) ∨ c ∈ st.figs)) : st.take c = some ({ st with figs := st.figs ++ [c] }.put (.pt (c - 48))) := by
  unfold RS.take
  rw [if_pos h, if_neg h1, if_neg h2]
theorem RS.take_end {st : RS} (h : st.due = false) (h1 : st.opened = []) (c : Nat) : st.take c = none := by
  unfold RS.take
  rw [if_neg (by rw [h]; simp), h1]
  rfl
theorem RS.take_sign {st : RS} (h : st.due = false) {o : List (List Tr × Nat)} {b : List Tr × Nat} (h1 : st.opened = o ++ [b]) {c : Nat} (h2 : (c = 43 ∨ c = 42) ∧ (b.2 = 0 ∨ b.2 = c)) : st.take c = some { st with opened := o ++ [(b.1, c)], due := true } := by
  unfold RS.take
  rw [if_neg (by rw [h]; simp), h1]
  simp only [List.getLast?_append, List.getLast?_singleton, Option.some_or, List.dropLast_concat]
  rw [if_pos h2]
theorem RS.take_none {st : RS} (h : st.due = false) {o : List (List Tr × Nat)} {b : List Tr × Nat} (h1 : st.opened = o ++ [b]) {c : Nat} (h2 : ¬ ((c = 43 ∨ c = 42) ∧ (b.2 = 0 ∨ b.2 = c))) (h3 : c ≠ 41 ∨ b.2 = 0) : st.take c = none := by
  unfold RS.take
  rw [if_neg (by rw [h]; simp), h1]
  simp only [List.getLast?_append, List.getLast?_singleton, Option.some_or, List.dropLast_concat]
  rw [if_neg h2, if_pos h3]
theorem RS.take_close {st : RS} (h : st.due = false) {o : List (List Tr × Nat)} {b : List Tr × Nat} (h1 : st.opened = o ++ [b]) {c : Nat} (h2 : ¬ ((c = 43 ∨ c = 42) ∧ (b.2 = 0 ∨ b.2 = c))) (h3 : ¬ (c ≠ 41 ∨ b.2 = 0)) :
    st.take c = some ({ st with opened := o }.put (.doing (decide (b.2 ≠ 43)) b.1)) := by
  unfold RS.take
  rw [if_neg (by rw [h]; simp), h1]
  simp only [List.getLast?_append, List.getLast?_singleton, Option.some_or, List.dropLast_concat]
  rw [if_neg h2, if_neg h3]
/-- each sign keeps what holds -/
theorem RS.good_take {st st' : RS} (g : st.Good) {c : Nat} (h : st.take c = some st') : st'.Good := by
  by_cases hd : st.due = true
  · have hw := RS.due_whole g hd
    by_cases h1 : c = 40
    · subst h1
      rw [RS.take_open hd] at h
      cases h
      refine ⟨?_, g.nd, g.rng, ?_, ?_, fun z => absurd (hd.symm.trans z) (by simp), fun z => absurd hw z, fun z => absurd (hd.symm.trans z) (by simp)⟩
      · show st.figs = _
        rw [g.fig]
        unfold RS.pts
        dsimp only
        rw [List.flatMap_append]
        simp only [List.flatMap_cons, List.flatMap_nil, List.append_nil]
        show _ = figC (_ ++ ptsL [] ++ _)
        simp [ptsL]
      · intro x hx
        rcases List.mem_append.mp hx with hx | hx
        · exact g.sgn x hx
        · rw [List.mem_singleton.mp hx]; exact .inl rfl
      · intro x hx
        rcases List.mem_append.mp hx with hx | hx
        · exact g.one x hx
        · rw [List.mem_singleton.mp hx]; exact fun z => absurd rfl z
    · by_cases h2 : ¬ (48 ≤ c ∧ c < 58) ∨ c ∈ st.figs
      · rw [RS.take_bad hd h1 h2] at h; cases h
      · rw [RS.take_fig hd h1 h2] at h
        cases h
        obtain ⟨o, f, d, w⟩ := st
        dsimp only at hw hd h2 ⊢
        subst hw
        have h2' : (48 ≤ c ∧ c < 58) ∧ c ∉ f := by
          refine ⟨Classical.byContradiction fun z => h2 (.inl z), fun z => h2 (.inr z)⟩
        refine RS.good_put ?_ ?_ ?_ g.sgn g.one
        · have := g.fig
          unfold RS.pts at this
          dsimp only at this
          rw [this, List.append_nil]
          unfold figC
          rw [List.map_append]
          show _ ++ [c] = _ ++ [48 + (c - 48)]
          rw [show 48 + (c - 48) = c by omega]
        · refine List.nodup_append.mpr ⟨g.nd, by simp, fun a ha b hb => ?_⟩
          rw [List.mem_singleton.mp hb]
          exact fun z => h2'.2 (z ▸ ha)
        · intro x hx
          rcases List.mem_append.mp hx with hx | hx
          · exact g.rng x hx
          · rw [List.mem_singleton.mp hx]; exact h2'.1
  · have hd : st.due = false := by simpa using hd
    rcases RS.last_cases st.opened with ho | ⟨o, b, ho⟩
    · rw [RS.take_end hd ho] at h; cases h
    · have hw := RS.opened_whole g ho
      by_cases h2 : (c = 43 ∨ c = 42) ∧ (b.2 = 0 ∨ b.2 = c)
      · rw [RS.take_sign hd ho h2] at h
        cases h
        refine ⟨?_, g.nd, g.rng, ?_, ?_, fun z => absurd z (by simp), fun z => absurd hw z, fun z => absurd z (by simp)⟩
        · show st.figs = _
          rw [g.fig]
          unfold RS.pts
          dsimp only
          rw [ho, List.flatMap_append, List.flatMap_append]
          rfl
        · intro x hx
          rcases List.mem_append.mp hx with hx | hx
          · exact g.sgn x (by rw [ho]; exact List.mem_append_left _ hx)
          · rw [List.mem_singleton.mp hx]; exact .inr h2.1
        · intro x hx
          rcases List.mem_append.mp hx with hx | hx
          · exact g.one x (by rw [ho]; exact List.mem_append_left _ hx)
          · rw [List.mem_singleton.mp hx]; exact fun _ => (g.two hd o b ho).1
      · by_cases h3 : c ≠ 41 ∨ b.2 = 0
        · rw [RS.take_none hd ho h2 h3] at h; cases h
        · rw [RS.take_close hd ho h2 h3] at h
          cases h
          obtain ⟨op, f, d, w⟩ := st
          dsimp only at hw hd ho ⊢
          subst hw ho
          refine RS.good_put ?_ g.nd g.rng (fun x hx => g.sgn x (List.mem_append_left _ hx)) fun x hx => g.one x (List.mem_append_left _ hx)
          have := g.fig
          unfold RS.pts at this
          dsimp only at this
          rw [this, List.append_nil, List.flatMap_append]
          simp only [List.flatMap_cons, List.flatMap_nil, List.append_nil]
          rfl
theorem RS.put_len (st : RS) (t : Tr) : (st.put t).opened.length = st.opened.length := by
  obtain ⟨o, f, d, w⟩ := st
  rcases RS.last_cases o with rfl | ⟨o', ⟨inner, b⟩, rfl⟩
  · rfl
  · rw [RS.put_snoc, List.length_append, List.length_append]
    rfl
theorem RS.take_len {st st' : RS} {c : Nat} (h : st.take c = some st') : st'.opened.length ≤ st.opened.length + 1 := by
  by_cases hd : st.due = true
  · by_cases h1 : c = 40
    · subst h1
      rw [RS.take_open hd] at h
      cases h
      show (st.opened ++ [_]).length ≤ _
      rw [List.length_append]
      exact Nat.le_refl _
    · by_cases h2 : ¬ (48 ≤ c ∧ c < 58) ∨ c ∈ st.figs
      · rw [RS.take_bad hd h1 h2] at h; cases h
      · rw [RS.take_fig hd h1 h2] at h
        cases h
        rw [RS.put_len]
        exact Nat.le_succ _
  · have hd : st.due = false := by simpa using hd
    rcases RS.last_cases st.opened with ho | ⟨o, b, ho⟩
    · rw [RS.take_end hd ho] at h; cases h
    · by_cases h2 : (c = 43 ∨ c = 42) ∧ (b.2 = 0 ∨ b.2 = c)
      · rw [RS.take_sign hd ho h2] at h
        cases h
        show (o ++ [_]).length ≤ _
        rw [ho, List.length_append, List.length_append]
        exact Nat.le_succ _
      · by_cases h3 : c ≠ 41 ∨ b.2 = 0
        · rw [RS.take_none hd ho h2 h3] at h; cases h
        · rw [RS.take_close hd ho h2 h3] at h
          cases h
          rw [RS.put_len, ho, List.length_append]
          show o.length ≤ o.length + 1 + 1
          omega
theorem RS.run_snoc (st : RS) (a : List Nat) (c : Nat) : st.run (a ++ [c]) = (st.run a).bind fun s => s.take c := by
  rw [RS.run_app]
  congr 1
  funext s
  rw [RS.run_cons]
  cases s.take c <;> rfl
theorem figC_nodup {l : List Nat} (h : (figC l).Nodup) : l.Nodup := by
  unfold figC at h
  rw [List.nodup_iff_pairwise_ne, List.pairwise_map] at h
  exact h.imp fun hn z => hn (by rw [z])
theorem figC_lt {l : List Nat} (h : ∀ c ∈ figC l, 48 ≤ c ∧ c < 58) : ∀ p ∈ l, p < 10 := fun p hp => by
  have := (h (48 + p) (List.mem_map.mpr ⟨p, hp, rfl⟩)).2
  omega
/-- what stands in the last bracket -/
theorem RS.Good.last {st : RS} (g : st.Good) {o : List (List Tr × Nat)} {b : List Tr × Nat} (h : st.opened = o ++ [b]) : (ptsL b.1).Nodup ∧ ∀ p ∈ ptsL b.1, p < 10 := by
  have e : st.pts = o.flatMap (fun b => ptsL b.1) ++ ptsL b.1 := by
    unfold RS.pts
    rw [RS.opened_whole g h, h, List.flatMap_append, List.append_nil]
    simp
  have nd := figC_nodup (g.fig ▸ g.nd)
  have lt := figC_lt (g.fig ▸ g.rng)
  rw [e] at nd lt
  exact ⟨(List.nodup_append.mp nd).2.1, fun p hp => lt p (List.mem_append_right _ hp)⟩
end Bw

set_option Elab.async false
set_option linter.all false
set_option maxHeartbeats 4000000
namespace Bw
theorem joinC_snoc (c : Nat) : ∀ (l : List (List Nat)) (x : List Nat), joinC c (l ++ [x]) = l.flatMap (fun y => y ++ [c]) ++ x
  | [], x => rfl
  | [y], x => by simp [joinC]
  | y :: z :: r, x => by
    have ih := joinC_snoc c (z :: r) x
    show y ++ c :: joinC c ((z :: r) ++ [x]) = _
    rw [ih]
    simp
theorem joinC_fm (c : Nat) (l : List (List Nat)) (h : l ≠ []) : l.flatMap (fun y => y ++ [c]) = joinC c l ++ [c] := by
  rcases List.eq_nil_or_concat l with e | ⟨o, x, e⟩
  · exact absurd e h
  · rw [e, List.concat_eq_append, joinC_snoc]
    simp
/-- an open bracket's text, a tree being due in it; behind a tree -/
def brT (b : List Tr × Nat) : List Nat := 40 :: b.1.flatMap (fun t => t.told ++ [b.2])
def brF (b : List Tr × Nat) : List Nat := 40 :: joinC b.2 (b.1.map Tr.told)
theorem brF_snoc (inner : List Tr) (b : Nat) (t : Tr) : brF (inner ++ [t], b) = brT (inner, b) ++ t.told := by
  unfold brF brT
  dsimp only
  rw [List.map_append, List.map_singleton, joinC_snoc, List.flatMap_map]
  rfl
/-- the text that was read -/
structure RS.Told (st : RS) (l : List Nat) : Prop where
  dueT : st.due = true → l = st.opened.flatMap brT
  behT : st.due = false → ∀ o b, st.opened = o ++ [b] → l = o.flatMap brT ++ brF b
  endT : ∀ t, st.whole = some t → l = t.told
  zer : ∀ o b, st.opened = o ++ [b] → (∀ x ∈ o, x.2 = 0 → x.1 = []) ∧ (b.2 = 0 → (st.due = true → b.1 = []) ∧ (st.due = false → b.1.length = 1))
theorem RS.start_told : RS.start.Told [] where
  dueT := fun _ => rfl
  behT := fun h => nomatch h
  endT := fun _ h => nomatch h
  zer := fun o b h => absurd h (by simp [RS.start])
theorem zer_all {st : RS} {l : List Nat} (T : st.Told l) (hd : st.due = true) : ∀ x ∈ st.opened, x.2 = 0 → x.1 = [] := by
  rcases RS.last_cases st.opened with ho | ⟨o, b, ho⟩
  · intro x hx
    rw [ho] at hx
    cases hx
  · obtain ⟨z1, z2⟩ := T.zer o b ho
    intro x hx h0
    rw [ho] at hx
    rcases List.mem_append.mp hx with hx | hx
    · exact z1 x hx h0
    · rw [List.mem_singleton.mp hx] at h0 ⊢
      exact (z2 h0).1 hd
/-- a tree put behind what was read -/
theorem RS.told_put {o : List (List Tr × Nat)} {f : List Nat} {d : Bool} {t : Tr} {l : List Nat} (hl : l = o.flatMap brT) (hz : ∀ x ∈ o, x.2 = 0 → x.1 = []) : ((RS.mk o f d none).put t).Told (l ++ t.told) := by
  rcases RS.last_cases o with rfl | ⟨o', ⟨inner, b⟩, rfl⟩
  · rw [RS.put_nil]
    subst hl
    exact { dueT := (fun h => nomatch h), behT := (fun _ o b h => absurd h (by simp)), endT := (fun t' e => by cases e; rfl), zer := (fun o b h => absurd h (by simp)) }
  · rw [RS.put_snoc]
    have last : ∀ o2 b2, o' ++ [(inner ++ [t], b)] = o2 ++ [b2] → o2 = o' ∧ b2 = (inner ++ [t], b) := fun o2 b2 h => by
      obtain ⟨e1, e2⟩ := List.append_inj' h rfl
      exact ⟨e1.symm, by simpa using e2.symm⟩
    refine ⟨(fun h => nomatch h), fun _ o2 b2 h => ?_, (fun t' e => nomatch e), fun o2 b2 h => ?_⟩
    · obtain ⟨rfl, rfl⟩ := last o2 b2 h
      rw [brF_snoc, hl, List.flatMap_append]
      simp
    · obtain ⟨rfl, rfl⟩ := last o2 b2 h
      refine ⟨fun x hx => hz x (List.mem_append_left _ hx), fun h0 => ⟨fun z => (nomatch z), fun _ => ?_⟩⟩
      have e : inner = [] := hz (inner, b) (by simp) h0
      rw [e]
      rfl
theorem RS.told_take {st st' : RS} {l : List Nat} (g : st.Good) (T : st.Told l) {c : Nat} (h : st.take c = some st') : st'.Told (l ++ [c]) := by
  by_cases hd : st.due = true
  · have hw := RS.due_whole g hd
    have hz := zer_all T hd
    by_cases h1 : c = 40
    · subst h1
      rw [RS.take_open hd] at h
      cases h
      refine ⟨fun _ => ?_, fun z => absurd (hd.symm.trans z) (by simp), fun t e => ?_, fun o b ho => ?_⟩
      · show _ = (st.opened ++ [([], 0)]).flatMap brT
        rw [List.flatMap_append, T.dueT hd]
        rfl
      · have e' : st.whole = some t := e
        rw [hw] at e'
        cases e'
      · have ho' : st.opened ++ [([], 0)] = o ++ [b] := ho
        obtain ⟨e1, e2⟩ := List.append_inj' ho' rfl
        have e3 : b = ([], 0) := by simpa using e2.symm
        subst e1 e3
        exact ⟨hz, fun _ => ⟨fun _ => rfl, fun z => absurd (hd.symm.trans z) (by simp)⟩⟩
    · by_cases h2 : ¬ (48 ≤ c ∧ c < 58) ∨ c ∈ st.figs
      · rw [RS.take_bad hd h1 h2] at h; cases h
      · rw [RS.take_fig hd h1 h2] at h
        cases h
        obtain ⟨o, f, d, w⟩ := st
        dsimp only at hw hd h2 hz ⊢
        subst hw
        have h2' : 48 ≤ c ∧ c < 58 := Classical.byContradiction fun z => h2 (.inl z)
        have := RS.told_put (f := f ++ [c]) (d := d) (t := .pt (c - 48)) (T.dueT hd) hz
        have e : (Tr.pt (c - 48)).told = [c] := by
          show [48 + (c - 48)] = [c]
          rw [show 48 + (c - 48) = c by omega]
        rw [e] at this
        exact this
  · have hd : st.due = false := by simpa using hd
    rcases RS.last_cases st.opened with ho | ⟨o, b, ho⟩
    · rw [RS.take_end hd ho] at h; cases h
    · have hw := RS.opened_whole g ho
      obtain ⟨z1, z2⟩ := T.zer o b ho
      have hl := T.behT hd o b ho
      have hne := (g.two hd o b ho).1
      by_cases h2 : (c = 43 ∨ c = 42) ∧ (b.2 = 0 ∨ b.2 = c)
      · rw [RS.take_sign hd ho h2] at h
        cases h
        refine ⟨fun _ => ?_, (fun z => nomatch z), fun t e => ?_, fun o2 b2 ho2 => ?_⟩
        · show _ = (o ++ [(b.1, c)]).flatMap brT
          rw [List.flatMap_append, hl, List.append_assoc]
          congr 1
          have e1 : brF b = 40 :: joinC c (b.1.map Tr.told) := by
            unfold brF
            rcases h2.2 with z | z
            · have := (z2 z).2 hd
              match hb : b.1, this with
              | [x], _ => rfl
            · rw [z]
          have e2 : brT (b.1, c) = 40 :: (joinC c (b.1.map Tr.told) ++ [c]) := by
            unfold brT
            dsimp only
            rw [← joinC_fm c (b.1.map Tr.told) (by intro z; have := congrArg List.length z; simp at this; rw [this] at hne; exact absurd hne (by decide)), List.flatMap_map]
          rw [e1]
          simp [e2]
        · have e' : st.whole = some t := e
          rw [hw] at e'
          cases e'
        · have ho' : o ++ [(b.1, c)] = o2 ++ [b2] := ho2
          obtain ⟨e1, e2⟩ := List.append_inj' ho' rfl
          have e3 : b2 = (b.1, c) := by simpa using e2.symm
          subst e1 e3
          refine ⟨z1, fun h0 => ?_⟩
          have h0' : c = 0 := h0
          rcases h2.1 with z | z <;> rw [z] at h0' <;> cases h0'
      · by_cases h3 : c ≠ 41 ∨ b.2 = 0
        · rw [RS.take_none hd ho h2 h3] at h; cases h
        · rw [RS.take_close hd ho h2 h3] at h
          cases h
          obtain ⟨op, f, d, w⟩ := st
          dsimp only at hw hd ho ⊢
          subst hw ho
          have hc : c = 41 := Classical.byContradiction fun z => h3 (.inl z)
          have hb0 : b.2 ≠ 0 := fun z => h3 (.inr z)
          have := RS.told_put (f := f) (d := d) (t := .doing (decide (b.2 ≠ 43)) b.1) (l := o.flatMap brT) rfl z1
          have e : o.flatMap brT ++ (Tr.doing (decide (b.2 ≠ 43)) b.1).told = l ++ [c] := by
            rw [hl, hc, List.append_assoc]
            congr 1
            show brkC (joinC (sgnC (decide (b.2 ≠ 43))) (toldL b.1)) = _
            have es : sgnC (decide (b.2 ≠ 43)) = b.2 := by
              rcases g.sgn b (by simp) with z | z | z
              · exact absurd z hb0
              · rw [z]; rfl
              · rw [z]; rfl
            rw [es, toldL_map]
            rfl
          rw [e] at this
          exact this
/-- a text that was read, sign by sign -/
theorem RS.run_told_good : ∀ (l : List Nat) (st st' : RS) (a : List Nat), st.Good → st.Told a → st.run l = some st' → st'.Good ∧ st'.Told (a ++ l)
  | [], st, st', a, g, T, h => by cases h; rw [List.append_nil]; exact ⟨g, T⟩
  | c :: r, st, st', a, g, T, h => by
    rw [RS.run_cons] at h
    cases e : st.take c with
    | none => rw [e] at h; cases h
    | some s1 =>
      rw [e] at h
      have := RS.run_told_good r s1 st' (a ++ [c]) (RS.good_take g e) (RS.told_take g T e) h
      rw [List.append_assoc] at this
      exact this
theorem told_of_run {l : List Nat} {st : RS} {t : Tr} (h : RS.start.run l = some st) (hw : st.whole = some t) : t.told = l := by
  obtain ⟨_, T⟩ := RS.run_told_good l RS.start st [] RS.start_good RS.start_told h
  exact (T.endT t hw).symm

def wrongFrom (st : RS) (i : Nat) : List Nat → Int
  | [] => if st.due = true ∨ st.opened ≠ [] then (i : Int) else -1
  | c :: r => match st.take c with
    | none => (i : Int)
    | some st' => wrongFrom st' (i + 1) r
def wrongAt (l : List Nat) : Int := wrongFrom RS.start 0 l
theorem wrongFrom_app : ∀ (a b : List Nat) (st st' : RS) (i : Nat), st.run a = some st' → wrongFrom st i (a ++ b) = wrongFrom st' (i + a.length) b
  | [], b, st, st', i, h => by cases h; rfl
  | c :: a, b, st, st', i, h => by
    rw [RS.run_cons] at h
    cases e : st.take c with
    | none => rw [e] at h; cases h
    | some s1 =>
      rw [e] at h
      show (match st.take c with | none => (i : Int) | some st' => wrongFrom st' (i + 1) (a ++ b)) = _
      rw [e]
      dsimp only
      rw [wrongFrom_app a b s1 st' (i + 1) h, List.length_cons, show i + 1 + a.length = i + (a.length + 1) by omega]
theorem wrong_at {l : List Nat} {i c : Nat} {st : RS} (h : RS.start.run (l.take i) = some st) (hc : l[i]? = some c) (hn : st.take c = none) : wrongAt l = (i : Int) := by
  have hi : i < l.length := (List.getElem?_eq_some_iff.mp hc).1
  have e : l = l.take i ++ c :: l.drop (i + 1) := by
    have := List.getElem_cons_drop hi
    have hc' : l[i] = c := (List.getElem?_eq_some_iff.mp hc).2
    rw [hc'] at this
    rw [this, List.take_append_drop]
  have := wrongFrom_app (l.take i) (c :: l.drop (i + 1)) RS.start st 0 h
  rw [← e, List.length_take, Nat.min_eq_left (Nat.le_of_lt hi), Nat.zero_add] at this
  unfold wrongAt
  rw [this]
  show (match st.take c with | none => (i : Int) | some st' => wrongFrom st' (i + 1) (l.drop (i + 1))) = _
  rw [hn]
theorem wrong_end {l : List Nat} {st : RS} (h : RS.start.run l = some st) : wrongAt l = if st.due = true ∨ st.opened ≠ [] then (l.length : Int) else -1 := by
  have := wrongFrom_app l [] RS.start st 0 h
  rw [List.append_nil, Nat.zero_add] at this
  exact this
theorem RS.Good.whole_iff {st : RS} (g : st.Good) : st.whole = none ↔ (st.due = true ∨ st.opened ≠ []) := by
  constructor
  · intro h
    by_cases hd : st.due = true
    · exact .inl hd
    · exact .inr fun z => g.end_ (by simpa using hd) z h
  · rintro (h | h)
    · exact RS.due_whole g h
    · rcases RS.last_cases st.opened with z | ⟨o, b, z⟩
      · exact absurd z h
      · exact RS.opened_whole g z
theorem wrong_told (t : Tr) (h : t.two) (nd : t.pts.Nodup) : wrongAt t.told = -1 := by
  rw [wrong_end (read_told t h nd), if_neg (by simp)]
end Bw

set_option Elab.async false
set_option linter.all false
set_option maxRecDepth 100000
set_option maxHeartbeats 4000000
namespace L2
open PySem PySem.Spec PyProof.Rows

def clOf (cells : List (Str × Addr)) : List (Str × NameKind) → List (Str × Addr) → List (Str × Addr)
  | [], acc => acc
  | (n, k) :: r, acc => if k == .free then clOf cells r ((n, (cells.lookup n).getD 0) :: acc) else clOf cells r acc
theorem forIn_clOf {env : Env} (f : Str × NameKind → List (Str × Addr) → Sem (ForInStep (List (Str × Addr))))
    (hf : ∀ n k cs, f (n, k) cs = if k == .free then (cellOf env n >>= fun a => pure (.yield ((n, a) :: cs))) else pure (.yield cs)) :
    ∀ (names : List (Str × NameKind)) (acc : List (Str × Addr)), (∀ y ∈ names, y.2 = .free → ∃ c, env.cells.lookup y.1 = some c) → forIn names acc f = pure (clOf env.cells names acc)
  | [], acc, _ => rfl
  | (n, k) :: r, acc, h => by
    rw [List.forIn_cons, hf]
    unfold clOf
    by_cases hk : (k == NameKind.free) = true
    · obtain ⟨c, hc⟩ := h (n, k) List.mem_cons_self (by simpa using hk)
      have e : cellOf env n = pure c := by unfold cellOf; rw [hc]
      have hc' : List.lookup n env.cells = some c := hc
      rw [if_pos hk, if_pos hk, e, pure_bind, pure_bind, hc']
      exact forIn_clOf f hf r _ fun y hy => h y (List.mem_cons_of_mem _ hy)
    · rw [if_neg hk, if_neg hk, pure_bind]
      exact forIn_clOf f hf r _ fun y hy => h y (List.mem_cons_of_mem _ hy)
theorem closure_eq {env : Env} {scope : Scope} (h : ∀ y ∈ scope.names, y.2 = .free → ∃ c, env.cells.lookup y.1 = some c) : closureFor scope env = pure (clOf env.cells scope.names []) := by
  simp only [closureFor]
  rw [forIn_clOf (env := env) _ (fun n k cs => by cases hk : k == NameKind.free <;> simp [hk]) scope.names [] h]
  simp
theorem lookup_cons' {α : Type} (x n : Str) (v : α) (l : List (Str × α)) : ((n, v) :: l).lookup x = if x = n then some v else l.lookup x := by
  rw [List.lookup_cons]
  by_cases h : x = n
  · subst h; simp
  · have hb : (x == n) = false := beq_eq_false_iff_ne.mpr h
    simp only [hb, h, if_false]
theorem clOf_look {cells : List (Str × Addr)} : ∀ (names : List (Str × NameKind)) (acc : List (Str × Addr)), (∀ y ∈ names, y.2 = .free → ∃ c, cells.lookup y.1 = some c) →
    (∀ x c, acc.lookup x = some c → cells.lookup x = some c) → ∀ x c, (clOf cells names acc).lookup x = some c → cells.lookup x = some c
  | [], acc, _, ha, x, c, h => ha x c h
  | (n, k) :: r, acc, hn, ha, x, c, h => by
    unfold clOf at h
    by_cases hk : (k == NameKind.free) = true
    · rw [if_pos hk] at h
      obtain ⟨d, hd⟩ := hn (n, k) List.mem_cons_self (by simpa using hk)
      refine clOf_look r _ (fun y hy => hn y (List.mem_cons_of_mem _ hy)) (fun y e hy => ?_) x c h
      rw [lookup_cons'] at hy
      split at hy
      · rename_i q
        subst q
        have hd' : List.lookup y cells = some d := hd
        rw [hd'] at hy ⊢
        exact hy
      · exact ha y e hy
    · rw [if_neg hk] at h
      exact clOf_look r acc (fun y hy => hn y (List.mem_cons_of_mem _ hy)) ha x c h
theorem clOf_has {cells : List (Str × Addr)} {x : Str} : ∀ (names : List (Str × NameKind)) (acc : List (Str × Addr)), ((x, NameKind.free) ∈ names ∨ (acc.lookup x).isSome = true) → ((clOf cells names acc).lookup x).isSome = true
  | [], acc, h => by
    rcases h with h | h
    · cases h
    · exact h
  | (n, k) :: r, acc, h => by
    unfold clOf
    by_cases hk : (k == NameKind.free) = true
    · rw [if_pos hk]
      refine clOf_has r _ ?_
      rw [lookup_cons']
      rcases h with h | h
      · rcases List.mem_cons.mp h with e | h
        · cases e; right; simp
        · exact .inl h
      · right
        split
        · rfl
        · exact h
    · rw [if_neg hk]
      refine clOf_has r _ ?_
      rcases h with h | h
      · rcases List.mem_cons.mp h with e | h
        · cases e; simp at hk
        · exact .inl h
      · exact .inr h
theorem cellsFrom_append : ∀ (names : List (Str × NameKind)) (n : Nat) (acc : List (Str × Addr)), cellsFrom n names acc = cellsFrom n names [] ++ acc
  | [], _, _ => rfl
  | (x, k) :: r, n, acc => by
    unfold cellsFrom
    split
    · rw [cellsFrom_append r (n + 1) ((x, n) :: acc), cellsFrom_append r (n + 1) [(x, n)]]
      simp
    · exact cellsFrom_append r n acc
theorem cellsFrom_mem : ∀ (names : List (Str × NameKind)) (n : Nat) (acc : List (Str × Addr)) (x : Str) (c : Addr), (x, c) ∈ cellsFrom n names acc → (x, c) ∈ acc ∨ ((x, NameKind.cell) ∈ names ∧ n ≤ c)
  | [], _, _, _, _, h => .inl h
  | (y, k) :: r, n, acc, x, c, h => by
    unfold cellsFrom at h
    by_cases hk : (k == NameKind.cell) = true
    · rw [if_pos hk] at h
      have hk' : k = .cell := by simpa using hk
      rcases cellsFrom_mem r (n + 1) _ x c h with z | ⟨z, l⟩
      · rcases List.mem_cons.mp z with e | z
        · cases e; exact .inr ⟨by rw [hk']; exact List.mem_cons_self, Nat.le_refl _⟩
        · exact .inl z
      · exact .inr ⟨List.mem_cons_of_mem _ z, Nat.le_of_succ_le l⟩
    · rw [if_neg hk] at h
      rcases cellsFrom_mem r n _ x c h with z | ⟨z, l⟩
      · exact .inl z
      · exact .inr ⟨List.mem_cons_of_mem _ z, l⟩
theorem relabel_look (sc : Scope) (env : Env) (x : Str) : (relabel sc env).names.lookup x = (sc.names.lookup x).map fun k => if (k == NameKind.free && env.scope.kind == .function && env.kindOf x == some .cell) = true then .cell else k := by
  show (sc.names.map fun (n, k) => if (k == NameKind.free && env.scope.kind == .function && env.kindOf n == some .cell) then (n, NameKind.cell) else (n, k)).lookup x = _
  induction sc.names with
  | nil => rfl
  | cons p r ih =>
    obtain ⟨n, k⟩ := p
    have ec : (if (k == NameKind.free && env.scope.kind == .function && env.kindOf n == some .cell) = true then (n, NameKind.cell) else (n, k)) = (n, if (k == NameKind.free && env.scope.kind == .function && env.kindOf n == some .cell) = true then NameKind.cell else k) := by
      split <;> rfl
    show ((if (k == NameKind.free && env.scope.kind == .function && env.kindOf n == some .cell) = true then (n, NameKind.cell) else (n, k)) :: r.map _).lookup x = _
    rw [ec, lookup_cons', lookup_cons']
    by_cases hx : x = n
    · subst hx
      rw [if_pos rfl, if_pos rfl, Option.map_some]
    · rw [if_neg hx, if_neg hx]
      exact ih

theorem newEnv_comp {M : Model} {A : Around} {E : Value → Shared → Prop} {s : Shared} {scope : Scope} {env : Env} {cl : List (Str × Addr)} {Q : Env → Shared → Prop}
    (h : Q { scope := scope, locals := s.heap.objs.size, globals := env.globals, cells := cellsFrom (s.heap.objs.size + 1) scope.names cl, qual := env.qual, func := none, code := env.code, frame := env.frame, builtins := env.builtins }
      { s with heap := pushCells (s.heap.push { cls := .type "dict", data := .dict #[] }) scope.names }) :
    wpAny M A (newFunctionEnv scope env.globals cl [] env.qual none .none (some env)) Q E s := by
  simp only [newFunctionEnv, Option.isSome_some, if_true]
  refine wpAny_bind (wpAny_alloc ?_)
  refine wpAny_bind (wpAny_layCells _ (fun name kind cells => by cases hkc : kind == NameKind.cell <;> simp [hkc]) _ _ _ _ ?_)
  rw [show ({ s with heap := s.heap.push { cls := .type "dict", data := .dict #[] } } : Shared).heap.objs.size = s.heap.objs.size + 1 from Heap.size_push ..]
  exact wpAny_bind (wpAny_pure (wpAny_pure h))

section
variable {prog : Program} {w : World} {A : Around} {R : Result → Shared → Prop} {s : Shared}
theorem compLoop_own {elt target iter : Expr} {ifs : List Expr} {scope : Scope} {pos : Pos} {it acc : Value} {env : Env} (I : Nat → Shared → Prop)
    (turn : ∀ n s, I n s → wpAny (model prog w) A (pyNext it) (fun r s₁ => match r with
      | none => R (.ok .next) s₁
      | some v => wpAny (model prog w) A (letOwnedTupleGo target it v) (fun _ s' => wpAny (model prog w) A (assign target env v) (fun _ s₂ =>
          wpAny (model prog w) A (forIn ifs true fun c r => if r = true then do let ok ← isTrue c env (eval c env); pure (ForInStep.yield ok) else pure (ForInStep.yield r)) (fun ok s₃ =>
            if ok = true then wpAny (model prog w) A (eval elt env) (fun x s₄ =>
              wpAny (model prog w) A (call (.builtin "list.append") [acc, x]) (fun _ s₅ => ∃ m, m < n ∧ I m s₅) (fun _ _ => False) s₄) (fun _ _ => False) s₃
            else ∃ m, m < n ∧ I m s₃) (fun _ _ => False) s₂) (fun _ _ => False) s') (fun _ _ => False) s₁) (fun _ _ => False) s)
    (n : Nat) (h : I n s) :
    codeAny (model prog w) A (.compLoop (.ListComp elt [⟨target, iter, ifs, 0⟩] scope pos) 0 it acc env) R s := by
  refine codeAny_loop rfl I (fun n s hI => ?_) n h
  show wpAny _ A ((compTurn (.ListComp elt [⟨target, iter, ifs, 0⟩] scope pos) 0 it acc env).onRaise (fun x => do noteFrame x env; theTreesLotGoes x)) _ _ s
  refine wpAny_noted ?_
  rw [compTurn_list]
  refine wpAny_bind (wpAny_standAt (wpAny_bind (wpAny_mono (turn n s hI) (fun r s₁ h₁ => ?_) fun _ _ h' => h'.elim)))
  cases r with
  | none => exact wpAny_pure h₁
  | some v =>
    refine wpAny_bind (wpAny_mono h₁ (fun _ s' h' => ?_) fun _ _ h' => h'.elim)
    refine wpAny_bind (wpAny_mono h' (fun _ s₂ h₂ => wpAny_bind (wpAny_mono h₂ (fun ok s₃ h₃ => ?_) fun _ _ h' => h'.elim)) fun _ _ h' => h'.elim)
    cases ok with
    | false => exact wpAny_pure ⟨rfl, h₃⟩
    | true =>
      exact wpAny_bind (wpAny_bind (wpAny_mono h₃ (fun x s₄ h₄ => wpAny_bind (wpAny_mono h₄ (fun _ s₅ h₅ => wpAny_pure (wpAny_pure ⟨rfl, h₅⟩)) fun _ _ h' => h'.elim)) fun _ _ h' => h'.elim))
end

/-- NX, sx: the names and the scope around; sc: the block's own; N': the block's names, those drawn from around first; ix: the places of these around -/
structure CScope (NX : List Str) (sx sc : Scope) (N' : List Str) (ix : List Nat) : Prop where
  kind : sc.kind = .function
  loc : ∀ x ∈ sc.names, x.2 = .local → sc.names.lookup x.1 = some .local
  cel : ∀ x ∈ sc.names, x.2 = .cell → sc.names.lookup x.1 = some .cell
  nd : N'.Nodup
  len : ix.length ≤ N'.length
  cap : ∀ p ∈ ix.zip N', NX[p.1]? = some p.2 ∧ sc.names.lookup p.2 = some .free
  free : ∀ y ∈ sc.names, y.2 = .free → sx.names.lookup y.1 = some .cell ∨ sx.names.lookup y.1 = some .free
def blockSt (N' : List Str) (ix : List Nat) (σ : St) : St := ix.map (fun j => (σ[j]?).getD none) ++ List.replicate (N'.length - ix.length) none
def cxComp (X : Cx) (sc : Scope) (N' : List Str) (fp : List Addr) (C : Addr) (s : Shared) (H : Hp) : Cx :=
  { X with N := N', s₀ := s, H₀ := H, env := compEnvC sc (cellsFrom (C + 1) sc.names (clOf X.env.cells sc.names [])) C X.env, outer := X.stack, ex := fp, fn := fun x => sc.names.lookup x == some .cell, pn := [], xe := fun _ _ => False }

section
variable {X : Cx} {pins : List (Addr × Obj)} {σ : St} {H2 : Hp} {s2 : Shared} {sc : Scope} {N' : List Str} {ix : List Nat} {fp : List Addr} {C : Addr}
theorem cap_at (S : CScope X.N X.env.scope sc N' ix) {i : Nat} {x : Str} {v : V} (e1 : N'[i]? = some x) (e2 : (blockSt N' ix σ)[i]? = some (some v)) :
    ∃ j : Nat, σ[j]? = some (some v) ∧ X.N[j]? = some x ∧ sc.names.lookup x = some .free := by
  unfold blockSt at e2
  by_cases hi : i < ix.length
  · rw [List.getElem?_append_left (by simpa using hi), List.getElem?_map, List.getElem?_eq_getElem hi] at e2
    have e3 : (σ[ix[i]]?).getD none = some v := Option.some.inj e2
    have hm : (ix[i], x) ∈ ix.zip N' := by
      rw [List.mem_iff_getElem?]
      refine ⟨i, ?_⟩
      rw [List.getElem?_zip_eq_some]
      exact ⟨List.getElem?_eq_getElem hi, e1⟩
    obtain ⟨a, b⟩ := S.cap _ hm
    refine ⟨ix[i], ?_, a, b⟩
    cases q : σ[ix[i]]? with
    | none => rw [q] at e3; cases e3
    | some o => rw [q] at e3; exact congrArg some e3
  · rw [List.getElem?_append_right (by simpa using hi), List.getElem?_replicate] at e2
    split at e2 <;> cases e2
theorem free_has (I2 : Inv X pins σ H2 s2) (S : CScope X.N X.env.scope sc N' ix) : ∀ y ∈ sc.names, y.2 = .free → ∃ c, X.env.cells.lookup y.1 = some c := fun y hy hf =>
  I2.ok.has y.1 (S.free y hy hf)
theorem cells_split (I2 : Inv X pins σ H2 s2) (S : CScope X.N X.env.scope sc N' ix) {x : Str} {c : Addr} (h : (cellsFrom (C + 1) sc.names (clOf X.env.cells sc.names [])).lookup x = some c) :
    ((x, c) ∈ cellsFrom (C + 1) sc.names [] ∧ C + 1 ≤ c) ∨ X.env.cells.lookup x = some c := by
  rw [cellsFrom_append, List.lookup_append] at h
  cases q : (cellsFrom (C + 1) sc.names []).lookup x with
  | some d =>
    rw [q] at h
    have e : d = c := Option.some.inj h
    subst e
    have hm := PySem.mem_of_lookup q
    rcases cellsFrom_mem _ _ _ _ _ hm with z | z
    · cases z
    · exact .inl ⟨hm, z.2⟩
  | none =>
    rw [q] at h
    exact .inr (clOf_look sc.names [] (free_has I2 S) (fun x c h => by cases h) x c h)
theorem cells_free (I2 : Inv X pins σ H2 s2) (S : CScope X.N X.env.scope sc N' ix) {x : Str} {c : Addr} (hx : sc.names.lookup x = some .free) (hc : X.env.cells.lookup x = some c) :
    (cellsFrom (C + 1) sc.names (clOf X.env.cells sc.names [])).lookup x = some c := by
  rw [cellsFrom_append, List.lookup_append]
  cases q : (cellsFrom (C + 1) sc.names []).lookup x with
  | some d =>
    rcases cellsFrom_mem _ _ _ _ _ (PySem.mem_of_lookup q) with z | z
    · cases z
    · have := S.cel _ z.1 rfl
      rw [hx] at this
      cases this
  | none =>
    have h1 := clOf_has (cells := X.env.cells) sc.names [] (.inl (PySem.mem_of_lookup hx))
    obtain ⟨d, hd⟩ := Option.isSome_iff_exists.mp h1
    have h2 := clOf_look sc.names [] (free_has I2 S) (fun x c h => by cases h) x d hd
    rw [hc] at h2
    rw [hd, ← h2]
    rfl
theorem comp_loc (I2 : Inv X pins σ H2 s2) (S : CScope X.N X.env.scope sc N' ix) {H' : Hp} {h' : Heap} (u : Un (frs X.stack) fp H2 H' s2.heap h') (hf : ∀ b ∈ fp, FpOk X pins H2 b) {m : Str → Option Value} :
    ∀ (i : Nat) (x : Str) (v : V), N'[i]? = some x → (blockSt N' ix σ)[i]? = some (some v) → ∃ u, RelV v u ∧ Look (compEnvC sc (cellsFrom (C + 1) sc.names (clOf X.env.cells sc.names [])) C X.env) h' m x u := by
  intro i x v e1 e2
  obtain ⟨j, a1, a2, a3⟩ := cap_at (σ := σ) S e1 e2
  have hk : X.env.scope.names.lookup x = some .cell ∨ X.env.scope.names.lookup x = some .free := S.free _ (PySem.mem_of_lookup a3) rfl
  obtain ⟨m0, hn0, hl⟩ := I2.loc
  obtain ⟨u0, r, l⟩ := hl j x v a2 a1 (.inr hk)
  refine ⟨u0, r, .inr ⟨?_, ?_⟩⟩
  · show (relabel sc X.env).names.lookup x = some .cell ∨ (relabel sc X.env).names.lookup x = some .free
    rw [relabel_look, a3, Option.map_some]
    split
    · exact .inl rfl
    · exact .inr rfl
  · rcases l with ⟨k, _⟩ | ⟨k, c, hc, o, ho, hd⟩
    · have k' : X.env.scope.names.lookup x = some .local := k
      rcases hk with z | z <;> rw [z] at k' <;> cases k'
    · refine ⟨c, cells_free I2 S a3 hc, ?_⟩
      have nfp : c ∉ fp := fun z => (hf c z).2.2.2.2.1 x c hc rfl
      obtain ⟨sl, q⟩ := u.any ho (I2.freeC x c hc) nfp
      exact ⟨_, q, hd⟩
theorem blockSt_len (S : CScope X.N X.env.scope sc N' ix) : (blockSt N' ix σ).length = N'.length := by
  unfold blockSt
  have := S.len
  rw [List.length_append, List.length_map, List.length_replicate]
  omega
theorem comp_reset (I2 : Inv X pins σ H2 s2) (S : CScope X.N X.env.scope sc N' ix) (hf : ∀ b ∈ fp, FpOk X pins H2 b) {pins' : List (Addr × Obj)} {σ' : St} {H' : Hp} {s' : Shared}
    (I' : Inv (cxComp X sc N' fp C s2 H2) pins' σ' H' s') : Inv (cxComp X sc N' fp C s2 H2) pins' (blockSt N' ix σ) H' s' :=
  ⟨I'.ok, I'.os, I'.bare, I'.base, let ⟨m, hn, _⟩ := I'.loc; ⟨m, hn, fun i x v e1 e2 _ => comp_loc I2 S I'.base hf i x v e1 e2⟩, I'.cell, I'.free, I'.freeC, I'.pin, I'.hok, blockSt_len S⟩

/-- the block's entry: the list is laid, the block's names, its cells -/
theorem comp_start (I2 : Inv X pins σ H2 s2) (S : CScope X.N X.env.scope sc N' ix) (hf : ∀ b ∈ fp, FpOk X pins H2 b) (ho : ∀ b ∈ fp, b < s2.heap.objs.size) :
    Inv (cxComp X sc N' fp (s2.heap.objs.size + 1) s2 H2) [(s2.heap.objs.size, { cls := .type "list", data := .seq ([] : List Value).toArray })] (blockSt N' ix σ) H2
      { s2 with heap := pushCells ((s2.heap.push { cls := .type "list", data := .seq ([] : List Value).toArray }).push { cls := .type "dict", data := .dict #[] }) sc.names } := by
  have z1 : (s2.heap.push { cls := .type "list", data := .seq ([] : List Value).toArray }).objs.size = s2.heap.objs.size + 1 := Heap.size_push ..
  have z2 : ((s2.heap.push { cls := .type "list", data := .seq ([] : List Value).toArray }).push { cls := .type "dict", data := .dict #[] }).objs.size = s2.heap.objs.size + 1 + 1 := by rw [Heap.size_push, z1]
  have keep : ∀ b o, s2.heap.get? b = some o → (pushCells ((s2.heap.push { cls := .type "list", data := .seq ([] : List Value).toArray }).push { cls := .type "dict", data := .dict #[] }) sc.names).get? b = some o := fun b o e =>
    pushCells_keeps _ _ b o (Heap.get?_push_of_some _ (Heap.get?_push_of_some _ e))
  have hD : (pushCells ((s2.heap.push { cls := .type "list", data := .seq ([] : List Value).toArray }).push { cls := .type "dict", data := .dict #[] }) sc.names).get? s2.heap.objs.size = some { cls := .type "list", data := .seq ([] : List Value).toArray } :=
    pushCells_keeps _ _ _ _ (Heap.get?_push_of_some _ (Heap.get?_push_size _ rfl))
  have ok := cellsFrom_ok sc.names ((s2.heap.push { cls := .type "list", data := .seq ([] : List Value).toArray }).push { cls := .type "dict", data := .dict #[] }) (s2.heap.objs.size + 1 + 1) [] ⟨fun _ _ hm => (nomatch hm), List.Pairwise.nil⟩ (by rw [z2]; exact Nat.le_refl _)
  rw [z2] at ok
  have ns : (pushCells ((s2.heap.push { cls := .type "list", data := .seq ([] : List Value).toArray }).push { cls := .type "dict", data := .dict #[] }) sc.names).Ns (s2.heap.objs.size + 1) (fun _ => none) := by
    have := (Heap.Ns.new (s2.heap.push { cls := .type "list", data := .seq ([] : List Value).toArray }) (.type "dict")).keeps (pushCells_keeps sc.names _)
    rw [z1] at this
    exact this
  have lt : ∀ x c, X.env.cells.lookup x = some c → c < s2.heap.objs.size := fun x c e => by
    obtain ⟨v, q⟩ := I2.cell x c e
    exact q.lt
  refine ⟨⟨I2.ok.mod, S.kind, I2.ok.glob, I2.ok.blt, Nat.le_succ _, fun x y c h1 h2 => ?_, fun x hx => ?_, fun x c hx h => ?_, I2.ok.hd, I2.ok.frames, .inl rfl, fun b hb => ⟨?_, fun x c h z => ?_⟩, I2.bs, Nat.le_trans I2.ok.bsz I2.sz, fun b o e hb => ?_, fun b hb z => ?_, I2.stack, I2.stkFree⟩,
    rfl, I2.bare, Un.kept keep, ⟨_, ns, fun i x v e1 e2 _ => comp_loc I2 S (Un.kept keep) hf i x v e1 e2⟩, fun x c h => ?_, I2.hok.fresh (Nat.le_succ _), fun x c h => ?_, fun p hp => ?_, I2.hok.kept keep, blockSt_len S⟩
  · rcases cells_split I2 S h1 with ⟨m1, l1⟩ | e1 <;> rcases cells_split I2 S h2 with ⟨m2, l2⟩ | e2
    · exact name_of_addr ok.apart m1 m2
    · exact absurd (lt _ _ e2) (Nat.not_lt.mpr (Nat.le_trans (Nat.le_add_right _ 2) l1))
    · exact absurd (lt _ _ e1) (Nat.not_lt.mpr (Nat.le_trans (Nat.le_add_right _ 2) l2))
    · exact I2.ok.inj x y c e1 e2
  · have hx' : (relabel sc X.env).names.lookup x = some .cell ∨ (relabel sc X.env).names.lookup x = some .free := hx
    rw [relabel_look] at hx'
    cases q : sc.names.lookup x with
    | none => rw [q] at hx'; rcases hx' with z | z <;> cases z
    | some k =>
      rw [q, Option.map_some] at hx'
      by_cases hf' : k = .free
      · subst hf'
        obtain ⟨c, hc⟩ := free_has I2 S _ (PySem.mem_of_lookup q) rfl
        exact ⟨c, cells_free I2 S q hc⟩
      · have hk : (k == NameKind.free && X.env.scope.kind == .function && X.env.kindOf x == some .cell) = false := by
          have : (k == NameKind.free) = false := by simpa using hf'
          rw [this]; rfl
        rw [hk] at hx'
        simp only [Bool.false_eq_true, if_false, Option.some.injEq] at hx'
        have hc : k = .cell := by
          rcases hx' with z | z
          · exact z
          · exact absurd z hf'
        subst hc
        exact Option.isSome_iff_exists.mp (PySem.W.cellsFrom_some sc.names _ _ (.inl q))
  · have hx2 : (sc.names.lookup x == some NameKind.cell) = true := hx
    have hx' : sc.names.lookup x = some .cell := by simpa using hx2
    rcases cells_split I2 S h with ⟨_, l⟩ | e
    · exact Nat.le_trans (Nat.le_add_right _ 2) l
    · exfalso
      have h1 : ((cellsFrom (s2.heap.objs.size + 1 + 1) sc.names []).lookup x).isSome = true := PySem.W.cellsFrom_some sc.names _ _ (.inl hx')
      obtain ⟨d, hd⟩ := Option.isSome_iff_exists.mp h1
      have h2 : (cellsFrom (s2.heap.objs.size + 1 + 1) sc.names (clOf X.env.cells sc.names [])).lookup x = some d := by
        rw [cellsFrom_append, List.lookup_append, hd]; rfl
      have h3 : (cellsFrom (s2.heap.objs.size + 1 + 1) sc.names (clOf X.env.cells sc.names [])).lookup x = some c := h
      rw [h2] at h3
      cases h3
      rcases cellsFrom_mem _ _ _ _ _ (PySem.mem_of_lookup hd) with z | z
      · cases z
      · exact absurd (lt x _ e) (Nat.not_lt.mpr (Nat.le_trans (Nat.le_add_right _ 2) z.2))
  · show b ≠ s2.heap.objs.size + 1
    exact Nat.ne_of_lt (Nat.lt_succ_of_lt (ho b hb))
  · subst z
    rcases cells_split I2 S h with ⟨_, l⟩ | e
    · exact absurd (ho _ hb) (Nat.not_lt.mpr (Nat.le_trans (Nat.le_add_right _ 2) l))
    · exact (hf _ hb).2.2.2.2.1 x _ e rfl
  · rcases (hf b hb).2.2.2.1 with z | z
    · exact I2.ok.noex b o e z
    · exact absurd (Nat.lt_of_lt_of_le (Heap.lt_size e) (Nat.le_trans I2.ok.bsz z)) (Nat.lt_irrefl _)
  · rcases List.mem_cons.mp (I2.stkSub b z) with e | e
    · exact (hf b hb).2.1 e
    · exact (hf b hb).2.2.1 e
  · rcases cells_split I2 S h with ⟨m1, l⟩ | e
    · exact ⟨_, (ok.empty x c m1).1⟩
    · obtain ⟨v, q⟩ := I2.cell x c e
      exact ⟨v, q.keeps keep⟩
  · rcases cells_split I2 S h with ⟨m1, l⟩ | e
    · exact I2.hok.fresh (Nat.le_trans (Nat.le_add_right _ 2) l)
    · exact I2.freeC x c e
  · have e : p = (s2.heap.objs.size, { cls := .type "list", data := .seq ([] : List Value).toArray }) := by simpa [cxComp] using hp
    subst e
    refine ⟨hD, I2.hok.fresh (Nat.le_refl _), ?_, fun z => ?_, fun v z => by cases z⟩
    · show s2.heap.objs.size ≠ s2.heap.objs.size + 1
      omega
    · rcases List.mem_cons.mp (I2.stkSub _ z) with e | e
      · have e' : s2.heap.objs.size = X.env.locals := e
        exact absurd I2.lt (by rw [← e']; exact Nat.lt_irrefl _)
      · exact I2.nofs (Nat.le_refl _) e
end

def PIf (X : Cx) (ifs : List Expr) (t : TT) : Prop :=
  ∀ (pins : List (Addr × Obj)) (s : Shared) (σ : St) (H : Hp) (Q : Bool → Hp → Prop), Inv X pins σ H s → t σ H Q →
    wpAny (model X.prog X.w) X.A (forIn ifs true fun c r => if r = true then do let ok ← isTrue c X.env (eval c X.env); pure (ForInStep.yield ok) else pure (ForInStep.yield r)) (TP X pins σ Q) X.xe s
def tYes : TT := fun _ H Q => Q true H
theorem pif_nil {X : Cx} : PIf X [] tYes := fun _ _ _ H _ I h => wpAny_tests_nil ⟨H, I, h⟩
/-- the gathered list is laid -/
def CDone (Q : VK) (H : Hp) (ys : List V) : Prop := ∀ l, H l = none → Q (.ref l) (upd H l (.lst ys))
/-- W: the invariant by the turn, a measure, what has been gathered -/
def tComp (N' : List Str) (ix : List Nat) (wi : TI) (g : TG) (tt : TT) (te : TE) : TE := fun σ H Q => wi σ H fun J H1 => ∃ W : Nat → Nat → List V → Hp → Prop, (∃ m, W 0 m [] H1) ∧ ∀ i m ys H, W i m ys H →
  (J.stop i H ∧ CDone Q H ys) ∨
  (J.go i H ∧ ∀ x H', J.yld i H x H' → g x (blockSt N' ix σ) H' fun σ2 H2 => tt σ2 H2 fun b H3 =>
    if b = true then te σ2 H3 fun y H4 => ys.length < sizeLine ∧ ∃ m', m' < m ∧ W (i + 1) m' (ys ++ [y]) H4 else ∃ m', m' < m ∧ W (i + 1) m' ys H3)

theorem HOk.adopt {P : Program} {w : World} {H : Hp} {h h' : Heap} {a : Addr} {o : HO} (x : HOk P w H h) (hn : H a = none) (k : ∀ b u, H b ≠ none → h.get? b = some u → h'.get? b = some u) (new : ObjOk P w (upd H a o) h' a o) : HOk P w (upd H a o) h' := fun b u e => by
  by_cases hb : b = a
  · subst hb; rw [upd_same] at e; cases e; exact new
  · rw [upd_ne hb] at e
    refine (x b u e).stay (fun c v hc q => k c v ?_ q) (fun c q => by rw [upd_ne (ne_of_none q hn)]; exact q) fun c xs q => by rw [upd_ne (ne_of_none q hn)]; exact q
    rcases hc with rfl | hc
    · rw [e]; exact fun z => nomatch z
    · rw [hc]; exact fun z => nomatch z

section
variable {X : Cx} {pins : List (Addr × Obj)} {σ : St} {H : Hp} {s : Shared} {sc : Scope} {N' : List Str} {ix : List Nat} {elt tg iter : Expr} {ifs : List Expr} {pos pos' : Pos} {wi : TI} {g : TG} {tt : TT} {te : TE} {Q : VK}
theorem comp_core {use : Option (Value → Sem Unit)} {Qf : Value → Shared → Prop} (hc : X.calm = true) (hi : PI X tg iter wi) (S : CScope X.N X.env.scope sc N' ix)
    (hg : ∀ fp C s H, PG (cxComp X sc N' fp C s H) tg g) (hif : ∀ fp C s H, PIf (cxComp X sc N' fp C s H) ifs tt) (he : ∀ fp C s H, PE (cxComp X sc N' fp C s H) elt te)
    (hs : ∀ x, foldedSetIterable iter X.env x = pure x) (I : Inv X pins σ H s) (h : tComp N' ix wi g tt te σ H Q)
    (fin : ∀ (D C : Addr) (s' : Shared) (H' : Hp) (m : Str → Option Value), Inv X pins σ H' s' → Q (.ref D) H' → s'.heap.Ns C m → FpOk X pins H' C → compPost (model X.prog X.w) X.A X.xe use Qf (.ref D) C (.ok .next) s') :
    wpAny (model X.prog X.w) X.A (comprehension (.ListComp elt [⟨tg, iter, ifs, 0⟩] sc pos) sc X.env pos' (newList []) false (eval iter X.env) use) Qf X.xe s := by
  refine wpAny_comprehension_free (use := use) rfl hs (closure_eq (free_has I S)) S.kind S.loc ?_
  refine thn (hi pins s σ H _ I h) fun v s1 h1 => thn h1 fun itv s2 h2 => ?_
  obtain ⟨it, fp, tn, J, H2, e, I2, T, st2, f2, W, ⟨m0, w0⟩, turn⟩ := h2
  subst e
  have ho : ∀ b ∈ fp, b < s2.heap.objs.size := fun b hb => by
    obtain ⟨o, e, _⟩ := T.obj _ _ st2 b hb
    exact Heap.lt_size e
  have z1 : (s2.heap.push { cls := .type "list", data := .seq ([] : List Value).toArray }).objs.size = s2.heap.objs.size + 1 := Heap.size_push ..
  refine wpAny_newObj_type (newEnv_comp ?_)
  have I0 := comp_start I2 S f2 ho
  have st0 : tn 0 (pushCells ((s2.heap.push { cls := .type "list", data := .seq ([] : List Value).toArray }).push { cls := .type "dict", data := .dict #[] }) sc.names) :=
    T.keep _ _ _ st2 fun b _ o e => pushCells_keeps _ _ b o (Heap.get?_push_of_some _ (Heap.get?_push_of_some _ e))
  dsimp only
  rw [z1]
  generalize hs4 : ({ s2 with heap := pushCells ((s2.heap.push { cls := .type "list", data := .seq ([] : List Value).toArray }).push { cls := .type "dict", data := .dict #[] }) sc.names } : Shared) = s4 at I0
  have st0' : tn 0 s4.heap := by rw [← hs4]; exact st0
  -- what stays true of the iterator's objects in the block
  have D_C : s2.heap.objs.size ≠ s2.heap.objs.size + 1 := by omega
  have D_cell : ∀ x c, (cxComp X sc N' fp (s2.heap.objs.size + 1) s2 H2).env.cells.lookup x = some c → c ≠ s2.heap.objs.size := fun x c e z => by
    rcases cells_split I2 S e with ⟨_, l⟩ | e
    · rw [z] at l
      exact absurd (Nat.le_of_succ_le l) (Nat.not_succ_le_self _)
    · obtain ⟨v, q⟩ := I2.cell x c e
      have q' := q.lt
      rw [z] at q'
      exact absurd q' (Nat.lt_irrefl _)
  have fpB : ∀ {H' : Hp} {o : Obj}, (∀ b ∈ fp, H' b = none) → ∀ b ∈ fp, FpOk (cxComp X sc N' fp (s2.heap.objs.size + 1) s2 H2) [(s2.heap.objs.size, o)] H' b := fun {H' o} hn b hb => by
    refine ⟨hn b hb, ?_, I0.ok.exfs b hb, .inl hb, fun x c e => (I0.ok.exf b hb).2 x c e, fun p hp => ?_⟩
    · exact (I0.ok.exf b hb).1
    · have e : p = (s2.heap.objs.size, o) := by simpa [cxComp] using hp
      subst e
      exact (Nat.ne_of_lt (ho b hb)).symm
  -- the loop
  have loop : codeAny (model X.prog X.w) X.A (.compLoop (.ListComp elt [⟨tg, iter, ifs, 0⟩] sc pos) 0 (.ref it) (.ref s2.heap.objs.size) (cxComp X sc N' fp (s2.heap.objs.size + 1) s2 H2).env)
      (compPost (model X.prog X.w) X.A X.xe use Qf (.ref s2.heap.objs.size) (s2.heap.objs.size + 1)) s4 := by
    refine compLoop_own (fun n s' => ∃ i ys H' its nn, Inv (cxComp X sc N' fp (s2.heap.objs.size + 1) s2 H2) [(s2.heap.objs.size, { cls := .type "list", data := .seq (its : List Value).toArray nn })] (blockSt N' ix σ) H' s' ∧ Vals ys its ∧ ys.length ≤ sizeLine ∧ tn i s'.heap ∧ (∀ b ∈ fp, H' b = none) ∧ W i n ys H')
      ?_ m0 ⟨0, [], H2, [], 0, I0, .nil, Nat.zero_le _, st0', fun b hb => (f2 b hb).1, w0⟩
    rintro n s3 ⟨i, ys, H3, its, nn, I3, rv, hz, st3, fr3, w3⟩
    rcases turn i n ys H3 w3 with ⟨stop, qn⟩ | ⟨go, step⟩
    · refine thn (T.done (cxComp X sc N' fp (s2.heap.objs.size + 1) s2 H2) rfl rfl rfl hc i _ s3 _ H3 (fun _ _ => False) I3 (fpB fr3) st3 stop) fun r s5 ⟨hr, I5⟩ => ?_
      subst hr
      obtain ⟨m, ns, _⟩ := I5.loc
      obtain ⟨eD, nD, _⟩ := I5.pin (s2.heap.objs.size, { cls := .type "list", data := .seq its.toArray nn }) (by simp [cxComp])
      have eD' : s5.heap.get? s2.heap.objs.size = some { cls := .type "list", data := .seq its.toArray nn } := eD
      have nD' : H3 s2.heap.objs.size = none := nD
      have hok : HOk X.prog X.w (upd H3 s2.heap.objs.size (.lst ys)) s5.heap := HOk.adopt I5.hok nD' (fun b u _ e => e) ⟨hz, its, nn, rv, eD'⟩
      have uB : Un (frs X.stack) fp H2 H3 s2.heap s5.heap := I5.base
      have nD2 : H2 s2.heap.objs.size = none := I2.hok.fresh (Nat.le_refl _)
      have uU : Un (frs X.stack) fp H2 (upd H3 s2.heap.objs.size (.lst ys)) s2.heap s5.heap :=
        ⟨uB.keep, uB.slot, fun b o e n hx => by rw [upd_ne (Nat.ne_of_lt (Heap.lt_size e))]; exact uB.free b o e n hx, uB.there,
          fun b xs e => by rw [upd_ne (ne_of_none e nD2)]; exact uB.tups b xs e, fun b o u e => by rw [upd_ne (ne_of_none e nD2)]; exact uB.frzs b o u e,
          fun b ps e => by rw [upd_ne (ne_of_none e nD2)]; exact uB.tbls b ps e⟩
      have IX : Inv X pins σ (upd H3 s2.heap.objs.size (.lst ys)) s5 := I2.call' (ch := fp) I5.os uU hok I5.bare fun b hb => ⟨(f2 b hb).2.2.2.1, (f2 b hb).2.1, (f2 b hb).2.2.2.2.1, (f2 b hb).2.2.2.2.2⟩
      have hCn : H3 (s2.heap.objs.size + 1) = none := I5.free
      refine fin s2.heap.objs.size (s2.heap.objs.size + 1) s5 _ m IX (qn _ nD') ns ?_
      refine ⟨by rw [upd_ne (Ne.symm D_C)]; exact hCn, ?_, ?_, .inr (Nat.le_trans I2.sz (Nat.le_succ _)), fun x c e z => ?_, fun p hp z => ?_⟩
      · exact Nat.ne_of_gt (Nat.lt_succ_of_lt I2.lt)
      · exact I2.nofs (Nat.le_succ _)
      · obtain ⟨v, q⟩ := I2.cell x c e
        have q' := q.lt
        rw [z] at q'
        exact absurd q' (Nat.not_lt.mpr (Nat.le_succ _))
      · have q' := Heap.lt_size (I2.pin p hp).1
        rw [z] at q'
        exact absurd q' (Nat.not_lt.mpr (Nat.le_succ _))
    · refine thn (T.item (cxComp X sc N' fp (s2.heap.objs.size + 1) s2 H2) rfl rfl rfl hc i _ s3 _ H3 (fun _ _ => False) I3 (fpB fr3) st3 go) fun r s5 ⟨u, hr, h5⟩ => ?_
      subst hr
      refine thn h5 fun _ s6 ⟨x, H6, I6, r6, y6, st6, fr6⟩ => ?_
      have I6' := I6.pinned (fpB fr6) (T.obj _ _ st6)
      refine thn (hg fp _ s2 H2 _ s6 _ H6 x u _ I6' r6 (step x H6 y6)) fun _ s7 ⟨σ7, H7, I7, q7⟩ => ?_
      refine thn (hif fp _ s2 H2 _ s7 σ7 H7 _ I7 q7) fun b s8 ⟨H8, I8, q8⟩ => ?_
      have keepSt : ∀ {σ9 : St} {H9 : Hp} {s9 : Shared}, Inv (cxComp X sc N' fp (s2.heap.objs.size + 1) s2 H2) ([(s2.heap.objs.size, { cls := .type "list", data := .seq its.toArray nn })] ++ pinsAt fp s6.heap) σ9 H9 s9 →
          tn (i + 1) s9.heap ∧ ∀ b ∈ fp, H9 b = none := fun {σ9 H9 s9} I9 => by
        refine ⟨T.keep _ _ _ st6 fun b hb o e => (I9.pin (b, o) (List.mem_append_right _ (List.mem_append_right _ (mem_pinsAt hb e)))).1, fun b hb => ?_⟩
        obtain ⟨o, e, d⟩ := T.obj _ _ st6 b hb
        exact (I9.pin (b, o) (List.mem_append_right _ (List.mem_append_right _ (mem_pinsAt hb e)))).2.1
      cases b with
      | false =>
        rw [if_neg Bool.false_ne_true]
        obtain ⟨m', hm, w8⟩ : ∃ m', m' < n ∧ W (i + 1) m' ys H8 := q8
        obtain ⟨k1, k2⟩ := keepSt I8
        exact ⟨m', hm, i + 1, ys, H8, its, nn, comp_reset I2 S f2 I8.unpinned, rv, hz, k1, k2, w8⟩
      | true =>
        rw [if_pos rfl]
        refine thn (he fp _ s2 H2 _ s8 σ7 H8 _ I8 q8) fun y s9 ⟨yv, H9, I9, r9, hl9, m', hm, w9⟩ => ?_
        obtain ⟨k1, k2⟩ := keepSt I9
        have I9u := I9.unpinned
        obtain ⟨eD, nD, pD⟩ := I9u.pin (s2.heap.objs.size, { cls := .type "list", data := .seq its.toArray nn }) (by simp [cxComp])
        have eD' : s9.heap.get? s2.heap.objs.size = some { cls := .type "list", data := .seq its.toArray nn } := eD
        have nD' : H9 s2.heap.objs.size = none := nD
        have hlen := rv.length
        refine call_meets F.slot_list_append ⟨_, eD', rfl⟩ F.entry_list_append (F.args_list_append_2 _ _) (PySem.list_append s2.heap.objs.size its.toArray nn y (by rw [List.size_toArray]; omega)) ⟨eD', ?_⟩
        have q := PySem.IsL.update eD' (·.push y)
        have ep : its.toArray.push y = (its ++ [y]).toArray := by simp
        rw [ep] at q
        have I10 : Inv (cxComp X sc N' fp (s2.heap.objs.size + 1) s2 H2) [] σ7 H9 { s9 with heap := s9.heap.update s2.heap.objs.size (Obj.mapSeq (·.push y)), toks := s9.toks } :=
          (I9u.pins_of (pins' := []) (fun p hp => by cases hp)).turned (it := s2.heap.objs.size) (fun b o hb e => (Heap.get?_update_other s9.heap (Obj.mapSeq (·.push y)) (Ne.symm hb)).trans e) nD' D_C (.inr (Nat.le_refl _)) D_cell (fun p hp => by simp [cxComp] at hp)
        have I11 : Inv (cxComp X sc N' fp (s2.heap.objs.size + 1) s2 H2) [(s2.heap.objs.size, { cls := .type "list", data := .seq (its ++ [y]).toArray (if (its ++ [y]).toArray.size == its.toArray.size then nn else nn + 1) })] σ7 H9 { s9 with heap := s9.heap.update s2.heap.objs.size (Obj.mapSeq (·.push y)), toks := s9.toks } :=
          I10.pins_of fun p hp => by
            have e := List.mem_singleton.mp hp
            subst e
            exact ⟨q, nD', D_C, pD.2.1, fun v z => by cases z⟩
        refine ⟨m', hm, i + 1, ys ++ [yv], H9, its ++ [y], _, comp_reset I2 S f2 I11, rv.append (.cons r9 .nil), by rw [List.length_append, List.length_singleton]; omega, ?_, k2, w9⟩
        exact T.keep _ _ _ k1 fun b hb o e => (Heap.get?_update_other s9.heap (Obj.mapSeq (·.push y)) (Nat.ne_of_lt (ho b hb)).symm).trans e
  have start : codeAny (model X.prog X.w) X.A (.compStart (.ListComp elt [⟨tg, iter, ifs, 0⟩] sc pos) 0 (.ref it) (.ref s2.heap.objs.size) (cxComp X sc N' fp (s2.heap.objs.size + 1) s2 H2).env)
      (compPost (model X.prog X.w) X.A X.xe use Qf (.ref s2.heap.objs.size) (s2.heap.objs.size + 1)) s4 :=
    codeAny_compStart_list loop (T.self X.A 0 s4 _ _ st0' loop)
  exact start

/-- a comprehension as a value -/
theorem pe_comp (hc : X.calm = true) (hi : PI X tg iter wi) (S : CScope X.N X.env.scope sc N' ix)
    (hg : ∀ fp C s H, PG (cxComp X sc N' fp C s H) tg g) (hif : ∀ fp C s H, PIf (cxComp X sc N' fp C s H) ifs tt) (he : ∀ fp C s H, PE (cxComp X sc N' fp C s H) elt te)
    (hs : ∀ x, foldedSetIterable iter X.env x = pure x := by intro _; rfl) :
    PE X (.ListComp elt [⟨tg, iter, ifs, 0⟩] sc pos) (tComp N' ix wi g tt te) := by
  intro pins s σ H Q I h
  rw [eval_ListComp]
  refine comp_core (use := none) hc hi S hg hif he hs I h fun D C s' H' m I' q ns fc => ?_
  refine ⟨m, ns, fun h' hs' => ⟨.ref D, H', ?_, rfl, q⟩⟩
  obtain ⟨c0, c1, c2, c3, c4, c5⟩ := fc
  exact I'.turned (t' := s'.toks) (it := C) (fun b o hb e => (hs'.2 b hb).trans e) c0 c1 c3 c4 c5
end

/-- behind a turn -/
def Pn (Pv : Nat → List V → Hp → Prop) (n i : Nat) (ys : List V) (H : Hp) : Prop := ∃ m', m' < n - i ∧ (m' = n - (i + 1) ∧ i + 1 ≤ n ∧ ys.length ≤ i + 1 ∧ Pv (i + 1) ys H)
theorem Pn.mk {Pv : Nat → List V → Hp → Prop} {n i : Nat} {ys : List V} {H : Hp} (hi : i < n) (hl : ys.length ≤ i + 1) (h : Pv (i + 1) ys H) : Pn Pv n i ys H := ⟨n - (i + 1), by omega, rfl, hi, hl, h⟩
theorem Pn.snoc {Pv : Nat → List V → Hp → Prop} {n i : Nat} {ys : List V} {y : V} {H : Hp} (hi : i < n) (hl : ys.length ≤ i) (h : Pv (i + 1) (ys ++ [y]) H) : Pn Pv n i (ys ++ [y]) H := .mk hi (by rw [List.length_append, List.length_singleton]; omega) h
theorem comp_list {K : PySem.W.Frag} {a : Addr} {xs : List V} {g : TG} {tt : TT} {te : TE} {σ0 : St} {H : Hp} {Q : VK} (Pv : Nat → List V → Hp → Prop) (h0 : Pv 0 [] H) (hn : xs.length < sizeLine) (hl : ∀ i ys H, i ≤ xs.length → Pv i ys H → SqL K H a xs)
    (hs : ∀ i x ys H, xs[i]? = some x → i < xs.length → Pv i ys H → ys.length ≤ i → ys.length < sizeLine → g x σ0 H fun σ2 H2 => tt σ2 H2 fun b H3 => if b = true then te σ2 H3 fun y H4 => ys.length < sizeLine ∧ Pn Pv xs.length i (ys ++ [y]) H4 else Pn Pv xs.length i ys H3)
    (hd : ∀ ys H, Pv xs.length ys H → ys.length ≤ xs.length → ∀ l, H l = none → Q (.ref l) (upd H l (.lst ys))) :
    ∃ W : Nat → Nat → List V → Hp → Prop, (∃ m, W 0 m [] H) ∧ ∀ i m ys H, W i m ys H →
      ((Itl K a).stop i H ∧ CDone Q H ys) ∨
      ((Itl K a).go i H ∧ ∀ x H', (Itl K a).yld i H x H' → g x σ0 H' fun σ2 H2 => tt σ2 H2 fun b H3 =>
        if b = true then te σ2 H3 fun y H4 => ys.length < sizeLine ∧ ∃ m', m' < m ∧ W (i + 1) m' (ys ++ [y]) H4 else ∃ m', m' < m ∧ W (i + 1) m' ys H3) := by
  refine ⟨fun i m ys H => m = xs.length - i ∧ i ≤ xs.length ∧ ys.length ≤ i ∧ Pv i ys H, ⟨xs.length, by simp, Nat.zero_le _, Nat.le_refl _, h0⟩, ?_⟩
  rintro i m ys H ⟨rfl, hi, hyl, p⟩
  have q := hl i ys H hi p
  by_cases hlt : i < xs.length
  · refine .inr ⟨⟨xs, xs[i], q, by simp [hlt]⟩, fun x H' y => ?_⟩
    obtain ⟨e, y⟩ := y
    subst e
    exact hs i x ys _ (y xs q) hlt p hyl (by omega)
  · have e : i = xs.length := by omega
    subst e
    exact .inl ⟨⟨xs, q, Nat.le_refl _⟩, hd ys H p hyl⟩
theorem while_of {c : TT} {tb : TS} {D : Ends} {σ : St} {H : Hp} (Pv : St → Hp → Prop) (μ : St → Hp → Nat) (h0 : Pv σ H)
    (hs : ∀ σ H, Pv σ H → c σ H fun b H1 => if b = true then ∃ N : St → Hp → Prop, (∀ σ' H', N σ' H' → ∃ m', m' < μ σ H ∧ (m' = μ σ' H' ∧ Pv σ' H')) ∧ tb { D with nx := N, ct := N, bk := D.nx } σ H1 else D.nx σ H1) : tWhile c tb D σ H := by
  refine ⟨fun m σ H => m = μ σ H ∧ Pv σ H, ⟨_, rfl, h0⟩, ?_⟩
  rintro m σ H ⟨rfl, p⟩
  exact hs σ H p
end L2

set_option Elab.async false
set_option linter.all false
set_option maxRecDepth 100000
set_option maxHeartbeats 4000000
namespace L2
open PySem PySem.Spec PyProof.Rows

section
variable {X : Cx}
end

section
variable {X : Cx}
theorem ints_list {H : Hp} {s : Shared} {pins : List (Addr × Obj)} {σ : St} (I : Inv X pins σ H s) {p : Addr} {ns : List Int} (h : SqL X.K H p (ns.map V.int)) : ∃ its : List Value, IntsAre its ns ∧ s.heap.IsList p its.toArray := by
  obtain ⟨its, rv, pl, _⟩ := I.list h
  exact ⟨its, intsAre_of rv, pl.isList⟩
def rEqL (K : PySem.W.Frag) (neg : Bool) : R2 := fun x y H Q => ∃ (p q : Addr) (ns ms : List Int), x = .ref p ∧ y = .ref q ∧ SqL K H p (ns.map V.int) ∧ SqL K H q (ms.map V.int) ∧ Q (.bl (if neg then !decide (ns = ms) else decide (ns = ms))) H
theorem op_eqL (hu : X.A.units + 64 < cLine) : OpR X (compareOp .Eq) (rEqL X.K false) := by
  intro pins s σ H x y v u Q I rx ry h
  obtain ⟨p, q, ns, ms, rfl, rfl, h1, h2, k⟩ := h
  cases rx; cases ry
  obtain ⟨its, i1, l1⟩ := ints_list I h1
  obtain ⟨jts, i2, l2⟩ := ints_list I h2
  exact PySem.W.ke_eq_ints l1 l2 i1 i2 hu ⟨.bl _, H, I, rfl, k⟩
theorem op_neL (hu : X.A.units + 64 < cLine) : OpR X (compareOp .NotEq) (rEqL X.K true) := by
  intro pins s σ H x y v u Q I rx ry h
  obtain ⟨p, q, ns, ms, rfl, rfl, h1, h2, k⟩ := h
  cases rx; cases ry
  obtain ⟨its, i1, l1⟩ := ints_list I h1
  obtain ⟨jts, i2, l2⟩ := ints_list I h2
  exact PySem.W.ke_ne_ints l1 l2 i1 i2 hu ⟨.bl _, H, I, rfl, k⟩
end

section
variable {X : Cx}
theorem any_getD : ∀ bs : List Bool, (List.range bs.length).any (fun i => bs.getD i false) = bs.any id
  | [] => rfl
  | b :: r => by
    rw [List.length_cons, List.range_succ_eq_map, List.any_cons, List.any_map, List.any_cons]
    have ih := any_getD r
    have e : (List.range r.length).any ((fun i => (b :: r).getD i false) ∘ Nat.succ) = r.any id := by
      rw [← ih]
      rfl
    rw [e]
    rfl
end
end L2

namespace L2
open PySem PySem.Spec PyProof.Rows
section
variable {X : Cx}
theorem call_isinst : CallR X (.builtin "isinstance") (fun xs H Q => ∃ x n t b, xs = [x, .ty n] ∧ TyOf X.K H x t ∧ PySem.W.kitOne X.K t (.type n) = some b ∧ Q (.bl b) H) := by
  intro pins s σ H xs us Q I r h
  obtain ⟨x, n, t, b, rfl, ty, e, q⟩ := h
  obtain ⟨u, w', rfl, rx, rw'⟩ := vals2 r
  cases rw'
  exact isinst_ok I rx ty e fun tk => ⟨.bl b, H, I.tok tk, rfl, q⟩

theorem call_list_rng (hc : X.calm = true) : CallR X (.type "list") (fun xs H Q => ∃ (p : Addr) (lo hi : Int), xs = [.ref p] ∧ H p = some (.rng lo hi) ∧ -(2 ^ 62) ≤ lo ∧ lo < 2 ^ 62 ∧ -(2 ^ 62) ≤ hi ∧ hi < 2 ^ 62 ∧ (hi - lo).toNat ≤ 2 ^ 24 ∧
    ∀ l, H l = none → Q (.ref l) (upd H l (.lst ((List.range (hi - lo).toNat).map fun i : Nat => V.int (lo + (i : Int)))))) := by
  intro pins s σ H xs us Q I r h
  obtain ⟨p, lo, hi, rfl, hp, h1, h2, h3, h4, h5, q⟩ := h
  obtain ⟨u, rfl, rx⟩ := vals1 r
  cases rx
  obtain ⟨t1, t2, t3, e⟩ := I.hok p _ hp
  refine call_list_range (n := (hi - lo).toNat) (I.ok.hd hc) (show IsRange s.heap p lo hi 1 t1 t2 t3 from e) (small_one h1 h2 h3 h4) (by rw [rangeSize_one]; split <;> omega) h5 fun h' tk acc c' hk hS hacc => ?_
  have hl : s.heap.objs.size ≤ s.heap.objs.size := Nat.le_refl _
  refine ⟨.ref s.heap.objs.size, _, I.laid (t' := tk) (o := .lst ((List.range (hi - lo).toNat).map fun i : Nat => V.int (lo + (i : Int)))) hk hl ⟨?_, acc.toList, c', ?_, by simpa using hS⟩, rfl, q _ (I.hok.fresh hl)⟩
  · rw [List.length_map, List.length_range, sizeLine_eq]
    omega
  · have key : ∀ (n : Nat) (acc : List Value) (f : Nat → Int), acc.length = n → (∀ (j : Nat) (v : Value), acc[j]? = some v → ∃ t, v = Value.int (f j) t) → Vals ((List.range n).map fun i => V.int (f i)) acc := by
      intro n
      induction n with
      | zero =>
        intro acc f hl _
        cases acc with
        | nil => exact .nil
        | cons _ _ => cases hl
      | succ n ih =>
        intro acc f hl ha
        cases acc with
        | nil => cases hl
        | cons v r =>
          rw [List.range_succ_eq_map, List.map_cons, List.map_map]
          refine .cons ?_ (ih r (fun i => f (i + 1)) (by simpa using hl) fun j v' hj => ha (j + 1) v' (by simpa using hj))
          exact ha 0 v rfl
    refine key _ _ (fun i => lo + (i : Int)) (by rw [Array.length_toList]; exact hacc.1) fun j v hj => ?_
    obtain ⟨t, e⟩ := hacc.2 j v (by rw [← Array.getElem?_toList]; exact hj)
    exact ⟨t, by rw [e, Int.mul_one]⟩
/-- range(n) as a value -/
theorem call_range1 : CallR X (.type "range") (fun xs H Q => ∃ j : Int, xs = [.int j] ∧ ∀ p, H p = none → Q (.ref p) (upd H p (.rng 0 j))) := by
  intro pins s σ H xs us Q I r h
  obtain ⟨j, rfl, q⟩ := h
  obtain ⟨u, rfl, rx⟩ := vals1 r
  obtain ⟨t, rfl⟩ := rx
  refine call_range_1 ?_
  refine ⟨.ref s.heap.objs.size, _, I.laid (o := .rng 0 j) (fun b o e => Heap.get?_push_of_some _ e) (Nat.le_refl _) ⟨_, _, _, Heap.get?_push_size _ rfl⟩, rfl, q _ (I.hok.fresh (Nat.le_refl _))⟩

theorem call_setL (hc : X.calm = true) : CallR X (.type "set") (fun xs H Q => ∃ (p : Addr) (ns : List Int), xs = [.ref p] ∧ SqL X.K H p (ns.map V.int) ∧ ns.length + 1 < scanBound ∧ ∀ l, H l = none → Q (.ref l) (upd H l (.set (fun k => (firstMet (fun i => ns.getD i 0) ns.length).any (· == k)) (firstMet (fun i => ns.getD i 0) ns.length).length))) := by
  intro pins s σ H xs us Q I r h
  obtain ⟨p, ns, rfl, hq, hb, q⟩ := h
  obtain ⟨u, rfl, rx⟩ := vals1 r
  cases rx
  obtain ⟨its, i1, l1⟩ := ints_list I hq
  have hl : its.length = ns.length := i1.length
  refine call_set_list (ns := ns) (I.ok.hd hc) l1 i1 (by rw [List.size_toArray, hl]; exact hb) fun h' tk hS hk => ?_
  have ez : its.toArray.size = ns.length := by rw [List.size_toArray, hl]
  rw [ez] at hS
  exact ⟨.ref s.heap.objs.size, _, I.laid (t' := tk) (o := .set _ _) (fun b o e => hk b o (Heap.lt_size e) e) (Nat.le_refl _) hS, rfl, q _ (I.hok.fresh (Nat.le_refl _))⟩
theorem call_lenSet : CallR X (.builtin "len") (fun xs H Q => ∃ p S n, xs = [.ref p] ∧ H p = some (.set S n) ∧ Q (.int n) H) := by
  intro pins s σ H xs us Q I r h
  obtain ⟨p, S, n, rfl, hp, q⟩ := h
  obtain ⟨u, rfl, rx⟩ := vals1 r
  cases rx
  obtain ⟨o, es, ep, t, e, ex, d, _, _, hb, hf, hn⟩ := I.hok p _ hp
  subst hn
  refine call_len_set e ex d hf ?_ ⟨.int es.size, H, I.tok _, ⟨_, rfl⟩, q⟩
  have h4 : (es.size : Int) < 4096 := by unfold scanBound at hb; omega
  exact Int.lt_of_lt_of_le h4 (by decide)
theorem firstMet_nodup : ∀ (ns : List Int), ns.Nodup → firstMet (fun i => ns.getD i 0) ns.length = ns := by
  intro ns nd
  have e : (List.range ns.length).map (fun i => ns.getD i 0) = ns := by
    apply List.ext_getElem?
    intro i
    rw [List.getElem?_map]
    by_cases hi : i < ns.length
    · rw [List.getElem?_range hi, Option.map_some, List.getD_eq_getElem?_getD, List.getElem?_eq_getElem hi]
      rfl
    · rw [List.getElem?_eq_none (by simpa using hi), List.getElem?_eq_none (by omega)]
      rfl
  unfold firstMet
  rw [e]
  have go : ∀ (ns acc : List Int), (acc ++ ns).Nodup → ns.foldl step_dedup acc = acc ++ ns := by
    intro ns
    induction ns with
    | nil => intro acc _; simp
    | cons n r ih =>
      intro acc h
      have hn : acc.any (· == n) = false := by
        rw [List.any_eq_false]
        intro x hx hb
        have hb' : x = n := by simpa using hb
        subst hb'
        rw [List.nodup_append] at h
        exact h.2.2 x hx x (.head _) rfl
      rw [List.foldl_cons]
      have e : step_dedup acc n = acc ++ [n] := by
        unfold step_dedup
        rw [hn]
        rfl
      rw [e, ih _ (by simpa using h)]
      simp
  simpa using go ns [] (by simpa using nd)

end
end L2

set_option Elab.async false
set_option linter.all false
set_option maxRecDepth 100000
set_option maxHeartbeats 4000000
namespace L2
open PySem PySem.Spec PyProof.Rows
/-- a def of the text, by its global name -/
def FnT (K : PySem.W.Frag) (mg : Str → Option Value) (x : Str) (st : Stmt) (ps : List Str) : Prop := ∃ f fd, mg x = some (.ref f) ∧ Fun K x x st f fd ∧ Binds K fd ps []
/-- .. that keeps its promise -/
def Cal (P : Program) (w : World) (K : PySem.W.Frag) (mg : Str → Option Value) (base : Heap) (k : Nat) (x : Str) (ps : List Str) (sp : Sp) : Prop :=
  ∃ f fd, mg x = some (.ref f) ∧ PySem.W.keepIn K (.ref f) = true ∧ Binds K fd ps [] ∧ FnOk P w K mg base CX0 k f fd ps sp
theorem FnT.cal {P : Program} {w : World} {K : PySem.W.Frag} {mg : Str → Option Value} {base : Heap} {x : Str} {st : Stmt} {N ps : List Str} {k : Nat} {sp : Sp} (F : FnT K mg x st ps) (S : FnScope N ps (defScope st)) (len : ∀ vs H Q E, sp vs H Q E → vs.length = ps.length)
    (hbody : ∀ (f : Addr) (cdv : Value) (A : Around) (outer : List Env) (s : Shared) (H : Hp) (vs : List V) (Q : VK) (E : XK), Room k (A.deeper (envOfC x (defScope st) s.heap.objs.size f cdv)) → sp vs H Q E →
      ∃ t, PSs (cxOf CX0 P w K mg base N x (defScope st) f cdv A outer s H E).nox (defBody st) t ∧ t { nx := fun _ H' => Q .non H', rt := Q } (start N vs) H) : Cal P w K mg base (k + 1) x ps sp := by
  obtain ⟨f, fd, h1, h2, h3⟩ := F
  exact ⟨f, fd, h1, h2.kp, h3, h2.ok S len fun cdv A outer s H vs Q E => hbody f cdv A outer s H vs Q E⟩
theorem Cal.mono {P : Program} {w : World} {K : PySem.W.Frag} {mg : Str → Option Value} {base : Heap} {j k : Nat} {x : Str} {ps : List Str} {sp : Sp} (C : Cal P w K mg base j x ps sp) (h : j ≤ k) : Cal P w K mg base k x ps sp := by
  obtain ⟨f, fd, h1, h2, h3, h4⟩ := C
  exact ⟨f, fd, h1, h2, h3, h4.mono h⟩
section
variable {X : Cx} {k : Nat} {x : Str} {ps : List Str} {sp : Sp} {e : Expr} {es : List Expr} {t : TA} {p pos : Pos}
theorem pe_cal (C : Cal X.prog X.w X.K X.mg X.base k x ps sp) (hr : Room k X.A) (hg : Gl X x) (ha : PA X (e :: es) t) (hd : (x == ("__debug__" : Str)) = false := by decide)
    (he : starEach (e :: es) X.env = (false, eval e X.env) :: starEach es X.env := by rfl) (hpl : (backTo pos (starEach es X.env)).any (·.1) = false := by rfl) :
    PE X (.Call (.Name x p) (e :: es) [] pos) (tCall sp [] E0 t) := by
  obtain ⟨f, fd, h1, h2, h3, h4⟩ := C
  exact pe_call h4 hr hg h1 h2 h3 .nil pass0 ha (hdb := hd) (he := he) (hpl := hpl)
end
end L2

namespace Bw
open PySem L2
/-- the numbers of a web, as ints -/
def iv (ws : List Nat) : List Int := ws.map fun n : Nat => (n : Int)
def vv (ws : List Nat) : List V := (iv ws).map V.int
theorem vv_len (ws : List Nat) : (vv ws).length = ws.length := by simp [vv, iv]
theorem iv_len (ws : List Nat) : (iv ws).length = ws.length := by simp [iv]
theorem vv_get {ws : List Nat} {i : Nat} (h : i < ws.length) : (vv ws)[i]? = some (V.int ((ws.getD i 0 : Nat) : Int)) := by
  simp [vv, iv, List.getD_eq_getElem?_getD, List.getElem?_eq_getElem h]
theorem vv_snoc (ws : List Nat) (x : Nat) : vv ws ++ [V.int (x : Int)] = vv (ws ++ [x]) := by simp [vv, iv]
end Bw

set_option Elab.async false
set_option linter.all false
set_option maxRecDepth 100000
set_option maxHeartbeats 4000000
namespace L2
open PySem PySem.Spec PyProof.Rows

/-- the method m of the class C keeps some promise, and the promise gives what is wanted -/
def MOk (P : Program) (w : World) (K : PySem.W.Frag) (mg : Str → Option Value) (base : Heap) (A : Around) (C : Addr) (m : Str) (vs : List V) (H : Hp) (Q : VK) : Prop :=
  Cls K C ∧ ∃ f fd ps k sp, Meth K C m f ∧ FnOk P w K mg base CX0 k f fd ps sp ∧ Room k A ∧ Binds K fd ps [] ∧ sp vs H Q E0
section
variable {X : Cx} {o e : Expr} {es : List Expr} {ta : TE} {t : TA} {m : Str} {apos pos : Pos}
def tMD0 (P : Program) (w : World) (K : PySem.W.Frag) (mg : Str → Option Value) (base : Heap) (A : Around) (m : Str) (ta : TE) : TE := fun σ H Q => ta σ H fun x H1 => ∃ a C dx fs, x = .ref a ∧ H1 a = some (.ins C dx fs) ∧ fs.lookup m = none ∧ MOk P w K mg base A C m [.ref a] H1 Q
theorem pe_md0 {pl : Sem Bool} (P : Program) (w : World) (K : PySem.W.Frag) (mg : Str → Option Value) (base : Heap) (A : Around) (he : PE X o ta)
    (e1 : X.prog = P := by rfl) (e2 : X.w = w := by rfl) (e3 : X.K = K := by rfl) (e4 : X.mg = mg := by rfl) (e5 : X.base = base := by rfl) (e6 : X.A = A := by rfl)
    (ht : eval (.Call (.Attribute o m apos) [] [] pos) X.env = (do
      let ov ← eval o X.env
      standAt apos.atName
      let (f, first) ← holding [ov] (getMethod ov m pl)
      callWith pos f first (backTo pos (starEach [] X.env)) (backToKw pos (keywordEach [] X.env))) := by rfl) :
    PE X (.Call (.Attribute o m apos) [] [] pos) (tMD0 P w K mg base A m ta) := by
  subst e1 e2 e3 e4 e5 e6
  intro pins s σ H Q I h
  refine PySem.W.methodCall_KW (pl := pl) (thn (he pins s σ H _ I h) fun u s1 ⟨x, H1, I1, rx, a, C, dx, fs, ex, ea, l, c, f, fd, ps, k, sp, hm, F, hr, hb, q⟩ => ?_) ht
  subst ex
  obtain rfl : u = Value.ref a := rx
  refine getmeth_ok I1 ea c hm l ?_
  exact PySem.W.callWith_K0 (first := [.ref a]) I1.kIn hm.kp (run_fn (us := [.ref a]) (vs := [.ref a]) F hr hb .nil pass0 I1 (.cons rfl .nil) q)
def tMD (P : Program) (w : World) (K : PySem.W.Frag) (mg : Str → Option Value) (base : Heap) (A : Around) (m : Str) (ta : TE) (t : TA) : TE := fun σ H Q => ta σ H fun x H1 => ∃ a C dx fs, x = .ref a ∧ H1 a = some (.ins C dx fs) ∧ fs.lookup m = none ∧
  Cls K C ∧ ∃ f fd ps k sp, Meth K C m f ∧ FnOk P w K mg base CX0 k f fd ps sp ∧ Room k A ∧ Binds K fd ps [] ∧ t σ H1 fun vs H2 => sp (.ref a :: vs) H2 Q E0
theorem pe_md {pl : Sem Bool} (P : Program) (w : World) (K : PySem.W.Frag) (mg : Str → Option Value) (base : Heap) (A : Around) (he : PE X o ta) (ha : PA X (e :: es) t)
    (e1 : X.prog = P := by rfl) (e2 : X.w = w := by rfl) (e3 : X.K = K := by rfl) (e4 : X.mg = mg := by rfl) (e5 : X.base = base := by rfl) (e6 : X.A = A := by rfl)
    (hst : starEach (e :: es) X.env = (false, eval e X.env) :: starEach es X.env := by rfl) (hpl : (backTo pos (starEach es X.env)).any (·.1) = false := by rfl)
    (ht : eval (.Call (.Attribute o m apos) (e :: es) [] pos) X.env = (do
      let ov ← eval o X.env
      standAt apos.atName
      let (f, first) ← holding [ov] (getMethod ov m pl)
      callWith pos f first (backTo pos (starEach (e :: es) X.env)) (backToKw pos (keywordEach [] X.env))) := by rfl) :
    PE X (.Call (.Attribute o m apos) (e :: es) [] pos) (tMD P w K mg base A m ta t) := by
  subst e1 e2 e3 e4 e5 e6
  intro pins s σ H Q I h
  refine PySem.W.methodCall_KW (pl := pl) (thn (he pins s σ H _ I h) fun u s1 ⟨x, H1, I1, rx, a, C, dx, fs, ex, ea, l, c, f, fd, ps, k, sp, hm, F, hr, hb, q⟩ => ?_) ht
  subst ex
  obtain rfl : u = Value.ref a := rx
  refine getmeth_ok I1 ea c hm l ?_
  refine PySem.W.callWith_K (first := [.ref a]) (h₀ := X.base) I.ok.mod.kin hm.kp (thn (ha pos pins s1 σ H1 _ I1 q) fun us s2 ⟨vs, H2, I2, r, q2⟩ => ⟨I2.kIn, ?_⟩) hst hpl
  exact run_fn (us := .ref a :: us) (vs := .ref a :: vs) F hr hb .nil pass0 I2 (.cons rfl r) (by simpa using q2)
end

section
variable {X : Cx}
def rIsC (K : PySem.W.Frag) : List V → Hp → VK → Prop := fun xs H Q => ∃ (x : V) (C : Addr) (t : Value) (b : Bool), xs = [x, .ref C] ∧ TyOf K H x t ∧ PySem.W.kitOne K t (.ref C) = some b ∧ Q (.bl b) H
theorem call_isC (K : PySem.W.Frag) (h : X.K = K := by rfl) : CallR X (.builtin "isinstance") (rIsC K) := by
  subst h
  intro pins s σ H xs us Q I r h
  obtain ⟨x, C, t, b, rfl, ty, e, q⟩ := h
  obtain ⟨u, w', rfl, rx, rw'⟩ := vals2 r
  cases rw'
  exact isinst_ok I rx ty e fun tk => ⟨.bl b, H, I.tok tk, rfl, q⟩

theorem strsAre_of : ∀ {ys : List Str} {us : List Value}, Vals (ys.map V.str) us → StrsAre us ys
  | [], _, h => by cases h; exact .nil
  | _ :: _, _, .cons r t => by
    obtain ⟨tk, rfl⟩ := r
    exact .cons _ tk (strsAre_of t)
def rJoin (K : PySem.W.Frag) : V → List V → Hp → VK → Prop := fun x vs H Q => ∃ (z : Str) (l : Addr) (ys : List Str), x = .str z ∧ vs = [.ref l] ∧ SqL K H l (ys.map V.str) ∧ (ys.map (·.length)).sum + ys.length * z.length ≤ 16777216 ∧ Q (.str (Txt.join z ys)) H
theorem mt_join (K : PySem.W.Frag) (h : X.K = K := by rfl) : MtR X "str.join" (rJoin K) := by
  subst h
  intro pins s σ H x vs v us Q I rx rv h
  obtain ⟨z, l, ys, rfl, rfl, hq, hz, q⟩ := h
  obtain ⟨t, rfl⟩ := rx
  obtain ⟨u, rfl, ru⟩ := rv.one
  cases ru
  obtain ⟨its, r, pl, _⟩ := I.list hq
  exact join_list pl.isList (strsAre_of r) hz fun t' k => ⟨.str _, H, I.tok k, ⟨t', rfl⟩, q⟩
/-- f'..{x}..': a text, a field that is a text, a text -/
def tFs (a b : Str) (te : TE) : TE := fun σ H Q => te σ H fun x H1 => ∃ z, x = .str z ∧ a.length + z.length + b.length ≤ 1000000 ∧ Q (.str (((Str.empty ++ a) ++ z) ++ b)) H1
theorem pe_fs {a b : Str} {k1 k2 : Nat} {p1 p2 p3 pos : Pos} {e : Expr} {te : TE} (he : PE X e te) (ha : a.length ≤ 1000000) : PE X (.JoinedStr [.Constant (.str a) k1 p1, .FormattedValue e (-1) none p2, .Constant (.str b) k2 p3] pos) (tFs a b te) := by
  intro pins s σ H Q I h
  have hz : sizeLine = 16777216 := sizeLine_eq
  have h0 : Str.empty.length = 0 := rfl
  refine JoinedStr_many (joinParts_cons (Calls.Constant_str ⟨by rw [strLen_append, h0, hz]; omega, joinParts_cons (FormattedValue_plain (thn (he pins _ σ H _ (I.tok _) h) fun v s1 ⟨x, H1, I1, r1, z, ex, hl, q⟩ => ?_))⟩))
  subst ex
  obtain ⟨t, rfl⟩ := r1
  refine formatField_str (fun t' tk => ⟨by rw [strLen_append, strLen_append, h0, hz]; omega, ?_⟩) (by rw [hz]; omega)
  refine joinParts_cons (Calls.Constant_str ⟨by rw [strLen_append, strLen_append, strLen_append, h0, hz]; omega, ?_⟩)
  exact joinParts_nil ⟨.str _, H1, (I1.tok _).tok _, ⟨_, rfl⟩, q⟩ (by rw [strLen_append, strLen_append, strLen_append, h0, hz]; omega)

end
end L2

set_option Elab.async false
set_option linter.all false
set_option maxRecDepth 100000
set_option maxHeartbeats 4000000
namespace L2
open PySem PySem.Spec PyProof.Rows
section
variable {X : Cx}
theorem ix_listK (K : PySem.W.Frag) (h : X.K = K := by rfl) : IxR X (rIxL K) := by
  subst h
  exact ix_list
theorem op_inK (K : PySem.W.Frag) (h : X.K = K := by rfl) : OpR X (compareOp .In) (rIn K false) := by
  subst h
  exact op_in_seq
def rLen (K : PySem.W.Frag) : List V → Hp → VK → Prop := fun xs H Q => ∃ p ys, xs = [.ref p] ∧ (SqL K H p ys ∨ SqT K H p ys) ∧ Q (.int ys.length) H
theorem call_lenK (K : PySem.W.Frag) (h : X.K = K := by rfl) : CallR X (.builtin "len") (rLen K) := by
  subst h
  exact call_len_seq
theorem pi_listK (K : PySem.W.Frag) {tg l : Expr} {tl : TE} (hl : PE X l tl) (h : X.K = K := by rfl) : PI X tg l (iList K tl) := by
  subst h
  exact pi_list hl
theorem pi_tupK (K : PySem.W.Frag) {tg l : Expr} {tl : TE} (hl : PE X l tl) (h : X.K = K := by rfl) : PI X tg l (iTup K tl) := by
  subst h
  exact pi_tup hl
theorem pg_tupK (K : PySem.W.Frag) {es : List Expr} {k : Nat} {t : TGs} {n : Nat} {pos : Pos} (hc : X.calm = true) (h : PGs X es t)
    (hn : (assignEach es X.env).length = n := by rfl) (hst : (assignEach es X.env).findIdx? (·.1) = none := by rfl) (hK : X.K = K := by rfl) : PG X (.Tuple es k pos) (gTup K n t) := by
  subst hK
  exact pg_tup hc h hn hst
def rIsB (K : PySem.W.Frag) : List V → Hp → VK → Prop := fun xs H Q => ∃ x n t b, xs = [x, .ty n] ∧ TyOf K H x t ∧ PySem.W.kitOne K t (.type n) = some b ∧ Q (.bl b) H
theorem call_isinstK (K : PySem.W.Frag) (h : X.K = K := by rfl) : CallR X (.builtin "isinstance") (rIsB K) := by
  subst h
  exact call_isinst

end

/-- a method of a class of the text -/
def MethT (K : PySem.W.Frag) (C : Addr) (m qual : Str) (st : Stmt) (ps : List Str) : Prop := ∃ f fd, Meth K C m f ∧ Fun K m qual st f fd ∧ Binds K fd ps []
/-- a class that is made by its __init__ -/
def MakeT (K : PySem.W.Frag) (C : Addr) (qual : Str) (st : Stmt) (ps : List Str) : Prop := ∃ f fd, Mk K C f ∧ Fun K "__init__" qual st f fd ∧ Binds K fd ps []
/-- what isinstance asks of an object's class -/
structure Own (K : PySem.W.Frag) (C : Addr) : Prop where
  cl : Cls K C
  ha : PySem.W.findIn K (.ref C) "__class__" = some (some (.builtin "object.__class__"))
  hn : PySem.W.specialIn K (.builtin "object.__class__") "__get__" = some (some (.builtin "getset_descriptor.__get__"))
  htk : PySem.W.takesIn K (.builtin "object.__class__") = some true
  hm : PySem.W.mroIn K C (.type "object") = some true
theorem Own.ty {K : PySem.W.Frag} {C : Addr} (o : Own K C) {H : Hp} {a dx : Addr} {fs : List (Str × V)} (e : H a = some (.ins C dx fs)) : TyOf K H (.ref a) (.ref C) := .ins e o.cl o.ha o.hn o.htk o.hm
/-- a class whose __init__ keeps its promise -/
def Mak (P : Program) (w : World) (K : PySem.W.Frag) (mg : Str → Option Value) (base : Heap) (k : Nat) (x : Str) (C : Addr) (ps : List Str) (sp : Sp) : Prop :=
  ∃ f fd, mg x = some (.ref C) ∧ Mk K C f ∧ Binds K fd ps [] ∧ FnOk P w K mg base CX0 k f fd ps sp
section
variable {X : Cx} {k : Nat} {x : Str} {C : Addr} {ps : List Str} {sp : Sp} {e : Expr} {es : List Expr} {t : TA} {p pos : Pos}
theorem pe_mk (M : Mak X.prog X.w X.K X.mg X.base k x C ps sp) (hr : Room (k + 1) X.A) (hg : Gl X x) (ha : PA X (e :: es) t) (hd : (x == ("__debug__" : Str)) = false := by decide)
    (he : starEach (e :: es) X.env = (false, eval e X.env) :: starEach es X.env := by rfl) (hpl : (backTo pos (starEach es X.env)).any (·.1) = false := by rfl) :
    PE X (.Call (.Name x p) (e :: es) [] pos) (tMake C sp [] E0 t) := by
  obtain ⟨f, fd, h1, h2, h3, h4⟩ := M
  exact pe_make h2 h4 hr hg h1 h3 .nil pass0 ha (hdb := hd) (he := he) (hpl := hpl)
theorem pe_mk0 (M : Mak X.prog X.w X.K X.mg X.base k x C ps sp) (hr : Room (k + 1) X.A) (hg : Gl X x) (hd : (x == ("__debug__" : Str)) = false := by decide) :
    PE X (.Call (.Name x p) [] [] pos) (tMake C sp [] E0 tNil) := by
  obtain ⟨f, fd, h1, h2, h3, h4⟩ := M
  exact pe_make0 h2 h4 hr hg h1 h3 .nil pass0 (hdb := hd)
end

theorem fnt_mk {K : PySem.W.Frag} {h : Heap} {mg : Str → Option Value} {x : Str} {st : Stmt} {ps : List Str} {f : Addr} {oc kV doc pm cdv ct : Value} {od an : Option Addr} {osl : Array (Option Value)} (X : K.In h) (G : h.Ns mainGlobals mg)
    (a : PySem.W.nsIn K mainGlobals x = some (some (.ref f)))
    (l : K.lookup f = some ⟨oc, od, .func (PySem.W.fnOf x x (defArgs st) (defBody st) (defScope st) .none kV doc pm an cdv ct), osl⟩) (c : PySem.W.codeIn K cdv x = true) (kp : PySem.W.keepIn K (.ref f) = true)
    (hb : ∀ (kV doc pm : Value) (an : Option Addr) (cdv ct : Value) (us : List Value), us.length = ps.length → bindArgs (PySem.W.fnOf x x (defArgs st) (defBody st) (defScope st) .none kV doc pm an cdv ct) ⟨us, []⟩ = pure (ps.zip us)) : FnT K mg x st ps :=
  ⟨f, _, PySem.W.mg_of X G a, fun_mk (st := st) l c kp, (fun_mk (st := st) l c kp).binds hb⟩
theorem metht_mk {K : PySem.W.Frag} {C : Addr} {m qual : Str} {st : Stmt} {ps : List Str} {f : Addr} {oc kV doc pm cdv ct : Value} {od an : Option Addr} {osl : Array (Option Value)}
    (a : PySem.W.findIn K (.ref C) m = some (some (.ref f))) (i : PySem.W.isFn K (.ref f) = true)
    (l : K.lookup f = some ⟨oc, od, .func (PySem.W.fnOf m qual (defArgs st) (defBody st) (defScope st) .none kV doc pm an cdv ct), osl⟩) (c : PySem.W.codeIn K cdv qual = true) (kp : PySem.W.keepIn K (.ref f) = true)
    (hb : ∀ (kV doc pm : Value) (an : Option Addr) (cdv ct : Value) (us : List Value), us.length = ps.length → bindArgs (PySem.W.fnOf m qual (defArgs st) (defBody st) (defScope st) .none kV doc pm an cdv ct) ⟨us, []⟩ = pure (ps.zip us)) : MethT K C m qual st ps :=
  ⟨f, _, ⟨a, i, kp⟩, fun_mk (st := st) l c kp, (fun_mk (st := st) l c kp).binds hb⟩
theorem maket_mk {K : PySem.W.Frag} {C : Addr} {qual : Str} {st : Stmt} {ps : List Str} {f : Addr} {oc kV doc pm cdv ct : Value} {od an : Option Addr} {osl : Array (Option Value)}
    (mk : PySem.W.makesIn K C = true) (kc : PySem.W.keepIn K (.ref C) = true) (a : PySem.W.findIn K (.ref C) "__init__" = some (some (.ref f))) (i : PySem.W.isFn K (.ref f) = true)
    (l : K.lookup f = some ⟨oc, od, .func (PySem.W.fnOf "__init__" qual (defArgs st) (defBody st) (defScope st) .none kV doc pm an cdv ct), osl⟩) (c : PySem.W.codeIn K cdv qual = true) (kp : PySem.W.keepIn K (.ref f) = true)
    (hb : ∀ (kV doc pm : Value) (an : Option Addr) (cdv ct : Value) (us : List Value), us.length = ps.length → bindArgs (PySem.W.fnOf "__init__" qual (defArgs st) (defBody st) (defScope st) .none kV doc pm an cdv ct) ⟨us, []⟩ = pure (ps.zip us)) : MakeT K C qual st ps :=
  ⟨f, _, ⟨mk, a, i, kc⟩, fun_mk (st := st) l c kp, (fun_mk (st := st) l c kp).binds hb⟩
theorem noattr_mk {K : PySem.W.Frag} {C : Addr} {f : Str} (a : PySem.W.findIn K (.ref C) f = some none) : NoAttr K C f := a
theorem own_mk {K : PySem.W.Frag} {C : Addr} (pg : PySem.W.plainGet K C Str.empty = true) (hd : PySem.W.hasDictIn K C = true) (po : PySem.W.plainOver K C = true)
    (sa : PySem.W.findIn K (.ref C) "__setattr__" = some (some (.builtin "object.__setattr__"))) (ha : PySem.W.findIn K (.ref C) "__class__" = some (some (.builtin "object.__class__")))
    (hn : PySem.W.specialIn K (.builtin "object.__class__") "__get__" = some (some (.builtin "getset_descriptor.__get__"))) (htk : PySem.W.takesIn K (.builtin "object.__class__") = some true)
    (hm : PySem.W.mroIn K C (.type "object") = some true) : Own K C := ⟨⟨pg, hd, po, sa⟩, ha, hn, htk, hm⟩
end L2
namespace Bw
open PySem L2
theorem iteF' {c : Bool} {A B : Prop} (e : c = false) (h : B) : if c = true then A else B := by
  rw [e]
  exact iteF h
theorem iteT' {c : Bool} {A B : Prop} (e : c = true) (h : A) : if c = true then A else B := by
  rw [e]
  exact iteT h
theorem most_mk {mg : Str → Option Value} {x : Str} {v : Value} {n : Int} (h : mg x = some v) (e : ∃ t, v = .int n t) : ∃ t, mg x = some (.int n t) := by
  obtain ⟨t, rfl⟩ := e
  exact ⟨t, h⟩
theorem text_mk {mg : Str → Option Value} {x z : Str} {v : Value} (h : mg x = some v) (e : ∃ t, v = .str z t) : ∃ t, mg x = some (.str z t) := by
  obtain ⟨t, rfl⟩ := e
  exact ⟨t, h⟩
end Bw

set_option Elab.async false
set_option linter.all false
set_option maxRecDepth 100000
set_option maxHeartbeats 4000000
namespace L2
open PySem PySem.Spec PyProof.Rows
theorem comp_tup {K : PySem.W.Frag} {a : Addr} {xs : List V} {g : TG} {tt : TT} {te : TE} {σ0 : St} {H : Hp} {Q : VK} (Pv : Nat → List V → Hp → Prop) (h0 : Pv 0 [] H) (hn : xs.length < sizeLine) (hl : ∀ i ys H, i ≤ xs.length → Pv i ys H → SqT K H a xs)
    (hs : ∀ i x ys H, xs[i]? = some x → i < xs.length → Pv i ys H → ys.length ≤ i → ys.length < sizeLine → g x σ0 H fun σ2 H2 => tt σ2 H2 fun b H3 => if b = true then te σ2 H3 fun y H4 => ys.length < sizeLine ∧ Pn Pv xs.length i (ys ++ [y]) H4 else Pn Pv xs.length i ys H3)
    (hd : ∀ ys H, Pv xs.length ys H → ys.length ≤ xs.length → ∀ l, H l = none → Q (.ref l) (upd H l (.lst ys))) :
    ∃ W : Nat → Nat → List V → Hp → Prop, (∃ m, W 0 m [] H) ∧ ∀ i m ys H, W i m ys H →
      ((Itt K a).stop i H ∧ CDone Q H ys) ∨
      ((Itt K a).go i H ∧ ∀ x H', (Itt K a).yld i H x H' → g x σ0 H' fun σ2 H2 => tt σ2 H2 fun b H3 =>
        if b = true then te σ2 H3 fun y H4 => ys.length < sizeLine ∧ ∃ m', m' < m ∧ W (i + 1) m' (ys ++ [y]) H4 else ∃ m', m' < m ∧ W (i + 1) m' ys H3) := by
  refine ⟨fun i m ys H => m = xs.length - i ∧ i ≤ xs.length ∧ ys.length ≤ i ∧ Pv i ys H, ⟨xs.length, by simp, Nat.zero_le _, Nat.le_refl _, h0⟩, ?_⟩
  rintro i m ys H ⟨rfl, hi, hyl, p⟩
  have q := hl i ys H hi p
  by_cases hlt : i < xs.length
  · refine .inr ⟨⟨xs, xs[i], q, by simp [hlt]⟩, fun x H' y => ?_⟩
    obtain ⟨e, y⟩ := y
    subst e
    exact hs i x ys _ (y xs q) hlt p hyl (by omega)
  · have e : i = xs.length := by omega
    subst e
    exact .inl ⟨⟨xs, q, Nat.le_refl _⟩, hd ys H p hyl⟩
def sx (l : List Nat) : Str := ⟨l.toArray⟩
theorem sx_app (a b : List Nat) : sx a ++ sx b = sx (a ++ b) := by
  show Str.append (sx a) (sx b) = _
  unfold Str.append sx
  simp
theorem sx_len (a : List Nat) : (sx a).length = a.length := by
  unfold Str.length sx
  simp
theorem sx_inj {a b : List Nat} : sx a = sx b ↔ a = b := by
  constructor
  · intro h
    have h1 := congrArg (fun s : Str => s.cps.toList) h
    simpa [sx] using h1
  · intro h
    rw [h]
theorem glued_fold (g : Array Nat) : ∀ (l : List (List Nat)) (acc : List Nat), ((l.map sx).foldl (fun acc p => acc ++ g ++ p.cps) acc.toArray) = (acc ++ (l.map fun x => g.toList ++ x).flatten).toArray
  | [], acc => by simp
  | x :: l, acc => by
    have e : (acc.toArray ++ g ++ (sx x).cps) = (acc ++ (g.toList ++ x)).toArray := by
      unfold sx
      apply Array.toList_inj.mp
      simp
    rw [List.map_cons, List.foldl_cons, e, glued_fold g l]
    simp
theorem joinC_flat (c : Nat) : ∀ (x : List Nat) (l : List (List Nat)), Bw.joinC c (x :: l) = x ++ (l.map fun y => [c] ++ y).flatten
  | x, [] => by simp [Bw.joinC]
  | x, y :: l => by
    show x ++ c :: Bw.joinC c (y :: l) = _
    rw [joinC_flat c y l]
    simp
theorem join_sx (c : Nat) (l : List (List Nat)) : Txt.join (sx [c]) (l.map sx) = sx (Bw.joinC c l) := by
  unfold Txt.join Builtin.Str.glued
  cases l with
  | nil => rfl
  | cons x l =>
    rw [joinC_flat]
    show (⟨(l.map sx).foldl (fun acc p => acc ++ (sx [c]).cps ++ p.cps) (sx x).cps⟩ : Str) = _
    have e := glued_fold (sx [c]).cps l x
    have e2 : (sx x).cps = x.toArray := rfl
    rw [e2, e]
    rfl
theorem fig_sx : ∀ n : Nat, n < 10 → Str.ofString (toString ((n : Nat) : Int)) = sx [48 + n] := by decide +kernel
theorem intText_fig : ∀ n : Nat, n < 10 → PySem.intText? (sx [48 + n]) = some (n : Int) := by decide +kernel
section
variable {X : Cx}
/-- int(..) of a figure -/
theorem call_intFig : CallR X (.type "int") (fun xs H Q => ∃ n : Nat, xs = [.str (sx [48 + n])] ∧ n < 10 ∧ Q (.int (n : Int)) H) := by
  intro pins s σ H xs us Q I r h
  obtain ⟨n, rfl, hn, q⟩ := h
  obtain ⟨u, rfl, rx⟩ := vals1 r
  obtain ⟨t, rfl⟩ := rx
  exact PySem.W.KIN.call_text (intText_fig n hn) (by rw [sx_len]; show 1 ≤ 640; decide) ⟨.int n, H, I.tok _, ⟨_, rfl⟩, q⟩
end
end L2

set_option Elab.async false
set_option linter.all false
set_option maxRecDepth 100000
set_option maxHeartbeats 4000000
namespace L2
open PySem PySem.Spec PyProof.Rows
def IteS (z : Str) : It :=
  ⟨fun i _ => i < z.length, fun i H v H' => ∃ t c, v = .ref t ∧ H t = none ∧ H' = upd H t (.tup [.int i, .str ⟨#[c]⟩]) ∧ z.cps[i]? = some c, fun i _ => z.length ≤ i⟩
theorem drawsS {P : Program} {w : World} {A : Around} (hh : A.handled = none) (it : Addr) (z : Str) (t : Tok) :
    Draws P w A it [it] z.cps.size (fun i v => ∃ c u, z.cps[i]? = some c ∧ v = .str ⟨#[c]⟩ u) (fun i h => h.IsStrIter it (strIterType z) z t i) := by
  unfold strIterType
  split
  · exact Draws.strAscii hh it z t
  · exact Draws.strWide hh it z t
theorem turn_enumS {P : Program} {w : World} {K : PySem.W.Frag} {es : List Expr} {k : Nat} {pos : Pos} (z : Str) (tk0 : Tok) (e it : Addr) (hei : e ≠ it) :
    Turn P w K (.Tuple es k pos) (IteS z) [e, it] e (fun i h => i ≤ z.cps.size ∧ (∃ old, IsEnum h e it i old) ∧ h.IsStrIter it (strIterType z) z tk0 i) where
  mem := by simp
  obj := fun i h st b hb => by
    obtain ⟨_, ⟨old, he⟩, o, ho, c, d⟩ := st
    rcases List.mem_cons.mp hb with z | hb
    · subst z
      exact ⟨_, he, fun v z => by cases z⟩
    · have z : b = it := by simpa using hb
      subst z
      exact ⟨o, ho, fun v z => by rw [d] at z; cases z⟩
  keep := fun i h h' st kp => ⟨st.1, let ⟨old, he⟩ := st.2.1; ⟨old, kp e (by simp) _ he⟩, let ⟨o, ho, r⟩ := st.2.2; ⟨o, kp it (by simp) o ho, r⟩⟩
  item := by
    intro X hP hw hK hc i pins s σ H E I hf st hg
    subst hP hw hK
    obtain ⟨hle, ⟨old, he⟩, hit⟩ := st
    have hlt : i < z.cps.size := hg
    obtain ⟨e0, e1, e2, e3, e4, e5⟩ := hf e (by simp)
    obtain ⟨i0, i1, i2, i3, i4, i5⟩ := hf it (by simp)
    have D := drawsS (P := X.prog) (w := X.w) (A := X.A.in1) (I.ok.hd hc) it z tk0
    refine wpAny_pyNext_enum_itemD D he hit hlt hei (by simpa using hei) fun x h' tk hPx ho hit' hT hsz hk => ?_
    obtain ⟨c, tkc, hc', rfl⟩ := hPx
    refine ⟨_, rfl, wpAny_letOwnedTupleGo_enum ho fun h2 he2 hs2 => ?_⟩
    replace hs2 : Heap.SameBut e h' h2 := hs2
    have hT0 : H s.heap.objs.size = none := I.hok.fresh (Nat.le_refl _)
    have eT : e ≠ s.heap.objs.size := Nat.ne_of_lt (Heap.lt_size he)
    have iT : it ≠ s.heap.objs.size := by
      obtain ⟨o, ho, _⟩ := hit
      exact Nat.ne_of_lt (Heap.lt_size ho)
    have kp : ∀ b o, b ∉ [e, it] → s.heap.get? b = some o → h2.get? b = some o := fun b o hb q => by
      have nb : b ≠ e ∧ b ≠ it := by simpa using hb
      exact (hs2.2 b nb.1).trans (hk b o nb.1 nb.2 q)
    have hT2 : h2.get? s.heap.objs.size = some { cls := .type "tuple", data := .seq #[.int i tk, .str ⟨#[c]⟩ tkc] } := (hs2.2 _ (Ne.symm eT)).trans hT
    refine ⟨.ref s.heap.objs.size, upd H s.heap.objs.size (.tup [.int i, .str ⟨#[c]⟩]), ?_, rfl, ⟨_, c, rfl, hT0, rfl, hc'⟩, ⟨hlt, ⟨_, by simpa using he2⟩, let ⟨o, ho, r⟩ := hit'; ⟨o, (hs2.2 it (Ne.symm hei)).trans ho, r⟩⟩, fun b hb => ?_⟩
    · refine Inv.step (s := s) (h' := h2) I (g' := s.gens) (d' := s.drawn) (t' := tk + 1) (ch := [e, it]) (fun b hb => ?_) (fun b o _ _ hb q _ => kp b o hb q) (fun b o _ _ hb q _ => ⟨o.slots, kp b o hb q⟩) (fun b o hb q n => ?_) (fun b o hb q => ⟨o, kp b o hb q⟩)
        (fun b ys q => ?_) (fun b o z q => ?_) (fun b ps q => ⟨#[], ?_⟩) (fun m hm => ?_) ?_ I.bare
      · rcases List.mem_cons.mp hb with z | hb
        · subst z; exact ⟨e3, e1, e4, e5⟩
        · have z : b = it := by simpa using hb
          subst z; exact ⟨i3, i1, i4, i5⟩
      · rw [upd_ne (Nat.ne_of_lt (Heap.lt_size q))]; exact n
      · rw [upd_ne (ne_of_none q hT0)]; exact q
      · rw [upd_ne (ne_of_none q hT0)]; exact q
      · rw [upd_ne (ne_of_none q hT0), q]; simp
      · obtain ⟨o, es', ep, q, r⟩ := hm
        exact ⟨o, es', ep, kp _ o (by simp only [List.mem_cons, List.not_mem_nil, or_false, not_or]; exact ⟨Ne.symm e1, Ne.symm i1⟩) q, r⟩
      · refine HOk.adopt I.hok hT0 (fun b u hb q => kp b u ?_ q) ⟨by simp only [List.length_cons, List.length_nil]; rw [sizeLine_eq]; decide, [.int i tk, .str ⟨#[c]⟩ tkc], .cons ⟨_, rfl⟩ (.cons ⟨_, rfl⟩ .nil), ?_⟩
        · simp only [List.mem_cons, List.not_mem_nil, or_false, not_or]
          exact ⟨fun z => hb (by rw [z]; exact e0), fun z => hb (by rw [z]; exact i0)⟩
        · exact ⟨_, hT2, rfl, _, rfl⟩
    · rcases List.mem_cons.mp hb with z | hb
      · subst z; rw [upd_ne eT]; exact e0
      · have z : b = it := by simpa using hb
        subst z; rw [upd_ne iT]; exact i0
  done := by
    intro X hP hw hK hc i pins s σ H E I hf st hg
    subst hP hw hK
    obtain ⟨hle, ⟨old, he⟩, hit⟩ := st
    have hgz : z.cps.size ≤ i := hg
    have ei : i = z.cps.size := Nat.le_antisymm hle hgz
    subst ei
    obtain ⟨f0, f1, f2, f3, f4, f5⟩ := hf it (by simp)
    have D := drawsS (P := X.prog) (w := X.w) (A := X.A.in1) (I.ok.hd hc) it z tk0
    exact wpAny_pyNext_enum_endD D he hit fun h' eb => ⟨rfl, I.turned (t' := s.toks) (fun b o hb e => eb b o hb e) f0 f1 f3 f4 f5⟩
  self := fun _ _ _ _ _ st h => let ⟨_, he⟩ := st.2.1; wpAny_pyIter_enum he h
section
variable {X : Cx}
def iEnumS (tl : TA) : TI := fun σ H R => tl σ H fun vs H1 => ∃ z, vs = [.str z] ∧ R (IteS z) H1
theorem pi_enumS {l : Expr} {tl : TA} {es : List Expr} {k : Nat} {tpos p pos : Pos} (hg : Gl X "enumerate") (hm : X.mg "enumerate" = none) (ha : PA X [l] tl) (hs : starEach [l] X.env = [(false, eval l X.env)] := by rfl) :
    PI X (.Tuple es k tpos) (.Call (.Name "enumerate" p) [l] [] pos) (iEnumS tl) := by
  intro pins s σ H R I h
  refine Call_ (ld_blt I hg hm boot_enumerate (PyProof.Rows.callWith_type1 (thn (ha pos pins s σ H _ I h) fun us s1 ⟨vs, H1, I1, r1, q1⟩ => ?_) hs rfl))
  obtain ⟨z, e, q⟩ := q1
  subst e
  obtain ⟨u, rfl, ru⟩ := vals1 r1
  obtain ⟨tk0, rfl⟩ := ru
  refine call_enumerate_str fun h' he hit hsz hk => ?_
  refine wpAny_pyIter_enum he ?_
  have I2 : Inv X pins σ H1 { s1 with heap := h', toks := s1.toks } := I1.kept (t' := s1.toks) hk
  refine ⟨s1.heap.objs.size + 1, [s1.heap.objs.size + 1, s1.heap.objs.size], _, _, H1, rfl, I2, turn_enumS z tk0 _ _ (Nat.succ_ne_self _), ⟨Nat.zero_le _, ⟨_, he⟩, hit⟩, fun b hb => ?_, q⟩
  have hb' : s1.heap.objs.size ≤ b := by
    rcases List.mem_cons.mp hb with z | hb
    · rw [z]; exact Nat.le_succ _
    · have z : b = s1.heap.objs.size := by simpa using hb
      rw [z]; exact Nat.le_refl _
  exact I1.fpOk hb' (I1.hok.fresh hb')
theorem for_enumS {l : List Nat} {g : TG} {tb : TS} {D : Ends} {σ : St} {H : Hp} (Pv : Nat → St → Hp → Prop) (h0 : Pv 0 σ H)
    (hs : ∀ i c σ H t, l[i]? = some c → Pv i σ H → H t = none → g (.ref t) σ (upd H t (.tup [.int i, .str (sx [c])])) fun σ2 H2 => tb { D with nx := Pv (i + 1), ct := Pv (i + 1), bk := D.nx } σ2 H2) (hd : ∀ σ H, Pv l.length σ H → D.nx σ H) :
    ∃ W : Nat → Nat → St → Hp → Prop, (∃ m, W 0 m σ H) ∧ ∀ i m σ H, W i m σ H →
      ((IteS (sx l)).stop i H ∧ D.nx σ H) ∨ ((IteS (sx l)).go i H ∧ ∃ N : St → Hp → Prop, (∀ σ' H', N σ' H' → ∃ m', m' < m ∧ W (i + 1) m' σ' H') ∧ ∀ x H', (IteS (sx l)).yld i H x H' → g x σ H' fun σ2 H2 => tb { D with nx := N, ct := N, bk := D.nx } σ2 H2) := by
  refine ⟨fun i m σ H => m = l.length - i ∧ i ≤ l.length ∧ Pv i σ H, ⟨l.length, by simp, Nat.zero_le _, h0⟩, ?_⟩
  rintro i m σ H ⟨rfl, hi, p⟩
  by_cases hlt : i < l.length
  · refine .inr ⟨by show i < (sx l).length; rw [sx_len]; exact hlt, Pv (i + 1), fun σ' H' p' => ⟨l.length - (i + 1), by omega, rfl, hlt, p'⟩, fun x H' y => ?_⟩
    obtain ⟨t, c, e1, e2, e3, e4⟩ := y
    subst e1 e3
    have e5 : l[i]? = some c := by
      have : (sx l).cps[i]? = l[i]? := by unfold sx; simp
      rw [← this]; exact e4
    exact hs i c σ _ t e5 p e2
  · have e : i = l.length := by omega
    subst e
    exact .inl ⟨by show (sx l).length ≤ l.length; rw [sx_len]; exact Nat.le_refl _, hd σ H p⟩
end
end L2

set_option Elab.async false
set_option linter.all false
set_option maxRecDepth 100000
set_option maxHeartbeats 4000000
namespace L2
open PySem PySem.Spec PyProof.Rows
section
variable {X : Cx}
end
end L2

set_option Elab.async false
set_option linter.all false
set_option maxRecDepth 100000
namespace L2
open PySem PySem.Spec PyProof.Rows
section
variable {X : Cx}
def rEqS (K : PySem.W.Frag) (neg : Bool) : R2 := fun x y H Q => ∃ (p q : Addr) (ys zs : List Str), x = .ref p ∧ y = .ref q ∧ SqL K H p (ys.map V.str) ∧ SqL K H q (zs.map V.str) ∧ (∀ y ∈ ys, PyData.strOk y = true) ∧ (∀ y ∈ zs, PyData.strOk y = true) ∧ Q (.bl (if neg then !decide (ys = zs) else decide (ys = zs))) H
theorem reads_strs {H : Hp} {s : Shared} {pins : List (Addr × Obj)} {σ : St} (I : Inv X pins σ H s) {p : Addr} {ys : List Str} (h : SqL X.K H p (ys.map V.str)) :
    ∃ as, Reads s.heap (.ref p) (.list (ys.map PyData.str)) as := by
  obtain ⟨its, rv, pl, _⟩ := I.list h
  obtain ⟨o, n, e, c, d, q⟩ := pl
  have all : ∀ {ys : List Str} {its : List Value}, Vals (ys.map V.str) its → ∃ as, ReadsAll s.heap its (ys.map PyData.str) as := by
    intro ys
    induction ys with
    | nil => intro its r; cases r; exact ⟨_, ReadsAll.nil⟩
    | cons y ys ih =>
      intro its r
      cases r with
      | cons r1 r2 =>
        obtain ⟨t, rfl⟩ := r1
        obtain ⟨bs, q2⟩ := ih r2
        exact ⟨_, ReadsAll.cons (Reads.str y t) q2⟩
  obtain ⟨as, q2⟩ := all rv
  exact ⟨_, reads_list_at e c q (by simpa using q2)⟩
theorem shaped_strs {ys : List Str} (ok : ∀ y ∈ ys, PyData.strOk y = true) : SeqAt.shaped (.list (ys.map PyData.str)) = true := by
  have b1 : PyData.canLayAll0 (ys.map PyData.str) = true := by
    induction ys with
    | nil => rfl
    | cons y r ih => simp [PyData.canLayAll0, PyData.canLay0, ih fun z hz => ok z (.tail _ hz), ok y (.head _)]
  have b2 : PyData.depthAll (ys.map PyData.str) = 0 := by
    induction ys with
    | nil => simp [PyData.depthAll]
    | cons y r ih =>
      have ih' := ih (fun z hz => ok z (.tail _ hz)) (by simp [PyData.canLayAll0, PyData.canLay0] at b1; exact b1.2)
      simp [PyData.depthAll, PyData.depth, ih']
  unfold SeqAt.shaped
  rw [Bool.and_eq_true]
  refine ⟨by simp only [PyData.canLay0]; exact b1, decide_eq_true ?_⟩
  simp only [PyData.depth]
  omega
theorem eqv_strs : ∀ ys zs : List Str, PyData.eqvAll (ys.map PyData.str) (zs.map PyData.str) = decide (ys = zs)
  | [], [] => by simp [PyData.eqvAll]
  | [], _ :: _ => by simp [PyData.eqvAll]
  | _ :: _, [] => by simp [PyData.eqvAll]
  | a :: r, b :: t => by
    simp only [List.map_cons, PyData.eqvAll, PyData.eqv, eqv_strs r t]
    by_cases h : a = b <;> by_cases h' : r = t <;> simp [h, h']
theorem op_eqS (hu : X.A.units + 64 < cLine) : OpR X (compareOp .Eq) (rEqS X.K false) := by
  intro pins s σ H x y v u Q I rx ry h
  obtain ⟨p, q, ys, zs, rfl, rfl, h1, h2, o1, o2, k⟩ := h
  cases rx; cases ry
  obtain ⟨as, r1⟩ := reads_strs I h1
  obtain ⟨bs, r2⟩ := reads_strs I h2
  refine eq_dataH r1 r2 (shaped_strs o1) (shaped_strs o2) hu ⟨.bl _, H, I, rfl, ?_⟩
  simp only [PyData.eqv]
  rw [eqv_strs]
  exact k
theorem op_neS (hu : X.A.units + 64 < cLine) : OpR X (compareOp .NotEq) (rEqS X.K true) := by
  intro pins s σ H x y v u Q I rx ry h
  obtain ⟨p, q, ys, zs, rfl, rfl, h1, h2, o1, o2, k⟩ := h
  cases rx; cases ry
  obtain ⟨as, r1⟩ := reads_strs I h1
  obtain ⟨bs, r2⟩ := reads_strs I h2
  refine ne_dataH r1 r2 (shaped_strs o1) (shaped_strs o2) hu ⟨.bl _, H, I, rfl, ?_⟩
  simp only [PyData.eqv]
  rw [eqv_strs]
  exact k
theorem op_mul_str : OpR X (binaryOp .Mult) (fun x y H Q => ∃ z n, x = .str z ∧ y = .int n ∧ MulOk z n ∧ Q (.str (Txt.mul z n)) H) := by
  intro pins s σ H x y v u Q I rx ry h
  obtain ⟨z, n, rfl, rfl, ok, q⟩ := h
  obtain ⟨t, rfl⟩ := rx
  obtain ⟨t', rfl⟩ := ry
  exact SB.mul ok fun t' k => ⟨.str _, H, I.tok k, ⟨_, rfl⟩, q⟩
end
end L2

set_option Elab.async false
set_option linter.all false
set_option maxRecDepth 100000
namespace L2
open PySem PySem.Spec PyProof.Rows
section
variable {X : Cx}
def rSlS : V → Option Int → Option Int → Hp → VK → Prop := fun x _ _ H Q => ∃ z, x = .str z ∧ z.length ≤ 1000000 ∧ ∀ y : Str, y.length ≤ z.length → Q (.str y) H
theorem sl_str : SlR X rSlS := by
  intro pins s σ H x v vl vu lo hi sl Q I rx hs pl pu h
  obtain ⟨z, rfl, hz, q⟩ := h
  obtain ⟨t, rfl⟩ := rx
  have hz' : z.length ≤ sizeLine := by rw [sizeLine_eq]; omega
  refine ⟨"str", _, F.slot_str_getitem.lookup, typeIs_str _ _ _, ?_⟩
  cases pl with
  | none =>
    cases pu with
    | none => exact wpAny_getItem_str_slice (l := none) (u := none) (st := none) hs rfl (post_val_or_str ⟨Nat.le_trans (Txt.slice_le z _ _) hz', fun t' k => ⟨.str _, H, I.tok k, ⟨_, rfl⟩, q _ (Txt.slice_le z none none)⟩⟩)
    | int j uj => exact wpAny_getItem_str_slice (l := none) (u := some (j, uj)) (st := none) hs rfl (post_val_or_str ⟨Nat.le_trans (Txt.slice_le z _ _) hz', fun t' k => ⟨.str _, H, I.tok k, ⟨_, rfl⟩, q _ (Txt.slice_le z none (some j))⟩⟩)
  | int i ui =>
    cases pu with
    | none => exact wpAny_getItem_str_slice (l := some (i, ui)) (u := none) (st := none) hs rfl (post_val_or_str ⟨Nat.le_trans (Txt.slice_le z _ _) hz', fun t' k => ⟨.str _, H, I.tok k, ⟨_, rfl⟩, q _ (Txt.slice_le z (some i) none)⟩⟩)
    | int j uj => exact wpAny_getItem_str_slice (l := some (i, ui)) (u := some (j, uj)) (st := none) hs rfl (post_val_or_str ⟨Nat.le_trans (Txt.slice_le z _ _) hz', fun t' k => ⟨.str _, H, I.tok k, ⟨_, rfl⟩, q _ (Txt.slice_le z (some i) (some j))⟩⟩)
end
end L2

set_option Elab.async false
set_option linter.all false
namespace L2
open PySem
/-- the exception at a, of class C, its dict dx; T: the entry at the head of its trace, whose flight is over (none: no entry yet); both stand above n -/
def Flight (h : Heap) (n : Nat) (a : Addr) (C : Value) (dx T : Option Addr) : Prop :=
  ∃ vs sl, h.get? a = some ⟨C, dx, .fields vs, sl⟩ ∧ n ≤ a ∧ 1 < vs.size ∧ vs[2]? = some .none ∧
    match T with
    | none => vs[1]? = some .none
    | some t => vs[1]? = some (.ref t) ∧ n ≤ t ∧ t ≠ a ∧ ∃ ot ts, h.get? t = some ot ∧ ot.data = .fields ts ∧ ts[3]? = some .none
/-- what a note leaves: the frames at fs up to their slots, the rest as it was, but the exception and its head entry -/
structure Flown (fs : List Addr) (a : Addr) (T : Option Addr) (h h' : Heap) : Prop where
  keep : ∀ b o, b ∉ fs → b ≠ a → T ≠ some b → h.get? b = some o → h'.get? b = some o
  slot : ∀ b o, b ≠ a → T ≠ some b → h.get? b = some o → ∃ sl, h'.get? b = some { o with slots := sl }

section
variable {M : Model} {A : Around} {E : Value → Shared → Prop} {s : Shared}
theorem entryX {base : Heap} {env : Env} {outer : List Env} {L a : Addr} {C : Value} {dx : Option Addr} {vs : Array Value} {sl : Array (Option Value)} {head : Value} {hadNext : Bool} {Q : Unit → Shared → Prop}
    (hA : A.frames = some (env :: outer)) (FF : s.heap.FunFrames base (env :: outer)) (hL : env.frame = some L) (ha : s.heap.get? a = some ⟨C, dx, .fields vs, sl⟩) (hv : 1 < vs.size)
    (go : ∀ h' t, s.heap.objs.size ≤ t → t ≠ a → h'.get? a = some ⟨C, dx, .fields (vs.setIfInBounds 1 (.ref t)), sl⟩ → (∃ ot ts, h'.get? t = some ot ∧ ot.data = .fields ts ∧ ts[3]? = some .none) →
      Flown ((env :: outer).filterMap (·.frame)) a none s.heap h' → Q () { s with heap := h' }) :
    wpAny M A (do let f ← frameOf env; let pl ← entryPlaceOf L hadNext; let b ← EntryCells.newEntry head f .none (rawInt L) .none pl; setField (.ref a) 1 b)
      (fun _ s' => wpAny M A (setFlight (.ref a) none) Q E s') E s := by
  have hna : a ∉ (env :: outer).filterMap (·.frame) := fun hm => by
    obtain ⟨_, o, ho, hno⟩ := FF.mem hm
    rw [ha] at ho
    cases ho
    exact hno vs rfl
  refine wpAny_bind (wpAny_frameOf_fun hA FF hL fun g hg => ?_)
  refine wpAny_bind (wpAny_entryPlaceOf fun pl hpl => ?_)
  unfold EntryCells.newEntry newFields
  refine wpAny_bind (wpAny_newObj_type ?_ (hpl.sizeOk5 _ _ _ _ _))
  have ga : g.get? a = some ⟨C, dx, .fields vs, sl⟩ := (hg.2.1 a hna).trans ha
  generalize hE : ({ cls := .type "traceback", dict := none, data := .fields ([head, .ref L, .none, rawInt L, .none] ++ (if pl.isEmpty then List.replicate 6 Value.none else pl)).toArray } : Obj) = eo
  have g1 : (g.push eo).get? a = some ⟨C, dx, .fields vs, sl⟩ := Heap.get?_push_of_some eo ga
  refine wpAny_setField g1 rfl hv ?_
  have hta : g.objs.size ≠ a := Nat.ne_of_gt (Heap.lt_size ga)
  have g2 : ((g.push eo).update a (Obj.mapFields (·.setIfInBounds 1 (Value.ref g.objs.size)))).get? a = some ⟨C, dx, .fields (vs.setIfInBounds 1 (.ref g.objs.size)), sl⟩ :=
    Heap.get?_update_self (Obj.mapFields (·.setIfInBounds 1 (Value.ref g.objs.size))) g1 rfl
  have g3 : ((g.push eo).update a (Obj.mapFields (·.setIfInBounds 1 (Value.ref g.objs.size)))).get? g.objs.size = some eo :=
    (Heap.get?_update_other (g.push eo) (Obj.mapFields (·.setIfInBounds 1 (Value.ref g.objs.size))) (Ne.symm hta)).trans (Heap.get?_push_size g (by subst hE; rfl))
  unfold setFlight
  refine wpAny_bind (wpAny_field g2 rfl (x := .ref g.objs.size) (by simp [hv]) ?_)
  rw [if_pos (show (Value.ref g.objs.size != Value.none) = true from by simp)]
  have he : eo.data = .fields ([head, .ref L, .none, rawInt L, .none] ++ (if pl.isEmpty then List.replicate 6 Value.none else pl)).toArray := by subst hE; rfl
  refine wpAny_setField g3 he (by simp only [List.size_toArray, List.length_append, List.length_cons, List.length_nil] <;> omega) (go _ g.objs.size (by rw [hg.1]; exact Nat.le_refl _) hta ?_ ?_ ⟨?_, ?_⟩)
  · rw [Heap.get?_update_other _ _ hta]
    exact g2
  · refine ⟨_, _, Heap.get?_update_self _ g3 (Obj.isFreed_of_fields (Obj.data_mapFields he _)), Obj.data_mapFields he _, ?_⟩
    first | (simp; done) | (rcases hpl with rfl | ⟨_, _, _, _, _, _, _, rfl⟩ <;> simp)
  · intro b o hb hba _ q
    have q1 : g.get? b = some o := (hg.2.1 b hb).trans q
    rw [Heap.get?_update_other _ _ (Nat.ne_of_gt (Heap.lt_size q1)), Heap.get?_update_other _ _ (Ne.symm hba)]
    exact Heap.get?_push_of_some _ q1
  · intro b o hba _ q
    obtain ⟨sl', q1⟩ := hg.2.2 b o q
    refine ⟨sl', ?_⟩
    rw [Heap.get?_update_other _ _ (Nat.ne_of_gt (Heap.lt_size q1)), Heap.get?_update_other _ _ (Ne.symm hba)]
    exact Heap.get?_push_of_some _ q1

/-- the frame is noted at the exception, the flight is over -/
theorem fly {base : Heap} {env : Env} {outer : List Env} {L a : Addr} {C : Value} {dx T : Option Addr} {n : Nat} {Q : Unit → Shared → Prop}
    (hA : A.frames = some (env :: outer)) (FF : s.heap.FunFrames base (env :: outer)) (hL : env.frame = some L) (hn : n ≤ s.heap.objs.size) (hx : Flight s.heap n a C dx T)
    (go : ∀ h' t, s.heap.objs.size ≤ t → Flight h' n a C dx (some t) → Flown ((env :: outer).filterMap (·.frame)) a T s.heap h' → Q () { s with heap := h' }) :
    wpAny M A (noteFrame (.ref a) env) (fun _ s' => wpAny M A (setFlight (.ref a) none) Q E s') E s := by
  obtain ⟨vs, sl, ha, hna, hv, h2, hT⟩ := hx
  have h2' : ∀ t : Addr, (vs.setIfInBounds 1 (.ref t))[2]? = some .none := fun t => by rw [Array.getElem?_setIfInBounds_ne (by decide)]; exact h2
  unfold noteFrame
  simp only [hL]
  cases T with
  | none =>
    refine wpAny_bind (wpAny_field ha rfl hT ?_)
    rw [if_neg (by decide)]
    refine entryX hA FF hL ha hv fun h' t ht hta e1 e2 fl => ?_
    exact go h' t ht ⟨_, _, e1, hna, by simpa using hv, h2' t, by simp [hv], Nat.le_trans hn ht, hta, e2⟩ fl
  | some t0 =>
    obtain ⟨h1, hnt, ht0, ot, ts, g1, g2, g3⟩ := hT
    refine wpAny_bind (wpAny_field ha rfl h1 ?_)
    rw [if_pos (show (Value.ref t0 != Value.none) = true from by simp)]
    refine wpAny_bind (wpAny_field g1 g2 g3 ?_)
    rw [if_neg (show ¬ ((Value.none == rawInt L) = true) from by simp [rawInt])]
    refine wpAny_bind (wpAny_setField g1 g2 (Array.getElem?_eq_some_iff.mp g3).1 ?_)
    have oth : ∀ b, b ≠ t0 → (s.heap.update t0 (Obj.mapFields (·.setIfInBounds 3 Value.none))).get? b = s.heap.get? b := fun b hb => Heap.get?_update_other _ _ (Ne.symm hb)
    have hsz : (s.heap.update t0 (Obj.mapFields (·.setIfInBounds 3 Value.none))).objs.size = s.heap.objs.size := Heap.size_after_update ..
    refine entryX (s := { s with heap := s.heap.update t0 (Obj.mapFields (·.setIfInBounds 3 Value.none)) }) hA (FF.of_keeps fun b o hb hno => ⟨o, (oth b fun q => ?_).trans hb, rfl⟩) hL ((oth a (Ne.symm ht0)).trans ha) hv fun h' t ht hta e1 e2 fl => ?_
    · subst q
      rw [g1] at hb
      cases hb
      exact hno ts g2
    · have ht' : s.heap.objs.size ≤ t := by rw [← hsz]; exact ht
      refine go h' t ht' ⟨_, _, e1, hna, by simpa using hv, h2' t, by simp [hv], Nat.le_trans hn ht', hta, e2⟩ ⟨fun b o hb hba hbt q => ?_, fun b o hba hbt q => ?_⟩
      · exact fl.keep b o hb hba (fun z => by cases z) ((oth b fun z => hbt (by rw [z])).trans q)
      · exact fl.slot b o hba (fun z => by cases z) ((oth b fun z => hbt (by rw [z])).trans q)
end
end L2

set_option Elab.async false
set_option linter.all false
set_option maxRecDepth 100000
namespace L2
open PySem PySem.Calls PyProof.Rows PySem.Builtin PySem.Builtin.ObjectAttr
abbrev vMro : List Value := [.type "ValueError", .type "Exception", .type "BaseException", .type "object"]
def xIn (K : PySem.W.Frag) (C : Addr) : Bool := match K.lookup C with
  | some ⟨.type "type", _, .cls cd, sl⟩ => (match cd.mro, sl.toList with
    | .ref D :: bm, [_, _, _, _, some (.builtin n), _] => D == C && n == "ValueError.__new__" && !cd.hasDel && cd.hasDict && PySem.W.tailIn K vMro bm
    | _, _ => false)
  | _ => false
theorem xcls {K : PySem.W.Frag} {h : Heap} {C : Addr} (X : K.In h) (q : xIn K C = true) :
    ∃ nm qn N bs bm sn sub ab col dd k0 k1 k2 k3 k5, h.get? C = some (excClassObj nm qn C N bs bm true sn sub ab col dd k0 k1 k2 k3 k5 "ValueError.__new__") ∧ OwnTail h vMro bm := by
  unfold xIn at q
  split at q
  · rename_i dd cd sl ho
    split at q
    · rename_i D bm k0 k1 k2 k3 n k5 hm hs
      simp only [Bool.and_eq_true, beq_iff_eq, Bool.not_eq_true'] at q
      obtain ⟨⟨⟨⟨rfl, rfl⟩, hdel⟩, hdct⟩, ht⟩ := q
      obtain ⟨nm, bs, mro, ns, qn, hd, sn, sub, ab, col, del⟩ := cd
      dsimp only at hm hdel hdct
      subst hm hdel hdct
      obtain ⟨l⟩ := sl
      simp only at hs
      subst hs
      exact ⟨nm, qn, ns, bs, bm, sn, sub, ab, col, dd, k0, k1, k2, k3, k5, X _ _ ho, PySem.W.tail_of_in X ht⟩
    · cases q
  · cases q

abbrev xtup (l : List Value) : Obj := { cls := .type "tuple", data := .seq l.toArray }
abbrev xnew (C t : Addr) : Obj := { cls := .ref C, data := .fields #[.ref t, .none, .none, .none, .bool false, .none] }

section
variable {prog : Program} {w : World} {A : Around} {E : Value → Shared → Prop} {h : Heap} {g : Array GenState} {d : Drawn} {t : Nat} {os : OsState} {K : PySem.W.Frag} {C fI a t0 : Addr} {dx : Option Addr} {sl : Array (Option Value)}

theorem xtype {rest : List Value} {Q : Fin → Shared → Prop} (X : K.In h) (hx : xIn K C = true) (hi : PySem.W.findIn K (.ref C) "__init__" = some (some (.ref fI))) (hf : PySem.W.typeIn K (.ref fI) = some (.type "function")) (hr : rest.length ≤ sizeLine)
    (go : wpAny (model prog w) A (call (.ref fI) (.ref (h.objs.size + 1) :: rest)) (fun r s' => r = .none ∧ Q (.done (.ret (.ref (h.objs.size + 1)))) s') E ⟨(h.push (xtup rest)).push (xnew C h.objs.size), g, d, t, os⟩) :
    wpAny (model prog w) A (Builtin.«type.__call__» ⟨.ref C :: rest, []⟩) Q E ⟨h, g, d, t, os⟩ := by
  obtain ⟨nm, qn, N, bs, bm, sn, sub, ab, col, dd, k0, k1, k2, k3, k5, hC, T⟩ := xcls X hx
  have Fv := PySem.F.excBase_ValueError
  have hB : vMro.contains (.type "ValueError") = true := by decide
  repeat (first | with_reducible refine wpAny_loadPart_at hC ?_ | with_reducible refine wpAny_madeBy_exc hC ?_ | wp_step)
  refine codeAny_call_builtin_code (Code.quiet_builtin _ Fv.quiet) (wpAny_check_new_subU Fv hB T hC ?_)
  refine codeAny_exc_new_subU Fv hB Fv T hC ?_ hr
  show wpAny _ _ _ _ _ _
  have kp : ∀ b o, h.get? b = some o → ((h.push (xtup rest)).push (xnew C h.objs.size)).get? b = some o := fun b o e => Heap.get?_push_of_some _ (Heap.get?_push_of_some _ e)
  have hC1 := kp _ _ hC
  have X1 : K.In ((h.push (xtup rest)).push (xnew C h.objs.size)) := X.keeps kp
  have hg : ((h.push (xtup rest)).push (xnew C h.objs.size)).get? (h.objs.size + 1) = some (xnew C h.objs.size) := by heap_get
  have hcC : (Value.ref C :: bm).contains (.ref C) = true := by simp
  unfold isInstance
  repeat (first | with_reducible refine wpAny_loadPart_at hg ?_ | (with_reducible refine wpAny_isSubtype_exc hC1 ?_; rw [hcC]) | wp_step)
  show wpAny _ _ (typeLookup (.ref C) _) _ _ _
  refine (PySem.W.looks_findIn X1 hi).at ?_
  refine wpAny_holding (wpAny_bind ((PySem.W.bind_fn X1 _ hf).at ?_))
  refine wpAny_bind (wpAny_mono go (fun r s' hr => ?_) fun _ _ z => z)
  obtain ⟨rfl, q⟩ := hr
  wp_walk
  exact q

theorem xcall {rest : List Value} {Q : Value → Shared → Prop} (X : K.In h) (hx : xIn K C = true) (hi : PySem.W.findIn K (.ref C) "__init__" = some (some (.ref fI))) (hf : PySem.W.typeIn K (.ref fI) = some (.type "function")) (hr : rest.length ≤ sizeLine)
    (go : wpAny (model prog w) (A.under (.builtin "type.__call__" ⟨.ref C :: rest, []⟩)) (call (.ref fI) (.ref (h.objs.size + 1) :: rest)) (fun r s' => r = .none ∧ Q (.ref (h.objs.size + 1)) s') E ⟨(h.push (xtup rest)).push (xnew C h.objs.size), g, d, t, os⟩) :
    wpAny (model prog w) A (call (.ref C) rest) Q E ⟨h, g, d, t, os⟩ := by
  obtain ⟨nm, qn, N, bs, bm, sn, sub, ab, col, dd, k0, k1, k2, k3, k5, hC, T⟩ := xcls X hx
  have f1 := tc_lookup
  have f2 := tc_bind (.ref C)
  have hT : (⟨h, g, d, t, os⟩ : Shared).TypeIs (.ref C) "type" := ⟨_, hC, rfl⟩
  refine wpAny_call (codeAny_of_tree ?_)
  show wpAny _ _ (callAny (.ref C) _) _ _ _
  repeat (any_goals (first | assumption | with_reducible refine wpAny_loadPart_at hC ?_ | wp_step))
  refine ⟨rfl, ?_⟩
  exact codeAny_call_builtin_at (Code.quiet_builtin _ (by decide +kernel)) entry_typeCall (wpAny_check_type_call_sub hC (xtype X hx hi hf hr go))

/-- ValueError's own __init__ -/
theorem xinit {v : Value} {Q : Value → Shared → Prop} (X : K.In h) (hx : xIn K C = true) (ha : h.get? a = some ⟨.ref C, dx, .fields #[.ref t0, .none, .none, .none, .bool false, .none], sl⟩)
    (go : ∀ h', h'.get? a = some ⟨.ref C, dx, .fields #[.ref h.objs.size, .none, .none, .none, .bool false, .none], sl⟩ → (∀ b o, b ≠ a → h.get? b = some o → h'.get? b = some o) → Q .none ⟨h', g, d, t, os⟩) :
    wpAny (model prog w) A (call (.builtin "ValueError.__init__") [.ref a, v]) Q E ⟨h, g, d, t, os⟩ := by
  obtain ⟨nm, qn, N, bs, bm, sn, sub, ab, col, dd, k0, k1, k2, k3, k5, hC, T⟩ := xcls X hx
  have Fv := PySem.F.excBase_ValueError
  refine wpAny_call (codeAny_call_builtin Fv.init.plain Fv.initEntry (wpAny_check_init_subU Fv T hC ha rfl ?_))
  wp_walk
  refine go _ ?_ ?_
  · rw [Heap.get?_update_self _ (Heap.get?_push_of_some _ ha) rfl]
    rfl
  · intro b o hb e
    rw [Heap.get?_update_other _ _ (Ne.symm hb)]
    exact Heap.get?_push_of_some _ e

theorem refuse_tail {bmB tl : List Value} {self : Value} {what : Str} (T : OwnTail h bmB tl) : refuseLoop self what tl = refuseLoop self what bmB := by
  induction T with
  | base => rfl
  | own _ _ _ _ ih => rw [refuseLoop_ref, ih]

end
end L2

set_option Elab.async false
set_option linter.all false
set_option maxRecDepth 100000
namespace L2
open PySem PySem.Calls PyProof.Rows PySem.Builtin PySem.Builtin.ObjectAttr
section
variable {prog : Program} {w : World} {A : Around} {E : Value → Shared → Prop} {h : Heap} {g : Array GenState} {d : Drawn} {t : Nat} {os : OsState} {K : PySem.W.Frag} {C fI a t0 : Addr} {dx : Option Addr} {sl : Array (Option Value)}

/-- self.name = v where the exception has no dict yet -/
theorem xstore {name : Str} {v : Value} {o : Obj} {Q : Unit → Shared → Prop} (X : K.In h) (hx : xIn K C = true) (hs : PySem.W.findIn K (.ref C) "__setattr__" = some (some (.builtin "object.__setattr__")))
    (hn : PySem.W.findIn K (.ref C) name = some none) (ha : h.get? a = some o) (hc : o.cls = .ref C) (hdn : o.dict = none) (hnc : PySem.W.notCls o = true)
    (go : ∀ h' tk, h'.get? a = some { o with dict := some h.objs.size } → h'.Ns1 h.objs.size (fun y => if y = name then some v else none) → (∀ b u, b ≠ a → h.get? b = some u → h'.get? b = some u) → Q () ⟨h', g, d, tk, os⟩) :
    wpAny (model prog w) A (setAttr (.ref a) name v) Q E ⟨h, g, d, t, os⟩ := by
  have I : PySem.W.InstAt h a o C none := ⟨ha, hc, hnc, by rw [hdn]; trivial⟩
  refine PySem.W.set_plain X I hs ?_
  obtain ⟨nm, qn, N, bs, bm, sn, sub, ab, col, dd, k0, k1, k2, k3, k5, hC, T⟩ := xcls X hx
  have SF := PySem.F.store_ValueError
  have sub1 : PySem.W.Looks (model prog w) h (isInstance (.ref a) (.type "object")) true := by
    refine I.type.andThen fun A Q E s k q => ?_
    obtain ⟨h1, g1, d1, t1, os1⟩ := s
    refine wpAny_isSubtype_exc (k _ _ hC) ?_
    rw [List.contains_cons, T.hasType (show vMro.contains (.type "object") = true by decide)]
    exact q
  refine codeAny_call_builtin SF.slot.plain SF.entry (@PySem.W.check_slot (model prog w) _ _ _ "object.__setattr__" "object" "__setattr__" (.ref a) _ [] _ SF.kind SF.split sub1 (SF.args (.ref a) _ v) ?_)
  have L0 := I.type (M := model prog w)
  have L1 := PySem.W.looks_findIn (M := model prog w) X hn
  have hp := SF.passes (.ref a)
  unfold Builtin.«object.__setattr__»
  repeat (first | rw [refuse_eq] | (rw [refuseLoop_ref, refuse_tail T, hp]) | with_reducible refine PySem.W.Looks.at L0 ?_ | with_reducible refine wpAny_mroOf_exc hC ?_ | with_reducible refine PySem.W.Looks.at L1 ?_ | wp_step)
  obtain ⟨oc, odi, oda, osl⟩ := o
  dsimp only at hc hdn
  subst hc hdn
  have hx1 : (h.push { cls := .type "dict", data := .dict #[] }).get? a = some ⟨.ref C, none, oda, osl⟩ := Heap.get?_push_of_some _ ha
  have hxs : a ≠ h.objs.size := Nat.ne_of_lt (Heap.lt_size ha)
  dsimp only
  unfold classData
  refine wpAny_bind (wpAny_bind (wpAny_load hC (wpAny_pure ?_)))
  dsimp only
  rw [if_neg (by decide), if_neg (by simp [typeHasDict])]
  split
  · cases hnc
  · refine wpAny_bind (wpAny_alloc' ?_)
    refine wpAny_bind (wpAny_update' hx1 ?_)
    refine wpAny_pure ?_
    have hgd : ((h.push { cls := .type "dict", data := .dict #[] }).update a fun o => { cls := o.cls, dict := some h.objs.size, data := o.data, slots := o.slots }).get? h.objs.size = some { cls := .type "dict", data := .dict #[] } :=
      (Heap.get?_update_ne _ _ _ _ hxs.symm).trans (Heap.get?_push_at rfl rfl)
    have hnd : ((h.push { cls := .type "dict", data := .dict #[] }).update a fun o => { cls := o.cls, dict := some h.objs.size, data := o.data, slots := o.slots }).Ns h.objs.size (fun _ => none) :=
      ⟨_, #[], _, hgd, rfl, fun e he => absurd he (by simp), fun _ => rfl⟩
    show wpAny _ _ (storeInDict h.objs.size (.str name _) name v) _ _ _
    unfold storeInDict newKeyGuard
    refine wpAny_bind (wpAny_pure (wpAny_bind (wpAny_nsSet1 (Heap.Ns1.of_empty hnd) fun h' hn' hs => ?_)))
    obtain ⟨oD, esD, epD, hoD, hdD, hcD⟩ := hn'.count (Within.cons name v Within.nil)
    refine wpAny_bind (wpAny_lookBehind hoD (by rw [hdD]; exact pastItsLine_dict (Nat.le_trans hcD (by rw [List.length_cons, List.length_nil, sizeLine_eq]; omega))) ?_)
    refine wpAny_pure (go h' _ ?_ hn' fun b u hb e => ?_)
    · refine (hs.2 a hxs).trans (Heap.get?_update_self _ hx1 ?_)
      have hfr := (Heap.get?_some_iff.mp ha).2
      cases oda <;> first | rfl | exact hfr
    · exact (hs.2 b (Nat.ne_of_lt (Heap.lt_size e))).trans ((Heap.get?_update_ne _ _ _ _ hb).trans (Heap.get?_push_of_some _ e))

/-- through BaseException.__getattribute__ -/
theorem xby {ox : Obj} {od : Option Obj} {name : Str} {tk : Tok} {fill expr : Bool} {Q : Value → Shared → Prop} {s : Shared} (X : K.In s.heap) (I : PySem.W.InstAt s.heap a ox C od)
    (hga : PySem.W.findIn K (.ref C) "__getattribute__" = some (some (.builtin "BaseException.__getattribute__"))) (hgn : PySem.W.findIn K (.ref C) "__getattr__" = some none) (hm : PySem.W.mroIn K C (.type "BaseException") = some true)
    (go : wpAny (model prog w) A.in1 (Builtin.«object.__getattribute__» ⟨[.ref a, .str name tk], []⟩) (fun fin s' => match fin with | .done (.ret v) => wpAny (model prog w) A (handedOut v) Q E s' | _ => False) (fun _ _ => False) s) :
    wpAny (model prog w) A (getAttrBy (.ref a) (.str name tk) fill expr) Q E s := by
  obtain ⟨h, g, d, t, os⟩ := s
  have L0 := I.type (M := model prog w)
  have L1 := PySem.W.looks_findIn (M := model prog w) X hga
  have L2 := PySem.W.looks_findIn (M := model prog w) X hgn
  have L3 : PySem.W.Looks (model prog w) h (isInstance (.ref a) (.type "BaseException")) true := L0.andThen (PySem.W.looks_mroIn X hm)
  have FB := PySem.F.attrBase_ValueError
  unfold getAttrBy
  refine wpAny_holding (wpAny_bind (L0.at (wpAny_bind (L1.at ?_))))
  have h0 : (onTheHeap (Value.ref C) && Value.builtin "BaseException.__getattribute__" == Value.builtin "object.__getattribute__") = false := by
    have : (Value.builtin "BaseException.__getattribute__" == Value.builtin "object.__getattribute__") = false := by decide +kernel
    rw [this]; rfl
  dsimp only
  rw [h0, if_neg Bool.false_ne_true]
  unfold getAttrByItsOwn hookBefore
  rw [if_pos (show onTheHeap (Value.ref C) = true from rfl)]
  refine wpAny_bind (L2.at (wpAny_bind (wpAny_attempt (wpAny_holding ?_))))
  unfold callGetattribute
  rw [if_neg (by cases expr <;> decide)]
  unfold boundAndCalled
  rw [FB.ga.bind]
  refine wpAny_bind (wpAny_pure (wpAny_call (codeAny_call_builtin FB.ga.plain PySem.F.entry_bexc_ga (@PySem.W.check_slot (model prog w) _ _ _ "BaseException.__getattribute__" "BaseException" "__getattribute__" (.ref a) _ [] _ (by decide +kernel) (by decide +kernel) L3 (PySem.F.args_bexc_ga _ _) (wpAny_mono go (fun fin s' z => ?_) fun _ _ z => z.elim)))))
  rcases fin with (_ | _ | _ | _) | _ <;> first | exact z | exact z.elim

theorem xentry_value {ox : Obj} {od : Option Obj} {name : Str} {tk : Tok} {v : Value} {Q : Fin → Shared → Prop} {s : Shared} (X : K.In s.heap) (I : PySem.W.InstAt s.heap a ox C od)
    (hf : PySem.W.findObj K C od name = some (.value v)) (hq : Q (.done (.ret v)) s) : wpAny (model prog w) A (Builtin.«object.__getattribute__» ⟨[.ref a, .str name tk], []⟩) Q E s := by
  obtain ⟨h, g, d, t, os⟩ := s
  have L0 := I.type (M := model prog w)
  have L1 := PySem.W.looks_find (M := model prog w) X I hf
  unfold Builtin.«object.__getattribute__»
  repeat lk
  exact hq
theorem xentry_bind {ox : Obj} {od : Option Obj} {name : Str} {tk : Tok} {g a' : Value} {P : Value → Shared → Prop} {s : Shared} (X : K.In s.heap) (I : PySem.W.InstAt s.heap a ox C od)
    (hf : PySem.W.findObj K C od name = some (.bind g a')) (hne : (Value.ref a == Value.none) = false)
    (go : wpAny (model prog w) A (call g [a', .ref a, .ref C]) P E s) :
    wpAny (model prog w) A (Builtin.«object.__getattribute__» ⟨[.ref a, .str name tk], []⟩) (fun fin s' => match fin with | .done (.ret v) => P v s' | _ => False) E s := by
  obtain ⟨h, gg, d, t, os⟩ := s
  have L0 := I.type (M := model prog w)
  obtain ⟨r, er⟩ : ∃ r, r = Found.bind g a' := ⟨_, rfl⟩
  rw [← er] at hf
  have L1 := PySem.W.looks_find (M := model prog w) X I hf
  unfold Builtin.«object.__getattribute__»
  repeat lk
  cases er
  show wpAny _ _ (holding [a'] (call g [a', .ref a, .ref C]) >>= ret) _ _ _
  exact wpAny_bind (wpAny_holding (wpAny_mono go (fun v s' z => wpAny_pure z) fun _ _ z => z))

/-- a.name, from the exception's dict -/
theorem xget {ox : Obj} {od : Option Obj} {name : Str} {v : Value} {expr : Bool} {Q : Value → Shared → Prop} {s : Shared} (X : K.In s.heap) (I : PySem.W.InstAt s.heap a ox C od)
    (hga : PySem.W.findIn K (.ref C) "__getattribute__" = some (some (.builtin "BaseException.__getattribute__"))) (hgn : PySem.W.findIn K (.ref C) "__getattr__" = some none) (hm : PySem.W.mroIn K C (.type "BaseException") = some true)
    (hf : PySem.W.findObj K C od name = some (.value v)) (hh : PySem.W.handedIn v = true) (hq : Q v { s with toks := s.toks + 1 }) : wpAny (model prog w) A (getAttr (.ref a) name expr) Q E s := by
  unfold getAttr
  refine wpAny_bind (wpAny_mkText (xby (s := { s with toks := s.toks + 1 }) X I hga hgn hm (xentry_value (s := { s with toks := s.toks + 1 }) X I hf ?_)))
  show wpAny _ _ (handedOut v) _ _ _
  rw [PySem.W.handedOut_of hh]
  exact wpAny_pure hq

/-- its class, as isinstance asks it -/
theorem kitx_exc {ox od : Obj} (hga : PySem.W.findIn K (.ref C) "__getattribute__" = some (some (.builtin "BaseException.__getattribute__"))) (hgn : PySem.W.findIn K (.ref C) "__getattr__" = some none)
    (hm : PySem.W.mroIn K C (.type "BaseException") = some true) (hcl : (PySem.W.clsIn K C).isSome = true) (ha : PySem.W.findIn K (.ref C) "__class__" = some (some (.builtin "object.__class__")))
    (hn : PySem.W.specialIn K (.builtin "object.__class__") "__get__" = some (some (.builtin "getset_descriptor.__get__"))) (htk : PySem.W.takesIn K (.builtin "object.__class__") = some true) (hmo : PySem.W.mroIn K C (.type "object") = some true) :
    PySem.W.KitX K (.ref a) (.ref C) (fun h => PySem.W.InstAt h a ox C (some od)) where
  ty := fun _ _ _ I => I.type
  it := fun _ _ X _ => by
    unfold PySem.W.clsIn at hcl
    split at hcl
    · rename_i c' d' cd' sl' ho
      intro A' Q' E' s' k q
      unfold isType loadHead
      exact wpAny_bind (wpAny_loadPart (k _ _ (X _ _ ho)) (wpAny_pure q))
    · cases hcl
  ne := fun h tp dd its n sl X htp => by
    refine Bool.eq_false_iff.mpr fun q => ?_
    have e : C = tp := Value.ref.inj (beq_iff_eq.mp q)
    subst e
    unfold PySem.W.clsIn at hcl
    split at hcl
    · rename_i c' d' cd' sl' ho
      have z := (X _ _ ho).symm.trans htp
      cases z
    · cases hcl
  ca := fun {prog w A E Q s} X I k => by
    have hf : PySem.W.findObj K C (some od) "__class__" = some (.bind (.builtin "getset_descriptor.__get__") (.builtin "object.__class__")) := PySem.W.findObj_data hcl ha hn htk
    unfold getAttr? getAttrBy?
    refine wpAny_bind (wpAny_mkText (wpAny_bind (wpAny_attempt (xby (s := { s with toks := s.toks + 1 }) X I hga hgn hm (xentry_bind (s := { s with toks := s.toks + 1 }) X I hf rfl
      (wpAny_call (PySem.W.class_get (s := { s with toks := s.toks + 1 }) X I hmo (PySem.W.handed_on rfl (wpAny_pure k)))))))))

/-- raise e, e an exception just made -/
theorem xraise {M : Model} {env : Env} {x : Sem Value} {s : Shared} {Q : Flow → Shared → Prop} (hx : xIn K C = true) (hh : A.handled = none)
    (go : wpAny M A x (fun v s₁ => ∃ a dx t sl, v = .ref a ∧ K.In s₁.heap ∧ s₁.heap.get? a = some ⟨.ref C, dx, .fields #[.ref t, .none, .none, .none, .bool false, .none], sl⟩ ∧ E (.ref a) s₁) E s) :
    wpAny M A (raiseStmt env (some x) none) Q E s := by
  unfold raiseStmt
  refine wpAny_bind (wpAny_mono go (fun v s₁ h₁ => ?_) fun _ _ z => z)
  obtain ⟨a, dx, t, sl, rfl, X, he, hE⟩ := h₁
  obtain ⟨nm, qn, N, bs, bm, sn, sub, ab, col, dd, k0, k1, k2, k3, k5, hC, T⟩ := xcls X hx
  obtain ⟨hp, g, d, tk, os⟩ := s₁
  have hcB : (Value.ref C :: bm).contains (.type "BaseException") = true := by rw [List.contains_cons, T.hasType (show vMro.contains (.type "BaseException") = true by decide), Bool.or_true]
  repeat (first | with_reducible refine wpAny_loadPart_at he ?_ | with_reducible refine wpAny_loadPart_at hC ?_ | (with_reducible refine wpAny_isSubtype_exc hC ?_; rw [hcB]) | wp_step)
  exact wpAny_raiseNew_none hh hE

/-- except D: one of D's -/
theorem xmatch {M : Model} {D : Addr} {s : Shared} {Q : Bool → Shared → Prop} {vs : Array Value} (X : K.In s.heap) (ha : s.heap.get? a = some ⟨.ref C, dx, .fields vs, sl⟩)
    (h1 : PySem.W.instIn K (.ref D) (.type "tuple") = some false) (h2 : (PySem.W.clsIn K D).isSome = true) (h3 : PySem.W.mroIn K D (.type "BaseException") = some true) (h4 : PySem.W.mroIn K C (.ref D) = some true)
    (hq : Q true s) : wpAny M A (excMatches (.ref a) (.ref D)) Q E s := by
  obtain ⟨h, g, d, t, os⟩ := s
  have L1 := PySem.W.looks_instIn (M := M) X h1
  have L2 : PySem.W.Looks M h (isType (.ref D)) true := by
    unfold PySem.W.clsIn at h2
    split at h2
    · rename_i c' d' cd' sl' ho
      intro A' Q' E' s' k q
      unfold isType loadHead
      exact wpAny_bind (wpAny_loadPart (k _ _ (X _ _ ho)) (wpAny_pure q))
    · cases h2
  have L3 := PySem.W.looks_mroIn (M := M) X h3
  have L4 := PySem.W.looks_mroIn (M := M) X h4
  have L5 : PySem.W.Looks M h (typeOf (.ref a)) (.ref C) := (PySem.W.Looks.ld ha).andThen .now
  unfold excMatches isExcClass
  repeat lk
  exact hq

/-- the end of a list, within an except suite -/
theorem next_end_h {it l : Addr} {i : Nat} {items : Array Value} {s : Shared} {e : Addr} {C : Value} {vs : Array Value} {Q : Option Value → Shared → Prop} (hh : A.handled = some (.ref e)) (he : s.heap.get? e = some ⟨C, dx, .fields vs, sl⟩) (h2 : vs[2]? = some .none)
    (hit : s.heap.IsListIter it l i) (hne : e ≠ it) (hl : s.heap.IsList l items) (hx : items[i]? = none)
    (hQ : ∀ h', Heap.ExtBut it s.heap h' → Q none { s with heap := h' }) : wpAny (model prog w) A (pyNext (.ref it)) Q E s := by
  obtain ⟨o, ho, hc, hd⟩ := id hit
  obtain ⟨ol, hol, _, nl, hdl⟩ := hl
  unfold pyNext
  refine wpAny_bind (wpAny_attempt (wpAny_callSpecial?_slot (name := Str.ofString "__next__") hit.typeIs slot_listiter_next (wpAny_call_entry slot_listiter_next hit.typeIs entry_listiter_next ?_ (args_listiter_next _))))
  show wpAny _ _ (field (.ref it) 0 >>= _) _ _ s
  refine wpAny_bind (wpAny_field ho hd (x := .ref l) rfl ?_)
  show wpAny _ _ (if (Value.ref l == Value.none) = true then _ else _) _ _ s
  rw [if_neg (show ¬ ((Value.ref l == Value.none) = true) from Bool.false_ne_true)]
  show wpAny _ _ (field (.ref it) 1 >>= _) _ _ s
  refine wpAny_bind (wpAny_field ho hd (x := .int i 0) rfl ?_)
  show wpAny _ _ (seqItems? (.ref l) >>= _) _ _ s
  refine wpAny_bind (wpAny_seqItems hol hdl ?_)
  simp only [Int.toNat_natCast, hx]
  refine wpAny_bind (wpAny_rule (wpAny_bind (wpAny_setField ho hd (by simp) ?_)))
  show wpAny _ _ (newExc (.type "StopIteration") [] >>= _) _ _ _
  refine wpAny_bind ?_
  simp only [newExc, newTuple]
  refine wpAny_bind (wpAny_newObj_type ?_ (by size_fits))
  refine wpAny_bind (m := firstArgMember _ _) (wpAny_of_eq (a := Value.none) (by first | rfl | (simp only [firstArgMember]; rfl)) ?_)
  refine wpAny_newObj_type ?_ (by size_fits)
  simp only [raiseNew]
  refine wpAny_bind (wpAny_handled ?_)
  rw [show A.in1.handled = some (.ref e) from hh]
  have sz : (s.heap.update it (Obj.mapFields fun x => x.setIfInBounds 0 Value.none)).objs.size = s.heap.objs.size := Heap.size_after_update ..
  have he1 : (s.heap.update it (Obj.mapFields fun x => x.setIfInBounds 0 Value.none)).get? e = some ⟨C, dx, .fields vs, sl⟩ := (Heap.get?_update_other _ _ (Ne.symm hne)).trans he
  have ext : Heap.ExtBut it s.heap (s.heap.update it (Obj.mapFields fun x => x.setIfInBounds 0 Value.none)) := (Heap.SameBut.update ..).extBut
  generalize s.heap.update it (Obj.mapFields fun x => x.setIfInBounds 0 Value.none) = h1 at *
  have nee : e ≠ (h1.push { cls := Value.type "tuple", data := Data.seq #[] }).objs.size := Nat.ne_of_lt (Nat.lt_of_lt_of_le (Heap.lt_size he1) (by rw [Heap.size_push]; exact Nat.le_succ _))
  dsimp only
  rw [if_pos (by rw [bne_iff_ne]; exact fun z => nee (Value.ref.inj z))]
  generalize hN : (h1.push { cls := Value.type "tuple", data := Data.seq #[] }).objs.size = N at *
  generalize hE : ({ cls := Value.type "StopIteration", data := Data.fields (#[Value.ref h1.objs.size, Value.none, Value.none, Value.none, Value.bool false, Value.none] ++ ownMembersOf (Value.type "StopIteration") []) } : Obj) = so
  have he2 : ((h1.push { cls := Value.type "tuple", data := Data.seq #[] }).push so).get? e = some ⟨C, dx, .fields vs, sl⟩ := Heap.get?_push_of_some _ (Heap.get?_push_of_some _ he1)
  have hso : ((h1.push { cls := Value.type "tuple", data := Data.seq #[] }).push so).get? N = some so := by rw [← hN]; exact Heap.get?_push_size _ (by rw [← hE]; rfl)
  have hsd : so.data = .fields #[Value.ref h1.objs.size, Value.none, Value.none, Value.none, Value.bool false, Value.none] := by rw [← hE]; rfl
  have hent : entryFor table "proto.unchain" = some Builtin.«proto.unchain» := entryFor_of_tree (by kernel_rfl)
  refine wpAny_bind (wpAny_holding (wpAny_runValue (codeAny_builtin hent ?_)))
  unfold Builtin.«proto.unchain»
  dsimp only
  refine wpAny_bind (wpAny_field he2 rfl h2 ?_)
  rw [if_pos (show (Value.none == Value.none) = true from rfl)]
  refine wpAny_pure ?_
  show wpAny _ _ (updateField N 2 (Value.ref e) >>= _) _ _ _
  refine wpAny_bind (wpAny_setField (i := 2) (x := .ref e) hso hsd (by simp) (wpAny_throw ?_))
  refine wpAny_bind (wpAny_isInstance (T := "StopIteration") (b := true) ⟨_, Heap.get?_update_self _ hso (Obj.isFreed_of_fields (Obj.data_mapFields hsd _)), by rw [Obj.cls_mapFields, ← hE]⟩ isSubtype_stop ?_)
  refine wpAny_pure (hQ _ fun b o' hb e' => ?_)
  have e1 := ext b o' hb e'
  rw [Heap.get?_update_other _ _ (show N ≠ b from fun z => ?_)]
  · exact Heap.get?_push_of_some _ (Heap.get?_push_of_some _ e1)
  · have l1 := Heap.lt_size e1
    rw [← z, ← hN, Heap.size_push] at l1
    exact absurd l1 (Nat.not_lt.mpr (Nat.le_succ _))
end
end L2

set_option Elab.async false
set_option linter.all false
namespace L2
open PySem PySem.Spec PyProof.Rows
/-- an exception, in flight or caught -/
def ExcO (a : Addr) (C : Value) (dx : Option Addr) : HO := .ext fun h => ∃ vs sl, h.get? a = some ⟨C, dx, .fields vs, sl⟩ ∧ vs[2]? = some .none
/-- one that is new -/
def ExcN (a C : Addr) (dx : Option Addr) : HO := .ext fun h => ∃ t sl, h.get? a = some ⟨.ref C, dx, .fields #[.ref t, .none, .none, .none, .bool false, .none], sl⟩
section
variable {P : Program} {w : World} {H : Hp} {h : Heap} {a : Addr} {C : Value} {D : Addr} {dx : Option Addr} {vs : Array Value} {sl : Array (Option Value)}
theorem excO_ok (e : h.get? a = some ⟨C, dx, .fields vs, sl⟩) (hv : vs[2]? = some .none) : ObjOk P w H h a (ExcO a C dx) :=
  ⟨⟨vs, sl, e, hv⟩, ⟨_, e⟩, fun _ _ ⟨vs, sl, e, hv⟩ k => ⟨vs, sl, k _ e, hv⟩⟩
theorem excN_ok {t : Addr} (e : h.get? a = some ⟨.ref D, dx, .fields #[.ref t, .none, .none, .none, .bool false, .none], sl⟩) : ObjOk P w H h a (ExcN a D dx) :=
  ⟨⟨t, sl, e⟩, ⟨_, e⟩, fun _ _ ⟨t, sl, e⟩ k => ⟨t, sl, k _ e⟩⟩
theorem excO_get (hok : HOk P w H h) (e : H a = some (ExcO a C dx)) : ∃ vs sl, h.get? a = some ⟨C, dx, .fields vs, sl⟩ ∧ vs[2]? = some .none :=
  (show ObjOk P w H h a (ExcO a C dx) from hok a _ e).1
theorem excN_get (hok : HOk P w H h) (e : H a = some (ExcN a D dx)) : ∃ t sl, h.get? a = some ⟨.ref D, dx, .fields #[.ref t, .none, .none, .none, .bool false, .none], sl⟩ :=
  (show ObjOk P w H h a (ExcN a D dx) from hok a _ e).1
theorem Flight.get {n : Nat} {T : Option Addr} (x : Flight h n a C dx T) : ∃ vs sl, h.get? a = some ⟨C, dx, .fields vs, sl⟩ ∧ vs[2]? = some .none :=
  let ⟨vs, sl, e, _, _, hv, _⟩ := x; ⟨vs, sl, e, hv⟩
theorem Flight.le {n : Nat} {T : Option Addr} (x : Flight h n a C dx T) : n ≤ h.objs.size :=
  let ⟨_, _, e, hn, _⟩ := x; Nat.le_trans hn (Nat.le_of_lt (Heap.lt_size e))
theorem Flight.mono {n m : Nat} {T : Option Addr} (x : Flight h n a C dx T) (hm : m ≤ n) : Flight h m a C dx T := by
  obtain ⟨vs, sl, e, hn, hv, h2, q⟩ := x
  refine ⟨vs, sl, e, Nat.le_trans hm hn, hv, h2, ?_⟩
  cases T with
  | none => exact q
  | some t => exact ⟨q.1, Nat.le_trans hm q.2.1, q.2.2⟩
end

/-- how an exception lies behind a call -/
def CXe (P : Program) (w : World) : CXT := fun outer H s E e s' => ∃ a C dx T H', e = .ref a ∧ s'.os = s.os ∧ AllBare s'.gens ∧ Un (frs outer) [] H H' s.heap s'.heap ∧ HOk P w H' s'.heap ∧
  Flight s'.heap s.heap.objs.size a C dx T ∧ H' a = some (ExcO a C dx) ∧ (∀ t, T = some t → H' t = none) ∧ E C dx H'
/-- what a body does with an exception that is thrown in it -/
def Throws (X : Cx) (E : XK) : Prop := ∀ (pins : List (Addr × Obj)) (σ : St) (H : Hp) (s : Shared) (n : Nat) (a : Addr) (C : Value) (dx T : Option Addr), Inv X pins σ H s → X.s₀.heap.objs.size ≤ n →
  Flight s.heap n a C dx T → H a = some (ExcO a C dx) → (∀ t, T = some t → H t = none ∧ ∀ p ∈ X.pn ++ pins, p.1 ≠ t) → E C dx H → X.xe (.ref a) s
theorem passes_of {X : Cx} {E : XK} (th : Throws X E) : Passes (CXe X.prog X.w) X E := by
  rintro pins σ H s e s' I ⟨a, C, dx, T, H', rfl, os, bare, un, hok, fl, at_, tr, q⟩
  refine th pins σ H' s' s.heap.objs.size a C dx T (I.call' (ch := []) os un hok bare fun b z => absurd z (by simp)) I.sz fl at_ (fun t ht => ⟨tr t ht, fun p hp => ?_⟩) q
  subst ht
  obtain ⟨_, _, _, _, _, _, _, hnt, _⟩ := fl
  have := Heap.lt_size (I.pin p hp).1
  exact Nat.ne_of_lt (Nat.lt_of_lt_of_le this hnt)
section
variable {X : Cx} {pins : List (Addr × Obj)} {σ : St} {H : Hp} {s : Shared} {h' : Heap} {a : Addr} {C : Value} {dx T : Option Addr} {n t : Nat}
theorem Inv.flown (I : Inv X pins σ H s) (hn : X.s₀.heap.objs.size ≤ n) (fl : Flight s.heap n a C dx T) (at_ : H a = some (ExcO a C dx)) (tr : ∀ t, T = some t → H t = none ∧ ∀ p ∈ X.pn ++ pins, p.1 ≠ t)
    (fl' : Flight h' n a C dx (some t)) (fw : Flown (frs X.stack) a T s.heap h') : Inv X pins σ H { s with heap := h' } := by
  obtain ⟨va, sa, ea, hva⟩ := fl'.get
  have na : ∀ b, H b = none → b ≠ a := fun b z e => by rw [e, at_] at z; cases z
  have un : Un (frs X.stack) T.toList H H s.heap h' := by
    refine ⟨fun b o e z hb hx => fw.keep b o hb (na b z) (fun q => hx (by simp [q])) e, fun b o e z hb hx => fw.slot b o (na b z) (fun q => hx (by simp [q])) e, fun _ _ _ z _ => z, fun b o e hx => ?_, fun _ _ z => z, fun _ _ _ z => z, fun b ps z => ⟨#[], by simpa using z⟩⟩
    by_cases hb : b = a
    · rw [hb]; exact ⟨_, ea⟩
    · obtain ⟨sl, q⟩ := fw.slot b o hb (fun q => hx (by simp [q])) e
      exact ⟨_, q⟩
  refine I.call (g' := s.gens) (d' := s.drawn) (t' := s.toks) (ch := T.toList) un (fun b u e => ?_) I.bare (fun b hb => ?_)
  · by_cases hb : b = a
    · subst hb
      rw [at_] at e
      cases e
      exact excO_ok ea hva
    · refine (I.hok b u e).stay (fun c v hc q => ?_) (fun _ q => q) fun _ _ q => q
      have hc2 : ∃ z, H c = some z := by
        rcases hc with rfl | hc
        · exact ⟨u, e⟩
        · exact ⟨_, hc⟩
      obtain ⟨z, hz⟩ := hc2
      refine fw.keep c v (fun hm => ?_) (fun ec => ?_) (fun et => ?_) q
      · rw [I.stkFree c hm] at hz; cases hz
      · rcases hc with rfl | hc
        · exact hb ec
        · rw [ec, at_] at hc; cases hc
      · rw [(tr c et).1] at hz; cases hz
  · have eb : T = some b := by
      cases T with
      | none => simp at hb
      | some t0 => simp at hb; rw [hb]
    subst eb
    obtain ⟨vs, sl, e0, hna, hv, h2, h1, hnt, hta, ot, ts, g1, g2, g3⟩ := fl
    refine ⟨.inr (Nat.le_trans hn hnt), fun z => ?_, fun x c hc z => ?_, (tr b rfl).2⟩
    · obtain ⟨m, ⟨o, es, ep, ho, hd, _⟩, _⟩ := I.loc
      rw [z, ho] at g1
      cases g1
      rw [hd] at g2
      cases g2
    · obtain ⟨v, o, ho, hd⟩ := I.cell x c hc
      rw [z, g1] at ho
      cases ho
      rw [hd] at g2
      cases g2
end

/-- a def's body: what is thrown leaves its frame -/
theorem throws_def {P : Program} {w : World} {K : PySem.W.Frag} {mg : Str → Option Value} {base : Heap} {N : List Str} {qual : Str} {scope : Scope} {f : Addr} {cd : Value} {A : Around} {outer : List Env} {s₀ : Shared} {H₀ : Hp} {E : XK} :
    Throws (cxOf (CXe P w) P w K mg base N qual scope f cd A outer s₀ H₀ E) E := by
  intro pins σ H s n a C dx T I hn fl at_ tr q
  show wpAny _ _ (leaving _ (.ref a)) _ _ s
  unfold leaving
  refine wpAny_bind (fly (base := base) I.ok.frames I.stack rfl fl.le fl fun h' t ht fl' fw => ?_)
  have I' := I.flown hn fl at_ tr fl' fw
  exact ⟨a, C, dx, some t, H, rfl, I'.os, I'.bare, I'.base, I'.hok, fl'.mono hn, at_, fun t' e => by cases e; exact I.hok.fresh ht, q⟩
end L2

set_option Elab.async false
set_option linter.all false
set_option maxRecDepth 100000
namespace L2
open PySem PySem.Spec PyProof.Rows
structure XCls (K : PySem.W.Frag) (C : Addr) : Prop where
  xin : xIn K C = true
  sa : PySem.W.findIn K (.ref C) "__setattr__" = some (some (.builtin "object.__setattr__"))
  ga : PySem.W.findIn K (.ref C) "__getattribute__" = some (some (.builtin "BaseException.__getattribute__"))
  gn : PySem.W.findIn K (.ref C) "__getattr__" = some none
  mb : PySem.W.mroIn K C (.type "BaseException") = some true
  mo : PySem.W.mroIn K C (.type "object") = some true
  cl : PySem.W.findIn K (.ref C) "__class__" = some (some (.builtin "object.__class__"))
  cg : PySem.W.specialIn K (.builtin "object.__class__") "__get__" = some (some (.builtin "getset_descriptor.__get__"))
  ct : PySem.W.takesIn K (.builtin "object.__class__") = some true
  cs : (PySem.W.clsIn K C).isSome = true
  hd : PySem.W.hasDictIn K C = true

def tRaise (C : Addr) (sp : Sp) (E : XK) (t : TA) : TS := fun _ σ H => t σ H fun vs H1 => vs.length ≤ 100 ∧ ∀ a, H1 a = none →
  sp (.ref a :: vs) (upd H1 a (ExcN a C none)) (fun v H2 => v = .non ∧ ∃ dx, H2 a = some (ExcN a C dx) ∧ E (.ref C) dx (upd H2 a (ExcO a (.ref C) dx))) E0
section
variable {X : Cx} {k : Nat} {f C : Addr} {fd : FuncData} {ps : List Str} {sp : Sp} {E : XK} {x : Str} {np cpos pos p apos pos' : Pos} {e o value : Expr} {es : List Expr} {t : TA} {ta tv te : TE} {fl : Str}
theorem ps_raise1 (F : FnOk X.prog X.w X.K X.mg X.base CX0 k f fd ps sp) (hr : Room (k + 1) X.A) (hc : X.calm = true) (xc : XCls X.K C) (hi : PySem.W.findIn X.K (.ref C) "__init__" = some (some (.ref f))) (hfn : PySem.W.isFn X.K (.ref f) = true)
    (hk : PySem.W.keepIn X.K (.ref C) = true) (hb : Binds X.K fd ps []) (hg : Gl X x) (hm : X.mg x = some (.ref C)) (ha : PA X (e :: es) t) (th : Throws X E)
    (hdb : (x == ("__debug__" : Str)) = false := by decide) (he : starEach (e :: es) X.env = (false, eval e X.env) :: starEach es X.env := by rfl) (hpl : (backTo cpos (starEach es X.env)).any (·.1) = false := by rfl) :
    PS X (.Raise (some (.Call (.Name x np) (e :: es) [] cpos)) none pos) (tRaise C sp E t) := by
  intro pins s σ H D I h
  rw [arm_exec_Raise]
  simp only [evalOpt, Option.map]
  refine wpAny_bind (wpAny_standAt (xraise (K := X.K) (C := C) xc.xin (I.ok.hd hc) (wpAny_bind (wpAny_mono ?_ (fun v s₃ h₃ => wpAny_bind (wpAny_standAt (wpAny_pure h₃))) fun _ _ z => z))))
  refine wpAny_Call_Name_kw (ld_glob I hg hm ?_ hdb)
  refine PySem.W.callWith_K (h₀ := X.base) I.ok.mod.kin hk (thn (ha cpos pins s σ H _ I h) fun us s1 ⟨vs, H1, I1, r, hv, q⟩ => ⟨I1.kIn, ?_⟩) he hpl
  obtain ⟨h1, g1, d1, t1, os1⟩ := s1
  have hul : us.length ≤ 100 := by rw [← r.length]; exact hv
  refine xcall I1.kIn xc.xin hi (beq_iff_eq.mp hfn) (by rw [sizeLine_eq]; show us.length ≤ _; omega) ?_
  have hget : ((h1.push (xtup us)).push (xnew C h1.objs.size)).get? (h1.objs.size + 1) = some (xnew C h1.objs.size) := by heap_get
  have hq := q (h1.objs.size + 1) (I1.hok.fresh (Nat.le_succ _))
  have I2 : Inv X pins σ (upd H1 (h1.objs.size + 1) (ExcN (h1.objs.size + 1) C none)) ⟨(h1.push (xtup us)).push (xnew C h1.objs.size), g1, d1, t1, os1⟩ :=
    I1.laid (t' := t1) (fun b u e => Heap.get?_push_of_some _ (Heap.get?_push_of_some _ e)) (Nat.le_succ _) (excN_ok hget)
  have r2 : Vals (V.ref (h1.objs.size + 1) :: vs) (Value.ref (h1.objs.size + 1) :: us) := .cons rfl r
  have hl : (Value.ref (h1.objs.size + 1) :: us ++ []).length = ps.length := by
    have e := r2.length
    rw [F.len _ _ _ _ hq] at e
    rw [List.append_nil]
    exact e.symm
  have hbb := hb ⟨(h1.push (xtup us)).push (xnew C h1.objs.size), g1, d1, t1, os1⟩ (Value.ref (h1.objs.size + 1) :: us) I2.kIn hl
  rw [List.append_nil] at hbb
  refine wpAny_call (codeAny_mono (F.run _ X.stack _ _ ⟨Value.ref (h1.objs.size + 1) :: us, []⟩ (Value.ref (h1.objs.size + 1) :: us) _ _ E0 (hr.make C us []) (I2.env0.make C us []) hbb r2 hq) fun r s' hq' => ?_)
  cases r with
  | error e => exact (show False from hq').elim
  | ok fl =>
    cases fl with
    | ret u =>
      obtain ⟨v, H', I3, rv, ev, dx, e3, q3⟩ := I2.after hq'
      subst ev
      obtain ⟨tt, sl, e4⟩ := excN_get I3.hok e3
      refine ⟨rv, _, dx, tt, sl, rfl, I3.kIn, e4, ?_⟩
      have I4 : Inv X pins σ (upd H' (h1.objs.size + 1) (ExcO (h1.objs.size + 1) (.ref C) dx)) s' :=
        I3.write (x := h1.objs.size + 1) (e := h1.objs.size + 1) (t' := s'.toks) (by rw [e3]; trivial) (.inl rfl) (fun b u _ z => z) ⟨_, e4⟩ (excO_ok e4 rfl)
      exact th pins σ _ s' X.s₀.heap.objs.size (h1.objs.size + 1) (.ref C) dx none I4 (Nat.le_refl _) ⟨_, _, e4, Nat.le_trans I1.sz (Nat.le_succ _), by simp, rfl, rfl⟩ upd_same (fun t z => by cases z) q3
    | next => exact False.elim hq'
    | brk => exact False.elim hq'
    | cont => exact False.elim hq'

def tXInit (K : PySem.W.Frag) (t : TA) : TE := fun σ H Q => t σ H fun vs H1 => ∃ a C dx v, vs = [.ref a, v] ∧ xIn K C = true ∧ H1 a = some (ExcN a C dx) ∧ Q .non H1
theorem pe_xinit {pl : Sem Bool} {D : Addr} (hg : Gl X x) (hm : X.mg x = some (.ref D)) (ha : PA X (e :: es) t) (hgg : PySem.W.specialIn X.K (.ref D) "__getattribute__" = some (some (.builtin "type.__getattribute__")))
    (hr : PySem.W.readsIn X.K D (.type "type") = true) (hf : PySem.W.findCls X.K (.ref D) (.type "type") "__init__" = some (.val (.builtin "ValueError.__init__"))) (K : PySem.W.Frag) (hK : X.K = K := by rfl) (hdb : (x == ("__debug__" : Str)) = false := by decide)
    (he : starEach (e :: es) X.env = (false, eval e X.env) :: starEach es X.env := by rfl) (hpl : (backTo pos (starEach es X.env)).any (·.1) = false := by rfl)
    (ht : eval (.Call (.Attribute (.Name x np) "__init__" apos) (e :: es) [] pos) X.env = (do
      let ov ← eval (.Name x np) X.env
      standAt apos.atName
      let (f, first) ← holding [ov] (getMethod ov "__init__" pl)
      callWith pos f first (backTo pos (starEach (e :: es) X.env)) (backToKw pos (keywordEach [] X.env))) := by rfl) :
    PE X (.Call (.Attribute (.Name x np) "__init__" apos) (e :: es) [] pos) (tXInit K t) := by
  subst hK
  intro pins s σ H Q I h
  refine PySem.W.methodCall_KW (pl := pl) (ld_glob I hg hm ?_ hdb) ht
  refine PySem.W.method_cls I.kIn hgg (PySem.W.cls_value I.kIn hr hf (by decide +kernel) ?_)
  refine PyProof.Rows.callWith_builtin1 (thn (ha pos pins { s with toks := s.toks + 1 } σ H _ (I.tok _) h) fun us s1 ⟨vs, H1, I1, r1, a, C, dx, v, ev, hx, ea, q⟩ => ?_) he hpl
  subst ev
  obtain ⟨u1, u2, rfl, ru, rv⟩ := vals2 r1
  cases ru
  obtain ⟨tt, sl, e4⟩ := excN_get I1.hok ea
  obtain ⟨h1, g1, d1, t1, os1⟩ := s1
  refine xinit I1.kIn hx e4 fun h' e5 kp => ⟨.non, H1, ?_, rfl, q⟩
  have I2 : Inv X pins σ (upd H1 a (ExcN a C dx)) ⟨h', g1, d1, t1, os1⟩ := I1.write (x := a) (e := a) (t' := t1) (by rw [ea]; trivial) (.inl rfl) (fun b u hb z => kp b u hb z) ⟨_, e5⟩ (excN_ok e5)
  have e6 : upd H1 a (ExcN a C dx) = H1 := by
    funext b
    by_cases hb : b = a
    · rw [hb, upd_same, ea]
    · rw [upd_ne hb]
  rw [e6] at I2
  exact I2

def sXFld (K : PySem.W.Frag) (ta tv : TE) (f : Str) : TS := fun D σ H => tv σ H fun y H1 => ta σ H1 fun x H2 => ∃ a C, x = .ref a ∧ H2 a = some (ExcN a C none) ∧ XCls K C ∧ PySem.W.findIn K (.ref C) f = some none ∧
  ∀ dx, H2 dx = none → dx ≠ a → D.nx σ (upd (upd H2 a (ExcN a C (some dx))) dx (.xd [(f, y)]))
theorem ps_xfld (ha : PE X o ta) (hv : PE X value tv) (hs : swapsWith value (some (.Attribute o fl pos')) pos.line X.env = pure false) (K : PySem.W.Frag) (hK : X.K = K := by rfl) : PS X (.Assign [.Attribute o fl pos'] value pos) (sXFld K ta tv fl) := by
  subst hK
  intro pins s σ H D I h
  refine plainObj_wpAny_Assign_Attribute (thn (hv pins s σ H _ I h) fun u s1 ⟨y, H1, I1, ry, q⟩ => thn (ha pins s1 σ H1 _ I1 q) fun ov s2 ⟨x, H2, I2, rx, a, C, ex, ea, xc, hn, q2⟩ => ?_) hs
  subst ex
  obtain rfl : ov = Value.ref a := rx
  obtain ⟨tt, sl, e4⟩ := excN_get I2.hok ea
  obtain ⟨h1, g1, d1, t1, os1⟩ := s2
  refine xstore I2.kIn xc.xin xc.sa hn e4 rfl rfl rfl fun h' tk e5 ns kp => ⟨σ, _, ?_, q2 h1.objs.size (I2.hok.fresh (Nat.le_refl _)) (Nat.ne_of_gt (Heap.lt_size e4))⟩
  have hna : h1.objs.size ≠ a := Nat.ne_of_gt (Heap.lt_size e4)
  have hn0 : H2 h1.objs.size = none := I2.hok.fresh (Nat.le_refl _)
  have nd : ∀ b ob, h1.get? b = some ob → b ≠ h1.objs.size := fun b ob z => Nat.ne_of_lt (Heap.lt_size z)
  refine I2.un (t' := tk) ⟨fun b o e n hb _ => kp b o (fun z => by rw [z, ea] at n; cases n) e, fun b o e n hb _ => ⟨o.slots, kp b o (fun z => by rw [z, ea] at n; cases n) e⟩, fun b o e n _ => ?_, fun b o e _ => ?_, fun b xs z => ?_, fun b o' u z => ?_, fun b ps z => ?_⟩ fun b u z => ?_
  · rw [upd_ne (nd b o e), upd_ne (fun z => by rw [z, ea] at n; cases n)]; exact n
  · by_cases hb : b = a
    · rw [hb]; exact ⟨_, e5⟩
    · exact ⟨o, kp b o hb e⟩
  · rw [upd_ne (ne_of_none z hn0), upd_ne (ne_of z ea (by intro q; cases q))]; exact z
  · rw [upd_ne (ne_of_none z hn0), upd_ne (ne_of z ea (by intro q; cases q))]; exact z
  · refine ⟨#[], ?_⟩
    rw [upd_ne (ne_of_none z hn0), upd_ne (ne_of z ea (by intro q; cases q))]; simpa using z
  · by_cases hb : b = h1.objs.size
    · subst hb
      rw [upd_same] at z
      cases z
      refine ⟨_, ns, fun g => ?_⟩
      by_cases hg : g = fl
      · subst hg
        simp only [List.lookup, beq_self_eq_true, if_true]
        exact ry
      · have hb' : (g == fl) = false := beq_eq_false_iff_ne.mpr hg
        simp only [List.lookup, hb', if_neg hg]
        trivial
    · rw [upd_ne hb] at z
      by_cases hba : b = a
      · subst hba
        rw [upd_same] at z
        cases z
        exact excN_ok e5
      · rw [upd_ne hba] at z
        refine (I2.hok b u z).stay (fun c v hc q => kp c v (fun ec => ?_) q) (fun c q => ?_) fun c xs q => ?_
        · subst ec
          rcases hc with hc | hc
          · exact hba hc.symm
          · rw [ea] at hc; cases hc
        · rw [upd_ne (ne_of_none q hn0), upd_ne (ne_of q ea (by intro q; cases q))]; exact q
        · rw [upd_ne (ne_of_none q hn0), upd_ne (ne_of q ea (by intro q; cases q))]; exact q

def tXFld (K : PySem.W.Frag) (te : TE) (f : Str) : TE := fun σ H Q => te σ H fun x H1 => ∃ a C dx fs v, x = .ref a ∧ H1 a = some (ExcO a (.ref C) (some dx)) ∧ H1 dx = some (.xd fs) ∧ XCls K C ∧ NoAttr K C f ∧ fs.lookup f = some v ∧ Q v H1
theorem exc_inst {H : Hp} {h : Heap} {P : Program} {w : World} {a C dx : Addr} {fs : List (Str × V)} (hok : HOk P w H h) (ea : H a = some (ExcO a (.ref C) (some dx))) (ed : H dx = some (.xd fs)) :
    ∃ (ox od : Obj) (mA : Str → Option Value), PySem.W.InstAt h a ox C (some od) ∧ (∀ name, PySem.W.lookIn name od = some (mA name)) ∧ ∀ f, RelO (fs.lookup f) (mA f) := by
  obtain ⟨vs, sl, e, _⟩ := excO_get hok ea
  obtain ⟨mA, ns, r⟩ := (show ObjOk P w H h dx (.xd fs) from hok dx _ ed)
  obtain ⟨od, ho, hl⟩ := lookIn_ns ns
  exact ⟨_, od, mA, ⟨e, rfl, rfl, ho⟩, hl, r⟩
theorem pe_xfld (he : PE X e te) (hb : attributeBase e fl X.env (eval e X.env) = eval e X.env) (K : PySem.W.Frag) (hK : X.K = K := by rfl) : PE X (.Attribute e fl pos) (tXFld K te fl) := by
  subst hK
  intro pins s σ H Q I h
  refine attr_of hb (thn (he pins s σ H _ I h) fun u s1 ⟨x, H1, I1, rx, a, C, dx, fs, v, ex, ea, ed, xc, hn, l, q⟩ => ?_)
  subst ex
  obtain rfl : u = Value.ref a := rx
  obtain ⟨ox, od, mA, J, hl, r⟩ := exc_inst I1.hok ea ed
  obtain ⟨u, hu, ru⟩ := RelO.some_of (v := v) (o := mA fl) (by rw [← l]; exact r fl)
  exact xget I1.kIn J xc.ga xc.gn xc.mb (PySem.W.findObj_own xc.hd hn rfl (by rw [hl, hu])) (handed_of ru) ⟨v, H1, I1.tok _, ru, q⟩

def rIsX (K : PySem.W.Frag) : List V → Hp → VK → Prop := fun xs H Q => ∃ (a C dx : Addr) (fs : List (Str × V)) (c : V) (u : Value) (b : Bool), xs = [.ref a, c] ∧ RelV c u ∧ (∀ u', RelV c u' → u' = u) ∧ H a = some (ExcO a (.ref C) (some dx)) ∧ H dx = some (.xd fs) ∧ XCls K C ∧ PySem.W.kitOne K (.ref C) u = some b ∧ Q (.bl b) H
theorem call_isX (K : PySem.W.Frag) (h : X.K = K := by rfl) : CallR X (.builtin "isinstance") (rIsX K) := by
  subst h
  intro pins s σ H xs us Q I r h
  obtain ⟨a, C, dx, fs, c, u, b, rfl, _, hu, ea, ed, xc, e, q⟩ := h
  obtain ⟨u1, u2, rfl, r1, r2⟩ := vals2 r
  cases r1
  rw [hu u2 r2]
  obtain ⟨ox, od, mA, J, hl, rr⟩ := exc_inst I.hok ea ed
  exact PySem.W.kia_one (kitx_exc xc.ga xc.gn xc.mb xc.cs xc.cl xc.cg xc.ct xc.mo) I.kIn J e (fun z => nomatch z) fun tk => ⟨.bl b, H, I.tok tk, rfl, q⟩
end
end L2

set_option Elab.async false
set_option linter.all false
set_option maxRecDepth 100000
namespace L2
open PySem PySem.Spec PyProof.Rows
theorem walks_h {prog : Program} {w : World} {A : Around} {e : Addr} (hh : A.handled = some (.ref e)) (I ax : Addr) (hne : ax ≠ I) (hei : e ≠ I) (items : Array Value) :
    Walks prog w A I [I, ax, e] [I] items.size (fun i v => items[i]? = some v) (fun i h => h.IsListIter I ax i ∧ h.IsList ax items ∧ ∃ C dx vs sl, h.get? e = some ⟨C, dx, .fields vs, sl⟩ ∧ vs[2]? = some .none) where
  sub := fun b hb => by simp at hb; simp [hb]
  frame := fun _ _ _ st hk => ⟨st.1.at fun o e => hk I (by simp) o e, st.2.1.at fun o e => hk ax (by simp) o e, let ⟨C, dx, vs, sl, q, z⟩ := st.2.2; ⟨C, dx, vs, sl, hk e (by simp) _ q, z⟩⟩
  item := fun i s Q E hi st hQ => by
    refine wpAny_pyNext_list_item st.1 st.2.1 (x := items[i]) (by simp [hi]) fun h' hit' hs' => ?_
    refine hQ _ h' s.toks (by simp [hi]) ⟨hit', st.2.1.extBut hs'.extBut hne, ?_⟩ fun b o hb e => hs'.extBut b o (fun h => hb (by simp [h])) e
    obtain ⟨C, dx, vs, sl, q, z⟩ := st.2.2
    exact ⟨C, dx, vs, sl, hs'.extBut e _ hei q, z⟩
  done := fun s Q E st hQ => by
    obtain ⟨C, dx, vs, sl, q, z⟩ := st.2.2
    exact next_end_h hh q z st.1 hei st.2.1 (by simp) fun h' he' => hQ h' s.toks fun b o hb e => he' b o (fun h => hb (by simp [h])) e
  self := fun _ _ _ _ st hQ => wpAny_pyIter_listiter st.1 hQ
def rAnyX (K : PySem.W.Frag) (e : Addr) : List V → Hp → VK → Prop := fun xs H Q => ∃ (p : Addr) (bs : List Bool) (C : Value) (dx : Option Addr), xs = [.ref p] ∧ SqL K H p (bs.map V.bl) ∧ H e = some (ExcO e C dx) ∧ Q (.bl (bs.any id)) H
section
variable {X : Cx}
theorem call_anyX (K : PySem.W.Frag) {e : Addr} (hh : X.A.handled = some (.ref e)) (h : X.K = K := by rfl) : CallR X (.builtin "any") (rAnyX K e) := by
  subst h
  intro pins s σ H xs us Q I r h
  obtain ⟨p, bs, C, dx, rfl, hq, he, q⟩ := h
  obtain ⟨u, rfl, rx⟩ := vals1 r
  cases rx
  obtain ⟨its, rv, pl, hz⟩ := I.list hq
  obtain ⟨vs, sl, he1, he2⟩ := excO_get I.hok he
  have hlen := rv.length
  rw [List.length_map] at hlen
  have hplt : p < s.heap.objs.size := by
    obtain ⟨o, n, e, _⟩ := pl
    exact Heap.lt_size e
  refine call_any_walk (wpAny_pyIter_list pl.isList ?_)
  have W := walks_h (prog := X.prog) (w := X.w) (A := X.A.in1) hh s.heap.objs.size p (Nat.ne_of_lt hplt) (Nat.ne_of_lt (Heap.lt_size he1)) its.toArray
  refine ⟨s.heap.objs.size, _, _, _, _, _, fun i => bs.getD i false, rfl, W, ?_, ?_, fun h' tk hk => ?_⟩
  · exact ⟨⟨_, Heap.get?_push_size _ rfl, rfl, rfl⟩, pl.isList.at fun o e => Heap.get?_push_of_some _ e, _, _, _, _, Heap.get?_push_of_some _ he1, he2⟩
  · intro i v s' Q' E' hv hq'
    have hv' : its[i]? = some v := by simpa using hv
    have hb : ∃ b, bs[i]? = some b ∧ v = .bool b := by
      have hi : i < bs.length := by rw [hlen]; exact (List.getElem?_eq_some_iff.mp hv').1
      obtain ⟨w', e1, e2⟩ := rv.get (x := V.bl bs[i]) (i := i) (by rw [List.getElem?_map, List.getElem?_eq_getElem hi]; rfl)
      rw [hv'] at e1
      cases e1
      exact ⟨bs[i], List.getElem?_eq_getElem hi, e2⟩
    obtain ⟨b, e1, rfl⟩ := hb
    refine wpAny_truthy_bool ?_
    have : bs.getD i false = b := by rw [List.getD_eq_getElem?_getD, e1]; rfl
    have hq2 : Q' (bs.getD i false) s' := hq'
    rw [this] at hq2
    exact hq2
  · have e : (List.range its.toArray.size).any (fun i => bs.getD i false) = bs.any id := by
      rw [List.size_toArray, ← hlen]
      exact any_getD bs
    rw [e]
    refine ⟨.bl _, H, I.kept (t' := tk) fun b o e => hk b o ?_ (Heap.get?_push_of_some _ e), rfl, q⟩
    intro z
    have z' : b = s.heap.objs.size := by simpa using z
    exact absurd (Heap.lt_size e) (by rw [z']; exact Nat.lt_irrefl _)

/-- the body of a try: other pins, another wish -/
abbrev Cx.bear (X : Cx) (pn : List (Addr × Obj)) (W : Value → Shared → Prop) : Cx := { X with pn := pn, xe := W }
/-- the suite behind `except D as n`: the exception at a is being handled -/
abbrev Cx.hand (X : Cx) (a : Addr) : Cx := { X with A := X.A.mark (some (.ref a)), calm := false, xe := fun _ _ => False }
theorem Cx.Ok.bear (ok : X.Ok) (pn : List (Addr × Obj)) (W : Value → Shared → Prop) : (X.bear pn W).Ok :=
  ⟨ok.mod, ok.kind, ok.glob, ok.blt, ok.above, ok.inj, ok.has, ok.cab, ok.hd, ok.frames, ok.stk, ok.exf, ok.bs, ok.bsz, ok.noex, ok.exfs, ok.funs, ok.frf⟩
theorem Cx.Ok.unbear {pn : List (Addr × Obj)} {W : Value → Shared → Prop} (ok : (X.bear pn W).Ok) : X.Ok :=
  ⟨ok.mod, ok.kind, ok.glob, ok.blt, ok.above, ok.inj, ok.has, ok.cab, ok.hd, ok.frames, ok.stk, ok.exf, ok.bs, ok.bsz, ok.noex, ok.exfs, ok.funs, ok.frf⟩
theorem Cx.Ok.hand (ok : X.Ok) (a : Addr) : (X.hand a).Ok :=
  ⟨ok.mod, ok.kind, ok.glob, ok.blt, ok.above, ok.inj, ok.has, ok.cab, (fun z => nomatch z), ok.frames, ok.stk, ok.exf, ok.bs, ok.bsz, ok.noex, ok.exfs, ok.funs, ok.frf⟩
section
variable {pins : List (Addr × Obj)} {σ : St} {H : Hp} {s : Shared} {W : Value → Shared → Prop} {a : Addr}
theorem Inv.bear (I : Inv X pins σ H s) (W : Value → Shared → Prop) : Inv (X.bear (X.pn ++ pins) W) [] σ H s :=
  ⟨I.ok.bear _ W, I.os, I.bare, I.base, I.loc, I.cell, I.free, I.freeC, fun p hp => I.pin p (by simpa using hp), I.hok, I.len⟩
theorem Inv.unbear {ps : List (Addr × Obj)} (I : Inv (X.bear (X.pn ++ pins) W) ps σ H s) : Inv X pins σ H s :=
  ⟨I.ok.unbear, I.os, I.bare, I.base, I.loc, I.cell, I.free, I.freeC, fun p hp => I.pin p (List.mem_append_left _ hp), I.hok, I.len⟩
theorem Inv.hand (I : Inv X pins σ H s) (a : Addr) : Inv (X.hand a) pins σ H s := ⟨I.ok.hand a, I.os, I.bare, I.base, I.loc, I.cell, I.free, I.freeC, I.pin, I.hok, I.len⟩
/-- nothing of the names is known -/
abbrev blank (N : List Str) : St := List.replicate N.length none
theorem Inv.blank (I : Inv X pins σ H s) : Inv X pins (blank X.N) H s :=
  I.weak (by simp [L2.blank, I.len]) fun i v h => by
    rw [L2.blank, List.getElem?_replicate] at h
    split at h <;> cases h
/-- the frame's names have changed -/
theorem Inv.relocal {h' : Heap} {m' : Str → Option Value} {t' : Nat} (ok : X.Ok) (I : Inv X pins σ H s) (hn : h'.Ns X.env.locals m') (hs : Heap.SameBut X.env.locals s.heap h') : Inv X pins (L2.blank X.N) H { s with heap := h', toks := t' } := by
  have kp : ∀ b o, b ≠ X.env.locals → s.heap.get? b = some o → h'.get? b = some o := fun b o hb e => (hs.2 b hb).trans e
  have lt : ∀ b o, X.s₀.heap.get? b = some o → b ≠ X.env.locals := fun b o e => Nat.ne_of_lt (Nat.lt_of_lt_of_le (Heap.lt_size e) ok.above)
  refine ⟨ok, I.os, I.bare, ⟨fun b o e n hb hx => kp b o (lt b o e) (I.base.keep b o e n hb hx), fun b o e n hb hx => ?_, I.base.free, fun b o e hx => ?_, I.base.tups, I.base.frzs, I.base.tbls⟩, ⟨m', hn, fun i x v e1 e2 e3 => ?_⟩, fun x c e => ?_, I.free, I.freeC, fun p hp => ?_, fun b u e => ?_, by simp [L2.blank]⟩
  · obtain ⟨sl, e1⟩ := I.base.slot b o e n hb hx
    exact ⟨sl, kp b _ (lt b o e) e1⟩
  · obtain ⟨o', e1⟩ := I.base.there b o e hx
    exact ⟨o', kp b _ (lt b o e) e1⟩
  · rw [L2.blank, List.getElem?_replicate] at e2
    split at e2 <;> cases e2
  · obtain ⟨v, o, ho, hd⟩ := I.cell x c e
    exact ⟨v, o, kp c o (I.cne x c e) ho, hd⟩
  · obtain ⟨e, n, ne, nf, d⟩ := I.pin p hp
    exact ⟨kp p.1 p.2 ne e, n, ne, nf, d⟩
  · refine (I.hok b u e).stay (fun c v hc q => kp c v (fun ec => ?_) q) (fun _ q => q) fun _ _ q => q
    rcases hc with rfl | hc
    · rw [ec, I.free] at e; cases e
    · rw [ec, I.free] at hc; cases hc
end
/-- what `except D` asks of the text -/
structure Catch (K : PySem.W.Frag) (D : Addr) : Prop where
  nt : PySem.W.instIn K (.ref D) (.type "tuple") = some false
  cs : (PySem.W.clsIn K D).isSome = true
  mb : PySem.W.mroIn K D (.type "BaseException") = some true
def tTryAs (K : PySem.W.Frag) (D : Addr) (N : List Str) (i : Nat) (tb : TS) (E : XK) (th : Addr → TS) : TS := fun W σ H => tb W σ H ∧
  ∀ a C dx H', E C dx H' → H' a = some (ExcO a C dx) → ∃ B, C = .ref B ∧ PySem.W.mroIn K B (.ref D) = some true ∧ th a { nx := fun _ _ => False, rt := W.rt } ((blank N).set i (some (.ref a))) H'
theorem ps_try_as {body suite : List Stmt} {b₀ : Stmt} {x n : Str} {np hp pos : Pos} {tb : TS} {th : Addr → TS} {E : XK} {D : Addr} {i : Nat} (N : List Str) (K : PySem.W.Frag) (hstk : X.stack = X.env :: X.outer) (hfr : X.env.frame = some X.env.locals)
    (hb : ∀ pn W, Throws (X.bear pn W) E → PSs (X.bear pn W) body tb) (hg : Gl X x) (hm : X.mg x = some (.ref D)) (cD : Catch X.K D) (hh : ∀ a, PSs (X.hand a) (b₀ :: suite) (th a))
    (hN : X.N.Nodup) (hi : X.N[i]? = some n) (hloc : X.env.kindOf n = some .local) (eN : X.N = N := by rfl) (eK : X.K = K := by rfl) (hdb : (x == ("__debug__" : Str)) = false := by decide) :
    PS X (.Try body [.ExceptHandler (some (.Name x np)) (some n) (b₀ :: suite) hp] [] [] pos) (tTryAs K D N i tb E th) := by
  subst eN eK
  intro pins s σ H DD I ⟨h1, h2⟩
  rw [arm_exec_Try]
  have hcls : (X.env.scope.kind == .class || (X.env.scope.kind == .module && X.env.locals != X.env.globals)) = false := by rw [I.ok.kind]; rfl
  refine wpAny_bind (wpAny_standAt (wpAny_tryStmt_except (wpAny_mono (hb (X.pn ++ pins) _ ?_ [] s σ H DD (I.bear _) h1) (fun f s₁ h₁ => ?_) fun _ _ z => z)))
  · intro ps' σ' H' s' k a C dx T I' hk fl at_ tr q
    obtain ⟨B, rfl, hmro, hth⟩ := h2 a C dx H' q at_
    have J : Inv X pins (blank X.N) H' s' := (I'.unbear).blank
    refine fly (base := X.base) (by rw [← hstk]; exact J.ok.frames) (by rw [← hstk]; exact J.stack) hfr fl.le fl fun h' t ht fl' fw => ?_
    have J1 : Inv X pins (blank X.N) H' { s' with heap := h' } := J.flown hk fl at_ (fun t e => ⟨(tr t e).1, fun p hp => (tr t e).2 p (List.mem_append_left _ hp)⟩) fl' (by rw [hstk]; exact fw)
    have ht0 : H' t = none := J.hok.fresh ht
    have tpin : ∀ p ∈ X.pn ++ pins, p.1 ≠ t := fun p hp => Nat.ne_of_lt (Nat.lt_of_lt_of_le (Heap.lt_size (J.pin p hp).1) ht)
    obtain ⟨vs, sl, ea, ea2⟩ := excO_get J1.hok at_
    refine wpAny_handleBy_cons (codeAny_handlers_test ?_) (by intro q; cases q)
    refine ld_glob (X := X.hand a) (J1.hand a) hg hm ?_ hdb
    refine xmatch J1.kIn ea cD.nt cD.cs cD.mb hmro ?_
    refine codeAny_handlers_suite_as ?_
    obtain ⟨ws, sw, ew, hna, hws, hw2, hw1, hnt, hta, ot, ts, g1, g2, g3⟩ := id fl'
    refine wpAny_setFlight_none (s := { s' with heap := h' }) ew rfl hw1 g1 g2 (Array.getElem?_eq_some_iff.mp g3).1 ?_
    have tL : t ≠ X.env.locals := fun z => by
      obtain ⟨m, ⟨o, es, ep, ho, hd, _⟩, _⟩ := J1.loc
      rw [z] at g1
      have g1' := (show h'.get? X.env.locals = some o from ho).symm.trans g1
      cases g1'
      rw [hd] at g2
      cases g2
    have tC : ∀ y c, X.env.cells.lookup y = some c → c ≠ t := fun y c e z => by
      obtain ⟨v, o, ho, hd⟩ := J1.cell y c e
      rw [z] at ho
      have g1' := (show h'.get? t = some o from ho).symm.trans g1
      cases g1'
      rw [hd] at g2
      cases g2
    have J2 : Inv X pins (blank X.N) H' { s' with heap := h'.update t (Obj.mapFields (·.setIfInBounds 3 .none)) } :=
      Inv.turned (s := { s' with heap := h' }) J1 (it := t) (t' := s'.toks) (fun b o hb e => (Heap.get?_update_other _ _ (Ne.symm hb)).trans e) ht0 tL (.inr (Nat.le_trans (Nat.le_trans hk (Nat.le_refl _)) hnt)) tC tpin
    refine store_ok J2 hN hi (.inl hloc) (v := .ref a) (u := .ref a) rfl (fun s3 J3 => ?_) (.inr hloc)
    refine wpAny_mono (hh a pins s3 _ H' _ (J3.hand a) hth) (fun f s4 h4 => ?_) fun _ _ z => z.elim
    cases f with
    | next => obtain ⟨_, _, _, z⟩ := h4; exact z.elim
    | brk => obtain ⟨_, _, _, z⟩ := h4; exact z.elim
    | cont => obtain ⟨_, _, _, z⟩ := h4; exact z.elim
    | ret u =>
      obtain ⟨v, σ4, H4, J4, rv, q4⟩ := h4
      obtain ⟨m, hn, _⟩ := J4.loc
      refine wpAny_nameGoes hloc hn hcls fun h5 m5 hn5 hs5 => ?_
      have J4' : Inv X pins σ4 H4 s4 := ⟨I.ok, J4.os, J4.bare, J4.base, J4.loc, J4.cell, J4.free, J4.freeC, J4.pin, J4.hok, J4.len⟩
      exact ⟨v, _, H4, J4'.relocal I.ok hn5 hs5, rv, q4⟩
  · have fin : SP X pins DD f s₁ := by
      cases f with
      | next => obtain ⟨σ', H', I', q⟩ := h₁; exact ⟨σ', H', I'.unbear, q⟩
      | brk => obtain ⟨σ', H', I', q⟩ := h₁; exact ⟨σ', H', I'.unbear, q⟩
      | cont => obtain ⟨σ', H', I', q⟩ := h₁; exact ⟨σ', H', I'.unbear, q⟩
      | ret u => obtain ⟨v, σ', H', I', r, q⟩ := h₁; exact ⟨v, σ', H', I'.unbear, r, q⟩
    cases f with
    | next =>
      obtain ⟨σ', H', I', q⟩ := fin
      exact wpAny_execs_nil ⟨σ', H', I', q⟩
    | brk => exact fin
    | cont => exact fin
    | ret u => exact fin
end
end L2

set_option Elab.async false
set_option linter.all false
set_option maxRecDepth 100000
namespace L2
open PySem PySem.Spec PyProof.Rows
/-- an own exception with an __init__ of its own -/
def ExcT (K : PySem.W.Frag) (C : Addr) (qual : Str) (st : Stmt) (ps : List Str) : Prop :=
  PySem.W.keepIn K (.ref C) = true ∧ ∃ f fd, PySem.W.findIn K (.ref C) "__init__" = some (some (.ref f)) ∧ PySem.W.isFn K (.ref f) = true ∧ Fun K "__init__" qual st f fd ∧ Binds K fd ps []
theorem exct_mk {K : PySem.W.Frag} {C : Addr} {qual : Str} {st : Stmt} {ps : List Str} {f : Addr} {oc kV doc pm cdv ct : Value} {od an : Option Addr} {osl : Array (Option Value)}
    (kc : PySem.W.keepIn K (.ref C) = true) (a : PySem.W.findIn K (.ref C) "__init__" = some (some (.ref f))) (i : PySem.W.isFn K (.ref f) = true)
    (l : K.lookup f = some ⟨oc, od, .func (PySem.W.fnOf "__init__" qual (defArgs st) (defBody st) (defScope st) .none kV doc pm an cdv ct), osl⟩) (c : PySem.W.codeIn K cdv qual = true) (kp : PySem.W.keepIn K (.ref f) = true)
    (hb : ∀ (kV doc pm : Value) (an : Option Addr) (cdv ct : Value) (us : List Value), us.length = ps.length → bindArgs (PySem.W.fnOf "__init__" qual (defArgs st) (defBody st) (defScope st) .none kV doc pm an cdv ct) ⟨us, []⟩ = pure (ps.zip us)) : ExcT K C qual st ps :=
  ⟨kc, f, _, a, i, fun_mk (st := st) l c kp, (fun_mk (st := st) l c kp).binds hb⟩
theorem xcls_mk {K : PySem.W.Frag} {C : Addr} (xi : xIn K C = true) (sa : PySem.W.findIn K (.ref C) "__setattr__" = some (some (.builtin "object.__setattr__"))) (ga : PySem.W.findIn K (.ref C) "__getattribute__" = some (some (.builtin "BaseException.__getattribute__")))
    (gn : PySem.W.findIn K (.ref C) "__getattr__" = some none) (mb : PySem.W.mroIn K C (.type "BaseException") = some true) (mo : PySem.W.mroIn K C (.type "object") = some true) (cl : PySem.W.findIn K (.ref C) "__class__" = some (some (.builtin "object.__class__")))
    (cg : PySem.W.specialIn K (.builtin "object.__class__") "__get__" = some (some (.builtin "getset_descriptor.__get__"))) (ct : PySem.W.takesIn K (.builtin "object.__class__") = some true) (cs : (PySem.W.clsIn K C).isSome = true) (hd : PySem.W.hasDictIn K C = true) : XCls K C :=
  ⟨xi, sa, ga, gn, mb, mo, cl, cg, ct, cs, hd⟩
/-- what `D.__init__(self, ..)` asks of the text -/
structure BaseI (K : PySem.W.Frag) (D : Addr) : Prop where
  g : PySem.W.specialIn K (.ref D) "__getattribute__" = some (some (.builtin "type.__getattribute__"))
  r : PySem.W.readsIn K D (.type "type") = true
  f : PySem.W.findCls K (.ref D) (.type "type") "__init__" = some (.val (.builtin "ValueError.__init__"))
def Rais (P : Program) (w : World) (K : PySem.W.Frag) (mg : Str → Option Value) (base : Heap) (k : Nat) (x : Str) (C : Addr) (ps : List Str) (sp : Sp) : Prop :=
  mg x = some (.ref C) ∧ XCls K C ∧ PySem.W.keepIn K (.ref C) = true ∧ ∃ f fd, PySem.W.findIn K (.ref C) "__init__" = some (some (.ref f)) ∧ PySem.W.isFn K (.ref f) = true ∧ Binds K fd ps [] ∧ FnOk P w K mg base CX0 k f fd ps sp
def CalX (P : Program) (w : World) (K : PySem.W.Frag) (mg : Str → Option Value) (base : Heap) (k : Nat) (x : Str) (ps : List Str) (sp : Sp) : Prop :=
  ∃ f fd, mg x = some (.ref f) ∧ PySem.W.keepIn K (.ref f) = true ∧ Binds K fd ps [] ∧ FnOk P w K mg base (CXe P w) k f fd ps sp
theorem FnT.calX {P : Program} {w : World} {K : PySem.W.Frag} {mg : Str → Option Value} {base : Heap} {x : Str} {st : Stmt} {N ps : List Str} {k : Nat} {sp : Sp} (F : FnT K mg x st ps) (S : FnScope N ps (defScope st)) (len : ∀ vs H Q E, sp vs H Q E → vs.length = ps.length)
    (hbody : ∀ (f : Addr) (cdv : Value) (A : Around) (outer : List Env) (s : Shared) (H : Hp) (vs : List V) (Q : VK) (E : XK), Room k (A.deeper (envOfC x (defScope st) s.heap.objs.size f cdv)) → sp vs H Q E →
      ∃ t, PSs (cxOf (CXe P w) P w K mg base N x (defScope st) f cdv A outer s H E) (defBody st) t ∧ t { nx := fun _ H' => Q .non H', rt := Q } (start N vs) H) : CalX P w K mg base (k + 1) x ps sp := by
  obtain ⟨f, fd, h1, h2, h3⟩ := F
  refine ⟨f, fd, h1, h2.kp, h3, ?_⟩
  obtain ⟨oc, od, kV, doc, pm, an, cdv, ct, osl, rfl, lk, hcd⟩ := h2.ex
  exact fn_of lk hcd S len fun A outer s H vs Q E hr hsp => hbody f cdv A outer s H vs Q E hr hsp
section
variable {X : Cx} {k : Nat} {x : Str} {C : Addr} {ps : List Str} {sp : Sp} {E : XK} {e : Expr} {es : List Expr} {t : TA} {te : TE} {p pos np cpos : Pos}
theorem pe_calX (C : CalX X.prog X.w X.K X.mg X.base k x ps sp) (hr : Room k X.A) (hg : Gl X x) (th : Throws X E) (ha : PA X (e :: es) t) (hd : (x == ("__debug__" : Str)) = false := by decide)
    (he : starEach (e :: es) X.env = (false, eval e X.env) :: starEach es X.env := by rfl) (hpl : (backTo pos (starEach es X.env)).any (·.1) = false := by rfl) :
    PE X (.Call (.Name x p) (e :: es) [] pos) (tCall sp [] E t) := by
  obtain ⟨f, fd, h1, h2, h3, h4⟩ := C
  exact pe_call h4 hr hg h1 h2 h3 .nil (passes_of th) ha (hdb := hd) (he := he) (hpl := hpl)
theorem ps_rais (R : Rais X.prog X.w X.K X.mg X.base k x C ps sp) (hr : Room (k + 1) X.A) (hc : X.calm = true) (hg : Gl X x) (th : Throws X E) (ha : PA X (e :: es) t) (hdb : (x == ("__debug__" : Str)) = false := by decide)
    (he : starEach (e :: es) X.env = (false, eval e X.env) :: starEach es X.env := by rfl) (hpl : (backTo cpos (starEach es X.env)).any (·.1) = false := by rfl) :
    PS X (.Raise (some (.Call (.Name x np) (e :: es) [] cpos)) none pos) (tRaise C sp E t) := by
  obtain ⟨h1, h2, h3, f, fd, h4, h5, h6, h7⟩ := R
  exact ps_raise1 h7 hr hc h2 h4 h5 h3 h6 hg h1 ha th (hdb := hdb) (he := he) (hpl := hpl)
/-- f'..{n}' -/
def tFsI (te : TE) : TE := fun σ H Q => te σ H fun x H1 => ∃ i, x = .int i ∧ i.natAbs.log2 < 1920 ∧ ∀ z, Q (.str z) H1
theorem pe_fsI {a : Str} {k1 : Nat} {p1 p2 : Pos} (he : PE X e te) (ha : a.length ≤ 1000000) : PE X (.JoinedStr [.Constant (.str a) k1 p1, .FormattedValue e (-1) none p2] pos) (tFsI te) := by
  intro pins s σ H Q I h
  have hz : sizeLine = 16777216 := sizeLine_eq
  have h0 : Str.empty.length = 0 := rfl
  refine JoinedStr_many (joinParts_cons (Calls.Constant_str ⟨by rw [strLen_append, h0, hz]; omega, joinParts_cons (FormattedValue_plain (thn (he pins _ σ H _ (I.tok _) h) fun v s1 ⟨x, H1, I1, r1, i, ex, hl, q⟩ => ?_))⟩))
  subst ex
  obtain ⟨t, rfl⟩ := r1
  have hf : (Str.ofString (toString i)).length ≤ 2000 := by
    have e := int_text_length_le (k := 1920) (by decide) hl
    rw [PySem.ofString_length]
    omega
  have hz2 : ((Str.empty ++ a) ++ Str.ofString (toString i)).length ≤ sizeLine := by
    rw [strLen_append, strLen_append, h0, hz]
    omega
  exact formatField_int_small hl ⟨hz2, joinParts_nil ⟨.str _, H1, (I1.tok _).tok _, ⟨_, rfl⟩, q _⟩ hz2⟩
end
end L2
namespace L2
open PySem
theorem catch_mk {K : PySem.W.Frag} {D : Addr} (a : PySem.W.instIn K (.ref D) (.type "tuple") = some false) (b : (PySem.W.clsIn K D).isSome = true) (c : PySem.W.mroIn K D (.type "BaseException") = some true) : Catch K D := ⟨a, b, c⟩
theorem basei_mk {K : PySem.W.Frag} {D : Addr} (a : PySem.W.specialIn K (.ref D) "__getattribute__" = some (some (.builtin "type.__getattribute__"))) (b : PySem.W.readsIn K D (.type "type") = true)
    (c : PySem.W.findCls K (.ref D) (.type "type") "__init__" = some (.val (.builtin "ValueError.__init__"))) : BaseI K D := ⟨a, b, c⟩
end L2

set_option Elab.async false
set_option linter.all false
set_option maxRecDepth 100000
set_option maxHeartbeats 4000000
namespace Bw
open PySem L2
/-- the addresses of the text's classes -/
structure Cl where
  (Tree Point Doing Beside Across Bracket Reader WebError BadWeb BadTree NoPoint NotMade BadText : Addr)
/-- what stands at the top -/
structure Txt (K : PySem.W.Frag) (mg : Str → Option Value) (cs : Cl) : Prop where
  gTree : mg "Tree" = some (.ref cs.Tree)
  gPoint : mg "Point" = some (.ref cs.Point)
  gDoing : mg "Doing" = some (.ref cs.Doing)
  gBeside : mg "Beside" = some (.ref cs.Beside)
  gAcross : mg "Across" = some (.ref cs.Across)
  gBracket : mg "Bracket" = some (.ref cs.Bracket)
  gReader : mg "Reader" = some (.ref cs.Reader)
  gWebError : mg "WebError" = some (.ref cs.WebError)
  gBadWeb : mg "BadWeb" = some (.ref cs.BadWeb)
  gBadTree : mg "BadTree" = some (.ref cs.BadTree)
  gNoPoint : mg "NoPoint" = some (.ref cs.NoPoint)
  gNotMade : mg "NotMade" = some (.ref cs.NotMade)
  gBadText : mg "BadText" = some (.ref cs.BadText)
  cWebError : Catch K cs.WebError
  iWebError : BaseI K cs.WebError
  xBadWeb : XCls K cs.BadWeb
  eBadWebWebError : PySem.W.mroIn K cs.BadWeb (.ref cs.WebError) = some true
  kBadWebV : PySem.W.kitOne K (.ref cs.BadWeb) (.type "ValueError") = some true
  kBadWebWebError : PySem.W.kitOne K (.ref cs.BadWeb) (.ref cs.WebError) = some true
  kBadWebBadWeb : PySem.W.kitOne K (.ref cs.BadWeb) (.ref cs.BadWeb) = some true
  kBadWebBadTree : PySem.W.kitOne K (.ref cs.BadWeb) (.ref cs.BadTree) = some false
  kBadWebNoPoint : PySem.W.kitOne K (.ref cs.BadWeb) (.ref cs.NoPoint) = some false
  kBadWebNotMade : PySem.W.kitOne K (.ref cs.BadWeb) (.ref cs.NotMade) = some false
  kBadWebBadText : PySem.W.kitOne K (.ref cs.BadWeb) (.ref cs.BadText) = some false
  xBadTree : XCls K cs.BadTree
  eBadTreeWebError : PySem.W.mroIn K cs.BadTree (.ref cs.WebError) = some true
  kBadTreeV : PySem.W.kitOne K (.ref cs.BadTree) (.type "ValueError") = some true
  kBadTreeWebError : PySem.W.kitOne K (.ref cs.BadTree) (.ref cs.WebError) = some true
  kBadTreeBadWeb : PySem.W.kitOne K (.ref cs.BadTree) (.ref cs.BadWeb) = some false
  kBadTreeBadTree : PySem.W.kitOne K (.ref cs.BadTree) (.ref cs.BadTree) = some true
  kBadTreeNoPoint : PySem.W.kitOne K (.ref cs.BadTree) (.ref cs.NoPoint) = some false
  kBadTreeNotMade : PySem.W.kitOne K (.ref cs.BadTree) (.ref cs.NotMade) = some false
  kBadTreeBadText : PySem.W.kitOne K (.ref cs.BadTree) (.ref cs.BadText) = some false
  xNoPoint : XCls K cs.NoPoint
  eNoPointWebError : PySem.W.mroIn K cs.NoPoint (.ref cs.WebError) = some true
  kNoPointV : PySem.W.kitOne K (.ref cs.NoPoint) (.type "ValueError") = some true
  kNoPointWebError : PySem.W.kitOne K (.ref cs.NoPoint) (.ref cs.WebError) = some true
  kNoPointBadWeb : PySem.W.kitOne K (.ref cs.NoPoint) (.ref cs.BadWeb) = some false
  kNoPointBadTree : PySem.W.kitOne K (.ref cs.NoPoint) (.ref cs.BadTree) = some false
  kNoPointNoPoint : PySem.W.kitOne K (.ref cs.NoPoint) (.ref cs.NoPoint) = some true
  kNoPointNotMade : PySem.W.kitOne K (.ref cs.NoPoint) (.ref cs.NotMade) = some false
  kNoPointBadText : PySem.W.kitOne K (.ref cs.NoPoint) (.ref cs.BadText) = some false
  xNotMade : XCls K cs.NotMade
  eNotMadeWebError : PySem.W.mroIn K cs.NotMade (.ref cs.WebError) = some true
  kNotMadeV : PySem.W.kitOne K (.ref cs.NotMade) (.type "ValueError") = some true
  kNotMadeWebError : PySem.W.kitOne K (.ref cs.NotMade) (.ref cs.WebError) = some true
  kNotMadeBadWeb : PySem.W.kitOne K (.ref cs.NotMade) (.ref cs.BadWeb) = some false
  kNotMadeBadTree : PySem.W.kitOne K (.ref cs.NotMade) (.ref cs.BadTree) = some false
  kNotMadeNoPoint : PySem.W.kitOne K (.ref cs.NotMade) (.ref cs.NoPoint) = some false
  kNotMadeNotMade : PySem.W.kitOne K (.ref cs.NotMade) (.ref cs.NotMade) = some true
  kNotMadeBadText : PySem.W.kitOne K (.ref cs.NotMade) (.ref cs.BadText) = some false
  eNotMade : ExcT K cs.NotMade "NotMade.__init__" sNotmadeInit ["self", "four"]
  nNotMadeFour : NoAttr K cs.NotMade "four"
  xBadText : XCls K cs.BadText
  eBadTextWebError : PySem.W.mroIn K cs.BadText (.ref cs.WebError) = some true
  kBadTextV : PySem.W.kitOne K (.ref cs.BadText) (.type "ValueError") = some true
  kBadTextWebError : PySem.W.kitOne K (.ref cs.BadText) (.ref cs.WebError) = some true
  kBadTextBadWeb : PySem.W.kitOne K (.ref cs.BadText) (.ref cs.BadWeb) = some false
  kBadTextBadTree : PySem.W.kitOne K (.ref cs.BadText) (.ref cs.BadTree) = some false
  kBadTextNoPoint : PySem.W.kitOne K (.ref cs.BadText) (.ref cs.NoPoint) = some false
  kBadTextNotMade : PySem.W.kitOne K (.ref cs.BadText) (.ref cs.NotMade) = some false
  kBadTextBadText : PySem.W.kitOne K (.ref cs.BadText) (.ref cs.BadText) = some true
  eBadText : ExcT K cs.BadText "BadText.__init__" sBadtextInit ["self", "place"]
  nBadTextPlace : NoAttr K cs.BadText "place"
  valueError : mg "ValueError" = none
  isBelow : FnT K mg "is_below" sIsBelow ["value", "bound"]
  bracketed : FnT K mg "bracketed" sBracketed ["texts", "sign"]
  checkTrees : FnT K mg "check_trees" sCheckTrees ["trees"]
  read : FnT K mg "read" sRead ["text"]
  lawCellAt : FnT K mg "_law_cell_at" sLawCellAt ["_law_script", "_law_k"]
  lawDraw : FnT K mg "_law_draw" sLawDraw ["_law_cell", "_law_k", "_law_many"]
  lawText : FnT K mg "_law_text" sLawText ["_law_script"]
  lawWrong : FnT K mg "_law_wrong" sLawWrong ["_law_text_here"]
  lawRefused : FnT K mg "_law_refused" sLawRefused ["_law_text_here"]
  lawOther : FnT K mg "_law_other" sLawOther ["_law_text_here", "_law_cell", "_law_k"]
  oPoint : Own K cs.Point
  nPointAt : NoAttr K cs.Point "at"
  mkPoint : MakeT K cs.Point "Point.__init__" sPointInit ["self", "at"]
  mPointPoints : MethT K cs.Point "points" "Point.points" sPointPoints ["self"]
  mPointTold : MethT K cs.Point "told" "Point.told" sPointTold ["self"]
  oBeside : Own K cs.Beside
  nBesideTrees : NoAttr K cs.Beside "trees"
  nBesideLaid : NoAttr K cs.Beside "laid"
  mkBeside : MakeT K cs.Beside "Beside.__init__" sBesideInit ["self", "trees"]
  mBesidePoints : MethT K cs.Beside "points" "Doing.points" sDoingPoints ["self"]
  mBesideTold : MethT K cs.Beside "told" "Doing.told" sDoingTold ["self"]
  mBesideLay : MethT K cs.Beside "lay" "Doing.lay" sDoingLay ["self", "trees"]
  mBesideSign : MethT K cs.Beside "sign" "Beside.sign" sBesideSign ["self"]
  oAcross : Own K cs.Across
  nAcrossTrees : NoAttr K cs.Across "trees"
  nAcrossLaid : NoAttr K cs.Across "laid"
  mkAcross : MakeT K cs.Across "Across.__init__" sAcrossInit ["self", "trees"]
  mAcrossPoints : MethT K cs.Across "points" "Doing.points" sDoingPoints ["self"]
  mAcrossTold : MethT K cs.Across "told" "Doing.told" sDoingTold ["self"]
  mAcrossLay : MethT K cs.Across "lay" "Doing.lay" sDoingLay ["self", "trees"]
  mAcrossSign : MethT K cs.Across "sign" "Across.sign" sAcrossSign ["self"]
  oBracket : Own K cs.Bracket
  nBracketInner : NoAttr K cs.Bracket "inner"
  nBracketBetween : NoAttr K cs.Bracket "between"
  mkBracket : MakeT K cs.Bracket "Bracket.__init__" sBracketInit ["self"]
  mBracketGoesOnWith : MethT K cs.Bracket "goes_on_with" "Bracket.goes_on_with" sBracketGoesOnWith ["self", "sign"]
  mBracketClosed : MethT K cs.Bracket "closed" "Bracket.closed" sBracketClosed ["self"]
  oReader : Own K cs.Reader
  nReaderOpened : NoAttr K cs.Reader "opened"
  nReaderFigures : NoAttr K cs.Reader "figures"
  nReaderDue : NoAttr K cs.Reader "due"
  nReaderWhole : NoAttr K cs.Reader "whole"
  mkReader : MakeT K cs.Reader "Reader.__init__" sReaderInit ["self"]
  mReaderTake : MethT K cs.Reader "take" "Reader.take" sReaderTake ["self", "sign"]
  mReaderTakeTree : MethT K cs.Reader "take_tree" "Reader.take_tree" sReaderTakeTree ["self", "sign"]
  mReaderTakeBehind : MethT K cs.Reader "take_behind" "Reader.take_behind" sReaderTakeBehind ["self", "sign"]
  mReaderPut : MethT K cs.Reader "put" "Reader.put" sReaderPut ["self", "tree"]
  kPointTree : PySem.W.kitOne K (.ref cs.Point) (.ref cs.Tree) = some true
  kBesideTree : PySem.W.kitOne K (.ref cs.Beside) (.ref cs.Tree) = some true
  kAcrossTree : PySem.W.kitOne K (.ref cs.Across) (.ref cs.Tree) = some true
  kBracketTree : PySem.W.kitOne K (.ref cs.Bracket) (.ref cs.Tree) = some false
  kReaderTree : PySem.W.kitOne K (.ref cs.Reader) (.ref cs.Tree) = some false
  vMOST_POINTS : ∃ t, mg "MOST_POINTS" = some (.int 10 t)
  vMOST_SIGNS : ∃ t, mg "MOST_SIGNS" = some (.int 100 t)
  vFIGURES : ∃ t, mg "FIGURES" = some (.str "0123456789" t)
  any : mg "any" = none
  bool : mg "bool" = none
  enum : mg "enumerate" = none
  int : mg "int" = none
  isinst : mg "isinstance" = none
  len : mg "len" = none
  list : mg "list" = none
  min : mg "min" = none
  range : mg "range" = none
  set : mg "set" = none
  str : mg "str" = none
  tuple : mg "tuple" = none
end Bw

set_option Elab.async false
set_option linter.all false
set_option maxRecDepth 100000
set_option maxHeartbeats 4000000
/-! small lemmas -/
namespace Bw
open PySem L2
theorem same_upd {H H' : Hp} {l : Addr} {o : HO} (s : Same H H') (h : H' l = none) : Same H (upd H' l o) := fun b u e => by
  have e' := s b u e
  rw [upd_ne (ne_of_none e' h)]
  exact e'
theorem yes {σ : St} {H : Hp} {Q : Bool → Hp → Prop} (h : Q true H) : tYes σ H Q := h
theorem gset {i : Nat} {v : V} {σ : St} {H : Hp} {Q : St → Hp → Prop} (h : Q (σ.set i (some v)) H) : gName i v σ H Q := h
theorem same_none {H H' : Hp} {l : Addr} (s : Same H H') (h : H' l = none) : H l = none := s.free h
theorem range_snoc (f : Nat → Nat) (i : Nat) : vv ((List.range i).map f) ++ [V.int ((f i : Nat) : Int)] = vv ((List.range (i + 1)).map f) := by
  rw [vv_snoc, List.range_succ, List.map_append]
  rfl
theorem all_snoc (f : Nat → Bool) (pts : List Nat) {i : Nat} (hi : i < pts.length) : ((pts.take i).map f).map V.bl ++ [V.bl (f (pts.getD i 0))] = ((pts.take (i + 1)).map f).map V.bl := by
  rw [List.take_succ, List.map_append, List.map_append, List.getD_eq_getElem?_getD, List.getElem?_eq_getElem hi]
  rfl
theorem all_id (f : Nat → Bool) (pts : List Nat) : (pts.map f).all id = pts.all f := by
  rw [List.all_map]
  rfl
theorem map_take_snoc (f : Nat → Nat) (pts : List Nat) {i : Nat} (hi : i < pts.length) : vv ((pts.take i).map f) ++ [V.int ((f (pts.getD i 0) : Nat) : Int)] = vv ((pts.take (i + 1)).map f) := by
  rw [vv_snoc, List.take_succ, List.map_append, List.getD_eq_getElem?_getD, List.getElem?_eq_getElem hi]
  rfl
theorem same_upd' {H H' : Hp} {l : Addr} {o : HO} (s : Same H H') (h : H l = none) : Same H (upd H' l o) := fun b u e => by
  rw [upd_ne (ne_of_none e h)]
  exact s b u e
def lenD : Option HO → Nat
  | some (.dK kvs) => kvs.length
  | _ => 0
def lenL : Option HO → Nat
  | some (.lst xs) => xs.length
  | _ => 0
theorem iv_sorted {l : List Nat} (h : l.Pairwise (· < ·)) : (iv l).Pairwise (· ≤ ·) := by
  unfold iv
  rw [List.pairwise_map]
  exact h.imp fun e => by omega
theorem paired_imp {α β : Type} {F G : α → β → Prop} (f : ∀ a b, F a b → G a b) : ∀ {l₁ : List α} {l₂ : List β}, Paired F l₁ l₂ → Paired G l₁ l₂
  | _, _, .nil => .nil
  | _, _, .cons h t => .cons (f _ _ h) (paired_imp f t)
theorem vv_app (a b : List Nat) : vv a ++ vv b = vv (a ++ b) := by simp [vv, iv]
theorem ixN_nat {n i : Nat} (h : i < n) : ixN n (i : Int) = some i := by
  unfold ixN
  rw [if_pos (by omega), if_pos (by omega)]
  simp
theorem list_rng_vv (ws : List Nat) : ((List.range ((((vv ws).length : Nat) : Int) - 0).toNat).map fun i : Nat => V.int (0 + (i : Int))) = vv (List.range ws.length) := by
  have e1 : ((((vv ws).length : Nat) : Int) - 0).toNat = ws.length := by rw [vv_len]; omega
  rw [e1]
  unfold vv iv
  rw [List.map_map]
  apply List.map_congr_left
  intro i _
  show V.int (0 + (i : Int)) = V.int (i : Int)
  rw [Int.zero_add]
end Bw

set_option Elab.async false
set_option linter.all false
set_option maxRecDepth 100000
set_option maxHeartbeats 4000000
namespace Bw
open PySem L2
theorem kit_ll (K : PySem.W.Frag) : PySem.W.kitOne K (.type "list") (.type "list") = some true := by rfl
theorem kit_ii (K : PySem.W.Frag) : PySem.W.kitOne K (.type "int") (.type "int") = some true := by rfl
theorem kit_ib (K : PySem.W.Frag) : PySem.W.kitOne K (.type "int") (.type "bool") = some false := by rfl

section
variable {P : Program} {w : World} {K : PySem.W.Frag} {mg : Str → Option Value} {base : Heap} {cs : Cl}

/-! ### is_below(value, bound) -/
def spBelow : Sp := fun vs H Q _ => ∃ (i j : Int), vs = [.int i, .int j] ∧ Q (.bl (decide (0 ≤ i) && decide (i < j))) H
theorem scBelow : FnScope ["value", "bound"] ["value", "bound"] (defScope sIsBelow) := ⟨rfl, rfl, rfl, by decide +kernel, rfl, by decide +kernel, by decide +kernel⟩
theorem ok_below (T : Txt K mg cs) : Cal P w K mg base 1 "is_below" ["value", "bound"] spBelow := by
  refine T.isBelow.cal scBelow (fun vs H Q E h => ?_) (fun f cdv A outer s H vs Q E hr h => ?_)
  · obtain ⟨i, j, rfl, _⟩ := h
    rfl
  · obtain ⟨i, j, rfl, k⟩ := h
    refine ⟨_, pss_one (ps_ret (pe_and (pe_callB call_isinst (by rfl) T.isinst PyProof.Rows.boot_isinstance (pa_cons (pv 0) (pa_cons (pe_bltn (v := .ty "int") (by rfl) T.int PyProof.Rows.boot_int rfl) pa_nil)))
      (pe_and (pe_not (pe_callB call_isinst (by rfl) T.isinst PyProof.Rows.boot_isinstance (pa_cons (pv 0) (pa_cons (pe_bltn (v := .ty "bool") (by rfl) T.bool PyProof.Rows.boot_bool rfl) pa_nil))))
        (pe_one (pe_chain op_le op_lt pe_int (pv 0) (pv 1)))))), ?_⟩
    refine ⟨_, rfl, _, _, _, _, rfl, .int i, kit_ii K, true, rfl, iteT ?_⟩
    refine ⟨_, rfl, _, _, _, _, rfl, .int i, kit_ib K, false, rfl, true, rfl, iteT ?_⟩
    refine ⟨_, rfl, _, _, rfl, rfl, _, rfl, ?_⟩
    refine ite2 (fun h0 => ?_) (fun h0 => ?_)
    · refine ⟨_, rfl, _, _, rfl, rfl, ?_⟩
      have e : (decide (0 ≤ i) && decide (i < j)) = decide (i < j) := by rw [h0]; rfl
      rw [e] at k
      exact k
    · have e : (decide (0 ≤ i) && decide (i < j)) = false := by
        have : decide (0 ≤ i) = false := by simpa using h0
        rw [this]; rfl
      rw [e] at k
      exact k
end
end Bw

set_option Elab.async false
set_option linter.all false
set_option maxRecDepth 100000
set_option maxHeartbeats 4000000
/-! The law's own defs -/
namespace Bw
open PySem L2
section
variable {P : Program} {w : World} {K : PySem.W.Frag} {mg : Str → Option Value} {base : Heap} {cs : Cl}

/-! ### _law_cell_at(script, k) -/
def spCellAt (K : PySem.W.Frag) : Sp := fun vs H Q _ => ∃ (a : Addr) (ns : List Int) (k : Nat), vs = [.ref a, .int k] ∧ SqL K H a (ns.map V.int) ∧ ∀ z : Int, Q (.int z) H
theorem scCellAt : FnScope ["_law_script", "_law_k"] ["_law_script", "_law_k"] (defScope sLawCellAt) := ⟨rfl, rfl, rfl, by decide +kernel, rfl, by decide +kernel, by decide +kernel⟩
theorem ok_cellAt (T : Txt K mg cs) : Cal P w K mg base 1 "_law_cell_at" ["_law_script", "_law_k"] (spCellAt K) := by
  refine T.lawCellAt.cal scCellAt (fun vs H Q E h => ?_) (fun f cdv A outer s H vs Q E hr h => ?_)
  · obtain ⟨a, ns, k, rfl, _⟩ := h
    rfl
  · obtain ⟨a, ns, n, rfl, hs, k⟩ := h
    refine ⟨_, pss_cons (ps_if (pt_cmpR op_lt (pv 1) (pe_callB call_len_seq (by rfl) T.len PySem.boot_len (pa_cons (pv 0) pa_nil)) (nomark _)) (pss_one (ps_ret (pe_ix ix_list (pv 0) (pv 1) (fun _ _ => rfl)))) pss_nil) (pss_one (ps_ret pe_int)), ?_⟩
    refine ⟨_, rfl, _, rfl, a, ns.map V.int, rfl, .inl hs, _, _, rfl, rfl, _, rfl, ?_⟩
    refine ite2 (fun hlt => ?_) (fun hlt => ?_)
    · have hn : n < ns.length := by
        have := of_decide_eq_true hlt
        rw [List.length_map] at this
        omega
      refine ⟨_, rfl, _, rfl, a, _, _, _, rfl, rfl, hs, atI_nat (by rw [List.getElem?_map, List.getElem?_eq_getElem hn]; rfl), ?_⟩
      exact k _
    · exact k 0

/-! ### _law_draw(cell, k, many) -/
def spDraw : Sp := fun vs H Q _ => ∃ (c k m : Int), vs = [.int c, .int k, .int m] ∧ 0 < m ∧ ∀ (z : Nat) (H' : Hp), (z : Int) < m → Same H H' → Q (.int (z : Int)) H'
theorem scDraw : FnScope ["_law_cell", "_law_k", "_law_many", "_law_primes", "_law_blend"] ["_law_cell", "_law_k", "_law_many"] (defScope sLawDraw) := ⟨rfl, rfl, rfl, by decide +kernel, rfl, by decide +kernel, by decide +kernel⟩
theorem prime_at (i : Nat) (hi : i < 8) : ∃ p : Int, 0 < p ∧ ([V.int 1000003, V.int 1000033, V.int 1000037, V.int 1000039, V.int 1000081, V.int 1000099, V.int 1000117, V.int 1000121] : List V)[i]? = some (V.int p) := by
  match i, hi with
  | 0, _ => exact ⟨_, by decide, rfl⟩
  | 1, _ => exact ⟨_, by decide, rfl⟩
  | 2, _ => exact ⟨_, by decide, rfl⟩
  | 3, _ => exact ⟨_, by decide, rfl⟩
  | 4, _ => exact ⟨_, by decide, rfl⟩
  | 5, _ => exact ⟨_, by decide, rfl⟩
  | 6, _ => exact ⟨_, by decide, rfl⟩
  | 7, _ => exact ⟨_, by decide, rfl⟩
theorem ok_draw (T : Txt K mg cs) : Cal P w K mg base 1 "_law_draw" ["_law_cell", "_law_k", "_law_many"] spDraw := by
  refine T.lawDraw.cal scDraw (fun vs H Q E h => ?_) (fun f cdv A outer s H vs Q E hr h => ?_)
  · obtain ⟨c, k, m, rfl, _⟩ := h
    rfl
  · obtain ⟨c, n, m, rfl, hm, k⟩ := h
    refine ⟨_, pss_cons (ps_set (i := 3) scDraw.nd rfl (Or.inl rfl) (pe_tup (pa_cons pe_int (pa_cons pe_int (pa_cons pe_int (pa_cons pe_int (pa_cons pe_int (pa_cons pe_int (pa_cons pe_int (pa_cons pe_int pa_nil))))))))))
      (pss_cons (ps_set (i := 4) scDraw.nd rfl (Or.inl rfl) (pe_op op_add (pe_op op_add (pe_op op_mul (pv 0) pe_int) (pe_op op_mul (pv 1) pe_int)) (pe_op op_mul (pe_op op_mod (pe_op op_fdiv (pv 0) pe_int) pe_int) pe_int)))
      (pss_one (ps_ret (pe_op op_mod (pe_op op_mod (pv 4) (pe_ix ix_tup (pv 3) (pe_op op_mod (pv 1) pe_int) (fun _ _ => rfl))) (pv 2))))), ?_⟩
    refine ⟨by rw [sizeLine_eq]; show 8 ≤ _; decide, fun t ht => ?_⟩
    refine ⟨_, rfl, _, _, rfl, rfl, .inr ⟨by decide, by decide⟩, _, rfl, _, _, rfl, rfl, .inr ⟨by decide, by decide⟩, _, _, rfl, rfl, _, rfl, _, _, rfl, rfl, ⟨by decide, by decide⟩, _, _, rfl, rfl, (by show (0 : Int) < 1000003; decide), _, _, rfl, rfl, .inr ⟨by decide, by decide⟩, _, _, rfl, rfl, ?_⟩
    have h8 : 0 ≤ n % 8 ∧ n % 8 < 8 := by omega
    obtain ⟨i, ei⟩ : ∃ i : Nat, n % 8 = (i : Int) := ⟨(n % 8).toNat, by omega⟩
    obtain ⟨p, hp, ep⟩ := prime_at i (by omega)
    refine ⟨_, rfl, _, rfl, _, rfl, _, _, rfl, rfl, (by show (0 : Int) < 8; decide), t, _, _, _, rfl, rfl, SqT.of upd_same, ?_, _, _, rfl, rfl, hp, _, rfl, _, _, rfl, rfl, hm, ?_⟩
    · rw [ei]
      exact atI_nat ep
    · generalize hz : ((c * 48271 + n * 69621 + c / 1000003 % 1000003 * 40692) % p) = y
      have h1 : 0 ≤ y % m := Int.emod_nonneg _ (by omega)
      have h2 : y % m < m := Int.emod_lt_of_pos _ hm
      have e : y % m = (((y % m).toNat : Nat) : Int) := by omega
      show Q (V.int (y % m)) _
      rw [e]
      exact k _ _ (by omega) (same_upd (Same.refl H) ht)

end
end Bw

set_option Elab.async false
set_option linter.all false
set_option maxRecDepth 100000
set_option maxHeartbeats 4000000
/-! Trees: the datum, how the heap bears it, points(), how one is made -/
namespace Bw
open PySem L2
/-- the class of a doing -/
def cD (cs : Cl) (ac : Bool) : Addr := if ac then cs.Across else cs.Beside
def fP (n : Int) : List (Str × V) := putF "at" (.int n) []
def fD (l t : Addr) : List (Str × V) := putF "laid" (.ref t) (putF "trees" (.ref l) [])
theorem fP_at (n : Int) : (fP n).lookup ("at" : Str) = some (.int n) := by
  unfold fP
  rw [lookup_putF, if_pos rfl]
theorem fP_no (n : Int) {m : Str} (h : ¬ m = "at") : (fP n).lookup m = none := by
  unfold fP
  rw [lookup_putF, if_neg h]
  rfl
theorem tl_ne : ¬ (("trees" : Str) = "laid") := by decide +kernel
theorem fD_laid (l t : Addr) : (fD l t).lookup ("laid" : Str) = some (.ref t) := by
  unfold fD
  rw [lookup_putF, if_pos rfl]
theorem fD_trees (l t : Addr) : (fD l t).lookup ("trees" : Str) = some (.ref l) := by
  unfold fD
  rw [lookup_putF, if_neg tl_ne, lookup_putF, if_pos rfl]
theorem fD_no (l t : Addr) {m : Str} (h1 : ¬ m = "laid") (h2 : ¬ m = "trees") : (fD l t).lookup m = none := by
  unfold fD
  rw [lookup_putF, if_neg h1, lookup_putF, if_neg h2]
  rfl

section
variable (cs : Cl) (H : Hp)
/-- the tree at a, of depth at most k; its own list of trees stands as it was made -/
def TreeAt : Nat → Addr → Tr → Prop
  | 0 => fun _ _ => False
  | k + 1 => fun a tr => match tr with
    | .pt n => (∃ dx, H a = some (.ins cs.Point dx (fP (n : Int)))) ∧ n < 10
    | .doing ac ts => ∃ (dx l t : Addr) (rs : List Addr), H a = some (.ins (cD cs ac) dx (fD l t)) ∧ H t = some (.tup (rs.map V.ref)) ∧ H l = some (.lst (rs.map V.ref)) ∧ Paired (TreeAt k) rs ts ∧ 2 ≤ ts.length
end
theorem paired_mono {α β : Type} {F G : α → β → Prop} (f : ∀ a b, F a b → G a b) : ∀ {l₁ : List α} {l₂ : List β}, Paired F l₁ l₂ → Paired G l₁ l₂
  | _, _, .nil => .nil
  | _, _, .cons h t => .cons (f _ _ h) (paired_mono f t)
theorem paired_get {α β : Type} {F : α → β → Prop} : ∀ {l₁ : List α} {l₂ : List β} {i : Nat} {x : α}, Paired F l₁ l₂ → l₁[i]? = some x → ∃ y, l₂[i]? = some y ∧ F x y
  | _, _, _, _, .nil, h => by cases h
  | _, _, 0, _, .cons h _, e => by
    have e' := Option.some.inj e
    subst e'
    exact ⟨_, rfl, h⟩
  | _, _, i + 1, x, .cons _ t, e => paired_get (i := i) t e
theorem paired_len {α β : Type} {F : α → β → Prop} : ∀ {l₁ : List α} {l₂ : List β}, Paired F l₁ l₂ → l₁.length = l₂.length
  | _, _, .nil => rfl
  | _, _, .cons _ t => by rw [List.length_cons, List.length_cons, paired_len t]
theorem paired_snoc {α β : Type} {F : α → β → Prop} : ∀ {l₁ : List α} {l₂ : List β} {x : α} {y : β}, Paired F l₁ l₂ → F x y → Paired F (l₁ ++ [x]) (l₂ ++ [y])
  | _, _, _, _, .nil, h => .cons h .nil
  | _, _, _, _, .cons a t, h => .cons a (paired_snoc t h)
theorem TreeAt.same {cs : Cl} {H H' : Hp} (s : Same H H') : ∀ {k : Nat} {a : Addr} {tr : Tr}, TreeAt cs H k a tr → TreeAt cs H' k a tr
  | 0, _, _, h => h.elim
  | k + 1, a, .pt n, h => ⟨let ⟨dx, e⟩ := h.1; ⟨dx, s _ _ e⟩, h.2⟩
  | k + 1, a, .doing ac ts, h => by
    obtain ⟨dx, l, t, rs, h1, h2, h3, h4, h5⟩ := h
    exact ⟨dx, l, t, rs, s _ _ h1, s _ _ h2, s _ _ h3, paired_mono (fun _ _ z => TreeAt.same s z) h4, h5⟩
theorem TreeAt.more {cs : Cl} {H : Hp} : ∀ {k j : Nat} {a : Addr} {tr : Tr}, TreeAt cs H k a tr → k ≤ j → TreeAt cs H j a tr
  | 0, _, _, _, h, _ => h.elim
  | k + 1, 0, _, _, _, l => absurd l (by omega)
  | k + 1, j + 1, a, .pt n, h, _ => h
  | k + 1, j + 1, a, .doing ac ts, h, l => by
    obtain ⟨dx, l1, t, rs, h1, h2, h3, h4, h5⟩ := h
    exact ⟨dx, l1, t, rs, h1, h2, h3, paired_mono (fun _ _ z => TreeAt.more z (by omega)) h4, h5⟩
theorem TreeAt.pos {cs : Cl} {H : Hp} : ∀ {k : Nat} {a : Addr} {tr : Tr}, TreeAt cs H k a tr → 1 ≤ tr.pts.length
  | 0, _, _, h => h.elim
  | k + 1, a, .pt n, h => Nat.le_refl _
  | k + 1, a, .doing ac [], h => by
    obtain ⟨_, _, _, _, _, _, _, _, h5⟩ := h
    exact absurd h5 (by decide)
  | k + 1, a, .doing ac (t :: ts), h => by
    obtain ⟨dx, l1, t1, rs, h1, h2, h3, h4, h5⟩ := h
    show 1 ≤ (t.pts ++ ptsL ts).length
    rw [List.length_append]
    cases h4 with
    | cons z _ =>
      have := TreeAt.pos z
      omega
/-- each tree of a doing has fewer points than it -/
theorem paired_fewer {F : Addr → Tr → Prop} (hF : ∀ a t, F a t → 1 ≤ t.pts.length) : ∀ {rs : List Addr} {ts : List Tr}, Paired F rs ts → ∀ {m : Nat}, (ptsL ts).length ≤ m + ts.length → ∀ G : Addr → Tr → Prop, (∀ a t, F a t → t.pts.length ≤ m + 1 → G a t) → Paired G rs ts
  | _, _, .nil, _, _, _, _ => .nil
  | _, _, .cons (l₁ := rs) (l₂ := ts) (a := a) (b := t) h r, m, hl, G, g => by
    have h1 := hF _ _ h
    have hge : ∀ {rs : List Addr} {ts : List Tr}, Paired F rs ts → ts.length ≤ (ptsL ts).length := by
      intro rs ts p
      induction p with
      | nil => exact Nat.le_refl _
      | cons h _ ih =>
        show _ + 1 ≤ List.length (_ ++ _)
        rw [List.length_append]
        have := hF _ _ h
        omega
    have hr := hge r
    have e : (ptsL (t :: ts)).length = t.pts.length + (ptsL ts).length := List.length_append
    rw [e, List.length_cons] at hl
    exact .cons (g _ _ h (by omega)) (paired_fewer hF r (m := m) (by omega) G g)
theorem TreeAt.fit {cs : Cl} {H : Hp} : ∀ {k m : Nat} {a : Addr} {tr : Tr}, TreeAt cs H k a tr → tr.pts.length ≤ m → TreeAt cs H m a tr
  | 0, _, _, _, h, _ => h.elim
  | k + 1, 0, a, tr, h, l => by
    have := h.pos
    omega
  | k + 1, m + 1, a, .pt n, h, _ => h
  | k + 1, m + 1, a, .doing ac ts, h, l => by
    obtain ⟨dx, l1, t, rs, h1, h2, h3, h4, h5⟩ := h
    refine ⟨dx, l1, t, rs, h1, h2, h3, ?_, h5⟩
    have hl : (ptsL ts).length ≤ m + 1 := l
    have hm : 1 ≤ m := by
      have hge : ts.length ≤ (ptsL ts).length := by
        clear h1 h2 h3 h5 l hl
        induction h4 with
        | nil => exact Nat.le_refl _
        | cons h _ ih =>
          show _ + 1 ≤ List.length (_ ++ _)
          rw [List.length_append]
          have := TreeAt.pos h
          omega
      omega
    obtain ⟨m', rfl⟩ : ∃ m', m = m' + 1 := ⟨m - 1, by omega⟩
    exact paired_fewer (fun _ _ z => TreeAt.pos z) h4 (m := m') (by omega) _ fun a t z hz => TreeAt.fit z hz
theorem ref_at {rs : List Addr} {i : Nat} {x : V} (h : (rs.map V.ref)[i]? = some x) : ∃ r, rs[i]? = some r ∧ x = .ref r := by
  rw [List.getElem?_map] at h
  cases e : rs[i]? with
  | none => rw [e] at h; cases h
  | some r =>
    rw [e] at h
    exact ⟨r, rfl, (Option.some.inj h).symm⟩

section
variable {P : Program} {w : World} {K : PySem.W.Frag} {mg : Str → Option Value} {base : Heap} {cs : Cl}
/-- what a call of the method m upon the tree at a gives, at any place with that room -/
def Asked (P : Program) (w : World) (K : PySem.W.Frag) (mg : Str → Option Value) (base : Heap) (k : Nat) (m : Str) (a : Addr) (H : Hp) (Q : VK) : Prop :=
  ∃ C dx fs, H a = some (.ins C dx fs) ∧ fs.lookup m = none ∧ ∀ A, Room k A → MOk P w K mg base A C m [.ref a] H Q
theorem Asked.mono {j k : Nat} {m : Str} {a : Addr} {H : Hp} {Q : VK} (h : Asked P w K mg base j m a H Q) (hjk : j ≤ k) : Asked P w K mg base k m a H Q := by
  obtain ⟨C, dx, fs, e, l, q⟩ := h
  exact ⟨C, dx, fs, e, l, fun A hr => q A (hr.mono hjk)⟩
theorem asked_use {k : Nat} {m : Str} {a : Addr} {H : Hp} {Q : VK} {A : Around} (h : Asked P w K mg base k m a H Q) (hr : Room k A) :
    ∃ a' C dx fs, V.ref a = .ref a' ∧ H a' = some (.ins C dx fs) ∧ fs.lookup m = none ∧ MOk P w K mg base A C m [.ref a'] H Q := by
  obtain ⟨C, dx, fs, e, l, q⟩ := h
  exact ⟨a, C, dx, fs, rfl, e, l, q A hr⟩
theorem Txt.ownD (T : Txt K mg cs) (ac : Bool) : Own K (cD cs ac) := by
  cases ac
  · exact T.oBeside
  · exact T.oAcross
theorem Txt.nL (T : Txt K mg cs) (ac : Bool) : NoAttr K (cD cs ac) "laid" := by
  cases ac
  · exact T.nBesideLaid
  · exact T.nAcrossLaid
theorem Txt.nT (T : Txt K mg cs) (ac : Bool) : NoAttr K (cD cs ac) "trees" := by
  cases ac
  · exact T.nBesideTrees
  · exact T.nAcrossTrees
theorem Txt.mPts (T : Txt K mg cs) (ac : Bool) : MethT K (cD cs ac) "points" "Doing.points" sDoingPoints ["self"] := by
  cases ac
  · exact T.mBesidePoints
  · exact T.mAcrossPoints
theorem Txt.mLay (T : Txt K mg cs) (ac : Bool) : MethT K (cD cs ac) "lay" "Doing.lay" sDoingLay ["self", "trees"] := by
  cases ac
  · exact T.mBesideLay
  · exact T.mAcrossLay

/-! ### points() -/
def gotPts (H : Hp) (tr : Tr) (Q : VK) : Prop := ∀ (l : Addr) (H' : Hp), H l = none → Same H H' → H' l = some (.lst (vv tr.pts)) → Q (.ref l) H'
theorem scPPoints : FnScope ["self"] ["self"] (defScope sPointPoints) := ⟨rfl, rfl, rfl, by decide +kernel, rfl, by decide +kernel, by decide +kernel⟩
theorem scDPoints : FnScope ["self", "found", "tree"] ["self"] (defScope sDoingPoints) := ⟨rfl, rfl, rfl, by decide +kernel, rfl, by decide +kernel, by decide +kernel⟩
theorem points_pt (T : Txt K mg cs) {a : Addr} {H : Hp} {Q : VK} {n k : Nat} (h : TreeAt cs H (k + 1) a (.pt n)) (q : gotPts H (.pt n) Q) : Asked P w K mg base 1 "points" a H Q := by
  obtain ⟨⟨dx, e⟩, hn⟩ := h
  obtain ⟨f, fd, hm, F, hb⟩ := T.mPointPoints
  refine ⟨cs.Point, dx, _, e, fP_no _ (by decide +kernel), fun A hr => ⟨T.oPoint.cl, f, fd, ["self"], 1, fun vs H Q _ => ∃ (a dx : Addr) (n : Nat), vs = [.ref a] ∧ H a = some (.ins cs.Point dx (fP (n : Int))) ∧ gotPts H (.pt n) Q, hm, ?_, hr, hb, a, dx, n, rfl, e, q⟩⟩
  refine F.ok scPPoints (fun vs H Q E h => ?_) (fun cdv A outer s H vs Q E hr h => ?_)
  · obtain ⟨a, dx, n, rfl, _⟩ := h
    rfl
  · obtain ⟨a, dx, n, rfl, e, q⟩ := h
    refine ⟨_, pss_one (ps_ret (pe_lst (pa_cons (pe_fld (pv 0) rfl) pa_nil))), ?_⟩
    refine ⟨_, rfl, a, cs.Point, dx, _, _, rfl, e, T.oPoint.cl, T.nPointAt, fP_at _, by rw [sizeLine_eq]; show 1 ≤ _; decide, fun l hl => ?_⟩
    exact q l _ hl (fun b o z => by rw [upd_ne (ne_of_none z hl)]; exact z) upd_same
theorem points_all (T : Txt K mg cs) : ∀ (k : Nat) {a : Addr} {tr : Tr} {H : Hp} {Q : VK}, TreeAt cs H k a tr → tr.pts.length ≤ 1000 → gotPts H tr Q → Asked P w K mg base k "points" a H Q
  | 0, _, _, _, _, h, _, _ => h.elim
  | k + 1, a, .pt n, H, Q, h, _, q => (points_pt T h q).mono (by omega)
  | k + 1, a, .doing ac ts, H, Q, h, hl, q => by
    obtain ⟨dx, l, t, rs, e, ht, hlst, hp, h2⟩ := h
    obtain ⟨f, fd, hm, F, hb⟩ := T.mPts ac
    refine ⟨_, dx, _, e, fD_no _ _ (by decide +kernel) (by decide +kernel), fun A hr => ⟨(T.ownD ac).cl, f, fd, ["self"], k + 1,
      fun vs H Q _ => ∃ (a dx l t : Addr) (rs : List Addr) (ts : List Tr), vs = [.ref a] ∧ H a = some (.ins (cD cs ac) dx (fD l t)) ∧ H t = some (.tup (rs.map V.ref)) ∧ Paired (TreeAt cs H k) rs ts ∧ (ptsL ts).length ≤ 1000 ∧ gotPts H (.doing ac ts) Q,
      hm, ?_, hr, hb, a, dx, l, t, rs, ts, rfl, e, ht, hp, hl, q⟩⟩
    refine F.ok scDPoints (fun vs H Q E h => ?_) (fun cdv A outer s H vs Q E hr h => ?_)
    · obtain ⟨a, dx, l, t, rs, ts, rfl, _⟩ := h
      rfl
    · obtain ⟨a, dx, l, t, rs, ts, rfl, e, ht, hp, hl, q⟩ := h
      refine ⟨_, pss_cons (ps_set (i := 1) scDPoints.nd rfl (Or.inl rfl) (pe_lst pa_nil))
        (pss_cons (ps_for PassesOwn.never rfl (pi_tup (pe_fld (pv 0) rfl)) (pg_name (i := 2) scDPoints.nd rfl (Or.inl rfl))
          (pss_one (ps_expr (pe_bm PySem.F.plainAttrs_list PySem.F.slot_list_extend PySem.F.type_list_extend mt_extend (pv 1) (pa_cons (pe_md0 P w K mg base _ (pv 2)) pa_nil)))))
        (pss_one (ps_ret (pv 1)))), ?_⟩
      refine ⟨Nat.zero_le _, fun fl hfl => ?_⟩
      have s0 : Same H (upd H fl (.lst [])) := same_upd (Same.refl H) hfl
      refine ⟨_, rfl, a, _, dx, _, _, rfl, s0 _ _ e, (T.ownD ac).cl, T.nL ac, fD_laid _ _, t, rfl, ⟨_, SqT.of (s0 _ _ ht)⟩, for_tup (K := K) (a := t) (xs := rs.map V.ref) (fun i σ H1 => ∃ v2, σ = [some (.ref a), some (.ref fl), v2] ∧ H1 fl = some (.lst (vv (ptsL (ts.take i)))) ∧ Same H H1)
        ⟨_, rfl, upd_same, s0⟩ (fun i σ H1 _ ⟨_, _, _, s⟩ => SqT.of (s _ _ ht)) ?_ ?_⟩
      · rintro i x σ H1 hx ⟨v2, rfl, h1, s1⟩
        obtain ⟨r, hr1, rfl⟩ := ref_at hx
        obtain ⟨tr, htr, hT⟩ := paired_get hp hr1
        have b1 := ptsL_mem htr
        have b2 := ptsL_le ts (i + 1)
        rw [ptsL_take htr, List.length_append] at b2
        refine ⟨_, rfl, .inl ⟨rfl, _, SqL.of h1⟩, _, rfl, asked_use (points_all T k (hT.same s1) (by omega) fun l2 H2 hl2 s2 h2 => ?_) hr⟩
        refine ⟨fl, l2, _, _, rfl, rfl, s2 _ _ h1, h2, by rw [vv_len, vv_len, sizeLine_eq]; omega, ?_⟩
        exact ⟨_, rfl, by rw [upd_same, vv_app, ptsL_take htr], same_upd' (s1.trans s2) hfl⟩
      · rintro σ H1 ⟨v2, rfl, h1, s1⟩
        refine ⟨_, rfl, q fl H1 hfl s1 ?_⟩
        rw [List.length_map, paired_len hp, List.take_length] at h1
        exact h1

/-! ### what a tree is, asked -/
theorem TreeAt.kitTree (T : Txt K mg cs) : ∀ {k : Nat} {a : Addr} {tr : Tr} {H : Hp}, TreeAt cs H k a tr → ∃ C, TyOf K H (.ref a) (.ref C) ∧ PySem.W.kitOne K (.ref C) (.ref cs.Tree) = some true
  | 0, _, _, _, h => h.elim
  | k + 1, a, .pt n, H, h => by
    obtain ⟨⟨dx, e⟩, _⟩ := h
    exact ⟨_, T.oPoint.ty e, T.kPointTree⟩
  | k + 1, a, .doing ac ts, H, h => by
    obtain ⟨dx, l, t, rs, e, _⟩ := h
    refine ⟨_, (T.ownD ac).ty e, ?_⟩
    cases ac
    · exact T.kBesideTree
    · exact T.kAcrossTree

/-! ### Point(at) -/
def spPInit (cs : Cl) : Sp := fun vs H Q _ => ∃ (x dx : Addr) (n : Nat), vs = [.ref x, .int (n : Int)] ∧ H x = some (.ins cs.Point dx []) ∧ n < 10 ∧ Q .non (upd H x (.ins cs.Point dx (fP (n : Int))))
theorem scPInit : FnScope ["self", "at"] ["self", "at"] (defScope sPointInit) := ⟨rfl, rfl, rfl, by decide +kernel, rfl, by decide +kernel, by decide +kernel⟩
theorem mk_Point (T : Txt K mg cs) : Mak P w K mg base 2 "Point" cs.Point ["self", "at"] (spPInit cs) := by
  have CB : Cal P w K mg base 1 "is_below" ["value", "bound"] spBelow := ok_below T
  obtain ⟨tm, hmost⟩ := T.vMOST_POINTS
  obtain ⟨f, fd, hm, F, hb⟩ := T.mkPoint
  refine ⟨f, fd, T.gPoint, hm, hb, F.ok scPInit (fun vs H Q E h => ?_) (fun cdv A outer s H vs Q E hr h => ?_)⟩
  · obtain ⟨x, dx, n, rfl, _⟩ := h
    rfl
  · obtain ⟨x, dx, n, rfl, e, hn, q⟩ := h
    refine ⟨_, pss_cons (ps_if (pt_not (pt_val (pe_cal CB hr (by rfl) (pa_cons (pv 1) (pa_cons (pe_glob (v := .int 10) (by rfl) hmost ⟨tm, rfl⟩) pa_nil))))) pss_never pss_nil)
      (pss_one (ps_fld (pv 0) (pv 1) rfl)), ?_⟩
    refine ⟨_, rfl, _, _, rfl, _, rfl, ?_⟩
    have e1 : decide ((0 : Int) ≤ (n : Int)) = true := decide_eq_true (Int.natCast_nonneg _)
    have e2 : decide ((n : Int) < 10) = true := decide_eq_true (by omega)
    rw [e1, e2]
    refine iteF ?_
    exact ⟨_, rfl, _, rfl, x, _, dx, _, rfl, e, T.oPoint.cl, T.nPointAt, by decide, q⟩
/-- what is new of a heap -/
def fresh (H H' : Hp) : Hp := fun x => if (H x).isSome = true then none else H' x
theorem fresh_some {H H' : Hp} {x : Addr} {o : HO} (h : fresh H H' x = some o) : H x = none ∧ H' x = some o := by
  unfold fresh at h
  split at h
  · cases h
  · rename_i z
    exact ⟨Option.not_isSome_iff_eq_none.mp z, h⟩
theorem fresh_of {H H' : Hp} {x : Addr} {o : HO} (h : H x = none) (h' : H' x = some o) : fresh H H' x = some o := by
  unfold fresh
  rw [h]
  exact h'
theorem fresh_sub {H H' : Hp} : Same (fresh H H') H' := fun _ _ e => (fresh_some e).2
theorem fresh_le {H1 H2 H3 H4 : Hp} (a : ∀ b, H1 b = none → H3 b = none) (c : ∀ b o, H1 b = none → H2 b = some o → H4 b = some o) : Same (fresh H1 H2) (fresh H3 H4) := fun b o e => by
  obtain ⟨e1, e2⟩ := fresh_some e
  exact fresh_of (a b e1) (c b o e1 e2)
/-- a new tree, at new places -/
def gotTree (cs : Cl) (k : Nat) (H : Hp) (tr : Tr) (Q : VK) : Prop := ∀ (x : Addr) (H' : Hp), H x = none → Same H H' → TreeAt cs (fresh H H') k x tr → Q (.ref x) H'
theorem new_point {H : Hp} {Q : VK} {n : Nat} {E : XK} (hn : n < 10) (q : gotTree cs 1 H (.pt n) Q) : ∀ x dx, H x = none → H dx = none → dx ≠ x →
    spPInit cs ([V.ref x, V.int (n : Int)] ++ []) (upd (upd H dx (.own x)) x (.ins cs.Point dx [])) (fun v H2 => v = .non ∧ Q (.ref x) H2) E := by
  intro x dx hx hdx ne
  refine ⟨x, dx, n, rfl, upd_same, hn, rfl, q x _ hx ?_ ⟨⟨dx, fresh_of hx upd_same⟩, hn⟩⟩
  exact same_upd' (same_upd' (same_upd' (Same.refl H) hdx) hx) hx

/-! ### check_trees(trees) -/
def spCheckTrees (cs : Cl) : Sp := fun vs H Q _ => ∃ (l : Addr) (rs : List Addr) (ts : List Tr), vs = [.ref l] ∧ H l = some (.lst (rs.map V.ref)) ∧ Paired (TreeAt cs H 10) rs ts ∧ 2 ≤ ts.length ∧ (ptsL ts).Nodup ∧ (ptsL ts).length ≤ 10 ∧ ∀ H', Same H H' → Q .non H'
theorem scCheckTrees : FnScope ["trees", "points", "tree"] ["trees"] (defScope sCheckTrees) := ⟨rfl, rfl, rfl, by decide +kernel, rfl, by decide +kernel, by decide +kernel⟩
theorem ok_checkTrees (T : Txt K mg cs) : Cal P w K mg base 11 "check_trees" ["trees"] (spCheckTrees cs) := by
  refine T.checkTrees.cal scCheckTrees (fun vs H Q E h => ?_) (fun f cdv A outer s H vs Q E hr h => ?_)
  · obtain ⟨l, rs, ts, rfl, _⟩ := h
    rfl
  · obtain ⟨l, rs, ts, rfl, hl, hp, h2, hnd, h10, k⟩ := h
    have hu := hu_of hr
    have hu64 := hr.units
    refine ⟨_, (pss_cons (ps_if (PW.pt (pw_or (pt_not (pt_val (pe_callB (call_isinstK K) (by rfl) T.isinst PyProof.Rows.boot_isinstance (pa_cons (pv 0) (pa_cons (pe_bltn (v := .ty "list") (by rfl) T.list PyProof.Rows.boot_list rfl) pa_nil))))) (pw_or1 (pt_cmpR op_lt (pe_callB (call_lenK K) (by rfl) T.len PySem.boot_len (pa_cons (pv 0) pa_nil)) pe_int (nomark _)))))
      pss_never
      pss_nil)
      (pss_cons (ps_set (i := 1) scCheckTrees.nd rfl (Or.inl rfl) (pe_lst pa_nil))
      (pss_cons (ps_for PassesOwn.never rfl (pi_listK K (pv 0)) (pg_name (i := 2) scCheckTrees.nd rfl (Or.inl rfl))
      (pss_cons (ps_if (pt_not (pt_val (pe_callB (call_isC K) (by rfl) T.isinst PyProof.Rows.boot_isinstance (pa_cons (pv 2) (pa_cons (pe_glob (v := .ref cs.Tree) (by rfl) T.gTree rfl) pa_nil)))))
        pss_never
        pss_nil)
        (pss_one (ps_expr (pe_bm PySem.F.plainAttrs_list PySem.F.slot_list_extend PySem.F.type_list_extend mt_extend (pv 1) (pa_cons (pe_md0 P w K mg base _ (pv 2)) pa_nil))))))
      (pss_one (ps_if (pt_cmpR op_ne (pe_callB call_lenSet (by rfl) T.len PySem.boot_len (pa_cons (pe_callTy (call_setL rfl) (by rfl) T.set PyProof.Rows.boot_set (pa_cons (pv 1) pa_nil)) pa_nil)) (pe_callB (call_lenK K) (by rfl) T.len PySem.boot_len (pa_cons (pv 1) pa_nil)) (nomark _))
      pss_never
      pss_nil))))), ?_⟩
    have hrl := paired_len hp
    refine ⟨_, rfl, _, _, _, _, rfl, TyOf.lst hl, kit_ll K, true, rfl, iteF ?_⟩
    refine ⟨_, rfl, l, _, rfl, .inl (SqL.of hl), _, _, rfl, rfl, _, rfl, ?_⟩
    have e0 : decide (((rs.map V.ref).length : Int) < 2) = false := decide_eq_false (by rw [List.length_map]; omega)
    rw [e0]
    refine iteF ?_
    refine ⟨Nat.zero_le _, fun pl hpl => ?_⟩
    have s0 : Same H (upd H pl (.lst [])) := same_upd (Same.refl H) hpl
    have hlp : l ≠ pl := ne_of_none hl hpl
    refine ⟨_, rfl, l, rfl, ⟨_, SqL.of (s0 _ _ hl)⟩, for_list (K := K) (a := l) (xs := rs.map V.ref) (fun i σ H1 => ∃ v2, σ = [some (.ref l), some (.ref pl), v2] ∧ H1 pl = some (.lst (vv (ptsL (ts.take i)))) ∧ Same H H1)
      ⟨_, rfl, upd_same, s0⟩ (fun i σ H1 _ ⟨_, _, _, s⟩ => SqL.of (s _ _ hl)) ?_ ?_⟩
    · rintro i x σ H1 hx ⟨v2, rfl, h1, s1⟩
      obtain ⟨r, hr1, rfl⟩ := ref_at hx
      obtain ⟨tr, htr, hT⟩ := paired_get hp hr1
      obtain ⟨C, ty, kt⟩ := (hT.same s1).kitTree T
      have b1 := ptsL_mem htr
      have b2 := ptsL_le ts (i + 1)
      rw [ptsL_take htr, List.length_append] at b2
      refine ⟨_, rfl, _, _, _, _, rfl, ty, kt, true, rfl, iteF ?_⟩
      refine ⟨_, rfl, .inl ⟨rfl, _, SqL.of h1⟩, _, rfl, asked_use (points_all T 10 (hT.same s1) (by omega) fun l2 H2 hl2 s2 h2 => ?_) hr⟩
      refine ⟨pl, l2, _, _, rfl, rfl, s2 _ _ h1, h2, by rw [vv_len, vv_len, sizeLine_eq]; omega, ?_⟩
      exact ⟨_, rfl, by rw [upd_same, vv_app, ptsL_take htr], same_upd' (s1.trans s2) hpl⟩
    · rintro σ H1 ⟨v2, rfl, h1, s1⟩
      rw [List.length_map, hrl, List.take_length] at h1
      refine ⟨_, rfl, pl, iv (ptsL ts), rfl, SqL.of h1, by rw [iv_len]; unfold scanBound; omega, fun l2 hl2 => ?_⟩
      refine ⟨l2, _, _, rfl, upd_same, _, rfl, pl, vv (ptsL ts), rfl, .inl ((same_upd (Same.refl _) hl2).seq (SqL.of h1)), rfl, _, rfl, ?_⟩
      have nd' : (iv (ptsL ts)).Nodup := by
        unfold iv
        rw [List.nodup_iff_pairwise_ne, List.pairwise_map]
        exact List.Pairwise.imp (fun h z => h (by omega)) hnd
      rw [firstMet_nodup _ nd', iv_len, vv_len]
      refine iteNS rfl ?_
      exact k _ (same_upd s1 hl2)

/-! ### Beside(trees), Across(trees) -/
def spDInit (cs : Cl) (ac : Bool) : Sp := fun vs H Q _ => ∃ (x dx l : Addr) (rs : List Addr) (ts : List Tr), vs = [.ref x, .ref l] ∧ H x = some (.ins (cD cs ac) dx []) ∧ H l = some (.lst (rs.map V.ref)) ∧ Paired (TreeAt cs H 10) rs ts ∧ 2 ≤ ts.length ∧ (ptsL ts).Nodup ∧ (ptsL ts).length ≤ 10 ∧
  ∀ (l2 t : Addr) (H' : Hp), H l2 = none → H t = none → H' x = some (.ins (cD cs ac) dx (fD l2 t)) → H' l2 = some (.lst (rs.map V.ref)) → H' t = some (.tup (rs.map V.ref)) → (∀ b o, H b = some o → b ≠ x → H' b = some o) → Q .non H'
theorem scLay : FnScope ["self", "trees"] ["self", "trees"] (defScope sDoingLay) := ⟨rfl, rfl, rfl, by decide +kernel, rfl, by decide +kernel, by decide +kernel⟩
theorem lay_ok (T : Txt K mg cs) (ac : Bool) : ∃ f fd, Meth K (cD cs ac) "lay" f ∧ Binds K fd ["self", "trees"] [] ∧ FnOk P w K mg base CX0 12 f fd ["self", "trees"] (spDInit cs ac) := by
  have CCT : Cal P w K mg base 11 "check_trees" ["trees"] (spCheckTrees cs) := ok_checkTrees T
  obtain ⟨f, fd, hm, F, hb⟩ := T.mLay ac
  refine ⟨f, fd, hm, hb, F.ok scLay (fun vs H Q E h => ?_) (fun cdv A outer s H vs Q E hr h => ?_)⟩
  · obtain ⟨x, dx, l, rs, ts, rfl, _⟩ := h
    rfl
  · obtain ⟨x, dx, l, rs, ts, rfl, hx, hl, hp, h2, hnd, h10, k⟩ := h
    refine ⟨_, pss_cons (ps_expr (pe_cal CCT hr (by rfl) (pa_cons (pv 1) pa_nil)))
      (pss_cons (ps_fld (pv 0) (pe_callTy call_list_of (by rfl) T.list PyProof.Rows.boot_list (pa_cons (pv 1) pa_nil)) rfl)
      (pss_one (ps_fld (pv 0) (pe_callTy call_tuple_of (by rfl) T.tuple PyProof.Rows.boot_tuple (pa_cons (pv 1) pa_nil)) rfl))), ?_⟩
    refine ⟨_, rfl, l, rs, ts, rfl, hl, hp, h2, hnd, h10, fun H1 s1 => ?_⟩
    refine ⟨_, rfl, l, _, rfl, .inl (SqL.of (s1 _ _ hl)), fun l2 hl2 => ?_⟩
    have hx1 := s1 _ _ hx
    have hxl2 : x ≠ l2 := ne_of_none hx1 hl2
    refine ⟨_, rfl, x, _, dx, _, rfl, (by rw [upd_ne hxl2]; exact hx1), (T.ownD ac).cl, T.nT ac, by decide, ?_⟩
    have hll2 : l ≠ l2 := ne_of_none (s1 _ _ hl) hl2
    have hlx : l ≠ x := ne_of hl hx (by intro z; cases z)
    refine ⟨_, rfl, l, _, rfl, .inl ⟨SqL.of (by rw [upd_ne hlx, upd_ne hll2]; exact s1 _ _ hl), fun t ht => ?_⟩⟩
    have htx : t ≠ x := fun z => by
      rw [z, upd_same] at ht
      cases ht
    have htl2 : t ≠ l2 := fun z => by
      rw [z, upd_ne (Ne.symm hxl2), upd_same] at ht
      cases ht
    refine ⟨_, rfl, x, _, dx, _, rfl, (by rw [upd_ne (Ne.symm htx), upd_same]), (T.ownD ac).cl, T.nL ac, (by show 1 < 1000; decide), ?_⟩
    refine k l2 t _ (same_none s1 hl2) (same_none s1 (by rw [upd_ne htx, upd_ne htl2] at ht; exact ht)) upd_same ?_ ?_ fun b o hb hbx => ?_
    · rw [upd_ne (Ne.symm hxl2), upd_ne (Ne.symm htl2), upd_ne (Ne.symm hxl2), upd_same]
    · rw [upd_ne htx, upd_same]
    · have hb1 := s1 _ _ hb
      have hbl2 : b ≠ l2 := ne_of_none hb1 hl2
      have hbt : b ≠ t := fun z => by
        rw [z] at hb1
        rw [upd_ne htx, upd_ne htl2, hb1] at ht
        cases ht
      rw [upd_ne hbx, upd_ne hbt, upd_ne hbx, upd_ne hbl2]
      exact hb1
theorem scBInit : FnScope ["self", "trees"] ["self", "trees"] (defScope sBesideInit) := ⟨rfl, rfl, rfl, by decide +kernel, rfl, by decide +kernel, by decide +kernel⟩
theorem scAInit : FnScope ["self", "trees"] ["self", "trees"] (defScope sAcrossInit) := ⟨rfl, rfl, rfl, by decide +kernel, rfl, by decide +kernel, by decide +kernel⟩
theorem mk_Beside (T : Txt K mg cs) : Mak P w K mg base 13 "Beside" cs.Beside ["self", "trees"] (spDInit cs false) := by
  obtain ⟨f, fd, hm, F, hb⟩ := T.mkBeside
  refine ⟨f, fd, T.gBeside, hm, hb, F.ok scBInit (fun vs H Q E h => ?_) (fun cdv A outer s H vs Q E hr h => ?_)⟩
  · obtain ⟨x, dx, l, rs, ts, rfl, _⟩ := h
    rfl
  · obtain ⟨x, dx, l, rs, ts, rfl, hx, hl, hp, h2, hnd, h10, k⟩ := h
    obtain ⟨g, gd, gm, gb, G⟩ := lay_ok (P := P) (w := w) (base := base) T false
    refine ⟨_, pss_one (ps_expr (pe_md P w K mg base _ (pv 0) (pa_cons (pv 1) pa_nil))), ?_⟩
    exact ⟨_, rfl, x, _, dx, _, rfl, hx, rfl, T.oBeside.cl, g, gd, _, _, _, gm, G, hr, gb, _, rfl, x, dx, l, rs, ts, rfl, hx, hl, hp, h2, hnd, h10, k⟩
theorem mk_Across (T : Txt K mg cs) : Mak P w K mg base 13 "Across" cs.Across ["self", "trees"] (spDInit cs true) := by
  obtain ⟨f, fd, hm, F, hb⟩ := T.mkAcross
  refine ⟨f, fd, T.gAcross, hm, hb, F.ok scAInit (fun vs H Q E h => ?_) (fun cdv A outer s H vs Q E hr h => ?_)⟩
  · obtain ⟨x, dx, l, rs, ts, rfl, _⟩ := h
    rfl
  · obtain ⟨x, dx, l, rs, ts, rfl, hx, hl, hp, h2, hnd, h10, k⟩ := h
    obtain ⟨g, gd, gm, gb, G⟩ := lay_ok (P := P) (w := w) (base := base) T true
    refine ⟨_, pss_one (ps_expr (pe_md P w K mg base _ (pv 0) (pa_cons (pv 1) pa_nil))), ?_⟩
    exact ⟨_, rfl, x, _, dx, _, rfl, hx, rfl, T.oAcross.cl, g, gd, _, _, _, gm, G, hr, gb, _, rfl, x, dx, l, rs, ts, rfl, hx, hl, hp, h2, hnd, h10, k⟩
/-- a new doing of trees that stand in N, a part of the heap -/
theorem new_doing {H N : Hp} {Q : VK} {E : XK} {ac : Bool} {l : Addr} {rs : List Addr} {ts : List Tr} (hN : Same N H) (hl : H l = some (.lst (rs.map V.ref))) (hp : Paired (TreeAt cs N 10) rs ts) (h2 : 2 ≤ ts.length) (hnd : (ptsL ts).Nodup) (h10 : (ptsL ts).length ≤ 10)
    (q : ∀ (x : Addr) (H' : Hp), H x = none → Same H H' → (∀ M, Same N M → Same (fresh H H') M → TreeAt cs M 10 x (.doing ac ts)) → Q (.ref x) H') : ∀ x dx, H x = none → H dx = none → dx ≠ x →
    spDInit cs ac ([V.ref x, V.ref l] ++ []) (upd (upd H dx (.own x)) x (.ins (cD cs ac) dx [])) (fun v H2 => v = .non ∧ Q (.ref x) H2) E := by
  intro x dx hx hdx ne
  have s1 : Same H (upd (upd H dx (.own x)) x (.ins (cD cs ac) dx [])) := same_upd' (same_upd' (Same.refl H) hdx) hx
  refine ⟨x, dx, l, rs, ts, rfl, upd_same, s1 _ _ hl, paired_mono (fun _ _ z => z.same (hN.trans s1)) hp, h2, hnd, h10, fun l2 t H' n2 nt g1 g2 g3 g4 => ⟨rfl, ?_⟩⟩
  have s2 : Same H H' := fun b o e => g4 b o (s1 b o e) (ne_of_none e hx)
  refine q x H' hx s2 fun M m1 m2 => TreeAt.fit (k := 11) ⟨dx, l2, t, rs, m2 _ _ (fresh_of hx g1), m2 _ _ (fresh_of (same_none s1 nt) g3), m2 _ _ (fresh_of (same_none s1 n2) g2), paired_mono (fun _ _ z => z.same m1) hp, h2⟩ h10
end
end Bw

set_option Elab.async false
set_option linter.all false
set_option maxRecDepth 100000
set_option maxHeartbeats 4000000
/-! told(), shape() of a tree -/
namespace Bw
open PySem L2
section
variable {P : Program} {w : World} {K : PySem.W.Frag} {mg : Str → Option Value} {base : Heap} {cs : Cl}
theorem TreeAt.two {cs : Cl} {H : Hp} : ∀ {k : Nat} {a : Addr} {tr : Tr}, TreeAt cs H k a tr → tr.two
  | 0, _, _, h => h.elim
  | k + 1, a, .pt n, h => h.2
  | k + 1, a, .doing ac ts, h => by
    obtain ⟨dx, l, t, rs, h1, h2, h3, h4, h5⟩ := h
    refine ⟨h5, ?_⟩
    clear h1 h2 h3 h5
    induction h4 with
    | nil => trivial
    | cons z _ ih => exact ⟨TreeAt.two z, ih⟩
/-! ### bracketed(texts, sign) -/
def tstrs (tss : List (List Nat)) : List V := (tss.map sx).map V.str
theorem tstrs_len (tss : List (List Nat)) : (tstrs tss).length = tss.length := by simp [tstrs]
theorem tstrs_snoc (tss : List (List Nat)) (t : List Nat) : tstrs tss ++ [V.str (sx t)] = tstrs (tss ++ [t]) := by simp [tstrs]
def spBrk (K : PySem.W.Frag) : Sp := fun vs H Q _ => ∃ (l : Addr) (tss : List (List Nat)) (c : Nat), vs = [.ref l, .str (sx [c])] ∧ SqL K H l (tstrs tss) ∧ (tss.map (·.length)).sum + tss.length ≤ 1000 ∧ Q (.str (sx (brkC (joinC c tss)))) H
theorem scBracketed : FnScope ["texts", "sign", "inner"] ["texts", "sign"] (defScope sBracketed) := ⟨rfl, rfl, rfl, by decide +kernel, rfl, by decide +kernel, by decide +kernel⟩
theorem brk_sx (x : List Nat) : ((Str.empty ++ Str.ofString "(") ++ sx x) ++ Str.ofString ")" = sx (brkC x) := by
  have e0 : Str.empty = sx [] := rfl
  have e1 : Str.ofString "(" = sx [40] := by decide +kernel
  have e2 : Str.ofString ")" = sx [41] := by decide +kernel
  rw [e0, e1, e2, sx_app, sx_app, sx_app]
  rfl
theorem paren_len : (Str.ofString "(").length = 1 ∧ (Str.ofString ")").length = 1 := by decide +kernel
theorem ok_brk (T : Txt K mg cs) : Cal P w K mg base 1 "bracketed" ["texts", "sign"] (spBrk K) := by
  refine T.bracketed.cal scBracketed (fun vs H Q E h => ?_) (fun f cdv A outer s H vs Q E hr h => ?_)
  · obtain ⟨l, tss, c, rfl, _⟩ := h
    rfl
  · obtain ⟨l, tss, c, rfl, hl, hs, k⟩ := h
    refine ⟨_, pss_cons (ps_set (i := 2) scBracketed.nd rfl (Or.inl rfl) (pe_bm PySem.F.plainAttrs_str PySem.F.slot_str_join PySem.F.type_str_join (mt_join K) (pv 1) (pa_cons (pv 0) pa_nil)))
      (pss_one (ps_ret (pe_fs (pv 2) (by rw [paren_len.1]; decide)))), ?_⟩
    have hm : (((tss.map sx).map (·.length)).sum) = (tss.map (·.length)).sum := by
      rw [List.map_map]
      congr 1
    refine ⟨_, rfl, rfl, _, rfl, sx [c], l, tss.map sx, rfl, rfl, hl, ?_, ?_⟩
    · rw [hm, List.length_map, sx_len]
      show _ + tss.length * 1 ≤ _
      omega
    · rw [join_sx]
      have hj := joinC_len c tss
      refine ⟨_, rfl, _, rfl, ?_, ?_⟩
      · rw [paren_len.1, paren_len.2, sx_len]
        omega
      · rw [brk_sx]
        exact k

/-! ### sign() -/
theorem scBSign : FnScope ["self"] ["self"] (defScope sBesideSign) := ⟨rfl, rfl, rfl, by decide +kernel, rfl, by decide +kernel, by decide +kernel⟩
theorem scASign : FnScope ["self"] ["self"] (defScope sAcrossSign) := ⟨rfl, rfl, rfl, by decide +kernel, rfl, by decide +kernel, by decide +kernel⟩
theorem sgn_sx : Str.ofString "+" = sx [43] ∧ Str.ofString "*" = sx [42] := by decide +kernel
theorem sign_ok (T : Txt K mg cs) {a dx l t : Addr} {ac : Bool} {H : Hp} {Q : VK} (h : H a = some (.ins (cD cs ac) dx (fD l t))) (q : Q (.str (sx [sgnC ac])) H) : Asked P w K mg base 1 "sign" a H Q := by
  refine ⟨_, dx, _, h, fD_no _ _ (by decide +kernel) (by decide +kernel), fun A hr => ⟨(T.ownD ac).cl, ?_⟩⟩
  cases ac with
  | false =>
    obtain ⟨f, fd, hm, F, hb⟩ := T.mBesideSign
    refine ⟨f, fd, ["self"], 1, fun vs H Q _ => ∃ a : Addr, vs = [.ref a] ∧ Q (.str (sx [43])) H, hm, ?_, hr, hb, a, rfl, q⟩
    refine F.ok scBSign (fun vs H Q E h => ?_) (fun cdv A outer s H vs Q E hr h => ?_)
    · obtain ⟨a, rfl, _⟩ := h
      rfl
    · obtain ⟨a, rfl, q⟩ := h
      refine ⟨_, pss_one (ps_ret pe_str), ?_⟩
      rw [← sgn_sx.1] at q
      exact q
  | true =>
    obtain ⟨f, fd, hm, F, hb⟩ := T.mAcrossSign
    refine ⟨f, fd, ["self"], 1, fun vs H Q _ => ∃ a : Addr, vs = [.ref a] ∧ Q (.str (sx [42])) H, hm, ?_, hr, hb, a, rfl, q⟩
    refine F.ok scASign (fun vs H Q E h => ?_) (fun cdv A outer s H vs Q E hr h => ?_)
    · obtain ⟨a, rfl, _⟩ := h
      rfl
    · obtain ⟨a, rfl, q⟩ := h
      refine ⟨_, pss_one (ps_ret pe_str), ?_⟩
      rw [← sgn_sx.2] at q
      exact q
theorem Txt.mTold (T : Txt K mg cs) (ac : Bool) : MethT K (cD cs ac) "told" "Doing.told" sDoingTold ["self"] := by
  cases ac
  · exact T.mBesideTold
  · exact T.mAcrossTold
/-! ### told() -/
def gotTold (H : Hp) (tr : Tr) (Q : VK) : Prop := ∀ H', Same H H' → Q (.str (sx tr.told)) H'
theorem scPointTold : FnScope ["self"] ["self"] (defScope sPointTold) := ⟨rfl, rfl, rfl, by decide +kernel, rfl, by decide +kernel, by decide +kernel⟩
theorem scDoingTold : FnScope ["self"] ["self"] (defScope sDoingTold) := ⟨rfl, rfl, rfl, by decide +kernel, rfl, by decide +kernel, by decide +kernel⟩
def cDoingTold1 : Scope := { kind := .function, names := [(Str.ofString ".0", .local), (Str.ofString "tree", .local)], isGenerator := false, isCoroutine := false, more := [] }
theorem cDoingTold1s : CScope ["self"] (defScope sDoingTold) cDoingTold1 ["tree"] [] := ⟨rfl, by decide +kernel, by decide +kernel, by decide +kernel, by decide, by decide +kernel, by decide +kernel⟩
theorem toldL_take {ts : List Tr} {i : Nat} {tr : Tr} (h : ts[i]? = some tr) : toldL (ts.take (i + 1)) = toldL (ts.take i) ++ [tr.told] := by
  rw [toldL_map, toldL_map, List.take_add_one, h, List.map_append]
  rfl
theorem told_all (T : Txt K mg cs) : ∀ (k : Nat) {a : Addr} {tr : Tr} {H : Hp} {Q : VK}, TreeAt cs H k a tr → tr.pts.length ≤ 10 → gotTold H tr Q → Asked P w K mg base (k + 1) "told" a H Q
  | 0, _, _, _, _, h, _, _ => h.elim
  | k + 1, a, .pt n, H, Q, h, _, q => by
    obtain ⟨⟨dx, e⟩, hn⟩ := h
    obtain ⟨f, fd, hm, F, hb⟩ := T.mPointTold
    refine ⟨cs.Point, dx, _, e, fP_no _ (by decide +kernel), fun A hr => ⟨T.oPoint.cl, f, fd, ["self"], 1, fun vs H Q _ => ∃ (a dx : Addr) (n : Nat), vs = [.ref a] ∧ H a = some (.ins cs.Point dx (fP (n : Int))) ∧ n < 10 ∧ gotTold H (.pt n) Q, hm, ?_, hr.mono (by omega), hb, a, dx, n, rfl, e, hn, q⟩⟩
    refine F.ok scPointTold (fun vs H Q E h => ?_) (fun cdv A outer s H vs Q E hr h => ?_)
    · obtain ⟨a, dx, n, rfl, _⟩ := h
      rfl
    · obtain ⟨a, dx, n, rfl, e, hn, q⟩ := h
      refine ⟨_, (pss_one (ps_ret (pe_callTy call_str_int (by rfl) T.str PyProof.Rows.boot_str (pa_cons (pe_fld (pv 0) rfl) pa_nil)))), ?_⟩
      refine ⟨_, rfl, a, cs.Point, dx, _, _, rfl, e, T.oPoint.cl, T.nPointAt, fP_at _, _, rfl, ?_, ?_⟩
      · rw [Int.natAbs_natCast]
        exact Nat.lt_of_le_of_lt (Nat.log2_le_self n) (by omega)
      · have := q H (Same.refl H)
        rw [show (Tr.pt n).told = [48 + n] from rfl, ← fig_sx n hn] at this
        exact this
  | k + 1, a, .doing ac ts, H, Q, h, hl, q => by
    have htwo := h.two
    obtain ⟨dx, l, t, rs, e, ht, hlst, hp, h2⟩ := h
    have CBracketed : Cal P w K mg base (k + 1) "bracketed" ["texts", "sign"] (spBrk K) := (ok_brk T).mono (by omega)
    obtain ⟨f, fd, hm, F, hb⟩ := T.mTold ac
    refine ⟨_, dx, _, e, fD_no _ _ (by decide +kernel) (by decide +kernel), fun A hr => ⟨(T.ownD ac).cl, f, fd, ["self"], k + 1 + 1,
      fun vs H Q _ => ∃ (a dx l t : Addr) (rs : List Addr) (ts : List Tr), vs = [.ref a] ∧ H a = some (.ins (cD cs ac) dx (fD l t)) ∧ H t = some (.tup (rs.map V.ref)) ∧ Paired (TreeAt cs H k) rs ts ∧ (ptsL ts).length ≤ 10 ∧ (Tr.doing ac ts).two ∧ gotTold H (.doing ac ts) Q,
      hm, ?_, hr, hb, a, dx, l, t, rs, ts, rfl, e, ht, hp, hl, htwo, q⟩⟩
    refine F.ok scDoingTold (fun vs H Q E h => ?_) (fun cdv A outer s H vs Q E hr h => ?_)
    · obtain ⟨a, dx, l, t, rs, ts, rfl, _⟩ := h
      rfl
    · obtain ⟨a, dx, l, t, rs, ts, rfl, e, ht, hp, hl, htwo, q⟩ := h
      refine ⟨_, (pss_one (ps_ret (pe_cal CBracketed hr (by rfl) (pa_cons (pe_comp (sc := cDoingTold1) rfl (pi_tupK K (pe_fld (pv 0) rfl)) cDoingTold1s (fun _ _ _ _ => (pg_name (i := 0) cDoingTold1s.nd rfl (Or.inl rfl))) (fun _ _ _ _ => pif_nil) (fun _ _ _ _ => (pe_md0 P w K mg base _ (pv 0)))) (pa_cons (pe_md0 P w K mg base _ (pv 0)) pa_nil))))), ?_⟩
      have hrl := paired_len hp
      have h2' : 2 ≤ ts.length ∧ twoL ts := htwo
      have hge : ts.length ≤ (ptsL ts).length := by
        have := toldL_len ts h2'.2
        have h3 : ∀ l : List Tr, twoL l → l.length ≤ (ptsL l).length := by
          intro l
          induction l with
          | nil => exact fun _ => Nat.le_refl _
          | cons u l ih =>
            intro hu
            have hu' : u.two ∧ twoL l := hu
            show l.length + 1 ≤ (u.pts ++ ptsL l).length
            rw [List.length_append]
            have := told_len u hu'.1
            have := ih hu'.2
            omega
        exact h3 ts h2'.2
      refine ⟨_, rfl, a, _, dx, _, _, rfl, e, (T.ownD ac).cl, T.nL ac, fD_laid _ _, t, rfl, ⟨_, SqT.of ht⟩, comp_tup (K := K) (a := t) (xs := rs.map V.ref) (fun i ys H1 => ys = tstrs (toldL (ts.take i)) ∧ Same H H1) ⟨rfl, Same.refl H⟩ (by rw [List.length_map, sizeLine_eq]; omega) (fun i ys H1 _ h => SqT.of (h.2 _ _ ht)) ?_ ?_⟩
      · rintro i x ys H1 hx hlt ⟨rfl, sm⟩ hyl hys
        obtain ⟨r, hr1, rfl⟩ := ref_at hx
        obtain ⟨tr, htr, hT⟩ := paired_get hp hr1
        have b1 := ptsL_mem htr
        refine gset ?_
        refine yes ?_
        refine iteT ?_
        refine ⟨_, rfl, asked_use (told_all T k (hT.same sm) (by omega) fun H2 s2 => ⟨hys, Pn.snoc hlt hyl ⟨?_, sm.trans s2⟩⟩) hr⟩
        rw [tstrs_snoc, toldL_take htr]
      · rintro ys H1 ⟨rfl, sm⟩ hyl l2 hl2
        rw [List.length_map, hrl, List.take_length]
        have s2 := same_upd (o := .lst (tstrs (toldL ts))) sm hl2
        refine ⟨_, rfl, asked_use (Asked.mono (sign_ok T (s2 _ _ e) ?_) (by omega)) hr⟩
        have hs := toldL_len ts h2'.2
        refine ⟨l2, toldL ts, _, rfl, SqL.of upd_same, ?_, q _ s2⟩
        have : (toldL ts).length = ts.length := by rw [toldL_map, List.length_map]
        omega

end
end Bw

set_option Elab.async false
set_option linter.all false
set_option maxRecDepth 100000
set_option maxHeartbeats 4000000
/-! notes: Bracket, Reader -/
namespace Bw
open PySem L2
/-! ### how the heap bears a reading's state -/
def sgT (c : Nat) : List Nat := if c = 0 then [] else [c]
def fB (l : Addr) (z : Str) : List (Str × V) := putF "between" (.str z) (putF "inner" (.ref l) [])
theorem ib_ne : ¬ (("inner" : Str) = "between") := by decide +kernel
theorem fB_inner (l : Addr) (z : Str) : (fB l z).lookup ("inner" : Str) = some (.ref l) := by
  unfold fB
  rw [lookup_putF, if_neg ib_ne, lookup_putF, if_pos rfl]
theorem fB_between (l : Addr) (z : Str) : (fB l z).lookup ("between" : Str) = some (.str z) := by
  unfold fB
  rw [lookup_putF, if_pos rfl]
theorem fB_no (l : Addr) (z : Str) {m : Str} (h1 : ¬ m = "between") (h2 : ¬ m = "inner") : (fB l z).lookup m = none := by
  unfold fB
  rw [lookup_putF, if_neg h1, lookup_putF, if_neg h2]
  rfl
theorem fB_put (l : Addr) (z y : Str) : putF "between" (.str y) (fB l z) = fB l y := by
  unfold fB
  simp only [putF, if_neg ib_ne, if_true]
theorem fB_len (l : Addr) (z : Str) : (fB l z).length < 1000 := by
  unfold fB
  simp only [putF, if_neg ib_ne]
  show 2 < 1000
  decide
def fRd (ol : Addr) (g : List Nat) (d : Bool) (v : V) : List (Str × V) := putF "whole" v (putF "due" (.bl d) (putF "figures" (.str (sx g)) (putF "opened" (.ref ol) [])))
theorem rd_ne : ¬ (("opened" : Str) = "figures") ∧ ¬ (("opened" : Str) = "due") ∧ ¬ (("opened" : Str) = "whole") ∧ ¬ (("figures" : Str) = "due") ∧ ¬ (("figures" : Str) = "whole") ∧ ¬ (("due" : Str) = "whole") := by decide +kernel
theorem fRd_eq (ol : Addr) (g : List Nat) (d : Bool) (v : V) : fRd ol g d v = [(("opened" : Str), .ref ol), (("figures" : Str), .str (sx g)), (("due" : Str), .bl d), (("whole" : Str), v)] := by
  unfold fRd
  simp only [putF, if_neg rd_ne.1, if_neg rd_ne.2.1, if_neg rd_ne.2.2.1, if_neg rd_ne.2.2.2.1, if_neg rd_ne.2.2.2.2.1, if_neg rd_ne.2.2.2.2.2]
theorem fRd_opened (ol : Addr) (g : List Nat) (d : Bool) (v : V) : (fRd ol g d v).lookup ("opened" : Str) = some (.ref ol) := by
  unfold fRd
  rw [lookup_putF, if_neg rd_ne.2.2.1, lookup_putF, if_neg rd_ne.2.1, lookup_putF, if_neg rd_ne.1, lookup_putF, if_pos rfl]
theorem fRd_figures (ol : Addr) (g : List Nat) (d : Bool) (v : V) : (fRd ol g d v).lookup ("figures" : Str) = some (.str (sx g)) := by
  unfold fRd
  rw [lookup_putF, if_neg rd_ne.2.2.2.2.1, lookup_putF, if_neg rd_ne.2.2.2.1, lookup_putF, if_pos rfl]
theorem fRd_due (ol : Addr) (g : List Nat) (d : Bool) (v : V) : (fRd ol g d v).lookup ("due" : Str) = some (.bl d) := by
  unfold fRd
  rw [lookup_putF, if_neg rd_ne.2.2.2.2.2, lookup_putF, if_pos rfl]
theorem fRd_whole (ol : Addr) (g : List Nat) (d : Bool) (v : V) : (fRd ol g d v).lookup ("whole" : Str) = some v := by
  unfold fRd
  rw [lookup_putF, if_pos rfl]
theorem fRd_no (ol : Addr) (g : List Nat) (d : Bool) (v : V) {m : Str} (h1 : ¬ m = "whole") (h2 : ¬ m = "due") (h3 : ¬ m = "figures") (h4 : ¬ m = "opened") : (fRd ol g d v).lookup m = none := by
  unfold fRd
  rw [lookup_putF, if_neg h1, lookup_putF, if_neg h2, lookup_putF, if_neg h3, lookup_putF, if_neg h4]
  rfl
theorem fRd_len (ol : Addr) (g : List Nat) (d : Bool) (v : V) : (fRd ol g d v).length < 1000 := by
  rw [fRd_eq]
  show 4 < 1000
  decide
theorem fRd_pdue (ol : Addr) (g : List Nat) (d e : Bool) (v : V) : putF "due" (.bl e) (fRd ol g d v) = fRd ol g e v := by
  rw [fRd_eq, fRd_eq]
  simp only [putF, if_neg rd_ne.1, if_neg rd_ne.2.1, if_neg rd_ne.2.2.2.1, if_true]
theorem fRd_pfig (ol : Addr) (g g' : List Nat) (d : Bool) (v : V) : putF "figures" (.str (sx g')) (fRd ol g d v) = fRd ol g' d v := by
  rw [fRd_eq, fRd_eq]
  simp only [putF, if_neg rd_ne.1, if_true]
theorem fRd_pwh (ol : Addr) (g : List Nat) (d : Bool) (v u : V) : putF "whole" u (fRd ol g d v) = fRd ol g d u := by
  rw [fRd_eq, fRd_eq]
  simp only [putF, if_neg rd_ne.2.2.1, if_neg rd_ne.2.2.2.2.1, if_neg rd_ne.2.2.2.2.2, if_true]
/-- where a reading writes -/
def wrt (a ol : Addr) (bs : List (Addr × Addr × Addr)) : List Addr := a :: ol :: bs.flatMap fun b => [b.1, b.2.2]
/-- what is new beside that -/
def frM (H0 : Hp) (m : List Addr) (H : Hp) : Hp := fun x => if m.contains x = true then none else if (H0 x).isSome = true then none else H x
theorem frM_some {H0 H : Hp} {m : List Addr} {x : Addr} {o : HO} : frM H0 m H x = some o ↔ x ∉ m ∧ H0 x = none ∧ H x = some o := by
  unfold frM
  by_cases h : x ∈ m
  · rw [if_pos (List.contains_iff_mem.mpr h)]
    exact ⟨(fun z => nomatch z), fun z => absurd h z.1⟩
  · rw [if_neg (fun z => h (List.contains_iff_mem.mp z))]
    cases e : H0 x with
    | none => exact ⟨fun z => ⟨h, rfl, z⟩, fun z => z.2.2⟩
    | some u => exact ⟨(fun z => nomatch z), fun z => nomatch z.2.1⟩
theorem frM_le {H0 H H' : Hp} {m m' : List Addr} (h : ∀ x o, x ∉ m → H0 x = none → H x = some o → x ∉ m' ∧ H' x = some o) : Same (frM H0 m H) (frM H0 m' H') := fun x o e => by
  obtain ⟨e1, e2, e3⟩ := frM_some.mp e
  obtain ⟨z1, z2⟩ := h x o e1 e2 e3
  exact frM_some.mpr ⟨z1, e2, z2⟩
theorem frM_sub {H0 H : Hp} {m : List Addr} : Same (frM H0 m H) H := fun x o e => (frM_some.mp e).2.2
/-- a bracket that is open -/
def BrAt (cs : Cl) (N H : Hp) (b : Addr × Addr × Addr) (s : List Tr × Nat) : Prop := H b.1 = some (.ins cs.Bracket b.2.1 (fB b.2.2 (sx (sgT s.2)))) ∧ ∃ rs : List Addr, H b.2.2 = some (.lst (rs.map V.ref)) ∧ Paired (TreeAt cs N 10) rs s.1
structure RdAt (cs : Cl) (H0 H : Hp) (a : Addr) (st : RS) (dx ol : Addr) (bs : List (Addr × Addr × Addr)) (wv : V) : Prop where
  rd : H a = some (.ins cs.Reader dx (fRd ol st.figs st.due wv))
  op : H ol = some (.lst (bs.map fun b => V.ref b.1))
  br : Paired (BrAt cs (frM H0 (wrt a ol bs) H) H) bs st.opened
  wh : ∀ t, st.whole = some t → ∃ x, wv = .ref x ∧ TreeAt cs (frM H0 (wrt a ol bs) H) 10 x t
  wn : st.whole = none → wv = .non
  nd : (wrt a ol bs).Nodup
  new : ∀ x ∈ wrt a ol bs, H0 x = none
  sm : Same H0 H
theorem BrAt.same {cs : Cl} {N N' H H' : Hp} (n : Same N N') (s : Same H H') {b : Addr × Addr × Addr} {t : List Tr × Nat} (h : BrAt cs N H b t) : BrAt cs N' H' b t := by
  obtain ⟨h1, rs, h2, h3⟩ := h
  exact ⟨s _ _ h1, rs, s _ _ h2, paired_mono (fun _ _ z => z.same n) h3⟩
theorem paired_memL {α β : Type} {F : α → β → Prop} : ∀ {l₁ : List α} {l₂ : List β}, Paired F l₁ l₂ → ∀ x ∈ l₁, ∃ y ∈ l₂, F x y
  | _, _, .cons h t, x, hx => by
    rcases List.mem_cons.mp hx with rfl | hx
    · exact ⟨_, .head _, h⟩
    · obtain ⟨y, hy, hf⟩ := paired_memL t x hx
      exact ⟨y, .tail _ hy, hf⟩
theorem paired_mem_imp {α β : Type} {F G : α → β → Prop} : ∀ {l₁ : List α} {l₂ : List β}, Paired F l₁ l₂ → (∀ a ∈ l₁, ∀ b ∈ l₂, F a b → G a b) → Paired G l₁ l₂
  | _, _, .nil, _ => .nil
  | _, _, .cons h t, f => .cons (f _ (.head _) _ (.head _) h) (paired_mem_imp t fun a ha b hb => f a (.tail _ ha) b (.tail _ hb))
theorem paired_app_inv {α β : Type} {F : α → β → Prop} : ∀ {l₁ : List α} {o : List β} {b : β}, Paired F l₁ (o ++ [b]) → ∃ l x, l₁ = l ++ [x] ∧ Paired F l o ∧ F x b
  | _, [], b, .cons (l₁ := l₁) h t => by
    cases t
    exact ⟨[], _, rfl, .nil, h⟩
  | _, c :: o, b, .cons (a := a) h t => by
    obtain ⟨l, x, rfl, t', hx⟩ := paired_app_inv t
    exact ⟨a :: l, x, rfl, .cons h t', hx⟩
theorem paired_nil_inv {α β : Type} {F : α → β → Prop} {l₁ : List α} (h : Paired F l₁ ([] : List β)) : l₁ = [] := by
  cases h
  rfl
theorem mem_wrt {a ol : Addr} {bs : List (Addr × Addr × Addr)} {x : Addr} : x ∈ wrt a ol bs ↔ x = a ∨ x = ol ∨ ∃ b ∈ bs, x = b.1 ∨ x = b.2.2 := by
  unfold wrt
  simp only [List.mem_cons, List.mem_flatMap, List.not_mem_nil, or_false]
theorem wrt_snoc (a ol : Addr) (bs : List (Addr × Addr × Addr)) (b : Addr × Addr × Addr) : wrt a ol (bs ++ [b]) = wrt a ol bs ++ [b.1, b.2.2] := by
  unfold wrt
  rw [List.flatMap_append]
  rfl
section
variable {cs : Cl} {H0 H H' : Hp} {a dx ol : Addr} {st : RS} {bs : List (Addr × Addr × Addr)} {wv : V}
theorem RdAt.dom (R : RdAt cs H0 H a st dx ol bs wv) : ∀ x ∈ wrt a ol bs, ∃ o, H x = some o := fun x hx => by
  rcases mem_wrt.mp hx with rfl | rfl | ⟨b, hb, h⟩
  · exact ⟨_, R.rd⟩
  · exact ⟨_, R.op⟩
  · obtain ⟨y, _, h1, rs, h2, _⟩ := paired_memL R.br b hb
    rcases h with rfl | rfl
    · exact ⟨_, h1⟩
    · exact ⟨_, h2⟩
/-- new objects beside -/
theorem RdAt.same (R : RdAt cs H0 H a st dx ol bs wv) (s : Same H H') : RdAt cs H0 H' a st dx ol bs wv :=
  have n : Same (frM H0 (wrt a ol bs) H) (frM H0 (wrt a ol bs) H') := frM_le fun x o h1 _ h3 => ⟨h1, s _ _ h3⟩
  ⟨s _ _ R.rd, s _ _ R.op, paired_mono (fun _ _ z => z.same n s) R.br, fun t e => let ⟨x, h1, h2⟩ := R.wh t e; ⟨x, h1, h2.same n⟩, R.wn, R.nd, R.new, R.sm.trans s⟩
/-- what is new lies beside -/
theorem RdAt.fresh (R : RdAt cs H0 H a st dx ol bs wv) : Same (fresh H H') (frM H0 (wrt a ol bs) H') := fun x o e => by
  obtain ⟨e1, e2⟩ := fresh_some e
  refine frM_some.mpr ⟨fun z => ?_, same_none R.sm e1, e2⟩
  obtain ⟨u, hu⟩ := R.dom x z
  rw [hu] at e1
  cases e1
/-- the reader's own fields written -/
theorem RdAt.own (R : RdAt cs H0 H a st dx ol bs wv) {st' : RS} {wv' : V} (ho : st'.opened = st.opened) (hw : ∀ t, st'.whole = some t → ∃ x, wv' = .ref x ∧ TreeAt cs (frM H0 (wrt a ol bs) H) 10 x t) (hn : st'.whole = none → wv' = .non) :
    RdAt cs H0 (upd H a (.ins cs.Reader dx (fRd ol st'.figs st'.due wv'))) a st' dx ol bs wv' := by
  have hnd := R.nd
  unfold wrt at hnd
  have hna : a ∉ ol :: bs.flatMap fun b => [b.1, b.2.2] := (List.nodup_cons.mp hnd).1
  have hk : ∀ x o, x ≠ a → H x = some o → upd H a (.ins cs.Reader dx (fRd ol st'.figs st'.due wv')) x = some o := fun x o n e => by rw [upd_ne n]; exact e
  have n : Same (frM H0 (wrt a ol bs) H) (frM H0 (wrt a ol bs) (upd H a (.ins cs.Reader dx (fRd ol st'.figs st'.due wv')))) := frM_le fun x o h1 _ h3 => ⟨h1, hk _ _ (fun z => h1 (mem_wrt.mpr (.inl z))) h3⟩
  refine ⟨upd_same, hk _ _ (fun z => hna (by rw [z]; exact .head _)) R.op, ?_, fun t e => let ⟨x, h1, h2⟩ := hw t e; ⟨x, h1, h2.same n⟩, hn, R.nd, R.new, fun x o e => hk _ _ (ne_of_none e (R.new a (mem_wrt.mpr (.inl rfl)))) (R.sm _ _ e)⟩
  rw [ho]
  refine paired_mem_imp R.br fun b hb s _ hB => ?_
  obtain ⟨h1, rs, h2, h3⟩ := hB
  have m1 : b.1 ∈ bs.flatMap fun b => [b.1, b.2.2] := List.mem_flatMap.mpr ⟨b, hb, .head _⟩
  have m2 : b.2.2 ∈ bs.flatMap fun b => [b.1, b.2.2] := List.mem_flatMap.mpr ⟨b, hb, .tail _ (.head _)⟩
  exact ⟨hk _ _ (fun z => hna (by rw [← z]; exact .tail _ m1)) h1, rs, hk _ _ (fun z => hna (by rw [← z]; exact .tail _ m2)) h2, paired_mono (fun _ _ z => z.same n) h3⟩
end
end Bw

set_option Elab.async false
set_option linter.all false
set_option maxRecDepth 100000
set_option maxHeartbeats 4000000
/-! notes: what the writing does to a reading's state -/
namespace Bw
open PySem L2
section
variable {cs : Cl} {H0 H H' : Hp} {a dx ol : Addr} {st : RS} {bs l : List (Addr × Addr × Addr)} {b : Addr × Addr × Addr} {wv : V}
theorem wrt_last {a ol : Addr} {l : List (Addr × Addr × Addr)} {b : Addr × Addr × Addr} (nd : (wrt a ol (l ++ [b])).Nodup) : (wrt a ol l).Nodup ∧ b.1 ≠ b.2.2 ∧ ∀ u ∈ wrt a ol l, u ≠ b.1 ∧ u ≠ b.2.2 := by
  rw [wrt_snoc] at nd
  obtain ⟨n1, n2, n3⟩ := List.nodup_append.mp nd
  refine ⟨n1, fun z => ?_, fun u hu => ⟨n3 u hu b.1 (.head _), n3 u hu b.2.2 (.tail _ (.head _))⟩⟩
  have := (List.nodup_cons.mp n2).1
  exact this (by rw [z]; exact .head _)
theorem ol_ne {a ol : Addr} {bs : List (Addr × Addr × Addr)} (nd : (wrt a ol bs).Nodup) : a ≠ ol ∧ ∀ b ∈ bs, b.1 ≠ ol ∧ b.2.2 ≠ ol := by
  unfold wrt at nd
  obtain ⟨n1, n2⟩ := List.nodup_cons.mp nd
  obtain ⟨n3, n4⟩ := List.nodup_cons.mp n2
  refine ⟨fun z => n1 (by rw [z]; exact .head _), fun b hb => ⟨fun z => n3 ?_, fun z => n3 ?_⟩⟩
  · rw [← z]; exact List.mem_flatMap.mpr ⟨b, hb, .head _⟩
  · rw [← z]; exact List.mem_flatMap.mpr ⟨b, hb, .tail _ (.head _)⟩
/-- the brackets ahead, when one of the other places is written -/
theorem brs_keep {N N' : Hp} {o : List (List Tr × Nat)} {y : Addr} {u : HO} (p : Paired (BrAt cs N H) l o) (n : Same N N') (h : ∀ b ∈ l, b.1 ≠ y ∧ b.2.2 ≠ y) : Paired (BrAt cs N' (upd H y u)) l o := by
  refine paired_mem_imp p fun b hb s _ hB => ?_
  obtain ⟨h1, rs, h2, h3⟩ := hB
  exact ⟨by rw [upd_ne (h b hb).1]; exact h1, rs, by rw [upd_ne (h b hb).2]; exact h2, paired_mono (fun _ _ z => z.same n) h3⟩
theorem frM_wr {m : List Addr} {y : Addr} {u : HO} (h : y ∈ m) : Same (frM H0 m H) (frM H0 m (upd H y u)) := frM_le fun x o h1 _ h3 => ⟨h1, by rw [upd_ne (fun z => h1 (by rw [z]; exact h))]; exact h3⟩
theorem sm_wr {y : Addr} {u : HO} (s : Same H0 H) (h : H0 y = none) : Same H0 (upd H y u) := fun x o e => by
  rw [upd_ne (ne_of_none e h)]
  exact s _ _ e
theorem mem_l {a ol : Addr} {l : List (Addr × Addr × Addr)} {c : Addr × Addr × Addr} (h : c ∈ l) : c.1 ∈ wrt a ol l ∧ c.2.2 ∈ wrt a ol l := ⟨mem_wrt.mpr (.inr (.inr ⟨c, h, .inl rfl⟩)), mem_wrt.mpr (.inr (.inr ⟨c, h, .inr rfl⟩))⟩
/-- a tree behind the last bracket's others -/
theorem RdAt.inner (R : RdAt cs H0 H a st dx ol (l ++ [b]) wv) {o : List (List Tr × Nat)} {s : List Tr × Nat} (ho : st.opened = o ++ [s]) {rs : List Addr} (hl : H b.2.2 = some (.lst (rs.map V.ref))) (hp : Paired (TreeAt cs (frM H0 (wrt a ol (l ++ [b])) H) 10) rs s.1) {x : Addr} {t : Tr}
    (hT : TreeAt cs (frM H0 (wrt a ol (l ++ [b])) H) 10 x t) : RdAt cs H0 (upd H b.2.2 (.lst (rs.map V.ref ++ [V.ref x]))) a { st with opened := o ++ [(s.1 ++ [t], s.2)] } dx ol (l ++ [b]) wv := by
  obtain ⟨n1, n2, n3⟩ := wrt_last R.nd
  have hm : b.2.2 ∈ wrt a ol (l ++ [b]) := (mem_l (List.mem_append_right _ (.head _))).2
  have n := frM_wr (H0 := H0) (H := H) (u := HO.lst (rs.map V.ref ++ [V.ref x])) hm
  have ha := (n3 a (mem_wrt.mpr (.inl rfl))).2
  have hol := (n3 ol (mem_wrt.mpr (.inr (.inl rfl)))).2
  have br := R.br
  rw [ho] at br
  obtain ⟨l', b', el, p1, p2⟩ := paired_app_inv br
  obtain ⟨rfl, e2⟩ := List.append_inj' el rfl
  obtain rfl : b = b' := by simpa using e2
  refine ⟨by rw [upd_ne ha]; exact R.rd, by rw [upd_ne hol]; exact R.op, ?_, fun t e => let ⟨y, h1, h2⟩ := R.wh t e; ⟨y, h1, h2.same n⟩, R.wn, R.nd, R.new, sm_wr R.sm (R.new _ hm)⟩
  refine paired_snoc (brs_keep p1 n fun c hc => ⟨(n3 _ (mem_l hc).1).2, (n3 _ (mem_l hc).2).2⟩) ⟨by rw [upd_ne n2]; exact p2.1, rs ++ [x], by rw [upd_same, List.map_append]; rfl, ?_⟩
  exact paired_snoc (paired_mono (fun _ _ z => z.same n) hp) (hT.same n)
/-- the last bracket's sign -/
theorem RdAt.sign (R : RdAt cs H0 H a st dx ol (l ++ [b]) wv) {o : List (List Tr × Nat)} {s : List Tr × Nat} (ho : st.opened = o ++ [s]) (c : Nat) :
    RdAt cs H0 (upd H b.1 (.ins cs.Bracket b.2.1 (fB b.2.2 (sx (sgT c))))) a { st with opened := o ++ [(s.1, c)] } dx ol (l ++ [b]) wv := by
  obtain ⟨n1, n2, n3⟩ := wrt_last R.nd
  have hm : b.1 ∈ wrt a ol (l ++ [b]) := (mem_l (List.mem_append_right _ (.head _))).1
  have n := frM_wr (H0 := H0) (H := H) (u := HO.ins cs.Bracket b.2.1 (fB b.2.2 (sx (sgT c)))) hm
  have ha := (n3 a (mem_wrt.mpr (.inl rfl))).1
  have hol := (n3 ol (mem_wrt.mpr (.inr (.inl rfl)))).1
  have br := R.br
  rw [ho] at br
  obtain ⟨l', b', el, p1, p2⟩ := paired_app_inv br
  obtain ⟨rfl, e2⟩ := List.append_inj' el rfl
  obtain rfl : b = b' := by simpa using e2
  refine ⟨by rw [upd_ne ha]; exact R.rd, by rw [upd_ne hol]; exact R.op, ?_, fun t e => let ⟨y, h1, h2⟩ := R.wh t e; ⟨y, h1, h2.same n⟩, R.wn, R.nd, R.new, sm_wr R.sm (R.new _ hm)⟩
  obtain ⟨q1, rs, q2, q3⟩ := p2
  exact paired_snoc (brs_keep p1 n fun c hc => ⟨(n3 _ (mem_l hc).1).1, (n3 _ (mem_l hc).2).1⟩) ⟨upd_same, rs, by rw [upd_ne (Ne.symm n2)]; exact q2, paired_mono (fun _ _ z => z.same n) q3⟩
/-- the last bracket taken off -/
theorem RdAt.pop (R : RdAt cs H0 H a st dx ol (l ++ [b]) wv) {o : List (List Tr × Nat)} {s : List Tr × Nat} (ho : st.opened = o ++ [s]) :
    RdAt cs H0 (upd H ol (.lst (l.map fun b => V.ref b.1))) a { st with opened := o } dx ol l wv := by
  obtain ⟨n1, n2, n3⟩ := wrt_last R.nd
  obtain ⟨k1, k2⟩ := ol_ne n1
  have hm : ol ∈ wrt a ol l := mem_wrt.mpr (.inr (.inl rfl))
  have sub : ∀ x, x ∈ wrt a ol l → x ∈ wrt a ol (l ++ [b]) := fun x hx => by rw [wrt_snoc]; exact List.mem_append_left _ hx
  have n : Same (frM H0 (wrt a ol (l ++ [b])) H) (frM H0 (wrt a ol l) (upd H ol (.lst (l.map fun b => V.ref b.1)))) := frM_le fun x u h1 _ h3 => ⟨fun z => h1 (sub x z), by rw [upd_ne (fun z => h1 (sub x (by rw [z]; exact hm)))]; exact h3⟩
  have br := R.br
  rw [ho] at br
  obtain ⟨l', b', el, p1, p2⟩ := paired_app_inv br
  obtain ⟨rfl, e2⟩ := List.append_inj' el rfl
  exact ⟨by rw [upd_ne k1]; exact R.rd, upd_same, brs_keep p1 n k2, fun t e => let ⟨y, h1, h2⟩ := R.wh t e; ⟨y, h1, h2.same n⟩, R.wn, n1, fun x hx => R.new x (sub x hx), sm_wr R.sm (R.new _ (sub _ hm))⟩
/-- a new bracket opened -/
theorem RdAt.push (R : RdAt cs H0 H a st dx ol bs wv) {x dy y : Addr} (s : Same H H') (hx : H x = none) (hy : H y = none) (e1 : H' x = some (.ins cs.Bracket dy (fB y (sx [])))) (e2 : H' y = some (.lst [])) :
    RdAt cs H0 (upd H' ol (.lst ((bs.map fun b => V.ref b.1) ++ [V.ref x]))) a { st with opened := st.opened ++ [([], 0)] } dx ol (bs ++ [(x, dy, y)]) wv := by
  have R1 := R.same s
  obtain ⟨k1, k2⟩ := ol_ne R.nd
  have hm : ol ∈ wrt a ol bs := mem_wrt.mpr (.inr (.inl rfl))
  have nx : ∀ u ∈ wrt a ol bs, u ≠ x ∧ u ≠ y := fun u hu => by
    obtain ⟨v, hv⟩ := R.dom u hu
    exact ⟨ne_of_none hv hx, ne_of_none hv hy⟩
  have xy : x ≠ y := fun z => by
    rw [z, e2] at e1
    cases e1
  have n : Same (frM H0 (wrt a ol bs) H) (frM H0 (wrt a ol (bs ++ [(x, dy, y)])) (upd H' ol (.lst ((bs.map fun b => V.ref b.1) ++ [V.ref x])))) := frM_le fun z u h1 _ h3 => by
    refine ⟨fun w => ?_, by rw [upd_ne (fun w => h1 (by rw [w]; exact hm))]; exact s _ _ h3⟩
    rw [wrt_snoc] at w
    rcases List.mem_append.mp w with w | w
    · exact h1 w
    · rcases List.mem_cons.mp w with w | w
      · rw [w, hx] at h3; cases h3
      · rw [List.mem_singleton.mp w, hy] at h3; cases h3
  refine ⟨by rw [upd_ne k1]; exact s _ _ R.rd, by rw [upd_same, List.map_append]; rfl, ?_, fun t e => let ⟨y, h1, h2⟩ := R.wh t e; ⟨y, h1, h2.same n⟩, R.wn, ?_, ?_, sm_wr (R.sm.trans s) (R.new _ hm)⟩
  · refine paired_snoc ?_ ⟨by rw [upd_ne (Ne.symm (nx ol hm).1)]; exact e1, [], by rw [upd_ne (Ne.symm (nx ol hm).2)]; exact e2, .nil⟩
    refine paired_mem_imp R.br fun b hb t _ hB => ?_
    obtain ⟨h1, rs, h2, h3⟩ := hB
    exact ⟨by rw [upd_ne (k2 b hb).1]; exact s _ _ h1, rs, by rw [upd_ne (k2 b hb).2]; exact s _ _ h2, paired_mono (fun _ _ z => z.same n) h3⟩
  · rw [wrt_snoc]
    refine List.nodup_append.mpr ⟨R.nd, by simpa using xy, fun u hu v hv => ?_⟩
    rcases List.mem_cons.mp hv with rfl | hv
    · exact (nx u hu).1
    · rw [List.mem_singleton.mp hv]; exact (nx u hu).2
  · rw [wrt_snoc]
    intro u hu
    rcases List.mem_append.mp hu with hu | hu
    · exact R.new u hu
    · rcases List.mem_cons.mp hu with rfl | hu
      · exact same_none R.sm hx
      · rw [List.mem_singleton.mp hu]; exact same_none R.sm hy
end
end Bw

set_option Elab.async false
set_option linter.all false
set_option maxRecDepth 100000
set_option maxHeartbeats 4000000
/-! notes: the methods of Bracket and Reader -/
namespace Bw
open PySem L2
theorem em_sx : Str.ofString "" = sx [] ∧ Str.ofString "(" = sx [40] ∧ Str.ofString ")" = sx [41] ∧ Str.ofString "+" = sx [43] ∧ Str.ofString "*" = sx [42] ∧ Str.ofString "0123456789" = sx [48, 49, 50, 51, 52, 53, 54, 55, 56, 57] := by decide +kernel
theorem dec_sx (x y : List Nat) : decide (V.str (sx x) = V.str (sx y)) = decide (x = y) := by
  by_cases h : x = y
  · rw [h]; simp
  · rw [decide_eq_false h, decide_eq_false]
    intro z
    exact h (sx_inj.mp (V.str.inj z))
theorem beq_sx (x y : List Nat) : (sx x == sx y) = decide (x = y) := by
  by_cases h : x = y
  · rw [h]; simp
  · rw [decide_eq_false h, beq_eq_false_iff_ne]
    intro z
    exact h (sx_inj.mp z)
theorem in_pm (c : Nat) : inV (.str (sx [c])) [.str (Str.ofString "+"), .str (Str.ofString "*")] = decide (c = 43 ∨ c = 42) := by
  rw [em_sx.2.2.2.1, em_sx.2.2.2.2.1]
  show ((sx [43] == sx [c]) || ((sx [42] == sx [c]) || false)) = _
  rw [beq_sx, beq_sx, Bool.or_false]
  by_cases h1 : c = 43
  · subst h1; decide
  · by_cases h2 : c = 42
    · subst h2; decide
    · rw [decide_eq_false (by simpa using Ne.symm h1), decide_eq_false (by simpa using Ne.symm h2), decide_eq_false (by rintro (z | z); exact h1 z; exact h2 z)]
      rfl
theorem in_be (sg c : Nat) : inV (.str (sx (sgT sg))) [.str (Str.ofString ""), .str (sx [c])] = decide (sg = 0 ∨ sg = c) := by
  rw [em_sx.1]
  show ((sx [] == sx (sgT sg)) || ((sx [c] == sx (sgT sg)) || false)) = _
  rw [beq_sx, beq_sx, Bool.or_false]
  unfold sgT
  by_cases h1 : sg = 0
  · subst h1; simp
  · rw [if_neg h1]
    by_cases h2 : sg = c
    · subst h2; simp
    · rw [decide_eq_false (by simp), decide_eq_false (by simpa using Ne.symm h2), decide_eq_false (by rintro (z | z); exact h1 z; exact h2 z)]
      rfl
theorem in_one (c : Nat) (g : List Nat) : (!(Builtin.Str.occurrences (sx g) (sx [c]) 0 (sx g).length 1).isEmpty) = decide (c ∈ g) := by
  have := PySem.StrLaws.found_one (sx g) c
  unfold sx at *
  simpa using this
theorem sgT_em (sg : Nat) : decide (sgT sg = []) = decide (sg = 0) := by
  unfold sgT
  by_cases h : sg = 0
  · simp [h]
  · simp [h]
section
variable {P : Program} {w : World} {K : PySem.W.Frag} {mg : Str → Option Value} {base : Heap} {cs : Cl}
/-! ### Bracket() -/
def spBrInit (cs : Cl) : Sp := fun vs H Q _ => ∃ x dx : Addr, vs = [.ref x] ∧ H x = some (.ins cs.Bracket dx []) ∧ ∀ (l : Addr) (H' : Hp), H l = none → H' x = some (.ins cs.Bracket dx (fB l (sx []))) → H' l = some (.lst []) → (∀ b o, H b = some o → b ≠ x → H' b = some o) → Q .non H'
theorem scBracketInit : FnScope ["self"] ["self"] (defScope sBracketInit) := ⟨rfl, rfl, rfl, by decide +kernel, rfl, by decide +kernel, by decide +kernel⟩
theorem mk_Bracket (T : Txt K mg cs) : Mak P w K mg base 1 "Bracket" cs.Bracket ["self"] (spBrInit cs) := by
  obtain ⟨f, fd, hm, F, hb⟩ := T.mkBracket
  refine ⟨f, fd, T.gBracket, hm, hb, F.ok scBracketInit (fun vs H Q E h => ?_) (fun cdv A outer s H vs Q E hr h => ?_)⟩
  · obtain ⟨x, dx, rfl, _⟩ := h
    rfl
  · obtain ⟨x, dx, rfl, e, k⟩ := h
    refine ⟨_, (pss_cons (ps_fld (pv 0) (pe_lst pa_nil) rfl)
      (pss_one (ps_fld (pv 0) pe_str rfl))), ?_⟩
    refine ⟨Nat.zero_le _, fun l hl => ?_⟩
    have hxl : x ≠ l := ne_of_none e hl
    refine ⟨_, rfl, x, _, dx, _, rfl, (by rw [upd_ne hxl]; exact e), T.oBracket.cl, T.nBracketInner, by decide, ?_⟩
    refine ⟨_, rfl, x, _, dx, _, rfl, upd_same, T.oBracket.cl, T.nBracketBetween, (by show 1 < 1000; decide), ?_⟩
    refine k l _ hl (by rw [upd_same, em_sx.1]; rfl) (by rw [upd_ne (Ne.symm hxl), upd_ne (Ne.symm hxl), upd_same]) fun b o h1 h2 => ?_
    rw [upd_ne h2, upd_ne h2, upd_ne (ne_of_none h1 hl)]
    exact h1
/-! ### Reader() -/
def spRdInit (cs : Cl) : Sp := fun vs H Q _ => ∃ x dx : Addr, vs = [.ref x] ∧ H x = some (.ins cs.Reader dx []) ∧ ∀ (l : Addr) (H' : Hp), H l = none → H' x = some (.ins cs.Reader dx (fRd l [] true .non)) → H' l = some (.lst []) → (∀ b o, H b = some o → b ≠ x → H' b = some o) → Q .non H'
theorem scReaderInit : FnScope ["self"] ["self"] (defScope sReaderInit) := ⟨rfl, rfl, rfl, by decide +kernel, rfl, by decide +kernel, by decide +kernel⟩
theorem mk_Reader (T : Txt K mg cs) : Mak P w K mg base 1 "Reader" cs.Reader ["self"] (spRdInit cs) := by
  obtain ⟨f, fd, hm, F, hb⟩ := T.mkReader
  refine ⟨f, fd, T.gReader, hm, hb, F.ok scReaderInit (fun vs H Q E h => ?_) (fun cdv A outer s H vs Q E hr h => ?_)⟩
  · obtain ⟨x, dx, rfl, _⟩ := h
    rfl
  · obtain ⟨x, dx, rfl, e, k⟩ := h
    refine ⟨_, (pss_cons (ps_fld (pv 0) (pe_lst pa_nil) rfl)
      (pss_cons (ps_fld (pv 0) pe_str rfl)
      (pss_cons (ps_fld (pv 0) pe_bl rfl)
      (pss_one (ps_fld (pv 0) pe_non rfl))))), ?_⟩
    refine ⟨Nat.zero_le _, fun l hl => ?_⟩
    have hxl : x ≠ l := ne_of_none e hl
    refine ⟨_, rfl, x, _, dx, _, rfl, (by rw [upd_ne hxl]; exact e), T.oReader.cl, T.nReaderOpened, by decide, ?_⟩
    refine ⟨_, rfl, x, _, dx, _, rfl, upd_same, T.oReader.cl, T.nReaderFigures, (by show 1 < 1000; decide), ?_⟩
    refine ⟨_, rfl, x, _, dx, _, rfl, upd_same, T.oReader.cl, T.nReaderDue, (by simp only [putF, if_neg rd_ne.1]; show 2 < 1000; decide), ?_⟩
    refine ⟨_, rfl, x, _, dx, _, rfl, upd_same, T.oReader.cl, T.nReaderWhole, (by simp only [putF, if_neg rd_ne.1, if_neg rd_ne.2.1, if_neg rd_ne.2.2.2.1]; show 3 < 1000; decide), ?_⟩
    refine k l _ hl (by rw [upd_same, em_sx.1]; rfl) (by rw [upd_ne (Ne.symm hxl), upd_ne (Ne.symm hxl), upd_ne (Ne.symm hxl), upd_ne (Ne.symm hxl), upd_same]) fun b o h1 h2 => ?_
    rw [upd_ne h2, upd_ne h2, upd_ne h2, upd_ne h2, upd_ne (ne_of_none h1 hl)]
    exact h1
/-! ### goes_on_with(sign) -/
def spGoes (cs : Cl) : Sp := fun vs H Q _ => ∃ (b dx l : Addr) (sg c : Nat), vs = [.ref b, .str (sx [c])] ∧ H b = some (.ins cs.Bracket dx (fB l (sx (sgT sg)))) ∧ ∀ H', Same H H' → Q (.bl (decide ((c = 43 ∨ c = 42) ∧ (sg = 0 ∨ sg = c)))) H'
theorem scBracketGoesOnWith : FnScope ["self", "sign"] ["self", "sign"] (defScope sBracketGoesOnWith) := ⟨rfl, rfl, rfl, by decide +kernel, rfl, by decide +kernel, by decide +kernel⟩
theorem goes_ok (T : Txt K mg cs) : ∃ f fd, Meth K cs.Bracket "goes_on_with" f ∧ Binds K fd ["self", "sign"] [] ∧ FnOk P w K mg base CX0 1 f fd ["self", "sign"] (spGoes cs) := by
  obtain ⟨f, fd, hm, F, hb⟩ := T.mBracketGoesOnWith
  refine ⟨f, fd, hm, hb, F.ok scBracketGoesOnWith (fun vs H Q E h => ?_) (fun cdv A outer s H vs Q E hr h => ?_)⟩
  · obtain ⟨b, dx, l, sg, c, rfl, _⟩ := h
    rfl
  · obtain ⟨b, dx, l, sg, c, rfl, e, k⟩ := h
    refine ⟨_, (pss_one (ps_ret (pe_and (pe_cmpR (op_inK K) (pv 1) (pe_tup (pa_cons pe_str (pa_cons pe_str pa_nil))) rfl) (pe_one (pe_cmpR (op_inK K) (pe_fld (pv 0) rfl) (pe_tup (pa_cons pe_str (pa_cons (pv 1) pa_nil))) rfl))))), ?_⟩
    refine ⟨_, rfl, (by rw [sizeLine_eq]; show 2 ≤ _; decide), fun t ht => ?_⟩
    have s1 := same_upd (o := .tup [.str (Str.ofString "+"), .str (Str.ofString "*")]) (Same.refl H) ht
    refine ⟨t, _, rfl, .inr (SqT.of upd_same), rfl, rfl, _, rfl, ?_⟩
    rw [show (if false = true then !inV (.str (sx [c])) [.str (Str.ofString "+"), .str (Str.ofString "*")] else inV (.str (sx [c])) [.str (Str.ofString "+"), .str (Str.ofString "*")]) = decide (c = 43 ∨ c = 42) from in_pm c]
    by_cases h1 : c = 43 ∨ c = 42
    · refine iteT' (decide_eq_true h1) ?_
      refine ⟨_, rfl, b, _, dx, _, _, rfl, s1 _ _ e, T.oBracket.cl, T.nBracketBetween, fB_between _ _, _, rfl, (by rw [sizeLine_eq]; show 2 ≤ _; decide), fun t2 ht2 => ?_⟩
      refine ⟨t2, _, rfl, .inr (SqT.of upd_same), rfl, rfl, ?_⟩
      have := k _ (same_upd (o := .tup [.str (Str.ofString ""), .str (sx [c])]) s1 ht2)
      rw [show (if false = true then !inV (.str (sx (sgT sg))) [.str (Str.ofString ""), .str (sx [c])] else inV (.str (sx (sgT sg))) [.str (Str.ofString ""), .str (sx [c])]) = decide (sg = 0 ∨ sg = c) from in_be sg c]
      rw [show decide ((c = 43 ∨ c = 42) ∧ (sg = 0 ∨ sg = c)) = decide (sg = 0 ∨ sg = c) by simp [h1]] at this
      exact this
    · refine iteF' (decide_eq_false h1) ?_
      have := k _ s1
      rw [decide_eq_false (fun z => h1 z.1)] at this
      exact this
/-! ### closed() -/
def spClosed (cs : Cl) : Sp := fun vs H Q _ => ∃ (b dx l : Addr) (sg : Nat) (N : Hp) (rs : List Addr) (ts : List Tr), vs = [.ref b] ∧ H b = some (.ins cs.Bracket dx (fB l (sx (sgT sg)))) ∧ (sg = 43 ∨ sg = 42) ∧ Same N H ∧ H l = some (.lst (rs.map V.ref)) ∧ Paired (TreeAt cs N 10) rs ts ∧ 2 ≤ ts.length ∧ (ptsL ts).Nodup ∧ (ptsL ts).length ≤ 10 ∧
  ∀ (x : Addr) (H' : Hp), H x = none → Same H H' → (∀ M, Same N M → Same (fresh H H') M → TreeAt cs M 10 x (.doing (decide (sg ≠ 43)) ts)) → Q (.ref x) H'
theorem scBracketClosed : FnScope ["self"] ["self"] (defScope sBracketClosed) := ⟨rfl, rfl, rfl, by decide +kernel, rfl, by decide +kernel, by decide +kernel⟩
theorem closed_ok (T : Txt K mg cs) : ∃ f fd, Meth K cs.Bracket "closed" f ∧ Binds K fd ["self"] [] ∧ FnOk P w K mg base CX0 15 f fd ["self"] (spClosed cs) := by
  have MBeside := mk_Beside (P := P) (w := w) (base := base) T
  have MAcross := mk_Across (P := P) (w := w) (base := base) T
  obtain ⟨f, fd, hm, F, hb⟩ := T.mBracketClosed
  refine ⟨f, fd, hm, hb, F.ok scBracketClosed (fun vs H Q E h => ?_) (fun cdv A outer s H vs Q E hr h => ?_)⟩
  · obtain ⟨b, dx, l, sg, N, rs, ts, rfl, _⟩ := h
    rfl
  · obtain ⟨b, dx, l, sg, N, rs, ts, rfl, e, hsg, hN, hl, hp, h2, hnd, h10, k⟩ := h
    refine ⟨_, (pss_one (ps_ret (pe_ifExp (pt_cmpR op_eq (pe_fld (pv 0) rfl) pe_str (nomark _)) (pe_mk MBeside (hr.mono (by omega)) (by rfl) (pa_cons (pe_fld (pv 0) rfl) pa_nil)) (pe_mk MAcross (hr.mono (by omega)) (by rfl) (pa_cons (pe_fld (pv 0) rfl) pa_nil))))), ?_⟩
    refine ⟨_, rfl, b, _, dx, _, _, rfl, e, T.oBracket.cl, T.nBracketBetween, fB_between _ _, rfl, _, rfl, ?_⟩
    rw [em_sx.2.2.2.1, dec_sx]
    by_cases h : sg = 43
    · refine iteT' (decide_eq_true (by rw [h]; rfl)) ?_
      refine ⟨_, rfl, b, _, dx, _, _, rfl, e, T.oBracket.cl, T.nBracketInner, fB_inner _ _, ?_⟩
      rw [decide_eq_false (fun z => z h)] at k
      exact new_doing hN hl hp h2 hnd h10 k
    · have h42 : sg = 42 := by rcases hsg with z | z; exact absurd z h; exact z
      refine iteF' (decide_eq_false (by rw [h42]; decide)) ?_
      refine ⟨_, rfl, b, _, dx, _, _, rfl, e, T.oBracket.cl, T.nBracketInner, fB_inner _ _, ?_⟩
      rw [decide_eq_true h] at k
      exact new_doing hN hl hp h2 hnd h10 k
/-! ### put(tree) -/
def spPut (cs : Cl) : Sp := fun vs H Q _ => ∃ (H0 : Hp) (a x dx ol : Addr) (st : RS) (t : Tr) (bs : List (Addr × Addr × Addr)) (wv : V), vs = [.ref a, .ref x] ∧ RdAt cs H0 H a st dx ol bs wv ∧ TreeAt cs (frM H0 (wrt a ol bs) H) 10 x t ∧ (∀ s ∈ st.opened, s.1.length ≤ 100) ∧
  ∀ (H' : Hp) (wv' : V), RdAt cs H0 H' a (st.put t) dx ol bs wv' → Q .non H'
theorem scReaderPut : FnScope ["self", "tree"] ["self", "tree"] (defScope sReaderPut) := ⟨rfl, rfl, rfl, by decide +kernel, rfl, by decide +kernel, by decide +kernel⟩
theorem put_ok (T : Txt K mg cs) : ∃ f fd, Meth K cs.Reader "put" f ∧ Binds K fd ["self", "tree"] [] ∧ FnOk P w K mg base CX0 1 f fd ["self", "tree"] (spPut cs) := by
  obtain ⟨f, fd, hm, F, hb⟩ := T.mReaderPut
  refine ⟨f, fd, hm, hb, F.ok scReaderPut (fun vs H Q E h => ?_) (fun cdv A outer s H vs Q E hr h => ?_)⟩
  · obtain ⟨H0, a, x, dx, ol, st, t, bs, wv, rfl, _⟩ := h
    rfl
  · obtain ⟨H0, a, x, dx, ol, st, t, bs, wv, rfl, R, hT, h100, k⟩ := h
    refine ⟨_, (pss_cons (ps_fld (pv 0) pe_bl rfl)
      (pss_one (ps_if (pt_cmpR op_eq (pe_callB (call_lenK K) (by rfl) T.len PySem.boot_len (pa_cons (pe_fld (pv 0) rfl) pa_nil)) pe_int (nomark _))
      (pss_one (ps_fld (pv 0) (pv 1) rfl))
      (pss_one (ps_expr (pe_bm PySem.F.plainAttrs_list PySem.F.slot_list_append PySem.F.type_list_append mt_append (pe_fld (pe_ix (ix_listK K) (pe_fld (pv 0) rfl) (pe_un un_neg pe_int) (fun _ _ => rfl)) rfl) (pa_cons (pv 1) pa_nil))))))), ?_⟩
    refine ⟨_, rfl, a, _, dx, _, rfl, R.rd, T.oReader.cl, T.nReaderDue, fRd_len _ _ _ _, ?_⟩
    rw [fRd_pdue]
    have R1 := R.own (st' := { st with due := false }) rfl R.wh R.wn
    have hT1 : TreeAt cs (frM H0 (wrt a ol bs) (upd H a (.ins cs.Reader dx (fRd ol st.figs false wv)))) 10 x t := hT.same (frM_wr (mem_wrt.mpr (.inl rfl)))
    refine ⟨_, rfl, a, _, dx, _, _, rfl, R1.rd, T.oReader.cl, T.nReaderOpened, fRd_opened _ _ _ _, ol, _, rfl, .inl (SqL.of R1.op), rfl, _, rfl, ?_⟩
    rcases RS.last_cases st.opened with ho | ⟨o, sb, ho⟩
    · have br := R.br
      rw [ho] at br
      have eb := paired_nil_inv br
      subst eb
      refine iteT' rfl ?_
      refine ⟨_, rfl, _, rfl, a, _, dx, _, rfl, R1.rd, T.oReader.cl, T.nReaderWhole, fRd_len _ _ _ _, ?_⟩
      rw [fRd_pwh]
      have R2 := R1.own (st' := ⟨[], st.figs, false, some t⟩) (wv' := .ref x) ho.symm (fun u e => ⟨x, rfl, by cases e; exact hT1⟩) (fun z => nomatch z)
      refine k _ (.ref x) ?_
      have es : st.put t = ⟨[], st.figs, false, some t⟩ := by
        obtain ⟨o', g', d', w'⟩ := st
        dsimp only at ho ⊢
        rw [ho]
        rfl
      rw [es]
      exact R2
    · have br := R.br
      rw [ho] at br
      obtain ⟨l, b, el, p1, p2⟩ := paired_app_inv br
      subst el
      refine iteF' (decide_eq_false fun z => by have := V.int.inj z; rw [List.length_map, List.length_append] at this; simp at this; omega) ?_
      obtain ⟨b1, b2, b3⟩ := b
      obtain ⟨q1, rs, q2, q3⟩ := p2
      have na := (ol_ne R.nd).1
      have hba := (wrt_last R.nd).2.2 a (mem_wrt.mpr (.inl rfl))
      have q1' : upd H a (.ins cs.Reader dx (fRd ol st.figs false wv)) b1 = some (.ins cs.Bracket b2 (fB b3 (sx (sgT sb.2)))) := by rw [upd_ne (Ne.symm hba.1)]; exact q1
      have q2' : upd H a (.ins cs.Reader dx (fRd ol st.figs false wv)) b3 = some (.lst (rs.map V.ref)) := by rw [upd_ne (Ne.symm hba.2)]; exact q2
      refine ⟨_, rfl, a, _, dx, _, _, rfl, R1.rd, T.oReader.cl, T.nReaderOpened, fRd_opened _ _ _ _, _, rfl, ol, _, _, _, rfl, rfl, SqL.of R1.op, by rw [List.map_append]; exact atI_last _ _, b1, _, b2, _, _, rfl, q1', T.oBracket.cl, T.nBracketInner, fB_inner _ _, .inl ⟨rfl, _, SqL.of q2'⟩, _, rfl, b3, _, _, rfl, rfl, q2', ?_, ?_⟩
      · have := h100 sb (by rw [ho]; simp)
        have e := paired_len q3
        rw [List.length_map, sizeLine_eq]
        omega
      · have hpq := paired_mono (fun _ _ z => TreeAt.same (frM_wr (H0 := H0) (H := H) (u := .ins cs.Reader dx (fRd ol st.figs false wv)) (mem_wrt (a := a) (ol := ol) (bs := l ++ [(b1, b2, b3)]) |>.mpr (.inl rfl))) z) q3
        have R2 := R1.inner (l := l) (b := (b1, b2, b3)) (o := o) (s := sb) ho q2' hpq hT1
        refine k _ wv ?_
        have es : st.put t = { st with opened := o ++ [(sb.1 ++ [t], sb.2)], due := false } := by
          obtain ⟨o', g', d', w'⟩ := st
          dsimp only at ho ⊢
          rw [ho, RS.put_snoc]
        rw [es]
        exact R2
end
end Bw

set_option Elab.async false
set_option linter.all false
set_option maxRecDepth 100000
set_option maxHeartbeats 4000000
/-! notes: take, read -/
namespace Bw
open PySem L2
section
variable {P : Program} {w : World} {K : PySem.W.Frag} {mg : Str → Option Value} {base : Heap} {cs : Cl}
/-- what a sign does -/
def Took (cs : Cl) (H0 : Hp) (a dx ol : Addr) (st : RS) (c : Nat) (Q : VK) : Prop := (st.take c = none → ∀ H', Same H0 H' → Q (.bl false) H') ∧ ∀ st', st.take c = some st' → ∀ (H' : Hp) (bs : List (Addr × Addr × Addr)) (wv : V), RdAt cs H0 H' a st' dx ol bs wv → Q (.bl true) H'
def spTake (cs : Cl) (d : Bool) : Sp := fun vs H Q _ => ∃ (H0 : Hp) (a dx ol : Addr) (st : RS) (bs : List (Addr × Addr × Addr)) (wv : V) (c : Nat), vs = [.ref a, .str (sx [c])] ∧ RdAt cs H0 H a st dx ol bs wv ∧ st.Good ∧ st.due = d ∧ st.opened.length ≤ 100 ∧ Took cs H0 a dx ol st c Q
theorem one_le_ptsL : ∀ {ts : List Tr}, (∀ t ∈ ts, 1 ≤ t.pts.length) → ts.length ≤ (ptsL ts).length
  | [], _ => Nat.le_refl _
  | t :: ts, h => by
    show ts.length + 1 ≤ (t.pts ++ ptsL ts).length
    rw [List.length_append]
    have := h t (.head _)
    have := one_le_ptsL fun u hu => h u (.tail _ hu)
    omega
theorem paired_memR {α β : Type} {F : α → β → Prop} : ∀ {l₁ : List α} {l₂ : List β}, Paired F l₁ l₂ → ∀ y ∈ l₂, ∃ x ∈ l₁, F x y
  | _, _, .cons h t, y, hy => by
    rcases List.mem_cons.mp hy with rfl | hy
    · exact ⟨_, .head _, h⟩
    · obtain ⟨x, hx, hf⟩ := paired_memR t y hy
      exact ⟨x, .tail _ hx, hf⟩
/-- few trees in every bracket -/
theorem RdAt.few {H0 H : Hp} {a dx ol : Addr} {st : RS} {bs : List (Addr × Addr × Addr)} {wv : V} (R : RdAt cs H0 H a st dx ol bs wv) (g : st.Good) : ∀ s ∈ st.opened, s.1.length ≤ 10 := fun s hs => by
  obtain ⟨b, _, _, rs, _, hp⟩ := paired_memR R.br s hs
  have h1 : s.1.length ≤ (ptsL s.1).length := one_le_ptsL fun t ht => by
    obtain ⟨x, _, hx⟩ := paired_memR hp t ht
    exact hx.pos
  have nd := figC_nodup (g.fig ▸ g.nd)
  have lt := figC_lt (g.fig ▸ g.rng)
  unfold RS.pts at nd lt
  have nd1 := (List.nodup_append.mp nd).1
  obtain ⟨u, v, e⟩ := List.append_of_mem hs
  have e2 : st.opened.flatMap (fun b => ptsL b.1) = u.flatMap (fun b => ptsL b.1) ++ (ptsL s.1 ++ v.flatMap fun b => ptsL b.1) := by
    rw [e, List.flatMap_append, List.flatMap_cons]
  rw [e2] at nd1 lt
  have nd2 := (List.nodup_append.mp (List.nodup_append.mp nd1).2.1).1
  have := nodup_length nd2 (n := 10) fun p hp => lt p (List.mem_append_left _ (List.mem_append_right _ (List.mem_append_left _ hp)))
  omega
theorem figs_len {st : RS} (g : st.Good) : st.figs.length ≤ 58 := nodup_length g.nd fun c hc => (g.rng c hc).2
theorem mem_figs (c : Nat) : c ∈ [48, 49, 50, 51, 52, 53, 54, 55, 56, 57] ↔ 48 ≤ c ∧ c < 58 := by
  simp only [List.mem_cons, List.not_mem_nil, or_false]
  omega
/-! ### take_tree(sign) -/
theorem scReaderTakeTree : FnScope ["self", "sign"] ["self", "sign"] (defScope sReaderTakeTree) := ⟨rfl, rfl, rfl, by decide +kernel, rfl, by decide +kernel, by decide +kernel⟩
theorem takeTree_ok (T : Txt K mg cs) : ∃ f fd, Meth K cs.Reader "take_tree" f ∧ Binds K fd ["self", "sign"] [] ∧ FnOk P w K mg base CX0 17 f fd ["self", "sign"] (spTake cs true) := by
  have MBracket := mk_Bracket (P := P) (w := w) (base := base) T
  have MPoint := mk_Point (P := P) (w := w) (base := base) T
  obtain ⟨tf0, hfigs⟩ := T.vFIGURES
  obtain ⟨pf, pfd, pm, pb, PF⟩ := put_ok (P := P) (w := w) (base := base) T
  obtain ⟨f, fd, hm, F, hb⟩ := T.mReaderTakeTree
  refine ⟨f, fd, hm, hb, F.ok scReaderTakeTree (fun vs H Q E h => ?_) (fun cdv A outer s H vs Q E hr h => ?_)⟩
  · obtain ⟨H0, a, dx, ol, st, bs, wv, c, rfl, _⟩ := h
    rfl
  · obtain ⟨H0, a, dx, ol, st, bs, wv, c, rfl, R, g, hd, hlen, k1, k2⟩ := h
    refine ⟨_, (pss_cons (ps_if (pt_cmpR op_eq (pv 1) pe_str (nomark _))
      (pss_cons (ps_expr (pe_bm PySem.F.plainAttrs_list PySem.F.slot_list_append PySem.F.type_list_append mt_append (pe_fld (pv 0) rfl) (pa_cons (pe_mk0 MBracket (hr.mono (by omega)) (by rfl)) pa_nil)))
        (pss_one (ps_ret pe_bl)))
      pss_nil)
      (pss_cons (ps_if (PW.pt (pw_or (pt_cmpR op_notIn_str (pv 1) (pe_glob (v := .str "0123456789") (by rfl) hfigs ⟨tf0, rfl⟩) rfl) (pw_or1 (pt_cmpR op_in_str (pv 1) (pe_fld (pv 0) rfl) rfl))))
      (pss_one (ps_ret pe_bl))
      pss_nil)
      (pss_cons (ps_fld (pv 0) (pe_op op_add_str (pe_fld (pv 0) rfl) (pv 1)) rfl)
      (pss_cons (ps_expr (pe_md P w K mg base _ (pv 0) (pa_cons (pe_mk MPoint (hr.mono (by omega)) (by rfl) (pa_cons (pe_callTy call_intFig (by rfl) T.int PyProof.Rows.boot_int (pa_cons (pv 1) pa_nil)) pa_nil)) pa_nil)))
      (pss_one (ps_ret pe_bl)))))), ?_⟩
    refine ⟨_, rfl, rfl, _, rfl, ?_⟩
    rw [em_sx.2.1, dec_sx]
    by_cases h1 : c = 40
    · refine iteT' (decide_eq_true (by rw [h1])) ?_
      subst h1
      refine ⟨_, rfl, a, _, dx, _, _, rfl, R.rd, T.oReader.cl, T.nReaderOpened, fRd_opened _ _ _ _, .inl ⟨rfl, _, SqL.of R.op⟩, ?_⟩
      dsimp only [tNil]
      intro x dy hx hdy ne
      have s1 : Same H (upd (upd H dy (.own x)) x (.ins cs.Bracket dy [])) := same_upd' (same_upd' (Same.refl H) hdy) hx
      refine ⟨x, dy, rfl, upd_same, fun l H' hl e1 e2 e3 => ⟨rfl, ?_⟩⟩
      have s2 : Same H H' := fun b o e => e3 b o (s1 b o e) (ne_of_none e hx)
      refine ⟨ol, _, _, rfl, rfl, s2 _ _ R.op, ?_, ?_⟩
      · have := paired_len R.br
        rw [List.length_map, sizeLine_eq]
        omega
      · exact k2 _ (RS.take_open hd) _ _ _ (R.push s2 hx (same_none s1 hl) e1 e2)
    · refine iteF' (decide_eq_false (by simpa using h1)) ?_
      refine ⟨_, rfl, _, _, rfl, rfl, _, rfl, ?_⟩
      rw [em_sx.2.2.2.2.2, in_one]
      by_cases h2 : 48 ≤ c ∧ c < 58
      · refine iteF' (by rw [decide_eq_true ((mem_figs c).mpr h2)]; rfl) ?_
        refine ⟨_, rfl, _, rfl, a, _, dx, _, _, rfl, R.rd, T.oReader.cl, T.nReaderFigures, fRd_figures _ _ _ _, ?_⟩
        refine ⟨_, _, rfl, rfl, _, rfl, ?_⟩
        rw [in_one]
        by_cases h3 : c ∈ st.figs
        · refine iteT' (decide_eq_true h3) ?_
          exact k1 (RS.take_bad hd h1 (.inr h3)) _ R.sm
        · refine iteF' (decide_eq_false h3) ?_
          have hfl := figs_len g
          refine ⟨_, rfl, a, _, dx, _, _, rfl, R.rd, T.oReader.cl, T.nReaderFigures, fRd_figures _ _ _ _, _, rfl, _, _, rfl, rfl, (by rw [sx_len, sx_len, sizeLine_eq]; show _ + 1 ≤ _; omega), _, rfl, a, _, dx, _, rfl, R.rd, T.oReader.cl, T.nReaderFigures, fRd_len _ _ _ _, ?_⟩
          rw [sx_app, fRd_pfig]
          have R1 := R.own (st' := { st with figs := st.figs ++ [c] }) rfl R.wh R.wn
          have hk := k2 _ (RS.take_fig hd h1 (by rintro (z | z); exact z h2; exact h3 z))
          obtain ⟨n, rfl⟩ : ∃ n, c = 48 + n := ⟨c - 48, by omega⟩
          have hn : n < 10 := by omega
          rw [show 48 + n - 48 = n by omega] at hk
          refine ⟨_, rfl, a, _, dx, _, rfl, R1.rd, fRd_no _ _ _ _ (by decide +kernel) (by decide +kernel) (by decide +kernel) (by decide +kernel), T.oReader.cl, pf, pfd, _, _, _, pm, PF, hr.mono (by decide), pb, _, rfl, n, rfl, hn, ?_⟩
          dsimp only [tNil]
          refine new_point (Q := fun v H2 => spPut cs [V.ref a, v] H2 (fun _ H1 => Q (.bl true) H1) E0) hn fun x H2 hx s2 hT => ?_
          exact ⟨H0, a, x, dx, ol, _, _, bs, wv, rfl, R1.same s2, (hT.same R1.fresh).more (by decide), fun s hs => by have := R.few g s hs; omega, fun H3 wv3 R3 => hk H3 bs wv3 R3⟩
      · refine iteT' (by rw [decide_eq_false (fun z => h2 ((mem_figs c).mp z))]; rfl) ?_
        exact k1 (RS.take_bad hd h1 (.inl h2)) _ R.sm
/-! ### take_behind(sign) -/
theorem scReaderTakeBehind : FnScope ["self", "sign", "bracket"] ["self", "sign"] (defScope sReaderTakeBehind) := ⟨rfl, rfl, rfl, by decide +kernel, rfl, by decide +kernel, by decide +kernel⟩
theorem takeBehind_ok (T : Txt K mg cs) : ∃ f fd, Meth K cs.Reader "take_behind" f ∧ Binds K fd ["self", "sign"] [] ∧ FnOk P w K mg base CX0 17 f fd ["self", "sign"] (spTake cs false) := by
  obtain ⟨pf, pfd, pm, pb, PF⟩ := put_ok (P := P) (w := w) (base := base) T
  obtain ⟨gf, gfd, gm, gb, GF⟩ := goes_ok (P := P) (w := w) (base := base) T
  obtain ⟨cf, cfd, cm, cb, CF⟩ := closed_ok (P := P) (w := w) (base := base) T
  obtain ⟨f, fd, hm, F, hb⟩ := T.mReaderTakeBehind
  refine ⟨f, fd, hm, hb, F.ok scReaderTakeBehind (fun vs H Q E h => ?_) (fun cdv A outer s H vs Q E hr h => ?_)⟩
  · obtain ⟨H0, a, dx, ol, st, bs, wv, c, rfl, _⟩ := h
    rfl
  · obtain ⟨H0, a, dx, ol, st, bs, wv, c, rfl, R, g, hd, hlen, k1, k2⟩ := h
    refine ⟨_, (pss_cons (ps_if (pt_cmpR op_eq (pe_callB (call_lenK K) (by rfl) T.len PySem.boot_len (pa_cons (pe_fld (pv 0) rfl) pa_nil)) pe_int (nomark _))
      (pss_one (ps_ret pe_bl))
      pss_nil)
      (pss_cons (ps_set (i := 2) scReaderTakeBehind.nd rfl (Or.inl rfl) (pe_ix (ix_listK K) (pe_fld (pv 0) rfl) (pe_un un_neg pe_int) (fun _ _ => rfl)))
      (pss_cons (ps_if (pt_val (pe_md P w K mg base _ (pv 2) (pa_cons (pv 1) pa_nil)))
      (pss_cons (ps_fld (pv 2) (pv 1) rfl)
        (pss_cons (ps_fld (pv 0) pe_bl rfl)
        (pss_one (ps_ret pe_bl))))
      pss_nil)
      (pss_cons (ps_if (PW.pt (pw_or (pt_cmpR op_ne (pv 1) pe_str (nomark _)) (pw_or1 (pt_cmpR op_eq (pe_fld (pv 2) rfl) pe_str (nomark _)))))
      (pss_one (ps_ret pe_bl))
      pss_nil)
      (pss_cons (ps_expr (pe_bm0 PySem.F.plainAttrs_list PySem.F.slot_list_pop PySem.F.type_list_pop mt_pop (pe_fld (pv 0) rfl)))
      (pss_cons (ps_expr (pe_md P w K mg base _ (pv 0) (pa_cons (pe_md0 P w K mg base _ (pv 2)) pa_nil)))
      (pss_one (ps_ret pe_bl)))))))), ?_⟩
    refine ⟨_, rfl, a, _, dx, _, _, rfl, R.rd, T.oReader.cl, T.nReaderOpened, fRd_opened _ _ _ _, ol, _, rfl, .inl (SqL.of R.op), rfl, _, rfl, ?_⟩
    rcases RS.last_cases st.opened with ho | ⟨o, sb, ho⟩
    · have br := R.br
      rw [ho] at br
      have eb := paired_nil_inv br
      subst eb
      refine iteT' rfl ?_
      exact k1 (RS.take_end hd ho c) _ R.sm
    · have br := R.br
      rw [ho] at br
      obtain ⟨l, b, el, p1, p2⟩ := paired_app_inv br
      subst el
      refine iteF' (decide_eq_false fun z => by have := V.int.inj z; rw [List.length_map, List.length_append] at this; simp at this; omega) ?_
      obtain ⟨b1, b2, b3⟩ := b
      obtain ⟨q1, rs, q2, q3⟩ := p2
      refine ⟨_, rfl, a, _, dx, _, _, rfl, R.rd, T.oReader.cl, T.nReaderOpened, fRd_opened _ _ _ _, _, rfl, ol, _, _, _, rfl, rfl, SqL.of R.op, by rw [List.map_append]; exact atI_last _ _, ?_⟩
      refine ⟨_, rfl, b1, _, b2, _, rfl, q1, fB_no _ _ (by decide +kernel) (by decide +kernel), T.oBracket.cl, gf, gfd, _, _, _, gm, GF, hr.mono (by decide), gb, _, rfl, b1, b2, b3, sb.2, c, rfl, q1, fun H1 s1 => ⟨_, rfl, ?_⟩⟩
      have R1 := R.same s1
      by_cases h2 : (c = 43 ∨ c = 42) ∧ (sb.2 = 0 ∨ sb.2 = c)
      · refine iteT' (decide_eq_true h2) ?_
        have ec : sx [c] = sx (sgT c) := by
          unfold sgT
          rw [if_neg (by rcases h2.1 with z | z <;> rw [z] <;> decide)]
        refine ⟨_, rfl, _, rfl, b1, _, b2, _, rfl, s1 _ _ q1, T.oBracket.cl, T.nBracketBetween, fB_len _ _, ?_⟩
        rw [fB_put, ec]
        have R2 := R1.sign (l := l) (b := (b1, b2, b3)) ho c
        refine ⟨_, rfl, a, _, dx, _, rfl, R2.rd, T.oReader.cl, T.nReaderDue, fRd_len _ _ _ _, ?_⟩
        rw [fRd_pdue]
        exact k2 _ (RS.take_sign hd ho h2) _ _ _ (R2.own (st' := { st with opened := o ++ [(sb.1, c)], due := true }) rfl R2.wh R2.wn)
      · refine iteF' (decide_eq_false h2) ?_
        refine ⟨_, rfl, rfl, _, rfl, ?_⟩
        rw [em_sx.2.2.1, dec_sx]
        by_cases h3 : c = 41
        · refine iteF' (by rw [h3]; rfl) ?_
          refine ⟨_, rfl, b1, _, b2, _, _, rfl, s1 _ _ q1, T.oBracket.cl, T.nBracketBetween, fB_between _ _, rfl, _, rfl, ?_⟩
          rw [em_sx.1, dec_sx, sgT_em]
          by_cases h4 : sb.2 = 0
          · refine iteT' (decide_eq_true h4) ?_
            exact k1 (RS.take_none hd ho h2 (.inr h4)) _ R1.sm
          · refine iteF' (decide_eq_false h4) ?_
            refine ⟨_, rfl, a, _, dx, _, _, rfl, R1.rd, T.oReader.cl, T.nReaderOpened, fRd_opened _ _ _ _, .inl ⟨rfl, _, SqL.of R1.op⟩, ol, _, V.ref b1, rfl, rfl, R1.op, by simp, ?_⟩
            rw [show ((l ++ [(b1, b2, b3)]).map fun b => V.ref b.1).dropLast = l.map fun b => V.ref b.1 by rw [List.map_append]; exact List.dropLast_concat]
            have R2 := R1.pop (l := l) (b := (b1, b2, b3)) ho
            have hob := (ol_ne R.nd).2 (b1, b2, b3) (List.mem_append_right _ (.head _))
            have q1' : upd H1 ol (.lst (l.map fun b => V.ref b.1)) b1 = some (.ins cs.Bracket b2 (fB b3 (sx (sgT sb.2)))) := by rw [upd_ne hob.1]; exact s1 _ _ q1
            have q2' : upd H1 ol (.lst (l.map fun b => V.ref b.1)) b3 = some (.lst (rs.map V.ref)) := by rw [upd_ne hob.2]; exact s1 _ _ q2
            have sub : ∀ x, x ∈ wrt a ol l → x ∈ wrt a ol (l ++ [(b1, b2, b3)]) := fun x hx => by rw [wrt_snoc]; exact List.mem_append_left _ hx
            have q3' : Paired (TreeAt cs (frM H0 (wrt a ol l) (upd H1 ol (.lst (l.map fun b => V.ref b.1)))) 10) rs sb.1 := paired_mono (fun _ _ z => z.same (frM_le fun x u h1 _ h3 => ⟨fun z => h1 (sub x z), by
              rw [upd_ne (fun z => h1 (sub x (by rw [z]; exact mem_wrt.mpr (.inr (.inl rfl)))))]
              exact s1 _ _ h3⟩)) q3
            have hsg : sb.2 = 43 ∨ sb.2 = 42 := by
              rcases g.sgn sb (by rw [ho]; simp) with z | z
              · exact absurd z h4
              · exact z
            have hlast := g.last ho
            refine ⟨_, rfl, a, _, dx, _, rfl, R2.rd, fRd_no _ _ _ _ (by decide +kernel) (by decide +kernel) (by decide +kernel) (by decide +kernel), T.oReader.cl, pf, pfd, _, _, _, pm, PF, hr.mono (by decide), pb, _, rfl, b1, _, b2, _, rfl, q1', fB_no _ _ (by decide +kernel) (by decide +kernel), T.oBracket.cl, cf, cfd, _, _, _, cm, CF, hr.mono (by decide), cb, b1, b2, b3, sb.2, _, rs, sb.1, rfl, q1', hsg, frM_sub, q2', q3', (g.two hd o sb ho).2 h4, hlast.1, nodup_length hlast.1 hlast.2, fun x H3 hx s3 hM => ?_⟩
            refine ⟨H0, a, x, dx, ol, _, _, l, wv, rfl, R2.same s3, hM _ (frM_le fun x o h1 _ h3 => ⟨h1, s3 _ _ h3⟩) R2.fresh, fun s hs => by have := R.few g s (by rw [ho]; exact List.mem_append_left _ hs); omega, fun H4 wv4 R4 => ?_⟩
            exact k2 _ (RS.take_close hd ho h2 (by rintro (z | z); exact z h3; exact h4 z)) H4 l wv4 R4
        · refine iteT' (by rw [decide_eq_false (by simpa using h3)]; rfl) ?_
          exact k1 (RS.take_none hd ho h2 (.inl h3)) _ R1.sm
/-! ### take(sign) -/
def spTakeAny (cs : Cl) : Sp := fun vs H Q _ => ∃ (H0 : Hp) (a dx ol : Addr) (st : RS) (bs : List (Addr × Addr × Addr)) (wv : V) (c : Nat), vs = [.ref a, .str (sx [c])] ∧ RdAt cs H0 H a st dx ol bs wv ∧ st.Good ∧ st.opened.length ≤ 100 ∧ Took cs H0 a dx ol st c Q
theorem scReaderTake : FnScope ["self", "sign"] ["self", "sign"] (defScope sReaderTake) := ⟨rfl, rfl, rfl, by decide +kernel, rfl, by decide +kernel, by decide +kernel⟩
theorem take_ok (T : Txt K mg cs) : ∃ f fd, Meth K cs.Reader "take" f ∧ Binds K fd ["self", "sign"] [] ∧ FnOk P w K mg base CX0 18 f fd ["self", "sign"] (spTakeAny cs) := by
  obtain ⟨tf, tfd, tm, tb, TF⟩ := takeTree_ok (P := P) (w := w) (base := base) T
  obtain ⟨uf, ufd, um, ub, UF⟩ := takeBehind_ok (P := P) (w := w) (base := base) T
  obtain ⟨f, fd, hm, F, hb⟩ := T.mReaderTake
  refine ⟨f, fd, hm, hb, F.ok scReaderTake (fun vs H Q E h => ?_) (fun cdv A outer s H vs Q E hr h => ?_)⟩
  · obtain ⟨H0, a, dx, ol, st, bs, wv, c, rfl, _⟩ := h
    rfl
  · obtain ⟨H0, a, dx, ol, st, bs, wv, c, rfl, R, g, hlen, hk⟩ := h
    refine ⟨_, (pss_one (ps_ret (pe_ifExp (pt_val (pe_fld (pv 0) rfl)) (pe_md P w K mg base _ (pv 0) (pa_cons (pv 1) pa_nil)) (pe_md P w K mg base _ (pv 0) (pa_cons (pv 1) pa_nil))))), ?_⟩
    refine ⟨_, rfl, a, _, dx, _, _, rfl, R.rd, T.oReader.cl, T.nReaderDue, fRd_due _ _ _ _, _, rfl, ?_⟩
    cases hd : st.due with
    | true =>
      refine iteT ?_
      exact ⟨_, rfl, a, _, dx, _, rfl, R.rd, fRd_no _ _ _ _ (by decide +kernel) (by decide +kernel) (by decide +kernel) (by decide +kernel), T.oReader.cl, tf, tfd, _, _, _, tm, TF, hr, tb, _, rfl, H0, a, dx, ol, st, bs, wv, c, rfl, R, g, hd, hlen, hk⟩
    | false =>
      refine iteF ?_
      exact ⟨_, rfl, a, _, dx, _, rfl, R.rd, fRd_no _ _ _ _ (by decide +kernel) (by decide +kernel) (by decide +kernel) (by decide +kernel), T.oReader.cl, uf, ufd, _, _, _, um, UF, hr, ub, _, rfl, H0, a, dx, ol, st, bs, wv, c, rfl, R, g, hd, hlen, hk⟩
end
end Bw

set_option Elab.async false
set_option linter.all false
set_option maxRecDepth 100000
set_option maxHeartbeats 4000000
/-! notes: BadText; read(text) of whatever it is -/
namespace Bw
open PySem L2
section
variable {P : Program} {w : World} {K : PySem.W.Frag} {mg : Str → Option Value} {base : Heap} {cs : Cl}
theorem TreeAt.here {cs : Cl} {H : Hp} : ∀ {k : Nat} {a : Addr} {tr : Tr}, TreeAt cs H k a tr → ∃ o, H a = some o
  | 0, _, _, h => h.elim
  | k + 1, a, .pt n, h => let ⟨⟨dx, e⟩, _⟩ := h; ⟨_, e⟩
  | k + 1, a, .doing ac ts, h => let ⟨dx, l, t, rs, h1, _⟩ := h; ⟨_, h1⟩
theorem rd_start {H H1 : Hp} {a dx ol : Addr} (s : Same H H1) (ha : H a = none) (hol : H ol = none) (e1 : H1 a = some (.ins cs.Reader dx (fRd ol [] true .non))) (e2 : H1 ol = some (.lst [])) : RdAt cs H H1 a RS.start dx ol [] .non where
  rd := e1
  op := e2
  br := .nil
  wh := fun t e => nomatch e
  wn := fun _ => rfl
  nd := by
    unfold wrt
    have : a ≠ ol := fun z => by rw [z, e2] at e1; cases e1
    simpa using this
  new := fun x hx => by
    rcases mem_wrt.mp hx with rfl | rfl | ⟨b, hb, _⟩
    · exact ha
    · exact hol
    · cases hb
  sm := s
/-! ### BadText(place) -/
def spBTInit (cs : Cl) : Sp := fun vs H Q _ => ∃ (a : Addr) (i : Int), vs = [.ref a, .int i] ∧ H a = some (ExcN a cs.BadText none) ∧ i.natAbs ≤ 10000 ∧ ∀ dx, H dx = none → dx ≠ a → Q .non (upd (upd H a (ExcN a cs.BadText (some dx))) dx (.xd [("place", .int i)]))
theorem scBadTextInit : FnScope ["self", "place"] ["self", "place"] (defScope sBadtextInit) := ⟨rfl, rfl, rfl, by decide +kernel, rfl, by decide +kernel, by decide +kernel⟩
theorem small_log {i : Int} (h : i.natAbs ≤ 10000) : i.natAbs.log2 < 1920 := by
  by_cases h0 : i.natAbs = 0
  · rw [h0]; decide
  · exact Nat.lt_of_lt_of_le ((Nat.log2_lt h0).mpr (Nat.lt_of_le_of_lt h (show 10000 < 2 ^ 14 by decide))) (by decide)
theorem rs_BadText (T : Txt K mg cs) : Rais P w K mg base 1 "BadText" cs.BadText ["self", "place"] (spBTInit cs) := by
  obtain ⟨kc, f, fd, hi, hfn, F, hb⟩ := T.eBadText
  refine ⟨T.gBadText, T.xBadText, kc, f, fd, hi, hfn, hb, F.ok scBadTextInit (fun vs H Q E h => ?_) (fun cdv A outer s H vs Q E hr h => ?_)⟩
  · obtain ⟨a, i, rfl, _⟩ := h
    rfl
  · obtain ⟨a, i, rfl, e, hi, q⟩ := h
    refine ⟨_, pss_cons (ps_expr (pe_xinit (by rfl) T.gWebError (pa_cons (pv 0) (pa_cons (pe_fsI (pv 1) (by decide)) pa_nil)) T.iWebError.g T.iWebError.r T.iWebError.f K)) (pss_one (ps_xfld (pv 0) (pv 1) rfl K)), ?_⟩
    refine ⟨_, rfl, _, rfl, i, rfl, small_log hi, fun z => ⟨a, _, none, _, rfl, T.xBadText.xin, e, ?_⟩⟩
    exact ⟨_, rfl, _, rfl, a, _, rfl, e, T.xBadText, T.nBadTextPlace, q⟩
/-- what is wished of a text's refusal at a place -/
def bad (cs : Cl) (H : Hp) (E : XK) (i : Int) : Prop := ∀ (dx : Addr) (H' : Hp), Same H H' → H' dx = some (.xd [("place", .int i)]) → E (.ref cs.BadText) (some dx) H'
theorem raise_bad {H0 H : Hp} {E : XK} {i : Int} (hb : bad cs H0 E i) (s : Same H0 H) (hi : i.natAbs ≤ 10000) : ([V.int i] : List V).length ≤ 100 ∧ ∀ a, H a = none →
    spBTInit cs (.ref a :: [V.int i]) (upd H a (ExcN a cs.BadText none)) (fun v H2 => v = .non ∧ ∃ dx, H2 a = some (ExcN a cs.BadText dx) ∧ E (.ref cs.BadText) dx (upd H2 a (ExcO a (.ref cs.BadText) dx))) E0 := by
  refine ⟨by simp, fun a ha => ⟨a, i, rfl, upd_same, hi, fun dx hdx hne => ⟨rfl, some dx, by rw [upd_ne (Ne.symm hne), upd_same], hb dx _ ?_ (by rw [upd_ne hne, upd_same])⟩⟩⟩
  have hdx' : H dx = none := by rw [upd_ne hne] at hdx; exact hdx
  intro b o e
  have e1 := s b o e
  rw [upd_ne (ne_of_none e1 ha), upd_ne (ne_of_none e1 hdx'), upd_ne (ne_of_none e1 ha), upd_ne (ne_of_none e1 ha)]
  exact e1
/-! ### read(text) -/
def spReadX (K : PySem.W.Frag) (cs : Cl) : Sp := fun vs H Q E => ∃ (v : V) (t : Value) (b : Bool), vs = [v] ∧ TyOf K H v t ∧ PySem.W.kitOne K t (.type "str") = some b ∧ (b = false → bad cs H E 0) ∧
  (b = true → ∃ l : List Nat, v = .str (sx l) ∧ l.length ≤ 10000 ∧ (100 < l.length → bad cs H E 100) ∧ (l.length ≤ 100 → (∀ st t, RS.start.run l = some st → st.Good → st.whole = some t → gotTree cs 10 H t Q) ∧ (wrongAt l ≠ -1 → bad cs H E (wrongAt l))))
theorem scRead : FnScope ["text", "reader", "place", "sign"] ["text"] (defScope sRead) := ⟨rfl, rfl, rfl, by decide +kernel, rfl, by decide +kernel, by decide +kernel⟩
theorem ok_readX (T : Txt K mg cs) : CalX P w K mg base 19 "read" ["text"] (spReadX K cs) := by
  have MReader := mk_Reader (P := P) (w := w) (base := base) T
  have RBadText := rs_BadText (P := P) (w := w) (base := base) T
  obtain ⟨ts0, hsigns⟩ := T.vMOST_SIGNS
  obtain ⟨tf, tfd, tm, tb, TF⟩ := take_ok (P := P) (w := w) (base := base) T
  refine T.read.calX scRead (fun vs H Q E h => ?_) (fun f cdv A outer s H vs Q E hr h => ?_)
  · obtain ⟨v, t, b, rfl, _⟩ := h
    rfl
  · obtain ⟨v, t, b, rfl, ty, hkit, kF, kT⟩ := h
    refine ⟨_, (pss_cons (ps_if (pt_not (pt_val (pe_callB (call_isinstK K) (by rfl) T.isinst PyProof.Rows.boot_isinstance (pa_cons (pv 0) (pa_cons (pe_bltn (v := .ty "str") (by rfl) T.str PyProof.Rows.boot_str rfl) pa_nil)))))
      (pss_one (ps_rais RBadText (hr.mono (by omega)) rfl (by rfl) throws_def (pa_cons pe_int pa_nil)))
      pss_nil)
      (pss_cons (ps_if (pt_cmpR op_gt (pe_callB call_len_str (by rfl) T.len PySem.boot_len (pa_cons (pv 0) pa_nil)) (pe_glob (v := .int 100) (by rfl) hsigns ⟨ts0, rfl⟩) (nomark _))
      (pss_one (ps_rais RBadText (hr.mono (by omega)) rfl (by rfl) throws_def (pa_cons (pe_glob (v := .int 100) (by rfl) hsigns ⟨ts0, rfl⟩) pa_nil)))
      pss_nil)
      (pss_cons (ps_set (i := 1) scRead.nd rfl (Or.inl rfl) (pe_mk0 MReader (hr.mono (by omega)) (by rfl)))
      (pss_cons (ps_for PassesOwn.leaving rfl (pi_enumS rfl T.enum (pa_cons (pv 0) pa_nil)) (pg_tupK K rfl (pgs_cons (pg_name (i := 2) scRead.nd rfl (Or.inl rfl)) (pgs_cons (pg_name (i := 3) scRead.nd rfl (Or.inl rfl)) pgs_nil)))
      (pss_one (ps_if (pt_not (pt_val (pe_md P w K mg base _ (pv 1) (pa_cons (pv 3) pa_nil))))
        (pss_one (ps_rais RBadText (hr.mono (by omega)) rfl (by rfl) throws_def (pa_cons (pv 2) pa_nil)))
        pss_nil)))
      (pss_cons (ps_if (pt_cmp (pc_isN (pe_fld (pv 1) rfl)))
      (pss_one (ps_rais RBadText (hr.mono (by omega)) rfl (by rfl) throws_def (pa_cons (pe_callB call_len_str (by rfl) T.len PySem.boot_len (pa_cons (pv 0) pa_nil)) pa_nil)))
      pss_nil)
      (pss_one (ps_ret (pe_fld (pv 1) rfl)))))))), ?_⟩
    refine ⟨_, rfl, _, _, _, _, rfl, ty, hkit, b, rfl, ?_⟩
    cases b with
    | false =>
      refine iteT ?_
      exact raise_bad (kF rfl) (Same.refl H) (by decide)
    | true =>
      obtain ⟨l, rfl, hl4, kL, kR⟩ := kT rfl
      refine iteF ?_
      refine ⟨_, rfl, _, rfl, (by rw [sx_len, sizeLine_eq]; omega), _, _, rfl, rfl, _, rfl, ?_⟩
      by_cases hl : 100 < l.length
      · refine iteT' (decide_eq_true (by rw [sx_len]; omega)) ?_
        exact raise_bad (kL hl) (Same.refl H) (by decide)
      · refine iteF' (decide_eq_false (by rw [sx_len]; omega)) ?_
        obtain ⟨k, kB⟩ := kR (by omega)
        dsimp only [tNil]
        intro a dx ha hdx ne
        have s1 : Same H (upd (upd H dx (.own a)) a (.ins cs.Reader dx [])) := same_upd' (same_upd' (Same.refl H) hdx) ha
        refine ⟨a, dx, rfl, upd_same, fun ol H1 hol e1 e2 e3 => ⟨rfl, ?_⟩⟩
        have s2 : Same H H1 := fun b o e => e3 b o (s1 b o e) (ne_of_none e ha)
        have R0 := rd_start s2 ha (same_none s1 hol) e1 e2
        refine ⟨_, rfl, _, rfl, for_enumS (l := l) (fun i σ H2 => ∃ v1 v2 st bs wv, σ = [some (.str (sx l)), some (.ref a), v1, v2] ∧ RS.start.run (l.take i) = some st ∧ st.Good ∧ st.opened.length ≤ i ∧ RdAt cs H H2 a st dx ol bs wv)
          ⟨_, _, _, _, _, rfl, rfl, RS.start_good, Nat.le_refl _, R0⟩ ?_ ?_⟩
        · rintro i c σ H2 tt hc ⟨v1, v2, st, bs, wv, rfl, hri, g, hlen, R⟩ htt
          have hi : i < l.length := (List.getElem?_eq_some_iff.mp hc).1
          have R1 := R.same (same_upd (o := .tup [.int (i : Int), .str (sx [c])]) (Same.refl H2) htt)
          have et : l.take (i + 1) = l.take i ++ [c] := by
            rw [List.take_add_one, hc]
            rfl
          have ert : RS.start.run (l.take (i + 1)) = st.take c := by
            rw [et, RS.run_snoc, hri]
            rfl
          refine ⟨tt, _, rfl, SqT.of upd_same, rfl, _, _, rfl, _, _, rfl, rfl, ?_⟩
          refine ⟨_, rfl, a, _, dx, _, rfl, R1.rd, fRd_no _ _ _ _ (by decide +kernel) (by decide +kernel) (by decide +kernel) (by decide +kernel), T.oReader.cl, tf, tfd, _, _, _, tm, TF, hr, tb, _, rfl, H, a, dx, ol, st, bs, wv, c, rfl, R1, g, by omega, fun hno => ?_, fun st' e H3 bs3 wv3 R3 => ?_⟩
          · intro H3 s3
            refine ⟨_, rfl, iteT ?_⟩
            have hw : wrongAt l = (i : Int) := wrong_at hri hc hno
            refine ⟨_, rfl, ?_⟩
            have hb := kB (by rw [hw]; omega)
            rw [hw] at hb
            exact raise_bad hb s3 (by omega)
          · refine ⟨_, rfl, iteF ⟨_, _, st', bs3, wv3, rfl, ert.trans e, RS.good_take g e, ?_, R3⟩⟩
            have := RS.take_len e
            omega
        · rintro σ H2 ⟨v1, v2, st, bs, wv, rfl, hri, g, hlen, R⟩
          rw [List.take_length] at hri
          cases hwh : st.whole with
          | none =>
            have hw : wrongAt l = (l.length : Int) := by rw [wrong_end hri, if_pos (g.whole_iff.mp hwh)]
            refine ⟨_, rfl, a, _, dx, _, _, rfl, R.rd, T.oReader.cl, T.nReaderWhole, fRd_whole _ _ _ _, _, rfl, ?_⟩
            rw [R.wn hwh]
            refine iteT' (decide_eq_true rfl) ?_
            refine ⟨_, rfl, _, rfl, (by rw [sx_len, sizeLine_eq]; omega), ?_⟩
            have hb := kB (by rw [hw]; omega)
            rw [hw] at hb
            rw [sx_len]
            exact raise_bad hb R.sm (by omega)
          | some t =>
            obtain ⟨x, rfl, hT⟩ := R.wh t hwh
            refine ⟨_, rfl, a, _, dx, _, _, rfl, R.rd, T.oReader.cl, T.nReaderWhole, fRd_whole _ _ _ _, _, rfl, ?_⟩
            refine iteF' (decide_eq_false fun z => nomatch z) ?_
            refine ⟨_, rfl, a, _, dx, _, _, rfl, R.rd, T.oReader.cl, T.nReaderWhole, fRd_whole _ _ _ _, ?_⟩
            obtain ⟨o, ho⟩ := hT.here
            refine k st t hri g hwh x H2 (frM_some.mp ho).2.1 R.sm (hT.same fun y u e => ?_)
            obtain ⟨_, z2, z3⟩ := frM_some.mp e
            exact fresh_of z2 z3
end
end Bw

set_option Elab.async false
set_option linter.all false
set_option maxRecDepth 100000
set_option maxHeartbeats 4000000
/-! lists: what a popped place leaves -/
namespace Bw
open PySem L2
theorem seqIx_nat {n i : Nat} (h : i < n) : seqIndex? (i : Int) n = some i := (ixN_seq (ixN_nat h)).1
theorem perm_erase {α : Type} : ∀ {l : List α} {k : Nat} {y : α}, l[k]? = some y → l.Perm (y :: l.eraseIdx k)
  | a :: l, 0, y, h => by
    cases h
    exact List.Perm.refl _
  | a :: l, k + 1, y, h => (List.Perm.cons a (perm_erase (l := l) (k := k) h)).trans (List.Perm.swap y a _)
theorem ptsL_flat : ∀ ts : List Tr, ptsL ts = (ts.map Tr.pts).flatten
  | [] => rfl
  | t :: ts => by
    show t.pts ++ ptsL ts = _
    rw [ptsL_flat ts, List.map_cons, List.flatten_cons]
theorem ptsL_perm {ts us : List Tr} (h : ts.Perm us) : (ptsL ts).Perm (ptsL us) := by
  rw [ptsL_flat, ptsL_flat]
  exact (h.map _).flatten
theorem erase_mapE {α β : Type} (f : α → β) : ∀ (l : List α) (k : Nat), (l.map f).eraseIdx k = (l.eraseIdx k).map f
  | [], _ => rfl
  | _ :: _, 0 => rfl
  | a :: l, k + 1 => congrArg (f a :: ·) (erase_mapE f l k)
theorem erase_vv (l : List Nat) (k : Nat) : (vv l).eraseIdx k = vv (l.eraseIdx k) := by
  unfold vv iv
  rw [erase_mapE, erase_mapE]
theorem wh {M : Nat} {Pv : St → Hp → Prop} {μ : St → Hp → Nat} : ∀ σ' H', (∃ m', m' < M ∧ (m' = μ σ' H' ∧ Pv σ' H')) → ∃ m', m' < M ∧ (m' = μ σ' H' ∧ Pv σ' H') := fun _ _ h => h
end Bw

set_option Elab.async false
set_option linter.all false
set_option maxRecDepth 100000
set_option maxHeartbeats 4000000
/-! the law's text -/
namespace Bw
open PySem L2
theorem tstrs_get {l : List (List Nat)} {z : Nat} {x : List Nat} (h : l[z]? = some x) : (tstrs l)[z]? = some (V.str (sx x)) := by
  unfold tstrs
  rw [List.getElem?_map, List.getElem?_map, h]
  rfl
theorem tstrs_erase (l : List (List Nat)) (k : Nat) : (tstrs l).eraseIdx k = tstrs (l.eraseIdx k) := by
  unfold tstrs
  rw [erase_mapE, erase_mapE]
theorem toldL_erase (ts : List Tr) (k : Nat) : (toldL ts).eraseIdx k = toldL (ts.eraseIdx k) := by
  rw [toldL_map, toldL_map, erase_mapE]
theorem toldL_snoc (ts : List Tr) (t : Tr) : toldL (ts ++ [t]) = toldL ts ++ [t.told] := by
  rw [toldL_map, toldL_map, List.map_append]
  rfl
theorem toldL_length (ts : List Tr) : (toldL ts).length = ts.length := by rw [toldL_map, List.length_map]
theorem twoL_of : ∀ {ts : List Tr}, (∀ t ∈ ts, t.two) → twoL ts
  | [], _ => trivial
  | t :: ts, h => ⟨h t (.head _), twoL_of fun u hu => h u (.tail _ hu)⟩
theorem pm_at (ac : Bool) : (if ac = true then (1 : Int) else 0) = 1 ∨ (if ac = true then (1 : Int) else 0) = 0 := by cases ac <;> simp
theorem ptsL_pts : ∀ qs : List Nat, ptsL (qs.map Tr.pt) = qs
  | [] => rfl
  | q :: qs => by show [q] ++ ptsL (qs.map Tr.pt) = _; rw [ptsL_pts qs]; rfl
section
variable {P : Program} {w : World} {K : PySem.W.Frag} {mg : Str → Option Value} {base : Heap} {cs : Cl}
def spText (K : PySem.W.Frag) : Sp := fun vs H Q _ => ∃ (a : Addr) (ns : List Int), vs = [.ref a] ∧ SqL K H a (ns.map V.int) ∧
  ∀ (tr : Tr) (H' : Hp), Same H H' → tr.two → tr.pts.Nodup → tr.pts.length ≤ 10 → Q (.str (sx tr.told)) H'
theorem scLawText : FnScope ["_law_script", "_law_other_here", "_law_left", "_law_texts", "_law_some", "_law_k"] ["_law_script"] (defScope sLawText) := ⟨rfl, rfl, rfl, by decide +kernel, rfl, by decide +kernel, by decide +kernel⟩
theorem ok_lawText (T : Txt K mg cs) : Cal P w K mg base 3 "_law_text" ["_law_script"] (spText K) := by
  have CLawCellAt : Cal P w K mg base 2 "_law_cell_at" ["_law_script", "_law_k"] (spCellAt K) := (ok_cellAt T).mono (by decide)
  have CLawDraw : Cal P w K mg base 2 "_law_draw" ["_law_cell", "_law_k", "_law_many"] spDraw := (ok_draw T).mono (by decide)
  refine T.lawText.cal scLawText (fun vs H Q E h => ?_) (fun f cdv A outer s H vs Q E hr h => ?_)
  · obtain ⟨a, ns, rfl, _⟩ := h
    rfl
  · obtain ⟨a, ns, rfl, hs, k⟩ := h
    have hu := hu_of hr
    have hu64 := hr.units
    refine ⟨_, (pss_cons (ps_set (i := 1) scLawText.nd rfl (Or.inl rfl) (pe_cal CLawCellAt hr (by rfl) (pa_cons (pv 0) (pa_cons pe_int pa_nil))))
      (pss_cons (ps_set (i := 2) scLawText.nd rfl (Or.inl rfl) (pe_callTy (call_list_rng rfl) (by rfl) T.list PyProof.Rows.boot_list (pa_cons (pe_callTy call_range1 (by rfl) T.range PyProof.Rows.boot_range (pa_cons (pe_op op_add pe_int (pe_op op_mod (pe_cal CLawCellAt hr (by rfl) (pa_cons (pv 0) (pa_cons pe_int pa_nil))) pe_int)) pa_nil)) pa_nil)))
      (pss_cons (ps_set (i := 3) scLawText.nd rfl (Or.inl rfl) (pe_lst pa_nil))
      (pss_cons (ps_while PassesOwn.never (pt_cmpR (op_neL hu64) (pv 2) (pe_lst pa_nil) (nomark _))
      (pss_one (ps_expr (pe_bm PySem.F.plainAttrs_list PySem.F.slot_list_append PySem.F.type_list_append mt_append (pv 3) (pa_cons (pe_callTy call_str_int (by rfl) T.str PyProof.Rows.boot_str (pa_cons (pe_bm PySem.F.plainAttrs_list PySem.F.slot_list_pop PySem.F.type_list_pop mt_popAt (pv 2) (pa_cons (pe_cal CLawDraw hr (by rfl) (pa_cons (pv 1) (pa_cons (pe_callB (call_lenK K) (by rfl) T.len PySem.boot_len (pa_cons (pv 2) pa_nil)) (pa_cons (pe_callB (call_lenK K) (by rfl) T.len PySem.boot_len (pa_cons (pv 2) pa_nil)) pa_nil)))) pa_nil)) pa_nil)) pa_nil)))))
      (pss_cons (ps_while PassesOwn.never (pt_cmpR op_gt (pe_callB (call_lenK K) (by rfl) T.len PySem.boot_len (pa_cons (pv 3) pa_nil)) pe_int (nomark _))
      (pss_cons (ps_set (i := 4) scLawText.nd rfl (Or.inl rfl) (pe_lst pa_nil))
        (pss_cons (ps_for PassesOwn.never rfl (pi_range1 rfl T.range (pa_cons (pe_callB (call_min2 rfl) (by rfl) T.min PyProof.Rows.boot_min (pa_cons (pe_callB (call_lenK K) (by rfl) T.len PySem.boot_len (pa_cons (pv 3) pa_nil)) (pa_cons (pe_op op_add pe_int (pe_cal CLawDraw hr (by rfl) (pa_cons (pv 1) (pa_cons (pe_op op_add (pe_callB (call_lenK K) (by rfl) T.len PySem.boot_len (pa_cons (pv 3) pa_nil)) pe_int) (pa_cons pe_int pa_nil))))) pa_nil))) pa_nil)) (pg_name (i := 5) scLawText.nd rfl (Or.inl rfl))
        (pss_one (ps_expr (pe_bm PySem.F.plainAttrs_list PySem.F.slot_list_append PySem.F.type_list_append mt_append (pv 4) (pa_cons (pe_bm PySem.F.plainAttrs_list PySem.F.slot_list_pop PySem.F.type_list_pop mt_popAt (pv 3) (pa_cons (pe_cal CLawDraw hr (by rfl) (pa_cons (pv 1) (pa_cons (pe_op op_add (pe_callB (call_lenK K) (by rfl) T.len PySem.boot_len (pa_cons (pv 3) pa_nil)) (pv 5)) (pa_cons (pe_callB (call_lenK K) (by rfl) T.len PySem.boot_len (pa_cons (pv 3) pa_nil)) pa_nil)))) pa_nil)) pa_nil)))))
        (pss_one (ps_expr (pe_bm PySem.F.plainAttrs_list PySem.F.slot_list_append PySem.F.type_list_append mt_append (pv 3) (pa_cons (pe_op op_add_str (pe_op op_add_str pe_str (pe_bm PySem.F.plainAttrs_str PySem.F.slot_str_join PySem.F.type_str_join (mt_join K) (pe_ix ix_str pe_str (pe_cal CLawDraw hr (by rfl) (pa_cons (pv 1) (pa_cons (pe_op op_add (pe_callB (call_lenK K) (by rfl) T.len PySem.boot_len (pa_cons (pv 3) pa_nil)) pe_int) (pa_cons pe_int pa_nil)))) (fun _ _ => rfl)) (pa_cons (pv 4) pa_nil))) pe_str) pa_nil)))))))
      (pss_one (ps_ret (pe_ix (ix_listK K) (pv 3) pe_int (fun _ _ => rfl))))))))), ?_⟩
    refine ⟨_, rfl, a, ns, 1, rfl, hs, fun o => ?_⟩
    refine ⟨_, rfl, a, ns, 0, rfl, hs, fun c => ?_⟩
    obtain ⟨n, hn, hn1, hn10⟩ : ∃ n : Nat, 2 + c % 9 = (n : Int) ∧ 2 ≤ n ∧ n ≤ 10 := ⟨(2 + c % 9).toNat, by omega, by omega, by omega⟩
    refine ⟨_, _, rfl, rfl, (show (0 : Int) < 9 by decide), _, _, rfl, rfl, _, rfl, fun rg hrg => ?_⟩
    refine ⟨rg, 0, _, rfl, upd_same, by decide, by decide, by rw [hn]; omega, by rw [hn]; omega, by rw [hn]; omega, fun ll hll => ?_⟩
    rw [hn] at hll ⊢
    have el : ((List.range (((n : Int) - 0).toNat)).map fun i : Nat => V.int (0 + (i : Int))) = vv (List.range n) := by
      rw [show ((n : Int) - 0).toNat = n by omega]
      unfold vv iv
      rw [List.map_map]
      apply List.map_congr_left
      intro i _
      show V.int (0 + (i : Int)) = V.int (i : Int)
      rw [Int.zero_add]
    rw [el]
    refine ⟨Nat.zero_le _, fun tl htl => ?_⟩
    have s1 : Same H (upd H rg (.rng 0 (n : Int))) := same_upd (Same.refl H) hrg
    have s2 := same_upd (o := .lst (vv (List.range n))) s1 hll
    have s3 := same_upd (o := .lst []) s2 htl
    have hHll : H ll = none := same_none s1 hll
    have hHtl : H tl = none := same_none s2 htl
    have hlt : ll ≠ tl := fun z => by
      rw [← z, upd_same] at htl
      cases htl
    have h3l : upd (upd (upd H rg (.rng 0 (n : Int))) ll (.lst (vv (List.range n)))) tl (.lst []) ll = some (.lst (vv (List.range n))) := by rw [upd_ne hlt, upd_same]
    generalize hH3 : upd (upd (upd H rg (.rng 0 (n : Int))) ll (.lst (vv (List.range n)))) tl (.lst []) = H3 at *
    have h3t : H3 tl = some (.lst (tstrs (toldL []))) := by rw [← hH3]; exact upd_same
    -- the points
    refine while_of (fun σ H2 => ∃ (L ps : List Nat) (v4 v5 : Option V), σ = [some (.ref a), some (.int o), some (.ref ll), some (.ref tl), v4, v5] ∧ H2 ll = some (.lst (vv L)) ∧ H2 tl = some (.lst (tstrs (toldL (ps.map Tr.pt)))) ∧ Same H H2 ∧ (L ++ ps).Perm (List.range n)) (fun _ H2 => lenL (H2 ll)) ?_ ?_
    · exact ⟨List.range n, [], _, _, rfl, h3l, h3t, s3, by rw [List.append_nil]⟩
    rintro σ H2 ⟨L, ps, v4, v5, rfl, hL, hT, sm, hperm⟩
    refine ⟨_, rfl, Nat.zero_le _, fun e he => ?_⟩
    have se := same_upd (o := .lst []) (Same.refl H2) he
    refine ⟨ll, e, iv L, [], rfl, rfl, SqL.of (se _ _ hL), SqL.of upd_same, _, rfl, ?_⟩
    have hL3 := se _ _ hL
    have hT3 := se _ _ hT
    have sm3 := sm.trans se
    have hlen : L.length + ps.length = n := by
      have := hperm.length_eq
      rw [List.length_append, List.length_range] at this
      exact this
    generalize hHe : upd H2 e (.lst []) = He at *
    by_cases hne : L = []
    · refine iteF' (by rw [hne]; rfl) ?_
      subst hne
      rw [List.nil_append] at hperm
      have hp0 : (ptsL (ps.map Tr.pt)).Perm (List.range n) := by rw [ptsL_pts]; exact hperm
      have htw : ∀ t ∈ ps.map Tr.pt, t.two := fun t ht => by
        obtain ⟨p, hp, rfl⟩ := List.mem_map.mp ht
        have := List.mem_range.mp (hperm.subset hp)
        show p < 10
        omega
      have hpsl : (ps.map Tr.pt).length = n := by
        rw [List.length_map]
        simpa using hlen
      clear hL hL3 hT se hlen he hHe sm hperm
      generalize hps : ps.map Tr.pt = ts0 at *
      refine while_of (fun σ H2 => ∃ (ts : List Tr) (v4 v5 : Option V), σ = [some (.ref a), some (.int o), some (.ref ll), some (.ref tl), v4, v5] ∧ H2 tl = some (.lst (tstrs (toldL ts))) ∧ Same H H2 ∧ (ptsL ts).Perm (List.range n) ∧ (∀ t ∈ ts, t.two) ∧ 0 < ts.length ∧ ts.length ≤ n) (fun _ H2 => lenL (H2 tl)) ?_ ?_
      · exact ⟨ts0, _, _, rfl, hT3, sm3, hp0, htw, by omega, by omega⟩
      clear hp0 hps hpsl htw hT3 sm3
      rintro σ H2 ⟨ts, v4, v5, rfl, hT, sm, hpm, htw, hts, htn⟩
      refine ⟨_, rfl, tl, _, rfl, .inl (SqL.of hT), _, _, rfl, rfl, _, rfl, ?_⟩
      have hndr : (ptsL ts).Nodup := hpm.nodup_iff.mpr List.nodup_range
      have hl10 : (ptsL ts).length = n := by
        have := hpm.length_eq
        rw [List.length_range] at this
        exact this
      rw [tstrs_len, toldL_length]
      by_cases hgt : 1 < ts.length
      · refine iteT' (decide_eq_true (by omega)) ?_
        refine ⟨_, wh, ?_⟩
        refine ⟨Nat.zero_le _, fun sl hsl => ?_⟩
        have ss := same_upd (o := .lst []) (Same.refl H2) hsl
        have hst : sl ≠ tl := fun y => by
          rw [y, hT] at hsl
          cases hsl
        have hHs : H sl = none := same_none sm hsl
        have hTs := ss _ _ hT
        have sms := sm.trans ss
        have hSs : upd H2 sl (.lst []) sl = some (.lst (tstrs (toldL []))) := upd_same
        generalize hH4 : upd H2 sl (.lst []) = H4 at *
        refine ⟨_, rfl, tl, _, rfl, .inl (SqL.of hTs), _, rfl, _, rfl, tl, _, rfl, .inl (SqL.of hTs), _, _, rfl, rfl, o, _, _, rfl, by decide, fun z H5 hz s5 => ?_⟩
        rw [tstrs_len, toldL_length]
        refine ⟨_, _, rfl, rfl, _, _, rfl, ?_⟩
        obtain ⟨m, hm, hm2, hmr⟩ : ∃ m : Nat, (if (2 + (z : Int)) < (ts.length : Int) then (2 + (z : Int)) else (ts.length : Int)) = (m : Int) ∧ 2 ≤ m ∧ m ≤ ts.length := by
          by_cases hlt2 : (2 + (z : Int)) < (ts.length : Int)
          · exact ⟨2 + z, by rw [if_pos hlt2]; omega, by omega, by omega⟩
          · exact ⟨ts.length, by rw [if_neg hlt2], by omega, Nat.le_refl _⟩
        rw [hm]
        refine ⟨_, rfl, by omega, by omega, ?_⟩
        rw [Int.toNat_natCast]
        refine for_range (n := m) (fun i σ H6 => ∃ (ts1 ts2 : List Tr) (v : Option V), σ = [some (.ref a), some (.int o), some (.ref ll), some (.ref tl), some (.ref sl), v] ∧ H6 tl = some (.lst (tstrs (toldL ts1))) ∧ H6 sl = some (.lst (tstrs (toldL ts2))) ∧ Same H H6 ∧ (ptsL ts1 ++ ptsL ts2).Perm (List.range n) ∧ (∀ t ∈ ts1, t.two) ∧ (∀ t ∈ ts2, t.two) ∧ ts2.length = i ∧ ts1.length + i = ts.length)
          ⟨ts, [], _, rfl, s5 _ _ hTs, s5 _ _ hSs, sms.trans s5, by show (ptsL ts ++ []).Perm _; rw [List.append_nil]; exact hpm, htw, (fun _ h => nomatch h), rfl, rfl⟩ ?_ ?_
        · rintro i σ H6 hi ⟨ts1, ts2, v, rfl, ht6, hs6, s6, hpm6, w1, w2, hl2, hl1⟩
          have e0 : (0 : Int) + (i : Int) = ((i : Nat) : Int) := by omega
          rw [e0]
          refine ⟨_, rfl, .inl ⟨rfl, _, SqL.of hs6⟩, _, rfl, .inl ⟨rfl, _, SqL.of ht6⟩, _, rfl, _, rfl, tl, _, rfl, .inl (SqL.of ht6), _, rfl, _, _, rfl, rfl, _, rfl, tl, _, rfl, .inl (SqL.of ht6), o, _, _, rfl, by rw [tstrs_len, toldL_length]; omega, fun z H7 hz s7 => ?_⟩
          rw [tstrs_len, toldL_length] at hz
          have hzl : z < ts1.length := by omega
          have hu : ts1[z]? = some ts1[z] := List.getElem?_eq_getElem hzl
          have hu2 : (toldL ts1)[z]? = some ts1[z].told := by rw [toldL_map, List.getElem?_map, hu]; rfl
          refine ⟨tl, _, _, z, _, rfl, rfl, s7 _ _ ht6, by omega, by omega, by rw [tstrs_len, toldL_length]; exact seqIx_nat hzl, tstrs_get hu2, ?_⟩
          rw [tstrs_erase, toldL_erase]
          have h8s : upd H7 tl (.lst (tstrs (toldL (ts1.eraseIdx z)))) sl = some (.lst (tstrs (toldL ts2))) := by rw [upd_ne hst]; exact s7 _ _ hs6
          refine ⟨sl, _, _, rfl, rfl, h8s, by rw [tstrs_len, toldL_length, sizeLine_eq]; omega, ?_⟩
          rw [tstrs_snoc, ← toldL_snoc]
          refine ⟨ts1.eraseIdx z, ts2 ++ [ts1[z]], _, rfl, by rw [upd_ne (Ne.symm hst), upd_same], upd_same, sm_wr (sm_wr (s6.trans s7) hHtl) hHs, ?_, fun t ht => w1 t (List.mem_of_mem_eraseIdx ht), fun t ht => ?_, by rw [List.length_append, hl2]; rfl, ?_⟩
          · refine List.Perm.trans ?_ hpm6
            have q1 := (ptsL_perm (perm_erase hu)).append_right (ptsL ts2)
            refine List.Perm.trans ?_ q1.symm
            show (ptsL (ts1.eraseIdx z) ++ ptsL (ts2 ++ [ts1[z]])).Perm ((ts1[z].pts ++ ptsL (ts1.eraseIdx z)) ++ ptsL ts2)
            rw [ptsL_snoc, List.append_assoc, ← List.append_assoc (ptsL (ts1.eraseIdx z))]
            exact List.perm_append_comm
          · rcases List.mem_append.mp ht with ht | ht
            · exact w2 t ht
            · rw [List.mem_singleton.mp ht]
              exact w1 _ (List.getElem_mem hzl)
          · rw [List.length_eraseIdx, if_pos hzl]
            omega
        · rintro σ H6 ⟨ts1, ts2, v, rfl, ht6, hs6, s6, hpm6, w1, w2, hl2, hl1⟩
          refine ⟨_, rfl, .inl ⟨rfl, _, SqL.of ht6⟩, _, rfl, _, rfl, tl, _, rfl, .inl (SqL.of ht6), _, _, rfl, rfl, o, _, _, rfl, by decide, fun z H8 hz s8 => ?_⟩
          have hnd6 := hpm6.nodup_iff.mpr List.nodup_range
          have hle6 := hpm6.length_eq
          rw [List.length_append, List.length_range] at hle6
          obtain ⟨ac, hac⟩ : ∃ ac : Bool, atI (Str.ofString "+*").cps.toList (z : Int) = some (sgnC ac) := by
            have : z = 0 ∨ z = 1 := by omega
            rcases this with h | h <;> subst h
            · exact ⟨false, by decide +kernel⟩
            · exact ⟨true, by decide +kernel⟩
          refine ⟨_, _, _, rfl, rfl, (by decide +kernel), hac, rfl, _, rfl, sx [sgnC ac], sl, (toldL ts2).map sx, rfl, rfl, SqL.of (s8 _ _ hs6), ?_, ?_⟩
          · have hs := toldL_len ts2 (twoL_of w2)
            have hm : ((((toldL ts2).map sx).map (·.length)).sum) = ((toldL ts2).map (·.length)).sum := by
              rw [List.map_map]
              congr 1
            rw [hm, List.length_map, sx_len, toldL_length]
            show _ + ts2.length * 1 ≤ _
            omega
          · rw [join_sx]
            have hj := joinC_len (sgnC ac) (toldL ts2)
            have hs := toldL_len ts2 (twoL_of w2)
            rw [toldL_length] at hj
            refine ⟨_, _, rfl, rfl, ?_, _, _, rfl, rfl, ?_, tl, _, _, rfl, rfl, s8 _ _ ht6, by rw [tstrs_len, toldL_length, sizeLine_eq]; omega, ?_⟩
            · rw [paren_len.1, sx_len, sizeLine_eq]
              omega
            · rw [em_sx.2.1, sx_app, paren_len.2, sx_len, sizeLine_eq, List.length_append]
              show 1 + _ + 1 ≤ _
              omega
            · have e1 : (Str.ofString "(" ++ sx (joinC (sgnC ac) (toldL ts2))) ++ Str.ofString ")" = sx (Tr.doing ac ts2).told := by
                rw [em_sx.2.1, em_sx.2.2.1, sx_app, sx_app]
                rfl
              rw [e1, tstrs_snoc, ← toldL_snoc]
              have h10t : upd H8 tl (.lst (tstrs (toldL (ts1 ++ [.doing ac ts2])))) tl = some (.lst (tstrs (toldL (ts1 ++ [.doing ac ts2])))) := upd_same
              refine ⟨_, ?_, rfl, ts1 ++ [.doing ac ts2], _, _, rfl, h10t, sm_wr (s6.trans s8) hHtl, ?_, ?_, ?_, ?_⟩
              · rw [h10t, hT]
                show (tstrs (toldL (ts1 ++ [.doing ac ts2]))).length < (tstrs (toldL ts)).length
                rw [tstrs_len, tstrs_len, toldL_length, toldL_length, List.length_append]
                show ts1.length + 1 < ts.length
                omega
              · rw [ptsL_snoc]
                exact hpm6
              · intro t ht
                rcases List.mem_append.mp ht with ht | ht
                · exact w1 t ht
                · rw [List.mem_singleton.mp ht]
                  exact ⟨by omega, twoL_of w2⟩
              · rw [List.length_append]
                exact Nat.succ_pos _
              · rw [List.length_append]
                show ts1.length + 1 ≤ n
                omega
      · refine iteF' (decide_eq_false (by omega)) ?_
        obtain ⟨tr, rfl⟩ : ∃ tr, ts = [tr] := by
          match ts, hts, hgt with
          | [t], _, _ => exact ⟨t, rfl⟩
          | _ :: _ :: _, _, h => exact absurd (by simp) h
        refine ⟨_, rfl, tl, _, _, _, rfl, rfl, SqL.of hT, rfl, ?_⟩
        have ept : ptsL [tr] = tr.pts := by show tr.pts ++ [] = _; rw [List.append_nil]
        rw [ept] at hpm hndr hl10
        exact k tr H2 sm (htw tr (.head _)) hndr (by omega)
    · refine iteT' (by simp [iv, hne]) ?_
      have hpos : 0 < L.length := List.length_pos_iff.mpr hne
      refine ⟨_, wh, ?_⟩
      refine ⟨_, rfl, .inl ⟨rfl, _, SqL.of hT3⟩, _, rfl, .inl ⟨rfl, _, SqL.of hL3⟩, _, rfl, _, rfl, ll, _, rfl, .inl (SqL.of hL3), _, rfl, ll, _, rfl, .inl (SqL.of hL3), o, _, _, rfl, by rw [vv_len]; omega, fun z H4 hz s4 => ?_⟩
      rw [vv_len] at hz
      have hzl : z < L.length := by omega
      refine ⟨ll, _, _, z, _, rfl, rfl, s4 _ _ hL3, by omega, by omega, by rw [vv_len]; exact seqIx_nat hzl, vv_get hzl, ?_⟩
      rw [erase_vv]
      obtain ⟨p, hp⟩ : ∃ p, L[z]? = some p := ⟨L[z], List.getElem?_eq_getElem hzl⟩
      have epd : L.getD z 0 = p := by rw [List.getD_eq_getElem?_getD, hp]; rfl
      rw [epd]
      have hpn : p < n := List.mem_range.mp (hperm.subset (List.mem_append_left _ (List.mem_of_getElem? hp)))
      have h5t : upd H4 ll (.lst (vv (L.eraseIdx z))) tl = some (.lst (tstrs (toldL (ps.map Tr.pt)))) := by rw [upd_ne (Ne.symm hlt)]; exact s4 _ _ hT3
      have hle : (L.eraseIdx z).length = L.length - 1 := by rw [List.length_eraseIdx, if_pos hzl]
      refine ⟨_, rfl, ?_, tl, _, _, rfl, rfl, h5t, by rw [tstrs_len, toldL_length, List.length_map, sizeLine_eq]; omega, ?_⟩
      · rw [Int.natAbs_natCast]
        exact small_log (i := (p : Int)) (by omega)
      · rw [fig_sx p (by omega), tstrs_snoc, show ([48 + p] : List Nat) = (Tr.pt p).told from rfl, ← toldL_snoc]
        have h6l : upd (upd H4 ll (.lst (vv (L.eraseIdx z)))) tl (.lst (tstrs (toldL (ps.map Tr.pt ++ [Tr.pt p])))) ll = some (.lst (vv (L.eraseIdx z))) := by rw [upd_ne hlt, upd_same]
        refine ⟨_, ?_, rfl, L.eraseIdx z, ps ++ [p], _, _, rfl, h6l, by rw [upd_same, List.map_append]; rfl, sm_wr (sm_wr (sm3.trans s4) hHll) hHtl, ?_⟩
        · rw [h6l, hL]
          show (vv (L.eraseIdx z)).length < (vv L).length
          rw [vv_len, vv_len, hle]
          omega
        · refine List.Perm.trans ?_ hperm
          have q1 := (perm_erase hp).append_right ps
          refine List.Perm.trans ?_ q1.symm
          rw [List.cons_append, ← List.append_assoc]
          exact List.perm_append_comm (l₁ := L.eraseIdx z ++ ps) (l₂ := [p])
end
end Bw

set_option Elab.async false
set_option linter.all false
set_option maxRecDepth 100000
set_option maxHeartbeats 4000000
/-! the law's own reading of a text -/
namespace Bw
open PySem L2
theorem pss_imp {X : Cx} {st : List Stmt} {t t' : TS} (h : PSs X st t) (hi : ∀ D σ H, t' D σ H → t D σ H) : PSs X st t' := fun pins s σ H D I hw => h pins s σ H D I (hi D σ H hw)
def sgs (o : List (List Tr × Nat)) : List (List Nat) := o.map fun b => sgT b.2
def figL (f : List Nat) : List (List Nat) := f.map fun c => [c]
theorem tstrs_flat (l : List (List Nat)) : (tstrs l).all flatV = true := by
  rw [List.all_eq_true]
  intro x hx
  obtain ⟨y, hy, rfl⟩ := List.mem_map.mp hx
  rfl
theorem in_figs (c : Nat) : ∀ f : List Nat, inV (.str (sx [c])) (tstrs (figL f)) = decide (c ∈ f)
  | [] => rfl
  | a :: f => by
    show ((sx [a] == sx [c]) || inV (.str (sx [c])) (tstrs (figL f))) = _
    rw [in_figs c f, beq_sx]
    by_cases h : a = c
    · subst h; simp
    · have : ¬ c = a := fun z => h z.symm
      simp [h, this]
theorem sgs_snoc (o : List (List Tr × Nat)) (b : List Tr × Nat) : sgs (o ++ [b]) = sgs o ++ [sgT b.2] := by
  unfold sgs
  rw [List.map_append]
  rfl
theorem sgs_len (o : List (List Tr × Nat)) : (sgs o).length = o.length := List.length_map _
theorem sgs_put (st : RS) (t : Tr) : sgs (st.put t).opened = sgs st.opened := by
  obtain ⟨o, f, d, w⟩ := st
  rcases RS.last_cases o with rfl | ⟨o', ⟨inner, b⟩, rfl⟩
  · rfl
  · rw [RS.put_snoc, sgs_snoc, sgs_snoc]
theorem sgs_ok {st : RS} (g : st.Good) : ∀ y ∈ (sgs st.opened).map sx, PyData.strOk y = true := fun y hy => by
  obtain ⟨z, hz, rfl⟩ := List.mem_map.mp hy
  obtain ⟨b, hb, rfl⟩ := List.mem_map.mp hz
  rcases g.sgn b hb with e | e | e <;> rw [e] <;> decide +kernel
theorem last_at (l : List V) (x : V) : atI (l ++ [x]) (-1) = some x := atI_last _ _
theorem ix_last (l : List V) (x : V) : ixN (l ++ [x]).length (-1) = some l.length := by
  unfold ixN
  rw [if_neg (by decide), if_pos (by rw [List.length_append]; show -(((l.length + 1 : Nat)) : Int) ≤ -1; omega), List.length_append]
  show some ((-1 + ((l.length + 1 : Nat) : Int)).toNat) = _
  congr 1
  omega
theorem set_last (l : List V) (x y : V) : (l ++ [x]).set l.length y = l ++ [y] := by simp
theorem nil_iff (o : List (List Tr × Nat)) : decide ((sgs o).map sx = []) = decide (o = []) := by
  cases o with
  | nil => rfl
  | cons a o => simp [sgs]
theorem in_pms (c : Nat) : decide (c ∈ [43, 42]) = decide (c = 43 ∨ c = 42) := by simp
theorem pm_sx : Str.ofString "+*" = sx [43, 42] := by decide +kernel
structure WAt (H0 : Hp) (ol ml : Addr) (st : RS) (H : Hp) : Prop where
  op : H ol = some (.lst (tstrs (sgs st.opened)))
  mt : H ml = some (.lst (tstrs (figL st.figs)))
  sm : Same H0 H
  n1 : H0 ol = none
  n2 : H0 ml = none
  ne : ol ≠ ml
theorem WAt.same {H0 H H' : Hp} {ol ml : Addr} {st : RS} (W : WAt H0 ol ml st H) (s : Same H H') : WAt H0 ol ml st H' := ⟨s _ _ W.op, s _ _ W.mt, W.sm.trans s, W.n1, W.n2, W.ne⟩
def tWrStep (l : List Nat) (H0 : Hp) : TS := fun D σ H => ∃ (ol ml : Addr) (st : RS) (i c : Nat), σ = [some (.str (sx l)), some (.ref ol), some (.ref ml), some (.bl st.due), some (.int (i : Int)), some (.str (sx [c]))] ∧ WAt H0 ol ml st H ∧ st.Good ∧
  st.opened.length ≤ 10000 ∧ (st.due = false → st.opened ≠ []) ∧ (st.take c = none → ∀ H', Same H0 H' → D.rt (.int (i : Int)) H') ∧
  (∀ st' H' v4 v5, st.take c = some st' → WAt H0 ol ml st' H' → D.nx [some (.str (sx l)), some (.ref ol), some (.ref ml), some (.bl st'.due), v4, v5] H')
section
variable {P : Program} {w : World} {K : PySem.W.Frag} {mg : Str → Option Value} {base : Heap} {cs : Cl}
def spWrong : Sp := fun vs H Q _ => ∃ l : List Nat, vs = [.str (sx l)] ∧ l.length ≤ 10000 ∧ ∀ H', Same H H' → Q (.int (wrongAt l)) H'
theorem scLawWrong : FnScope ["_law_text_here", "_law_open_signs", "_law_met", "_law_due", "_law_at", "_law_sign"] ["_law_text_here"] (defScope sLawWrong) := ⟨rfl, rfl, rfl, by decide +kernel, rfl, by decide +kernel, by decide +kernel⟩
theorem ok_lawWrong (T : Txt K mg cs) : Cal P w K mg base 1 "_law_wrong" ["_law_text_here"] spWrong := by
  refine T.lawWrong.cal scLawWrong (fun vs H Q E h => ?_) (fun f cdv A outer s H vs Q E hr h => ?_)
  · obtain ⟨l, rfl, _⟩ := h
    rfl
  · obtain ⟨l, rfl, hl, k⟩ := h
    have hu64 := hr.units
    refine ⟨_, (pss_cons (ps_set (i := 1) scLawWrong.nd rfl (Or.inl rfl) (pe_lst pa_nil))
      (pss_cons (ps_set (i := 2) scLawWrong.nd rfl (Or.inl rfl) (pe_lst pa_nil))
      (pss_cons (ps_set (i := 3) scLawWrong.nd rfl (Or.inl rfl) pe_bl)
      (pss_cons (ps_for PassesOwn.never rfl (pi_range1 rfl T.range (pa_cons (pe_callB call_len_str (by rfl) T.len PySem.boot_len (pa_cons (pv 0) pa_nil)) pa_nil)) (pg_name (i := 4) scLawWrong.nd rfl (Or.inl rfl))
      (pss_cons (ps_set (i := 5) scLawWrong.nd rfl (Or.inl rfl) (pe_ix ix_str (pv 0) (pv 4) (fun _ _ => rfl)))
        (pss_cons (ps_if (PW.pt (pw_and (pt_cmpR op_gt (pv 4) pe_int (nomark _)) (pw_and (pt_cmpR (op_eqS hu64) (pv 1) (pe_lst pa_nil) (nomark _)) (pw_and1 (pt_not (pt_val (pv 3)))))))
        (pss_one (ps_ret (pv 4)))
        pss_nil)
        (pss_imp (t' := tWrStep l H) (pss_one (ps_if (PW.pt (pw_and (pt_val (pv 3)) (pw_and1 (pt_cmpR op_eq (pv 5) pe_str (nomark _)))))
        (pss_one (ps_expr (pe_bm PySem.F.plainAttrs_list PySem.F.slot_list_append PySem.F.type_list_append mt_append (pv 1) (pa_cons pe_str pa_nil))))
        (pss_one (ps_if (pt_val (pv 3))
          (pss_cons (ps_if (PW.pt (pw_or (pt_cmpR op_notIn_str (pv 5) pe_str rfl) (pw_or1 (pt_cmpR (op_inK K) (pv 5) (pv 2) rfl))))
            (pss_one (ps_ret (pv 4)))
            pss_nil)
            (pss_cons (ps_expr (pe_bm PySem.F.plainAttrs_list PySem.F.slot_list_append PySem.F.type_list_append mt_append (pv 2) (pa_cons (pv 5) pa_nil)))
            (pss_one (ps_set (i := 3) scLawWrong.nd rfl (Or.inl rfl) pe_bl))))
          (pss_one (ps_if (PW.pt (pw_and (pt_cmpR op_in_str (pv 5) pe_str rfl) (pw_and1 (pt_cmpR (op_inK K) (pe_ix (ix_listK K) (pv 1) (pe_un un_neg pe_int) (fun _ _ => rfl)) (pe_lst (pa_cons pe_str (pa_cons (pv 5) pa_nil))) rfl))))
            (pss_cons (ps_asg (pv 5) (pg_sub (pv 1) (pe_un un_neg pe_int) set_list))
              (pss_one (ps_set (i := 3) scLawWrong.nd rfl (Or.inl rfl) pe_bl)))
            (pss_one (ps_if (PW.pt (pw_and (pt_cmpR op_eq (pv 5) pe_str (nomark _)) (pw_and1 (pt_cmpR op_ne (pe_ix (ix_listK K) (pv 1) (pe_un un_neg pe_int) (fun _ _ => rfl)) pe_str (nomark _)))))
              (pss_one (ps_expr (pe_bm0 PySem.F.plainAttrs_list PySem.F.slot_list_pop PySem.F.type_list_pop mt_pop (pv 1))))
              (pss_one (ps_ret (pv 4))))))))))) ?t))))
      (pss_one (ps_ret (pe_ifExp (PW.pt (pw_or (pt_val (pv 3)) (pw_or1 (pt_cmpR (op_neS hu64) (pv 1) (pe_lst pa_nil) (nomark _))))) (pe_callB call_len_str (by rfl) T.len PySem.boot_len (pa_cons (pv 0) pa_nil)) (pe_un un_neg pe_int)))))))), ?_⟩
    case t =>
      rintro D σ H2 ⟨ol, ml, st, i, c, rfl, W, g, hol, hne, kN, kS⟩
      refine ⟨_, rfl, _, rfl, ?_⟩
      cases hd : st.due with
      | true =>
        refine iteT' rfl ?_
        refine ⟨_, rfl, rfl, _, rfl, ?_⟩
        rw [em_sx.2.1, dec_sx]
        by_cases h1 : c = 40
        · refine iteT' (decide_eq_true (by rw [h1])) ?_
          subst h1
          refine ⟨_, rfl, .inl ⟨rfl, _, SqL.of W.op⟩, ol, _, _, rfl, rfl, W.op, by rw [tstrs_len, sgs_len, sizeLine_eq]; omega, ?_⟩
          rw [em_sx.1, tstrs_snoc]
          have := kS _ (upd H2 ol (.lst (tstrs (sgs st.opened ++ [[]])))) (some (.int (i : Int))) (some (.str (sx [40]))) (RS.take_open hd) ⟨by rw [upd_same]; show _ = some (HO.lst (tstrs (sgs (st.opened ++ [([], 0)])))); rw [sgs_snoc]; rfl, by rw [upd_ne (Ne.symm W.ne)]; exact W.mt, sm_wr W.sm W.n1, W.n1, W.n2, W.ne⟩
          dsimp only at this
          rw [hd] at this
          exact this
        · refine iteF' (decide_eq_false (by simpa using h1)) ?_
          refine ⟨_, rfl, _, rfl, iteT' rfl ?_⟩
          refine ⟨_, rfl, _, _, rfl, rfl, _, rfl, ?_⟩
          rw [em_sx.2.2.2.2.2, in_one]
          by_cases h2 : 48 ≤ c ∧ c < 58
          · refine iteF' (by rw [decide_eq_true ((mem_figs c).mpr h2)]; rfl) ?_
            refine ⟨_, rfl, _, rfl, ml, _, rfl, .inl (SqL.of W.mt), rfl, tstrs_flat _, _, rfl, ?_⟩
            show (if (inV (.str (sx [c])) (tstrs (figL st.figs))) = true then _ else _)
            rw [in_figs]
            by_cases h3 : c ∈ st.figs
            · refine iteT' (decide_eq_true h3) ?_
              exact ⟨_, rfl, kN (RS.take_bad hd h1 (.inr h3)) _ W.sm⟩
            · refine iteF' (decide_eq_false h3) ?_
              have hfl := figs_len g
              refine ⟨_, rfl, .inl ⟨rfl, _, SqL.of W.mt⟩, _, rfl, ml, _, _, rfl, rfl, W.mt, by rw [tstrs_len]; unfold figL; rw [List.length_map, sizeLine_eq]; omega, ?_⟩
              rw [tstrs_snoc]
              have := kS _ (upd H2 ml (.lst (tstrs (figL st.figs ++ [[c]])))) (some (.int (i : Int))) (some (.str (sx [c]))) (RS.take_fig hd h1 (by rintro (z | z); exact z h2; exact h3 z)) ⟨by rw [sgs_put, upd_ne W.ne]; exact W.op, by rw [upd_same, RS.put_figs]; show _ = some (HO.lst (tstrs (figL (st.figs ++ [c])))); unfold figL; rw [List.map_append]; rfl, sm_wr W.sm W.n2, W.n1, W.n2, W.ne⟩
              rw [RS.put_due] at this
              exact this
          · refine iteT' (by rw [decide_eq_false (fun z => h2 ((mem_figs c).mp z))]; rfl) ?_
            exact ⟨_, rfl, kN (RS.take_bad hd h1 (.inl h2)) _ W.sm⟩
      | false =>
        refine iteF' rfl ?_
        refine ⟨_, rfl, _, rfl, iteF' rfl ?_⟩
        refine ⟨_, rfl, _, _, rfl, rfl, _, rfl, ?_⟩
        rw [pm_sx, in_one, in_pms]
        rcases RS.last_cases st.opened with ho | ⟨o, b, ho⟩
        · exact absurd ho (hne hd)
        have hop := W.op
        rw [ho, sgs_snoc, ← tstrs_snoc] at hop
        have hol' : o.length + 1 ≤ 10000 := by rw [ho, List.length_append] at hol; exact hol
        by_cases hs : c = 43 ∨ c = 42
        · refine iteT' (decide_eq_true hs) ?_
          refine ⟨_, rfl, _, rfl, ol, _, _, _, rfl, rfl, SqL.of hop, last_at _ _, _, rfl, (by rw [sizeLine_eq]; show 2 ≤ _; decide), fun e he => ?_⟩
          have se := same_upd (o := .lst [V.str (Str.ofString ""), V.str (sx [c])]) (Same.refl H2) he
          refine ⟨e, _, rfl, .inl (SqL.of upd_same), rfl, rfl, _, rfl, ?_⟩
          show (if (inV (.str (sx (sgT b.2))) [.str (Str.ofString ""), .str (sx [c])]) = true then _ else _)
          rw [in_be]
          by_cases h2 : b.2 = 0 ∨ b.2 = c
          · refine iteT' (decide_eq_true h2) ?_
            refine ⟨_, rfl, _, rfl, _, rfl, ol, _, _, _, rfl, rfl, se _ _ hop, ix_last _ _, ?_⟩
            rw [set_last, tstrs_snoc]
            have ec : [c] = sgT c := by
              unfold sgT
              rw [if_neg (by rcases hs with z | z <;> rw [z] <;> decide)]
            have W2 := W.same se
            generalize upd H2 e (.lst [V.str (Str.ofString ""), V.str (sx [c])]) = He at *
            exact kS _ _ _ _ (RS.take_sign hd ho ⟨hs, h2⟩) ⟨by rw [upd_same]; show _ = some (HO.lst (tstrs (sgs (o ++ [(b.1, c)])))); rw [sgs_snoc, ec], by rw [upd_ne (Ne.symm W.ne)]; exact W2.mt, sm_wr W2.sm W.n1, W.n1, W.n2, W.ne⟩
          · refine iteF' (decide_eq_false h2) ?_
            refine ⟨_, rfl, rfl, _, rfl, ?_⟩
            rw [em_sx.2.2.1, dec_sx]
            refine iteF' (decide_eq_false (by simp; rcases hs with z | z <;> omega)) ?_
            exact ⟨_, rfl, kN (RS.take_none hd ho (fun z => h2 z.2) (.inl (by rcases hs with z | z <;> omega))) _ (W.sm.trans se)⟩
        · refine iteF' (decide_eq_false hs) ?_
          refine ⟨_, rfl, rfl, _, rfl, ?_⟩
          rw [em_sx.2.2.1, dec_sx]
          by_cases h3 : c = 41
          · refine iteT' (decide_eq_true (by rw [h3])) ?_
            refine ⟨_, rfl, _, rfl, ol, _, _, _, rfl, rfl, SqL.of hop, last_at _ _, rfl, _, rfl, ?_⟩
            rw [em_sx.1, dec_sx, sgT_em]
            by_cases h4 : b.2 = 0
            · refine iteF' (by rw [decide_eq_true h4]; rfl) ?_
              exact ⟨_, rfl, kN (RS.take_none hd ho (fun z => hs z.1) (.inr h4)) _ W.sm⟩
            · refine iteT' (by rw [decide_eq_false h4]; rfl) ?_
              refine ⟨_, rfl, .inl ⟨rfl, _, SqL.of hop⟩, ol, _, V.str (sx (sgT b.2)), rfl, rfl, hop, by simp, ?_⟩
              rw [List.dropLast_concat]
              have := kS _ (upd H2 ol (.lst (tstrs (sgs o)))) (some (.int (i : Int))) (some (.str (sx [c]))) (RS.take_close hd ho (fun z => hs z.1) (by rintro (z | z); exact z h3; exact h4 z)) ⟨by rw [sgs_put, upd_same], by rw [upd_ne (Ne.symm W.ne), RS.put_figs]; exact W.mt, sm_wr W.sm W.n1, W.n1, W.n2, W.ne⟩
              rw [RS.put_due] at this
              exact this
          · refine iteF' (decide_eq_false (by simpa using h3)) ?_
            exact ⟨_, rfl, kN (RS.take_none hd ho (fun z => hs z.1) (.inl h3)) _ W.sm⟩
    refine ⟨Nat.zero_le _, fun ol hol => ⟨Nat.zero_le _, fun ml hml => ?_⟩⟩
    have s1 := same_upd (o := .lst []) (Same.refl H) hol
    have s2 := same_upd (o := .lst []) s1 hml
    have nlm : ol ≠ ml := fun z => by
      rw [← z, upd_same] at hml
      cases hml
    refine ⟨_, rfl, _, rfl, (by rw [sx_len, sizeLine_eq]; omega), _, rfl, by rw [sx_len]; omega, by rw [sx_len]; omega, ?_⟩
    rw [sx_len, Int.toNat_natCast]
    refine for_range (n := l.length) (fun i σ H6 => ∃ (st : RS) (v4 v5 : Option V), σ = [some (.str (sx l)), some (.ref ol), some (.ref ml), some (.bl st.due), v4, v5] ∧ RS.start.run (l.take i) = some st ∧ st.Good ∧ st.opened.length ≤ i ∧ WAt H ol ml st H6)
      ⟨RS.start, _, _, rfl, rfl, RS.start_good, Nat.le_refl _, ⟨by rw [upd_ne nlm, upd_same]; rfl, upd_same, s2, hol, same_none s1 hml, nlm⟩⟩ ?_ ?_
    · rintro i σ H6 hi ⟨st, v4, v5, rfl, hri, g, hlen, W⟩
      have e0 : (0 : Int) + (i : Int) = ((i : Nat) : Int) := by omega
      rw [e0]
      obtain ⟨c, hc⟩ : ∃ c, l[i]? = some c := ⟨l[i], List.getElem?_eq_getElem hi⟩
      have ert : RS.start.run (l.take (i + 1)) = st.take c := by
        rw [show l.take (i + 1) = l.take i ++ [c] by rw [List.take_add_one, hc]; rfl, RS.run_snoc, hri]
        rfl
      refine ⟨_, rfl, _, rfl, _, _, c, rfl, rfl, by rw [sx_len, sizeLine_eq]; omega, atI_nat (by simpa [sx] using hc), ?_⟩
      have step : ∀ (D : Ends) (H' : Hp), Same H6 H' → (st.due = false → st.opened ≠ []) → (∀ H', Same H H' → D.rt (.int (wrongAt l)) H') → (∀ σ' H', (∃ (st : RS) (v4 v5 : Option V), σ' = [some (.str (sx l)), some (.ref ol), some (.ref ml), some (.bl st.due), v4, v5] ∧ RS.start.run (l.take (i + 1)) = some st ∧ st.Good ∧ st.opened.length ≤ i + 1 ∧ WAt H ol ml st H') → D.nx σ' H') → tWrStep l H D [some (.str (sx l)), some (.ref ol), some (.ref ml), some (.bl st.due), some (.int (i : Int)), some (.str (sx [c]))] H' := by
        intro D H' s hne kR kX
        refine ⟨ol, ml, st, i, c, rfl, W.same s, g, by omega, hne, fun hno H2 s2 => ?_, fun st' H2 v4 v5 e W2 => ?_⟩
        · rw [← wrong_at hri hc hno]
          exact kR H2 s2
        · exact kX _ _ ⟨st', _, _, rfl, ert.trans e, RS.good_take g e, by have := RS.take_len e; omega, W2⟩
      refine ⟨_, rfl, _, _, rfl, rfl, _, rfl, ?_⟩
      have kR : ∀ H', Same H H' → Q (.int (wrongAt l)) H' := k
      by_cases hE : st.opened = [] ∧ st.due = false
      · have hi0 : 0 < i := by
          rcases Nat.eq_zero_or_pos i with z | z
          · exfalso
            rw [z] at hri
            have : RS.start = st := Option.some.inj hri
            rw [← this] at hE
            exact absurd hE.2 (by decide)
          · exact z
        refine iteT' (decide_eq_true (by omega)) ?_
        refine ⟨_, rfl, Nat.zero_le _, fun e he => ?_⟩
        have se := same_upd (o := .lst []) (Same.refl H6) he
        refine ⟨ol, e, (sgs st.opened).map sx, [], rfl, rfl, SqL.of (se _ _ W.op), SqL.of upd_same, sgs_ok g, (fun _ h => nomatch h), _, rfl, ?_⟩
        show (if (decide ((sgs st.opened).map sx = [])) = true then _ else _)
        rw [nil_iff]
        refine iteT' (decide_eq_true hE.1) ?_
        refine ⟨_, rfl, _, rfl, iteT' (by rw [hE.2]; rfl) ⟨_, rfl, ?_⟩⟩
        have := kR _ (W.sm.trans se)
        rw [wrong_at hri hc (RS.take_end hE.2 hE.1 c)] at this
        exact this
      · have hne : st.due = false → st.opened ≠ [] := fun h z => hE ⟨z, h⟩
        by_cases hi0 : 0 < i
        · refine iteT' (decide_eq_true (by omega)) ?_
          refine ⟨_, rfl, Nat.zero_le _, fun e he => ?_⟩
          have se := same_upd (o := .lst []) (Same.refl H6) he
          refine ⟨ol, e, (sgs st.opened).map sx, [], rfl, rfl, SqL.of (se _ _ W.op), SqL.of upd_same, sgs_ok g, (fun _ h => nomatch h), _, rfl, ?_⟩
          show (if (decide ((sgs st.opened).map sx = [])) = true then _ else _)
          rw [nil_iff]
          by_cases hn : st.opened = []
          · refine iteT' (decide_eq_true hn) ?_
            have hd : st.due = true := by
              cases h : st.due with
              | true => rfl
              | false => exact absurd ⟨hn, h⟩ hE
            refine ⟨_, rfl, _, rfl, iteF' (by rw [hd]; rfl) ?_⟩
            exact step _ _ se hne kR fun _ _ h => h
          · refine iteF' (decide_eq_false hn) ?_
            exact step _ _ se hne kR fun _ _ h => h
        · refine iteF' (decide_eq_false (by omega)) ?_
          exact step _ _ (Same.refl H6) hne kR fun _ _ h => h
    · rintro σ H6 ⟨st, v4, v5, rfl, hri, g, hlen, W⟩
      rw [List.take_length] at hri
      have hw := wrong_end hri
      refine ⟨_, rfl, _, rfl, ?_⟩
      cases hd : st.due with
      | true =>
        refine iteT' rfl ?_
        refine iteT ⟨_, rfl, _, rfl, (by rw [sx_len, sizeLine_eq]; omega), ?_⟩
        rw [if_pos (.inl hd)] at hw
        rw [sx_len, ← hw]
        exact k H6 W.sm
      | false =>
        refine iteF' rfl ?_
        refine ⟨_, rfl, Nat.zero_le _, fun e he => ?_⟩
        have se := same_upd (o := .lst []) (Same.refl H6) he
        refine ⟨ol, e, (sgs st.opened).map sx, [], rfl, rfl, SqL.of (se _ _ W.op), SqL.of upd_same, sgs_ok g, (fun _ h => nomatch h), _, rfl, ?_⟩
        show (if (!decide ((sgs st.opened).map sx = [])) = true then _ else _)
        rw [nil_iff]
        by_cases hn : st.opened = []
        · refine iteF' (by rw [decide_eq_true hn]; rfl) ?_
          rw [if_neg (by rintro (z | z); rw [hd] at z; cases z; exact z hn)] at hw
          have := k _ (W.sm.trans se)
          rw [hw] at this
          exact ⟨_, rfl, this⟩
        · refine iteT' (by rw [decide_eq_false hn]; rfl) ?_
          rw [if_pos (.inr hn)] at hw
          refine ⟨_, rfl, _, rfl, (by rw [sx_len, sizeLine_eq]; omega), ?_⟩
          rw [sx_len, ← hw]
          exact k _ (W.sm.trans se)
end
end Bw

set_option Elab.async false
set_option linter.all false
set_option maxRecDepth 100000
set_option maxHeartbeats 4000000
/-! how a text is refused, as the law asks it -/
namespace Bw
open PySem L2
def rp : V → Int
  | .str z => if 100 < z.length then 100 else wrongAt z.cps.toList
  | _ => 0
theorem rp_sx (l : List Nat) : rp (.str (sx l)) = if 100 < l.length then 100 else wrongAt l := by
  show (if 100 < (sx l).length then (100 : Int) else wrongAt (sx l).cps.toList) = _
  rw [sx_len]
  rfl
theorem kit_ss (K : PySem.W.Frag) : PySem.W.kitOne K (.type "str") (.type "str") = some true := by rfl
def Askable (K : PySem.W.Frag) (H : Hp) (v : V) : Prop := (∃ l : List Nat, v = .str (sx l) ∧ l.length ≤ 10000) ∨ ∃ t, TyOf K H v t ∧ PySem.W.kitOne K t (.type "str") = some false ∧ rp v = 0
section
variable {P : Program} {w : World} {K : PySem.W.Frag} {mg : Str → Option Value} {base : Heap} {cs : Cl}
def spRefused (K : PySem.W.Frag) : Sp := fun vs H Q _ => ∃ v : V, vs = [v] ∧ Askable K H v ∧ ∀ H', Same H H' → Q (.int (rp v)) H'
theorem scLawRefused : FnScope ["_law_text_here", "_law_found", "error", "_law_others"] ["_law_text_here"] (defScope sLawRefused) := ⟨rfl, rfl, rfl, by decide +kernel, rfl, by decide +kernel, by decide +kernel⟩
theorem ok_lawRefused (T : Txt K mg cs) : Cal P w K mg base 20 "_law_refused" ["_law_text_here"] (spRefused K) := by
  have CRead := ok_readX (P := P) (w := w) (base := base) T
  refine T.lawRefused.cal scLawRefused (fun vs H Q E h => ?_) (fun f cdv A outer s H vs Q E hr h => ?_)
  · obtain ⟨v, rfl, _⟩ := h
    rfl
  · obtain ⟨v, rfl, hv, k⟩ := h
    refine ⟨_, (pss_cons (ps_try_as (i := 2) (E := fun C dx H' => C = .ref cs.BadText ∧ ∃ d, dx = some d ∧ H' d = some (.xd [("place", .int (rp v))]) ∧ Same H H') ["_law_text_here", "_law_found", "error", "_law_others"] K rfl rfl
        (fun pn W hth => pss_one (ps_set (i := 1) scLawRefused.nd rfl (Or.inl rfl) (pe_md0 P w K mg base _ (pe_calX CRead hr (by rfl) hth (pa_cons (pv 0) pa_nil))))) (by rfl) T.gWebError T.cWebError
        (fun a => pss_cons (ps_set (i := 3) scLawRefused.nd rfl (Or.inl rfl) (pe_lst (pa_cons (pe_callB (call_isX K) (by rfl) T.isinst PyProof.Rows.boot_isinstance (pa_cons (pv 2) (pa_cons (pe_glob (v := .ref cs.BadTree) (by rfl) T.gBadTree rfl) pa_nil)))
            (pa_cons (pe_callB (call_isX K) (by rfl) T.isinst PyProof.Rows.boot_isinstance (pa_cons (pv 2) (pa_cons (pe_glob (v := .ref cs.BadWeb) (by rfl) T.gBadWeb rfl) pa_nil)))
            (pa_cons (pe_callB (call_isX K) (by rfl) T.isinst PyProof.Rows.boot_isinstance (pa_cons (pv 2) (pa_cons (pe_glob (v := .ref cs.NoPoint) (by rfl) T.gNoPoint rfl) pa_nil))) pa_nil)))))
          (pss_cons (ps_if (PW.pt (pw_or (pt_val (pe_callB (call_anyX K rfl) (by rfl) T.any PyProof.Rows.boot_any (pa_cons (pv 3) pa_nil)))
              (pw_or (pt_val (pe_callB (call_isX K) (by rfl) T.isinst PyProof.Rows.boot_isinstance (pa_cons (pv 2) (pa_cons (pe_glob (v := .ref cs.NotMade) (by rfl) T.gNotMade rfl) pa_nil))))
              (pw_or1 (pt_not (pt_val (pe_callB (call_isX K) (by rfl) T.isinst PyProof.Rows.boot_isinstance (pa_cons (pv 2) (pa_cons (pe_glob (v := .ref cs.BadText) (by rfl) T.gBadText rfl) pa_nil)))))))))
            (pss_one (ps_ret (pe_un un_neg pe_int))) pss_nil)
          (pss_one (ps_ret (pe_ifExp (pt_val (pe_callB (call_isX K) (by rfl) T.isinst PyProof.Rows.boot_isinstance (pa_cons (pv 2) (pa_cons (pe_bltn (v := .ty "ValueError") (by rfl) T.valueError PyProof.Rows.Boot.«ValueError» rfl) pa_nil))))
            (pe_xfld (pv 2) rfl K) (pe_un un_neg pe_int))))))
        scLawRefused.nd rfl rfl)
      (pss_one (ps_ret (pe_ifExp (pt_cmpR op_eq (pv 1) (pv 0) (nomark _)) (pe_un un_neg pe_int) (pe_un un_neg pe_int))))), ?_⟩
    refine ⟨?_, ?_⟩
    · rcases hv with ⟨l, rfl, hl⟩ | ⟨t, ty, hk, h0⟩
      · refine ⟨_, rfl, _, _, true, rfl, TyOf.str _, kit_ss K, (fun z => nomatch z), fun _ => ⟨l, rfl, hl, fun h => ?_, fun h => ⟨fun st t hrun g hwh => ?_, fun hne => ?_⟩⟩⟩
        · intro dx H' s' e
          rw [rp_sx, if_pos h]
          exact ⟨rfl, dx, rfl, e, s'⟩
        · intro x H1 hx s1 hT
          have hop := (g.wh (by rw [hwh]; exact fun z => nomatch z))
          have ep : st.pts = t.pts := by
            unfold RS.pts
            rw [hop.1, hwh]
            rfl
          have nd := figC_nodup (g.fig ▸ g.nd)
          have lt := figC_lt (g.fig ▸ g.rng)
          rw [ep] at nd lt
          have hT' := hT.same (fresh_sub (H := H) (H' := H1))
          refine asked_use (told_all T 10 hT' (nodup_length nd lt) fun H2 s2 => ?_) (hr.mono (by decide))
          have et := told_of_run hrun hwh
          have hw : wrongAt l = -1 := by rw [wrong_end hrun, if_neg (by rintro (z | z); rw [hop.2] at z; cases z; exact z hop.1)]
          refine ⟨_, rfl, _, rfl, rfl, _, rfl, ?_⟩
          rw [dec_sx, et]
          refine iteT' (decide_eq_true rfl) ?_
          have := k H2 (s1.trans s2)
          rw [rp_sx, if_neg (by omega), hw] at this
          exact ⟨_, rfl, this⟩
        · intro dx H' s' e
          rw [rp_sx, if_neg (by omega)]
          exact ⟨rfl, dx, rfl, e, s'⟩
      · refine ⟨_, rfl, _, _, false, rfl, ty, hk, fun _ => ?_, (fun z => nomatch z)⟩
        intro dx H' s' e
        rw [h0]
        exact ⟨rfl, dx, rfl, e, s'⟩
    · rintro a C dx H' ⟨rfl, d, rfl, hd, sm⟩ hat
      refine ⟨cs.BadText, rfl, T.eBadTextWebError, ?_⟩
      refine ⟨_, rfl, a, cs.BadText, d, _, _, .ref cs.BadTree, false, rfl, rfl, (fun u h => h), hat, hd, T.xBadText, T.kBadTextBadTree, ?_⟩
      refine ⟨_, rfl, a, cs.BadText, d, _, _, .ref cs.BadWeb, false, rfl, rfl, (fun u h => h), hat, hd, T.xBadText, T.kBadTextBadWeb, ?_⟩
      refine ⟨_, rfl, a, cs.BadText, d, _, _, .ref cs.NoPoint, false, rfl, rfl, (fun u h => h), hat, hd, T.xBadText, T.kBadTextNoPoint, ?_⟩
      refine ⟨(by rw [sizeLine_eq]; show 3 ≤ _; decide), fun l hl => ?_⟩
      have s1 := same_upd (o := .lst [V.bl false, V.bl false, V.bl false]) (Same.refl H') hl
      have hat1 := s1 _ _ hat
      have hd1 := s1 _ _ hd
      refine ⟨_, rfl, l, [false, false, false], _, _, rfl, SqL.of upd_same, hat1, _, rfl, iteF' rfl ?_⟩
      refine ⟨_, rfl, a, cs.BadText, d, _, _, .ref cs.NotMade, false, rfl, rfl, (fun u h => h), hat1, hd1, T.xBadText, T.kBadTextNotMade, _, rfl, iteF' rfl ?_⟩
      refine ⟨_, rfl, a, cs.BadText, d, _, _, .ref cs.BadText, true, rfl, rfl, (fun u h => h), hat1, hd1, T.xBadText, T.kBadTextBadText, _, rfl, iteF' rfl ?_⟩
      refine ⟨_, rfl, a, cs.BadText, d, _, _, .type "ValueError", true, rfl, rfl, (fun u h => h), hat1, hd1, T.xBadText, T.kBadTextV, _, rfl, iteT' rfl ?_⟩
      exact ⟨_, rfl, a, cs.BadText, d, _, _, rfl, hat1, hd1, T.xBadText, T.nBadTextPlace, rfl, k _ (sm.trans s1)⟩
end
end Bw

set_option Elab.async false
set_option linter.all false
set_option maxRecDepth 100000
set_option maxHeartbeats 4000000
/-! law k09 -/
namespace Bw
open PySem L2
theorem sx_of (z : Str) : sx z.cps.toList = z := by
  obtain ⟨a⟩ := z
  show Str.mk a.toList.toArray = _
  simp
theorem str_sx (z : Str) : ∃ l, z = sx l ∧ l.length = z.length := ⟨z.cps.toList, (sx_of z).symm, by rw [← sx_len, sx_of]⟩
section
variable {P : Program} {w : World} {K : PySem.W.Frag} {mg : Str → Option Value} {base : Heap} {cs : Cl}
def spOther : Sp := fun vs H Q _ => ∃ (l : List Nat) (c n : Int), vs = [.str (sx l), .int c, .int n] ∧ l.length ≤ 1000 ∧ ∀ (l' : List Nat) (H' : Hp), l'.length ≤ 2 * l.length + 1 → Same H H' → Q (.str (sx l')) H'
theorem scLawOther : FnScope ["_law_text_here", "_law_cell", "_law_k", "_law_at", "_law_sign", "_law_way"] ["_law_text_here", "_law_cell", "_law_k"] (defScope sLawOther) := ⟨rfl, rfl, rfl, by decide +kernel, rfl, by decide +kernel, by decide +kernel⟩
theorem ok_lawOther (T : Txt K mg cs) : Cal P w K mg base 2 "_law_other" ["_law_text_here", "_law_cell", "_law_k"] spOther := by
  have CLawDraw : Cal P w K mg base 1 "_law_draw" ["_law_cell", "_law_k", "_law_many"] spDraw := (ok_draw T).mono (by decide)
  refine T.lawOther.cal scLawOther (fun vs H Q E h => ?_) (fun f cdv A outer s H vs Q E hr h => ?_)
  · obtain ⟨l, c, n, rfl, _⟩ := h
    rfl
  · obtain ⟨l, c, n, rfl, hl, k⟩ := h
    have hu := hu_of hr
    have hu64 := hr.units
    refine ⟨_, (pss_cons (ps_set (i := 3) scLawOther.nd rfl (Or.inl rfl) (pe_cal CLawDraw hr (by rfl) (pa_cons (pv 1) (pa_cons (pv 2) (pa_cons (pe_op op_add (pe_callB call_len_str (by rfl) T.len PySem.boot_len (pa_cons (pv 0) pa_nil)) pe_int) pa_nil)))))
      (pss_cons (ps_set (i := 4) scLawOther.nd rfl (Or.inl rfl) (pe_op op_add_str pe_str pe_str))
      (pss_cons (ps_set (i := 4) scLawOther.nd rfl (Or.inl rfl) (pe_ix ix_str (pv 4) (pe_cal CLawDraw hr (by rfl) (pa_cons (pv 1) (pa_cons (pe_op op_add (pv 2) pe_int) (pa_cons (pe_callB call_len_str (by rfl) T.len PySem.boot_len (pa_cons (pv 4) pa_nil)) pa_nil)))) (fun _ _ => rfl)))
      (pss_cons (ps_set (i := 5) scLawOther.nd rfl (Or.inl rfl) (pe_cal CLawDraw hr (by rfl) (pa_cons (pv 1) (pa_cons (pe_op op_add (pv 2) pe_int) (pa_cons pe_int pa_nil)))))
      (pss_cons (ps_if (pt_cmpR op_eq (pv 5) pe_int (nomark _))
      (pss_one (ps_ret (pe_op op_add_str (pe_op op_add_str (pe_slice sl_str (pv 0) po_none (po_some (pv 3))) (pv 4)) (pe_slice sl_str (pv 0) (po_some (pv 3)) po_none))))
      pss_nil)
      (pss_cons (ps_if (pt_cmpR op_eq (pv 5) pe_int (nomark _))
      (pss_one (ps_ret (pe_slice sl_str (pv 0) po_none (po_some (pv 3)))))
      pss_nil)
      (pss_one (ps_ret (pe_op op_add_str (pe_op op_add_str (pe_slice sl_str (pv 0) po_none (po_some (pv 3))) (pe_ix (ix_listK K) (pe_lst (pa_cons pe_str (pa_cons (pv 4) pa_nil))) (pe_op op_sub (pv 5) pe_int) (fun _ _ => rfl))) (pe_slice sl_str (pv 0) (po_some (pe_op op_add (pv 3) pe_int)) po_none)))))))))), ?_⟩
    have fin : ∀ (z : Str) (H' : Hp), z.length ≤ 2 * l.length + 1 → Same H H' → Q (.str z) H' := fun z H' hz s => by
      obtain ⟨l', rfl, e⟩ := str_sx z
      exact k l' H' (by omega) s
    refine ⟨_, rfl, _, rfl, _, rfl, _, rfl, (by rw [sx_len, sizeLine_eq]; omega), _, _, rfl, rfl, _, _, _, rfl, by rw [sx_len]; omega, fun at_ H1 hat s1 => ?_⟩
    refine ⟨_, _, rfl, rfl, (by decide +kernel), ?_⟩
    refine ⟨_, rfl, _, rfl, _, rfl, _, _, rfl, rfl, _, rfl, _, rfl, (by decide +kernel), _, _, _, rfl, (by decide +kernel), fun z H2 hz s2 => ?_⟩
    generalize hS : Str.ofString "0123456789+*() -o[" ++ Str.ofString "\t\n" = S at *
    obtain ⟨cc, hcc⟩ : ∃ cc, S.cps.toList[z]? = some cc := by
      have hz' : z < S.cps.toList.length := by
        have : (z : Int) < ((S.length : Nat) : Int) := hz
        have e : S.length = S.cps.toList.length := by rw [Array.length_toList]; rfl
        omega
      exact ⟨_, List.getElem?_eq_getElem hz'⟩
    refine ⟨_, _, cc, rfl, rfl, (by subst hS; decide +kernel), atI_nat hcc, ?_⟩
    have h1 : (⟨#[cc]⟩ : Str).length = 1 := rfl
    generalize (⟨#[cc]⟩ : Str) = sg at *
    have sz : sizeLine = 16777216 := sizeLine_eq
    refine ⟨_, rfl, _, rfl, _, _, rfl, rfl, _, _, _, rfl, by decide, fun wy H3 hwy s3 => ?_⟩
    have s := (s1.trans s2).trans s3
    have hsx : (sx l).length = l.length := sx_len l
    refine ⟨_, rfl, rfl, _, rfl, ?_⟩
    refine ite2 (fun hw => ?_) (fun hw => ?_)
    · refine ⟨_, rfl, _, rfl, _, rfl, _, rfl, by omega, fun y hy => ?_⟩
      refine ⟨_, rfl, _, _, rfl, rfl, by omega, ?_⟩
      refine ⟨_, rfl, _, rfl, _, rfl, _, rfl, by omega, fun y2 hy2 => ?_⟩
      refine ⟨_, _, rfl, rfl, by rw [strLen_append]; omega, fin _ _ ?_ s⟩
      rw [strLen_append, strLen_append]
      omega
    · refine ⟨_, rfl, rfl, _, rfl, ?_⟩
      refine ite2 (fun hw2 => ?_) (fun hw2 => ?_)
      · refine ⟨_, rfl, _, rfl, _, rfl, _, rfl, by omega, fun y hy => fin _ _ (by omega) s⟩
      · refine ⟨_, rfl, _, rfl, _, rfl, _, rfl, by omega, fun y hy => ?_⟩
        refine ⟨_, rfl, (by rw [sz]; show 2 ≤ _; decide), fun ll hll => ?_⟩
        have hw0 : wy ≠ 0 := fun e => hw (by rw [e]; rfl)
        have hw3 : wy ≠ 3 := fun e => hw2 (by rw [e]; rfl)
        obtain ⟨x, hx, hxl⟩ : ∃ x : Str, atI [V.str (Str.ofString ""), V.str sg] ((wy : Int) - 1) = some (V.str x) ∧ x.length ≤ 1 := by
          have : wy = 1 ∨ wy = 2 := by omega
          rcases this with e | e <;> subst e
          · exact ⟨_, rfl, by decide +kernel⟩
          · exact ⟨_, rfl, by omega⟩
        refine ⟨_, rfl, _, _, rfl, rfl, ll, _, _, _, rfl, rfl, SqL.of upd_same, hx, ?_⟩
        refine ⟨_, _, rfl, rfl, by omega, ?_⟩
        refine ⟨_, rfl, _, rfl, _, _, rfl, rfl, _, rfl, _, rfl, by omega, fun y2 hy2 => ?_⟩
        refine ⟨_, _, rfl, rfl, by rw [strLen_append]; omega, fin _ _ ?_ (same_upd s hll)⟩
        rw [strLen_append, strLen_append]
        omega
/-! ### law(script) -/
def shortS : V → Bool
  | .str z => decide (z.length ≤ 100)
  | _ => false
theorem shortS_of {x : V} (h : shortS x = true) : ∃ l, x = .str (sx l) ∧ l.length ≤ 100 := by
  cases x with
  | str z =>
    obtain ⟨l, rfl, e⟩ := str_sx z
    have : (sx l).length ≤ 100 := of_decide_eq_true h
    exact ⟨l, rfl, by omega⟩
  | _ => cases h
def few1 : List V := [.str (Str.ofString ""), .str (Str.ofString "0"), .str (Str.ofString "(0)"), .str (Str.ofString "()"), .str (Str.ofString "(0+1*2)"), .str (Str.ofString "(0+0)"), .str (Str.ofString "01"), .str (Str.ofString "0+1"), .str (Str.ofString "(0+(1))"), .str (Str.ofString "((0+1))"), .str (Str.ofString "(0+1"), .str (Str.ofString "(0+1))"), .str (Str.ofString "(0 +1)")]
def few2 : List V := [.str (Str.ofString "(0+1)(2+3)"), .str (Str.ofString "(((((((((((("), .str (Txt.mul (Str.ofString "(") 100), .str (Txt.mul (Str.ofString "(0*1)") 20), .str (Str.ofString "(12+3)"), .str (Str.ofString "(+)"), .str (Str.ofString "x")]
theorem few_ok : (few1 ++ few2).all shortS = true := by decide +kernel
theorem fold_len (a : Array Nat) : ∀ (n : Nat) (b : Array Nat), ((List.replicate n a).foldl (· ++ ·) b).size = b.size + n * a.size
  | 0, b => by simp
  | n + 1, b => by
    rw [List.replicate_succ, List.foldl_cons, fold_len a n, Array.size_append, Nat.succ_mul]
    omega
theorem mul_len (z : Str) (n : Nat) (h : 1 < n) (hz : 0 < z.length) : (Txt.mul z (n : Int)).length = n * z.length := by
  unfold Txt.mul
  rw [if_neg (by omega), if_neg (by simp; omega)]
  show (((List.replicate ((n : Int)).toNat z.cps).foldl (· ++ ·) #[]).size) = _
  rw [Int.toNat_natCast, fold_len]
  simp
  rfl
theorem rp_long {z : Str} (h : 100 < z.length) : rp (.str z) = 100 := by
  show (if 100 < z.length then (100 : Int) else _) = _
  rw [if_pos h]
theorem ask_str (K : PySem.W.Frag) (H : Hp) {z : Str} (h : z.length ≤ 10000) : Askable K H (.str z) := by
  obtain ⟨l, rfl, e⟩ := str_sx z
  exact .inl ⟨l, rfl, by omega⟩
theorem kit_ns (K : PySem.W.Frag) : PySem.W.kitOne K (.type "NoneType") (.type "str") = some false := by rfl
theorem kit_is' (K : PySem.W.Frag) : PySem.W.kitOne K (.type "int") (.type "str") = some false := by rfl
theorem kit_ls (K : PySem.W.Frag) : PySem.W.kitOne K (.type "list") (.type "str") = some false := by rfl
theorem kit_bs (K : PySem.W.Frag) : PySem.W.kitOne K (.type "bool") (.type "str") = some false := by rfl
theorem ne_same (x : Int) : (!decide (V.int x = V.int x)) = false := by simp
def spLaw (K : PySem.W.Frag) : Sp := fun vs H Q _ => ∃ (a : Addr) (ns : List Int), vs = [.ref a] ∧ SqL K H a (ns.map V.int) ∧ ns.length ≤ 63 ∧ ∀ H', Q (.bl true) H'
theorem scLaw : FnScope ["_law_script", "_law_text_here", "_law_k", "_law_other_here", "_law_few"] ["_law_script"] (defScope sLaw) := ⟨rfl, rfl, rfl, by decide +kernel, rfl, by decide +kernel, by decide +kernel⟩
def cLaw1 : Scope := { kind := .function, names := [(Str.ofString ".0", .local), (Str.ofString "_law_thing", .local), (Str.ofString "_law_refused", .globalImplicit)], isGenerator := false, isCoroutine := false, more := [] }
theorem cLaw1s : CScope ["_law_script", "_law_text_here", "_law_k", "_law_other_here", "_law_few"] (defScope sLaw) cLaw1 ["_law_thing"] [] := ⟨rfl, by decide +kernel, by decide +kernel, by decide +kernel, by decide, by decide +kernel, by decide +kernel⟩
seal L2.PE L2.PT L2.PW L2.PA L2.PS L2.PSs L2.PG L2.PGs L2.PI
theorem ok_law {f : Addr} {fd : FuncData} (T : Txt K mg cs) (F : Fun K "law" "law" sLaw f fd) : FnOk P w K mg base CX0 21 f fd ["_law_script"] (spLaw K) := by
  have CLawText : Cal P w K mg base 20 "_law_text" ["_law_script"] (spText K) := (ok_lawText T).mono (by decide)
  have CLawOther : Cal P w K mg base 20 "_law_other" ["_law_text_here", "_law_cell", "_law_k"] spOther := (ok_lawOther T).mono (by decide)
  have CLawWrong : Cal P w K mg base 20 "_law_wrong" ["_law_text_here"] spWrong := (ok_lawWrong T).mono (by decide)
  have CLawRefused : Cal P w K mg base 20 "_law_refused" ["_law_text_here"] (spRefused K) := (ok_lawRefused T).mono (by decide)
  have CLawCellAt : Cal P w K mg base 20 "_law_cell_at" ["_law_script", "_law_k"] (spCellAt K) := (ok_cellAt T).mono (by decide)
  refine F.ok scLaw (fun vs H Q E h => ?_) (fun cdv A outer s H vs Q E hr h => ?_)
  · obtain ⟨a, ns, rfl, _⟩ := h
    rfl
  · obtain ⟨a, ns, rfl, hs, hlen, k⟩ := h
    have hu64 := hr.units
    refine ⟨_, (pss_cons (ps_set (i := 1) scLaw.nd rfl (Or.inl rfl) (pe_cal CLawText hr (by rfl) (pa_cons (pv 0) pa_nil)))
      (pss_cons (ps_if (PW.pt (pw_or (pt_cmpR op_ne (pe_cal CLawWrong hr (by rfl) (pa_cons (pv 1) pa_nil)) (pe_un un_neg pe_int) (nomark _)) (pw_or1 (pt_cmpR op_ne (pe_cal CLawRefused hr (by rfl) (pa_cons (pv 1) pa_nil)) (pe_un un_neg pe_int) (nomark _)))))
      (pss_one (ps_ret pe_bl))
      pss_nil)
      (pss_cons (ps_for PassesOwn.never rfl (pi_range1 rfl T.range (pa_cons pe_int pa_nil)) (pg_name (i := 2) scLaw.nd rfl (Or.inl rfl))
      (pss_cons (ps_set (i := 3) scLaw.nd rfl (Or.inl rfl) (pe_cal CLawOther hr (by rfl) (pa_cons (pv 1) (pa_cons (pe_op op_add (pe_cal CLawCellAt hr (by rfl) (pa_cons (pv 0) (pa_cons pe_int pa_nil))) (pe_op op_mul pe_int (pv 2))) (pa_cons (pv 2) pa_nil)))))
        (pss_one (ps_if (pt_cmpR op_ne (pe_cal CLawRefused hr (by rfl) (pa_cons (pv 3) pa_nil)) (pe_cal CLawWrong hr (by rfl) (pa_cons (pv 3) pa_nil)) (nomark _))
        (pss_one (ps_ret pe_bl))
        pss_nil))))
      (pss_cons (ps_set (i := 4) scLaw.nd rfl (Or.inl rfl) (pe_lst (pa_cons pe_str (pa_cons pe_str (pa_cons pe_str (pa_cons pe_str (pa_cons pe_str (pa_cons pe_str (pa_cons pe_str (pa_cons pe_str (pa_cons pe_str (pa_cons pe_str (pa_cons pe_str (pa_cons pe_str (pa_cons pe_str pa_nil)))))))))))))))
      (pss_cons (ps_for PassesOwn.never rfl (pi_listK K (pe_op op_cat (pv 4) (pe_lst (pa_cons pe_str (pa_cons pe_str (pa_cons (pe_op op_mul_str pe_str pe_int) (pa_cons (pe_op op_mul_str pe_str pe_int) (pa_cons pe_str (pa_cons pe_str (pa_cons pe_str pa_nil)))))))))) (pg_name (i := 3) scLaw.nd rfl (Or.inl rfl))
      (pss_one (ps_if (pt_cmpR op_ne (pe_cal CLawRefused hr (by rfl) (pa_cons (pv 3) pa_nil)) (pe_cal CLawWrong hr (by rfl) (pa_cons (pv 3) pa_nil)) (nomark _))
        (pss_one (ps_ret pe_bl))
        pss_nil)))
      (pss_cons (ps_if (PW.pt (pw_or (pt_cmpR op_ne (pe_cal CLawRefused hr (by rfl) (pa_cons (pe_op op_mul_str pe_str pe_int) pa_nil)) pe_int (nomark _)) (pw_or1 (pt_cmpR op_ne (pe_cal CLawRefused hr (by rfl) (pa_cons (pe_op op_mul_str pe_str pe_int) pa_nil)) pe_int (nomark _)))))
      (pss_one (ps_ret pe_bl))
      pss_nil)
      (pss_one (ps_ret (pe_cmpR (op_eqL hu64) (pe_comp (sc := cLaw1) rfl (pi_listK K (pe_lst (pa_cons pe_non (pa_cons pe_int (pa_cons (pe_lst (pa_cons pe_str pa_nil)) (pa_cons pe_bl pa_nil)))))) cLaw1s (fun _ _ _ _ => (pg_name (i := 0) cLaw1s.nd rfl (Or.inl rfl))) (fun _ _ _ _ => pif_nil) (fun _ _ _ _ => (pe_cal CLawRefused hr (by rfl) (pa_cons (pv 0) pa_nil)))) (pe_lst (pa_cons pe_int (pa_cons pe_int (pa_cons pe_int (pa_cons pe_int pa_nil))))) (nomark _)))))))))), ?_⟩
    refine ⟨_, rfl, a, ns, rfl, hs, fun tr H1 s1 htw hnd h10 => ?_⟩
    have htl := told_len tr htw
    generalize hL : tr.told = L at *
    have hwL : wrongAt L = -1 := by rw [← hL]; exact wrong_told tr htw hnd
    refine ⟨_, rfl, L, rfl, by omega, fun H2 s2 => ⟨_, rfl, rfl, _, rfl, ?_⟩⟩
    rw [hwL]
    refine iteF' rfl ?_
    refine ⟨_, rfl, _, rfl, .inl ⟨L, rfl, by omega⟩, fun H3 s3 => ⟨_, rfl, rfl, _, rfl, ?_⟩⟩
    rw [rp_sx, if_neg (by omega), hwL]
    refine iteF' rfl ?_
    have sm3 := (s1.trans s2).trans s3
    refine ⟨_, rfl, by decide, by decide, ?_⟩
    refine for_range (n := 4) (fun i σ H' => ∃ (v2 v3 : Option V), σ = [some (.ref a), some (.str (sx L)), v2, v3, none] ∧ Same H H') ⟨_, _, rfl, sm3⟩ ?_ ?_
    · rintro i σ H4 hi ⟨v2, v3, rfl, s4⟩
      refine ⟨_, rfl, _, rfl, a, ns, 2, rfl, s4.seq hs, fun z => ?_⟩
      refine ⟨_, rfl, _, _, rfl, rfl, .inl ⟨by decide, by decide⟩, _, _, rfl, rfl, _, rfl, L, _, _, rfl, by omega, fun l' H5 hl' s5 => ?_⟩
      refine ⟨_, rfl, _, rfl, .inl ⟨l', rfl, by omega⟩, fun H6 s6 => ⟨_, rfl, l', rfl, by omega, fun H7 s7 => ⟨rfl, _, rfl, ?_⟩⟩⟩
      rw [rp_sx, if_neg (by omega)]
      refine iteF' (ne_same _) ?_
      exact ⟨_, _, rfl, ((s4.trans s5).trans s6).trans s7⟩
    · rintro σ H4 ⟨v2, v3, rfl, s4⟩
      refine ⟨(by rw [sizeLine_eq]; show 13 ≤ _; decide), fun fl hfl => ?_⟩
      have sf := same_upd (o := .lst few1) s4 hfl
      refine ⟨_, rfl, _, _, rfl, rfl, (by unfold MulOk; decide +kernel), _, _, rfl, rfl, (by unfold MulOk; decide +kernel), (by rw [sizeLine_eq]; show 7 ≤ _; decide), fun l2 hl2 => ?_⟩
      have hf1 : upd H4 fl (.lst few1) fl = some (.lst few1) := upd_same
      have sg := same_upd (o := .lst few2) sf hl2
      have hf2 : upd (upd H4 fl (.lst few1)) l2 (.lst few2) fl = some (.lst few1) := by rw [upd_ne (ne_of_none hf1 hl2)]; exact hf1
      refine ⟨fl, l2, few1, few2, rfl, rfl, hf2, upd_same, (by rw [sizeLine_eq]; decide), fun p hp => ?_⟩
      have sp := same_upd (o := .lst (few1 ++ few2)) sg hp
      have hpp : upd (upd (upd H4 fl (.lst few1)) l2 (.lst few2)) p (.lst (few1 ++ few2)) p = some (.lst (few1 ++ few2)) := upd_same
      refine ⟨p, rfl, ⟨_, SqL.of hpp⟩, for_list (K := K) (a := p) (xs := few1 ++ few2) (fun i σ H' => ∃ (v2 v3 : Option V), σ = [some (.ref a), some (.str (sx L)), v2, v3, some (.ref fl)] ∧ Same (upd (upd (upd H4 fl (.lst few1)) l2 (.lst few2)) p (.lst (few1 ++ few2))) H') ⟨_, _, rfl, Same.refl _⟩ ?_ ?_ ?_⟩
      · rintro i σ H6 _ ⟨v2, v3, rfl, s6⟩
        exact SqL.of (s6 _ _ hpp)
      · rintro i x σ H6 hx ⟨v2, v3, rfl, s6⟩
        obtain ⟨l', rfl, hl'⟩ := shortS_of (List.all_eq_true.mp few_ok x (List.mem_of_getElem? hx))
        refine ⟨_, rfl, _, rfl, .inl ⟨l', rfl, by omega⟩, fun H7 s7 => ⟨_, rfl, l', rfl, by omega, fun H8 s8 => ⟨rfl, _, rfl, ?_⟩⟩⟩
        rw [rp_sx, if_neg (by omega)]
        refine iteF' (ne_same _) ?_
        exact ⟨_, _, rfl, (s6.trans s7).trans s8⟩
      · rintro σ H6 ⟨v2, v3, rfl, s6⟩
        have e1 : (Txt.mul (Str.ofString "(") ((101 : Nat) : Int)).length = 101 * (Str.ofString "(").length := mul_len _ _ (by decide) (by decide +kernel)
        have e2 : (Txt.mul (Str.ofString "x") ((5000 : Nat) : Int)).length = 5000 * (Str.ofString "x").length := mul_len _ _ (by decide) (by decide +kernel)
        have l1 : (Str.ofString "(").length = 1 := by decide +kernel
        have l2' : (Str.ofString "x").length = 1 := by decide +kernel
        rw [l1] at e1
        rw [l2'] at e2
        refine ⟨_, _, rfl, rfl, (by unfold MulOk; decide +kernel), _, rfl, ask_str _ _ (by show (Txt.mul (Str.ofString "(") ((101 : Nat) : Int)).length ≤ _; omega), fun H7 s7 => ⟨rfl, _, rfl, ?_⟩⟩
        rw [show rp (V.str (Txt.mul (Str.ofString "(") 101)) = 100 from rp_long (by show 100 < (Txt.mul (Str.ofString "(") ((101 : Nat) : Int)).length; omega)]
        refine iteF' rfl ?_
        refine ⟨_, _, rfl, rfl, (by unfold MulOk; decide +kernel), _, rfl, ask_str _ _ (by show (Txt.mul (Str.ofString "x") ((5000 : Nat) : Int)).length ≤ _; omega), fun H8 s8 => ⟨rfl, _, rfl, ?_⟩⟩
        rw [show rp (V.str (Txt.mul (Str.ofString "x") 5000)) = 100 from rp_long (by show 100 < (Txt.mul (Str.ofString "x") ((5000 : Nat) : Int)).length; omega)]
        refine iteF' rfl ?_
        refine ⟨(by rw [sizeLine_eq]; show 1 ≤ _; decide), fun q hq => ⟨(by rw [sizeLine_eq]; show 4 ≤ _; decide), fun r hrr => ?_⟩⟩
        have hqq : upd H8 q (.lst [V.str (Str.ofString "0")]) q = some (.lst [V.str (Str.ofString "0")]) := upd_same
        have hq1 : upd (upd H8 q (.lst [V.str (Str.ofString "0")])) r (.lst [V.non, V.int 5, V.ref q, V.bl true]) q = some (.lst [V.str (Str.ofString "0")]) := by rw [upd_ne (ne_of_none hqq hrr)]; exact hqq
        have hr1 : upd (upd H8 q (.lst [V.str (Str.ofString "0")])) r (.lst [V.non, V.int 5, V.ref q, V.bl true]) r = some (.lst [V.non, V.int 5, V.ref q, V.bl true]) := upd_same
        generalize upd (upd H8 q (.lst [V.str (Str.ofString "0")])) r (.lst [V.non, V.int 5, V.ref q, V.bl true]) = H9 at *
        refine ⟨r, rfl, ⟨_, SqL.of hr1⟩, comp_list (K := K) (a := r) (xs := [V.non, V.int 5, V.ref q, V.bl true]) (fun i ys H' => ys = List.replicate i (V.int 0) ∧ Same H9 H') ⟨rfl, Same.refl H9⟩ (by rw [sizeLine_eq]; show 4 < _; decide) (fun i ys H' _ h => SqL.of (h.2 _ _ hr1)) ?_ ?_⟩
        · rintro i x ys H' hx hlt ⟨rfl, sm⟩ hyl hys
          refine gset ?_
          refine yes ?_
          refine iteT ?_
          have hask : Askable K H' x ∧ rp x = 0 := by
            match i, hx with
            | 0, hx => cases hx; exact ⟨.inr ⟨_, TyOf.non, kit_ns K, rfl⟩, rfl⟩
            | 1, hx => cases hx; exact ⟨.inr ⟨_, TyOf.int _, kit_is' K, rfl⟩, rfl⟩
            | 2, hx => cases hx; exact ⟨.inr ⟨_, TyOf.lst (sm _ _ hq1), kit_ls K, rfl⟩, rfl⟩
            | 3, hx => cases hx; exact ⟨.inr ⟨_, TyOf.bl _, kit_bs K, rfl⟩, rfl⟩
          refine ⟨_, rfl, x, rfl, hask.1, fun H2' s2' => ⟨hys, Pn.snoc hlt hyl ⟨?_, sm.trans s2'⟩⟩⟩
          rw [hask.2, List.replicate_succ']
        · rintro ys H' ⟨rfl, sm⟩ hyl l hl
          refine ⟨(by rw [sizeLine_eq]; show 4 ≤ _; decide), fun l2 hl2 => ?_⟩
          have hll : upd H' l (.lst (List.replicate 4 (V.int 0))) l = some (.lst (List.replicate 4 (V.int 0))) := upd_same
          refine ⟨l, l2, [0, 0, 0, 0], [0, 0, 0, 0], rfl, rfl, SqL.of ?_, SqL.of upd_same, k _⟩
          rw [upd_ne (ne_of_none hll hl2)]
          exact hll
end
end Bw

set_option Elab.async false
set_option linter.all false
set_option maxRecDepth 100000
namespace Bw
open PySem L2
theorem txt_mk {l : PySem.W.OpenLaw} {w : World} {K : PySem.W.Frag} {h : Heap} {mg : Str → Option Value} {fa f cTree cPoint cDoing cBeside cAcross cBracket cReader cWebError cBadWeb cBadTree cNoPoint cNotMade cBadText : Addr} {oc kV doc pm cdv ct : Value} {od an : Option Addr} {osl : Array (Option Value)} (X : K.In h) (G : h.Ns mainGlobals mg) (hfa : mg "law" = some (.ref fa))
    (a_Tree : PySem.W.nsIn K mainGlobals "Tree" = some (some (.ref cTree)))
    (a_Point : PySem.W.nsIn K mainGlobals "Point" = some (some (.ref cPoint)))
    (a_Doing : PySem.W.nsIn K mainGlobals "Doing" = some (some (.ref cDoing)))
    (a_Beside : PySem.W.nsIn K mainGlobals "Beside" = some (some (.ref cBeside)))
    (a_Across : PySem.W.nsIn K mainGlobals "Across" = some (some (.ref cAcross)))
    (a_Bracket : PySem.W.nsIn K mainGlobals "Bracket" = some (some (.ref cBracket)))
    (a_Reader : PySem.W.nsIn K mainGlobals "Reader" = some (some (.ref cReader)))
    (a_WebError : PySem.W.nsIn K mainGlobals "WebError" = some (some (.ref cWebError)))
    (a_BadWeb : PySem.W.nsIn K mainGlobals "BadWeb" = some (some (.ref cBadWeb)))
    (a_BadTree : PySem.W.nsIn K mainGlobals "BadTree" = some (some (.ref cBadTree)))
    (a_NoPoint : PySem.W.nsIn K mainGlobals "NoPoint" = some (some (.ref cNoPoint)))
    (a_NotMade : PySem.W.nsIn K mainGlobals "NotMade" = some (some (.ref cNotMade)))
    (a_BadText : PySem.W.nsIn K mainGlobals "BadText" = some (some (.ref cBadText)))
    (F_cWebError : Catch K cWebError)
    (F_iWebError : BaseI K cWebError)
    (F_xBadWeb : XCls K cBadWeb)
    (F_eBadWebWebError : PySem.W.mroIn K cBadWeb (.ref cWebError) = some true)
    (F_kBadWebV : PySem.W.kitOne K (.ref cBadWeb) (.type "ValueError") = some true)
    (F_kBadWebWebError : PySem.W.kitOne K (.ref cBadWeb) (.ref cWebError) = some true)
    (F_kBadWebBadWeb : PySem.W.kitOne K (.ref cBadWeb) (.ref cBadWeb) = some true)
    (F_kBadWebBadTree : PySem.W.kitOne K (.ref cBadWeb) (.ref cBadTree) = some false)
    (F_kBadWebNoPoint : PySem.W.kitOne K (.ref cBadWeb) (.ref cNoPoint) = some false)
    (F_kBadWebNotMade : PySem.W.kitOne K (.ref cBadWeb) (.ref cNotMade) = some false)
    (F_kBadWebBadText : PySem.W.kitOne K (.ref cBadWeb) (.ref cBadText) = some false)
    (F_xBadTree : XCls K cBadTree)
    (F_eBadTreeWebError : PySem.W.mroIn K cBadTree (.ref cWebError) = some true)
    (F_kBadTreeV : PySem.W.kitOne K (.ref cBadTree) (.type "ValueError") = some true)
    (F_kBadTreeWebError : PySem.W.kitOne K (.ref cBadTree) (.ref cWebError) = some true)
    (F_kBadTreeBadWeb : PySem.W.kitOne K (.ref cBadTree) (.ref cBadWeb) = some false)
    (F_kBadTreeBadTree : PySem.W.kitOne K (.ref cBadTree) (.ref cBadTree) = some true)
    (F_kBadTreeNoPoint : PySem.W.kitOne K (.ref cBadTree) (.ref cNoPoint) = some false)
    (F_kBadTreeNotMade : PySem.W.kitOne K (.ref cBadTree) (.ref cNotMade) = some false)
    (F_kBadTreeBadText : PySem.W.kitOne K (.ref cBadTree) (.ref cBadText) = some false)
    (F_xNoPoint : XCls K cNoPoint)
    (F_eNoPointWebError : PySem.W.mroIn K cNoPoint (.ref cWebError) = some true)
    (F_kNoPointV : PySem.W.kitOne K (.ref cNoPoint) (.type "ValueError") = some true)
    (F_kNoPointWebError : PySem.W.kitOne K (.ref cNoPoint) (.ref cWebError) = some true)
    (F_kNoPointBadWeb : PySem.W.kitOne K (.ref cNoPoint) (.ref cBadWeb) = some false)
    (F_kNoPointBadTree : PySem.W.kitOne K (.ref cNoPoint) (.ref cBadTree) = some false)
    (F_kNoPointNoPoint : PySem.W.kitOne K (.ref cNoPoint) (.ref cNoPoint) = some true)
    (F_kNoPointNotMade : PySem.W.kitOne K (.ref cNoPoint) (.ref cNotMade) = some false)
    (F_kNoPointBadText : PySem.W.kitOne K (.ref cNoPoint) (.ref cBadText) = some false)
    (F_xNotMade : XCls K cNotMade)
    (F_eNotMadeWebError : PySem.W.mroIn K cNotMade (.ref cWebError) = some true)
    (F_kNotMadeV : PySem.W.kitOne K (.ref cNotMade) (.type "ValueError") = some true)
    (F_kNotMadeWebError : PySem.W.kitOne K (.ref cNotMade) (.ref cWebError) = some true)
    (F_kNotMadeBadWeb : PySem.W.kitOne K (.ref cNotMade) (.ref cBadWeb) = some false)
    (F_kNotMadeBadTree : PySem.W.kitOne K (.ref cNotMade) (.ref cBadTree) = some false)
    (F_kNotMadeNoPoint : PySem.W.kitOne K (.ref cNotMade) (.ref cNoPoint) = some false)
    (F_kNotMadeNotMade : PySem.W.kitOne K (.ref cNotMade) (.ref cNotMade) = some true)
    (F_kNotMadeBadText : PySem.W.kitOne K (.ref cNotMade) (.ref cBadText) = some false)
    (F_eNotMade : ExcT K cNotMade "NotMade.__init__" sNotmadeInit ["self", "four"])
    (F_nNotMadeFour : NoAttr K cNotMade "four")
    (F_xBadText : XCls K cBadText)
    (F_eBadTextWebError : PySem.W.mroIn K cBadText (.ref cWebError) = some true)
    (F_kBadTextV : PySem.W.kitOne K (.ref cBadText) (.type "ValueError") = some true)
    (F_kBadTextWebError : PySem.W.kitOne K (.ref cBadText) (.ref cWebError) = some true)
    (F_kBadTextBadWeb : PySem.W.kitOne K (.ref cBadText) (.ref cBadWeb) = some false)
    (F_kBadTextBadTree : PySem.W.kitOne K (.ref cBadText) (.ref cBadTree) = some false)
    (F_kBadTextNoPoint : PySem.W.kitOne K (.ref cBadText) (.ref cNoPoint) = some false)
    (F_kBadTextNotMade : PySem.W.kitOne K (.ref cBadText) (.ref cNotMade) = some false)
    (F_kBadTextBadText : PySem.W.kitOne K (.ref cBadText) (.ref cBadText) = some true)
    (F_eBadText : ExcT K cBadText "BadText.__init__" sBadtextInit ["self", "place"])
    (F_nBadTextPlace : NoAttr K cBadText "place")
    (F_valueError : mg "ValueError" = none)
    (F_isBelow : FnT K mg "is_below" sIsBelow ["value", "bound"])
    (F_bracketed : FnT K mg "bracketed" sBracketed ["texts", "sign"])
    (F_checkTrees : FnT K mg "check_trees" sCheckTrees ["trees"])
    (F_read : FnT K mg "read" sRead ["text"])
    (F_lawCellAt : FnT K mg "_law_cell_at" sLawCellAt ["_law_script", "_law_k"])
    (F_lawDraw : FnT K mg "_law_draw" sLawDraw ["_law_cell", "_law_k", "_law_many"])
    (F_lawText : FnT K mg "_law_text" sLawText ["_law_script"])
    (F_lawWrong : FnT K mg "_law_wrong" sLawWrong ["_law_text_here"])
    (F_lawRefused : FnT K mg "_law_refused" sLawRefused ["_law_text_here"])
    (F_lawOther : FnT K mg "_law_other" sLawOther ["_law_text_here", "_law_cell", "_law_k"])
    (F_oPoint : Own K cPoint)
    (F_nPointAt : NoAttr K cPoint "at")
    (F_mkPoint : MakeT K cPoint "Point.__init__" sPointInit ["self", "at"])
    (F_mPointPoints : MethT K cPoint "points" "Point.points" sPointPoints ["self"])
    (F_mPointTold : MethT K cPoint "told" "Point.told" sPointTold ["self"])
    (F_oBeside : Own K cBeside)
    (F_nBesideTrees : NoAttr K cBeside "trees")
    (F_nBesideLaid : NoAttr K cBeside "laid")
    (F_mkBeside : MakeT K cBeside "Beside.__init__" sBesideInit ["self", "trees"])
    (F_mBesidePoints : MethT K cBeside "points" "Doing.points" sDoingPoints ["self"])
    (F_mBesideTold : MethT K cBeside "told" "Doing.told" sDoingTold ["self"])
    (F_mBesideLay : MethT K cBeside "lay" "Doing.lay" sDoingLay ["self", "trees"])
    (F_mBesideSign : MethT K cBeside "sign" "Beside.sign" sBesideSign ["self"])
    (F_oAcross : Own K cAcross)
    (F_nAcrossTrees : NoAttr K cAcross "trees")
    (F_nAcrossLaid : NoAttr K cAcross "laid")
    (F_mkAcross : MakeT K cAcross "Across.__init__" sAcrossInit ["self", "trees"])
    (F_mAcrossPoints : MethT K cAcross "points" "Doing.points" sDoingPoints ["self"])
    (F_mAcrossTold : MethT K cAcross "told" "Doing.told" sDoingTold ["self"])
    (F_mAcrossLay : MethT K cAcross "lay" "Doing.lay" sDoingLay ["self", "trees"])
    (F_mAcrossSign : MethT K cAcross "sign" "Across.sign" sAcrossSign ["self"])
    (F_oBracket : Own K cBracket)
    (F_nBracketInner : NoAttr K cBracket "inner")
    (F_nBracketBetween : NoAttr K cBracket "between")
    (F_mkBracket : MakeT K cBracket "Bracket.__init__" sBracketInit ["self"])
    (F_mBracketGoesOnWith : MethT K cBracket "goes_on_with" "Bracket.goes_on_with" sBracketGoesOnWith ["self", "sign"])
    (F_mBracketClosed : MethT K cBracket "closed" "Bracket.closed" sBracketClosed ["self"])
    (F_oReader : Own K cReader)
    (F_nReaderOpened : NoAttr K cReader "opened")
    (F_nReaderFigures : NoAttr K cReader "figures")
    (F_nReaderDue : NoAttr K cReader "due")
    (F_nReaderWhole : NoAttr K cReader "whole")
    (F_mkReader : MakeT K cReader "Reader.__init__" sReaderInit ["self"])
    (F_mReaderTake : MethT K cReader "take" "Reader.take" sReaderTake ["self", "sign"])
    (F_mReaderTakeTree : MethT K cReader "take_tree" "Reader.take_tree" sReaderTakeTree ["self", "sign"])
    (F_mReaderTakeBehind : MethT K cReader "take_behind" "Reader.take_behind" sReaderTakeBehind ["self", "sign"])
    (F_mReaderPut : MethT K cReader "put" "Reader.put" sReaderPut ["self", "tree"])
    (F_kPointTree : PySem.W.kitOne K (.ref cPoint) (.ref cTree) = some true)
    (F_kBesideTree : PySem.W.kitOne K (.ref cBeside) (.ref cTree) = some true)
    (F_kAcrossTree : PySem.W.kitOne K (.ref cAcross) (.ref cTree) = some true)
    (F_kBracketTree : PySem.W.kitOne K (.ref cBracket) (.ref cTree) = some false)
    (F_kReaderTree : PySem.W.kitOne K (.ref cReader) (.ref cTree) = some false)
    (F_vMOST_POINTS : ∃ t, mg "MOST_POINTS" = some (.int 10 t))
    (F_vMOST_SIGNS : ∃ t, mg "MOST_SIGNS" = some (.int 100 t))
    (F_vFIGURES : ∃ t, mg "FIGURES" = some (.str "0123456789" t))
    (F_any : mg "any" = none)
    (F_bool : mg "bool" = none)
    (F_enum : mg "enumerate" = none)
    (F_int : mg "int" = none)
    (F_isinst : mg "isinstance" = none)
    (F_len : mg "len" = none)
    (F_list : mg "list" = none)
    (F_min : mg "min" = none)
    (F_range : mg "range" = none)
    (F_set : mg "set" = none)
    (F_str : mg "str" = none)
    (F_tuple : mg "tuple" = none)
    (a : PySem.W.nsIn K mainGlobals "law" = some (some (.ref f)))
    (lk : K.lookup f = some ⟨oc, od, .func (PySem.W.fnOf "law" "law" (defArgs sLaw) (defBody sLaw) (defScope sLaw) .none kV doc pm an cdv ct), osl⟩) (cd : PySem.W.codeIn K cdv "law" = true) (kp : PySem.W.keepIn K (.ref f) = true) :
    ∃ fd : FuncData, (∀ (s : Shared) (v : Value), BindsTo s fd ⟨[v], []⟩ [("_law_script", v)]) ∧ ∀ base : Heap, K.In base → base.Ns mainGlobals mg → FnOk l.prog w K mg base CX0 21 fa fd ["_law_script"] (spLaw K) := by
  have e := hfa.symm.trans (PySem.W.mg_of X G a)
  cases e
  have T : Txt K mg ⟨cTree, cPoint, cDoing, cBeside, cAcross, cBracket, cReader, cWebError, cBadWeb, cBadTree, cNoPoint, cNotMade, cBadText⟩ := ⟨PySem.W.mg_of X G a_Tree, PySem.W.mg_of X G a_Point, PySem.W.mg_of X G a_Doing, PySem.W.mg_of X G a_Beside, PySem.W.mg_of X G a_Across, PySem.W.mg_of X G a_Bracket, PySem.W.mg_of X G a_Reader, PySem.W.mg_of X G a_WebError, PySem.W.mg_of X G a_BadWeb, PySem.W.mg_of X G a_BadTree, PySem.W.mg_of X G a_NoPoint, PySem.W.mg_of X G a_NotMade, PySem.W.mg_of X G a_BadText, F_cWebError, F_iWebError, F_xBadWeb, F_eBadWebWebError, F_kBadWebV, F_kBadWebWebError, F_kBadWebBadWeb, F_kBadWebBadTree, F_kBadWebNoPoint, F_kBadWebNotMade, F_kBadWebBadText, F_xBadTree, F_eBadTreeWebError, F_kBadTreeV, F_kBadTreeWebError, F_kBadTreeBadWeb, F_kBadTreeBadTree, F_kBadTreeNoPoint, F_kBadTreeNotMade, F_kBadTreeBadText, F_xNoPoint, F_eNoPointWebError, F_kNoPointV, F_kNoPointWebError, F_kNoPointBadWeb, F_kNoPointBadTree, F_kNoPointNoPoint, F_kNoPointNotMade, F_kNoPointBadText, F_xNotMade, F_eNotMadeWebError, F_kNotMadeV, F_kNotMadeWebError, F_kNotMadeBadWeb, F_kNotMadeBadTree, F_kNotMadeNoPoint, F_kNotMadeNotMade, F_kNotMadeBadText, F_eNotMade, F_nNotMadeFour, F_xBadText, F_eBadTextWebError, F_kBadTextV, F_kBadTextWebError, F_kBadTextBadWeb, F_kBadTextBadTree, F_kBadTextNoPoint, F_kBadTextNotMade, F_kBadTextBadText, F_eBadText, F_nBadTextPlace, F_valueError, F_isBelow, F_bracketed, F_checkTrees, F_read, F_lawCellAt, F_lawDraw, F_lawText, F_lawWrong, F_lawRefused, F_lawOther, F_oPoint, F_nPointAt, F_mkPoint, F_mPointPoints, F_mPointTold, F_oBeside, F_nBesideTrees, F_nBesideLaid, F_mkBeside, F_mBesidePoints, F_mBesideTold, F_mBesideLay, F_mBesideSign, F_oAcross, F_nAcrossTrees, F_nAcrossLaid, F_mkAcross, F_mAcrossPoints, F_mAcrossTold, F_mAcrossLay, F_mAcrossSign, F_oBracket, F_nBracketInner, F_nBracketBetween, F_mkBracket, F_mBracketGoesOnWith, F_mBracketClosed, F_oReader, F_nReaderOpened, F_nReaderFigures, F_nReaderDue, F_nReaderWhole, F_mkReader, F_mReaderTake, F_mReaderTakeTree, F_mReaderTakeBehind, F_mReaderPut, F_kPointTree, F_kBesideTree, F_kAcrossTree, F_kBracketTree, F_kReaderTree, F_vMOST_POINTS, F_vMOST_SIGNS, F_vFIGURES, F_any, F_bool, F_enum, F_int, F_isinst, F_len, F_list, F_min, F_range, F_set, F_str, F_tuple⟩
  exact ⟨PySem.W.fnOf "law" "law" (defArgs sLaw) (defBody sLaw) (defScope sLaw) .none kV doc pm an cdv ct, fun s v => .of_eq rfl, fun base _ _ => ok_law T (fun_mk (st := sLaw) lk cd kp)⟩
theorem walk {l : PySem.W.OpenLaw} {q : Program} {loose : List Str} {XP : (Str → Option Value) → Heap → Prop} {YP : World → Heap → Prop} {d : DefRec} {K : Params → PySem.W.Frag} (hn : l.most = some 63) (hdf : d.params.defaults = [])
    (hY : ∀ (w : World) (h : Heap), YP w h → (K w.params).In h)
    (F : ∀ (w : World) (mg : Str → Option Value) (fa : Addr) (h : Heap), (K w.params).In h → h.Ns mainGlobals mg → mg d.name = some (.ref fa) →
      ∃ fd : FuncData, (∀ (s : Shared) (u : Value), BindsTo s fd ⟨[u], []⟩ [("_law_script", u)]) ∧ ∀ base : Heap, (K w.params).In base → base.Ns mainGlobals mg → FnOk l.prog w (K w.params) mg base CX0 21 fa fd ["_law_script"] (spLaw (K w.params))) :
    PySem.W.WalkO q loose XP YP l.row.toRowW d [] (fun f vs => PySem.call f vs) :=
  L2.walk_of (n := 63) (k := 21) (x := "_law_script") (CX := fun _ => CX0) (sp := fun w => spLaw (K w.params)) hn (by decide) hdf ⟨rfl, by decide, by decide⟩ hY F (fun _ _ a ns hl _ hS => ⟨a, ns, rfl, hS, hl, fun _ => rfl⟩) fun _ _ _ _ _ z => z
end Bw
open PySem PySem.W PyProof.Rows
set_option maxRecDepth 100000 in
set_option maxHeartbeats 0 in
theorem PySem.Challenge.cw_besideweb_k09_texts_misread_holds : PySem.Challenge.rw_besideweb_k09_texts_misread.Holds := by
  w_on; o_law
  refine holds_open (q := Bw.qv) (loose := Bw.looseK) (Xt := fun s => xlAt Bw.qv [] s && recOk (RowW.records (OpenRow.toRowW PySem.Challenge.rw_besideweb_k09_texts_misread.row)) s) (XP := XL Bw.qv []) (Yf := Hook.obs Bw.kH) (Ya := Hook.val Bw.kH) (YP := Hook.says Bw.kH) Bw.head_left (Hook.of Bw.kH) (Hook.keeps Bw.kH) (fun s e => xl_of s (Bool.and_eq_true_iff.mp e).1) XL.keeps (by rfl) (by rfl) (by rfl) (fun s e => recFacts_of (Bool.and_eq_true_iff.mp e).2) (by rfl) (by first | assumption | decide +kernel) (by decide +kernel) ⟨rfl, rfl, rfl, rfl, rfl, by decide +kernel⟩ ?hw ?hc
  (case hw => w_witness2)
  refine Bw.walk (l := PySem.Challenge.rw_besideweb_k09_texts_misread) rfl rfl (K := Bw.KK) (fun w h Y => PySem.W.kIn_of (K := Bw.KK) (as := Bw.KAs) Y) ?F
  case F =>
    k_fill
    intro w mg fa h KX G hmg
    refine' Bw.txt_mk KX G hmg ?a_Tree ?a_Point ?a_Doing ?a_Beside ?a_Across ?a_Bracket ?a_Reader ?a_WebError ?a_BadWeb ?a_BadTree ?a_NoPoint ?a_NotMade ?a_BadText ?F_cWebError ?F_iWebError ?F_xBadWeb ?F_eBadWebWebError ?F_kBadWebV ?F_kBadWebWebError ?F_kBadWebBadWeb ?F_kBadWebBadTree ?F_kBadWebNoPoint ?F_kBadWebNotMade ?F_kBadWebBadText ?F_xBadTree ?F_eBadTreeWebError ?F_kBadTreeV ?F_kBadTreeWebError ?F_kBadTreeBadWeb ?F_kBadTreeBadTree ?F_kBadTreeNoPoint ?F_kBadTreeNotMade ?F_kBadTreeBadText ?F_xNoPoint ?F_eNoPointWebError ?F_kNoPointV ?F_kNoPointWebError ?F_kNoPointBadWeb ?F_kNoPointBadTree ?F_kNoPointNoPoint ?F_kNoPointNotMade ?F_kNoPointBadText ?F_xNotMade ?F_eNotMadeWebError ?F_kNotMadeV ?F_kNotMadeWebError ?F_kNotMadeBadWeb ?F_kNotMadeBadTree ?F_kNotMadeNoPoint ?F_kNotMadeNotMade ?F_kNotMadeBadText ?F_eNotMade ?F_nNotMadeFour ?F_xBadText ?F_eBadTextWebError ?F_kBadTextV ?F_kBadTextWebError ?F_kBadTextBadWeb ?F_kBadTextBadTree ?F_kBadTextNoPoint ?F_kBadTextNotMade ?F_kBadTextBadText ?F_eBadText ?F_nBadTextPlace ?F_valueError ?F_isBelow ?F_bracketed ?F_checkTrees ?F_read ?F_lawCellAt ?F_lawDraw ?F_lawText ?F_lawWrong ?F_lawRefused ?F_lawOther ?F_oPoint ?F_nPointAt ?F_mkPoint ?F_mPointPoints ?F_mPointTold ?F_oBeside ?F_nBesideTrees ?F_nBesideLaid ?F_mkBeside ?F_mBesidePoints ?F_mBesideTold ?F_mBesideLay ?F_mBesideSign ?F_oAcross ?F_nAcrossTrees ?F_nAcrossLaid ?F_mkAcross ?F_mAcrossPoints ?F_mAcrossTold ?F_mAcrossLay ?F_mAcrossSign ?F_oBracket ?F_nBracketInner ?F_nBracketBetween ?F_mkBracket ?F_mBracketGoesOnWith ?F_mBracketClosed ?F_oReader ?F_nReaderOpened ?F_nReaderFigures ?F_nReaderDue ?F_nReaderWhole ?F_mkReader ?F_mReaderTake ?F_mReaderTakeTree ?F_mReaderTakeBehind ?F_mReaderPut ?F_kPointTree ?F_kBesideTree ?F_kAcrossTree ?F_kBracketTree ?F_kReaderTree ?F_vMOST_POINTS ?F_vMOST_SIGNS ?F_vFIGURES ?F_any ?F_bool ?F_enum ?F_int ?F_isinst ?F_len ?F_list ?F_min ?F_range ?F_set ?F_str ?F_tuple ?la ?ll ?lc ?lk
    (case a_Tree => k_is)
    (case a_Point => k_is)
    (case a_Doing => k_is)
    (case a_Beside => k_is)
    (case a_Across => k_is)
    (case a_Bracket => k_is)
    (case a_Reader => k_is)
    (case a_WebError => k_is)
    (case a_BadWeb => k_is)
    (case a_BadTree => k_is)
    (case a_NoPoint => k_is)
    (case a_NotMade => k_is)
    (case a_BadText => k_is)
    (case F_cWebError => exact L2.catch_mk (by kernel_rfl) (by kernel_rfl) (by kernel_rfl))
    (case F_iWebError => exact L2.basei_mk (by kernel_rfl) (by kernel_rfl) (by kernel_rfl))
    (case F_xBadWeb => exact L2.xcls_mk (by kernel_rfl) (by kernel_rfl) (by kernel_rfl) (by kernel_rfl) (by kernel_rfl) (by kernel_rfl) (by kernel_rfl) (by kernel_rfl) (by kernel_rfl) (by kernel_rfl) (by kernel_rfl))
    (case F_eBadWebWebError => kernel_rfl)
    (case F_kBadWebV => kernel_rfl)
    (case F_kBadWebWebError => kernel_rfl)
    (case F_kBadWebBadWeb => kernel_rfl)
    (case F_kBadWebBadTree => kernel_rfl)
    (case F_kBadWebNoPoint => kernel_rfl)
    (case F_kBadWebNotMade => kernel_rfl)
    (case F_kBadWebBadText => kernel_rfl)
    (case F_xBadTree => exact L2.xcls_mk (by kernel_rfl) (by kernel_rfl) (by kernel_rfl) (by kernel_rfl) (by kernel_rfl) (by kernel_rfl) (by kernel_rfl) (by kernel_rfl) (by kernel_rfl) (by kernel_rfl) (by kernel_rfl))
    (case F_eBadTreeWebError => kernel_rfl)
    (case F_kBadTreeV => kernel_rfl)
    (case F_kBadTreeWebError => kernel_rfl)
    (case F_kBadTreeBadWeb => kernel_rfl)
    (case F_kBadTreeBadTree => kernel_rfl)
    (case F_kBadTreeNoPoint => kernel_rfl)
    (case F_kBadTreeNotMade => kernel_rfl)
    (case F_kBadTreeBadText => kernel_rfl)
    (case F_xNoPoint => exact L2.xcls_mk (by kernel_rfl) (by kernel_rfl) (by kernel_rfl) (by kernel_rfl) (by kernel_rfl) (by kernel_rfl) (by kernel_rfl) (by kernel_rfl) (by kernel_rfl) (by kernel_rfl) (by kernel_rfl))
    (case F_eNoPointWebError => kernel_rfl)
    (case F_kNoPointV => kernel_rfl)
    (case F_kNoPointWebError => kernel_rfl)
    (case F_kNoPointBadWeb => kernel_rfl)
    (case F_kNoPointBadTree => kernel_rfl)
    (case F_kNoPointNoPoint => kernel_rfl)
    (case F_kNoPointNotMade => kernel_rfl)
    (case F_kNoPointBadText => kernel_rfl)
    (case F_xNotMade => exact L2.xcls_mk (by kernel_rfl) (by kernel_rfl) (by kernel_rfl) (by kernel_rfl) (by kernel_rfl) (by kernel_rfl) (by kernel_rfl) (by kernel_rfl) (by kernel_rfl) (by kernel_rfl) (by kernel_rfl))
    (case F_eNotMadeWebError => kernel_rfl)
    (case F_kNotMadeV => kernel_rfl)
    (case F_kNotMadeWebError => kernel_rfl)
    (case F_kNotMadeBadWeb => kernel_rfl)
    (case F_kNotMadeBadTree => kernel_rfl)
    (case F_kNotMadeNoPoint => kernel_rfl)
    (case F_kNotMadeNotMade => kernel_rfl)
    (case F_kNotMadeBadText => kernel_rfl)
    case F_eNotMade =>
      refine' L2.exct_mk ?kc ?a ?i ?l ?c ?k (fun _ _ _ _ _ _ us hl => match us, hl with | [_, _], _ => rfl)
      (case kc => k_is); (case a => k_is); (case i => k_is); (case l => k_is); (case c => k_is); (case k => k_is)
    case F_nNotMadeFour =>
      refine' L2.noattr_mk ?a
      (case a => k_is)
    (case F_xBadText => exact L2.xcls_mk (by kernel_rfl) (by kernel_rfl) (by kernel_rfl) (by kernel_rfl) (by kernel_rfl) (by kernel_rfl) (by kernel_rfl) (by kernel_rfl) (by kernel_rfl) (by kernel_rfl) (by kernel_rfl))
    (case F_eBadTextWebError => kernel_rfl)
    (case F_kBadTextV => kernel_rfl)
    (case F_kBadTextWebError => kernel_rfl)
    (case F_kBadTextBadWeb => kernel_rfl)
    (case F_kBadTextBadTree => kernel_rfl)
    (case F_kBadTextNoPoint => kernel_rfl)
    (case F_kBadTextNotMade => kernel_rfl)
    (case F_kBadTextBadText => kernel_rfl)
    case F_eBadText =>
      refine' L2.exct_mk ?kc ?a ?i ?l ?c ?k (fun _ _ _ _ _ _ us hl => match us, hl with | [_, _], _ => rfl)
      (case kc => k_is); (case a => k_is); (case i => k_is); (case l => k_is); (case c => k_is); (case k => k_is)
    case F_nBadTextPlace =>
      refine' L2.noattr_mk ?a
      (case a => k_is)
    case F_valueError =>
      refine' PySem.W.mg_none_of KX G ?a
      (case a => k_is)
    case F_isBelow =>
      refine' L2.fnt_mk KX G ?a ?l ?c ?k (fun _ _ _ _ _ _ us hl => match us, hl with | [_, _], _ => rfl)
      (case a => k_is); (case l => k_is); (case c => k_is); (case k => k_is)
    case F_bracketed =>
      refine' L2.fnt_mk KX G ?a ?l ?c ?k (fun _ _ _ _ _ _ us hl => match us, hl with | [_, _], _ => rfl)
      (case a => k_is); (case l => k_is); (case c => k_is); (case k => k_is)
    case F_checkTrees =>
      refine' L2.fnt_mk KX G ?a ?l ?c ?k (fun _ _ _ _ _ _ us hl => match us, hl with | [_], _ => rfl)
      (case a => k_is); (case l => k_is); (case c => k_is); (case k => k_is)
    case F_read =>
      refine' L2.fnt_mk KX G ?a ?l ?c ?k (fun _ _ _ _ _ _ us hl => match us, hl with | [_], _ => rfl)
      (case a => k_is); (case l => k_is); (case c => k_is); (case k => k_is)
    case F_lawCellAt =>
      refine' L2.fnt_mk KX G ?a ?l ?c ?k (fun _ _ _ _ _ _ us hl => match us, hl with | [_, _], _ => rfl)
      (case a => k_is); (case l => k_is); (case c => k_is); (case k => k_is)
    case F_lawDraw =>
      refine' L2.fnt_mk KX G ?a ?l ?c ?k (fun _ _ _ _ _ _ us hl => match us, hl with | [_, _, _], _ => rfl)
      (case a => k_is); (case l => k_is); (case c => k_is); (case k => k_is)
    case F_lawText =>
      refine' L2.fnt_mk KX G ?a ?l ?c ?k (fun _ _ _ _ _ _ us hl => match us, hl with | [_], _ => rfl)
      (case a => k_is); (case l => k_is); (case c => k_is); (case k => k_is)
    case F_lawWrong =>
      refine' L2.fnt_mk KX G ?a ?l ?c ?k (fun _ _ _ _ _ _ us hl => match us, hl with | [_], _ => rfl)
      (case a => k_is); (case l => k_is); (case c => k_is); (case k => k_is)
    case F_lawRefused =>
      refine' L2.fnt_mk KX G ?a ?l ?c ?k (fun _ _ _ _ _ _ us hl => match us, hl with | [_], _ => rfl)
      (case a => k_is); (case l => k_is); (case c => k_is); (case k => k_is)
    case F_lawOther =>
      refine' L2.fnt_mk KX G ?a ?l ?c ?k (fun _ _ _ _ _ _ us hl => match us, hl with | [_, _, _], _ => rfl)
      (case a => k_is); (case l => k_is); (case c => k_is); (case k => k_is)
    case F_oPoint =>
      refine' L2.own_mk ?pg ?hd ?po ?sa ?ha ?hn ?ht ?hm
      (case pg => k_is); (case hd => k_is); (case po => k_is); (case sa => k_is); (case ha => k_is); (case hn => k_is); (case ht => k_is); (case hm => k_is)
    case F_nPointAt =>
      refine' L2.noattr_mk ?a
      (case a => k_is)
    case F_mkPoint =>
      refine' L2.maket_mk ?m ?kc ?a ?i ?l ?c ?k (fun _ _ _ _ _ _ us hl => match us, hl with | [_, _], _ => rfl)
      (case m => k_is); (case kc => k_is); (case a => k_is); (case i => k_is); (case l => k_is); (case c => k_is); (case k => k_is)
    case F_mPointPoints =>
      refine' L2.metht_mk ?a ?i ?l ?c ?k (fun _ _ _ _ _ _ us hl => match us, hl with | [_], _ => rfl)
      (case a => k_is); (case i => k_is); (case l => k_is); (case c => k_is); (case k => k_is)
    case F_mPointTold =>
      refine' L2.metht_mk ?a ?i ?l ?c ?k (fun _ _ _ _ _ _ us hl => match us, hl with | [_], _ => rfl)
      (case a => k_is); (case i => k_is); (case l => k_is); (case c => k_is); (case k => k_is)
    case F_oBeside =>
      refine' L2.own_mk ?pg ?hd ?po ?sa ?ha ?hn ?ht ?hm
      (case pg => k_is); (case hd => k_is); (case po => k_is); (case sa => k_is); (case ha => k_is); (case hn => k_is); (case ht => k_is); (case hm => k_is)
    case F_nBesideTrees =>
      refine' L2.noattr_mk ?a
      (case a => k_is)
    case F_nBesideLaid =>
      refine' L2.noattr_mk ?a
      (case a => k_is)
    case F_mkBeside =>
      refine' L2.maket_mk ?m ?kc ?a ?i ?l ?c ?k (fun _ _ _ _ _ _ us hl => match us, hl with | [_, _], _ => rfl)
      (case m => k_is); (case kc => k_is); (case a => k_is); (case i => k_is); (case l => k_is); (case c => k_is); (case k => k_is)
    case F_mBesidePoints =>
      refine' L2.metht_mk ?a ?i ?l ?c ?k (fun _ _ _ _ _ _ us hl => match us, hl with | [_], _ => rfl)
      (case a => k_is); (case i => k_is); (case l => k_is); (case c => k_is); (case k => k_is)
    case F_mBesideTold =>
      refine' L2.metht_mk ?a ?i ?l ?c ?k (fun _ _ _ _ _ _ us hl => match us, hl with | [_], _ => rfl)
      (case a => k_is); (case i => k_is); (case l => k_is); (case c => k_is); (case k => k_is)
    case F_mBesideLay =>
      refine' L2.metht_mk ?a ?i ?l ?c ?k (fun _ _ _ _ _ _ us hl => match us, hl with | [_, _], _ => rfl)
      (case a => k_is); (case i => k_is); (case l => k_is); (case c => k_is); (case k => k_is)
    case F_mBesideSign =>
      refine' L2.metht_mk ?a ?i ?l ?c ?k (fun _ _ _ _ _ _ us hl => match us, hl with | [_], _ => rfl)
      (case a => k_is); (case i => k_is); (case l => k_is); (case c => k_is); (case k => k_is)
    case F_oAcross =>
      refine' L2.own_mk ?pg ?hd ?po ?sa ?ha ?hn ?ht ?hm
      (case pg => k_is); (case hd => k_is); (case po => k_is); (case sa => k_is); (case ha => k_is); (case hn => k_is); (case ht => k_is); (case hm => k_is)
    case F_nAcrossTrees =>
      refine' L2.noattr_mk ?a
      (case a => k_is)
    case F_nAcrossLaid =>
      refine' L2.noattr_mk ?a
      (case a => k_is)
    case F_mkAcross =>
      refine' L2.maket_mk ?m ?kc ?a ?i ?l ?c ?k (fun _ _ _ _ _ _ us hl => match us, hl with | [_, _], _ => rfl)
      (case m => k_is); (case kc => k_is); (case a => k_is); (case i => k_is); (case l => k_is); (case c => k_is); (case k => k_is)
    case F_mAcrossPoints =>
      refine' L2.metht_mk ?a ?i ?l ?c ?k (fun _ _ _ _ _ _ us hl => match us, hl with | [_], _ => rfl)
      (case a => k_is); (case i => k_is); (case l => k_is); (case c => k_is); (case k => k_is)
    case F_mAcrossTold =>
      refine' L2.metht_mk ?a ?i ?l ?c ?k (fun _ _ _ _ _ _ us hl => match us, hl with | [_], _ => rfl)
      (case a => k_is); (case i => k_is); (case l => k_is); (case c => k_is); (case k => k_is)
    case F_mAcrossLay =>
      refine' L2.metht_mk ?a ?i ?l ?c ?k (fun _ _ _ _ _ _ us hl => match us, hl with | [_, _], _ => rfl)
      (case a => k_is); (case i => k_is); (case l => k_is); (case c => k_is); (case k => k_is)
    case F_mAcrossSign =>
      refine' L2.metht_mk ?a ?i ?l ?c ?k (fun _ _ _ _ _ _ us hl => match us, hl with | [_], _ => rfl)
      (case a => k_is); (case i => k_is); (case l => k_is); (case c => k_is); (case k => k_is)
    case F_oBracket =>
      refine' L2.own_mk ?pg ?hd ?po ?sa ?ha ?hn ?ht ?hm
      (case pg => k_is); (case hd => k_is); (case po => k_is); (case sa => k_is); (case ha => k_is); (case hn => k_is); (case ht => k_is); (case hm => k_is)
    case F_nBracketInner =>
      refine' L2.noattr_mk ?a
      (case a => k_is)
    case F_nBracketBetween =>
      refine' L2.noattr_mk ?a
      (case a => k_is)
    case F_mkBracket =>
      refine' L2.maket_mk ?m ?kc ?a ?i ?l ?c ?k (fun _ _ _ _ _ _ us hl => match us, hl with | [_], _ => rfl)
      (case m => k_is); (case kc => k_is); (case a => k_is); (case i => k_is); (case l => k_is); (case c => k_is); (case k => k_is)
    case F_mBracketGoesOnWith =>
      refine' L2.metht_mk ?a ?i ?l ?c ?k (fun _ _ _ _ _ _ us hl => match us, hl with | [_, _], _ => rfl)
      (case a => k_is); (case i => k_is); (case l => k_is); (case c => k_is); (case k => k_is)
    case F_mBracketClosed =>
      refine' L2.metht_mk ?a ?i ?l ?c ?k (fun _ _ _ _ _ _ us hl => match us, hl with | [_], _ => rfl)
      (case a => k_is); (case i => k_is); (case l => k_is); (case c => k_is); (case k => k_is)
    case F_oReader =>
      refine' L2.own_mk ?pg ?hd ?po ?sa ?ha ?hn ?ht ?hm
      (case pg => k_is); (case hd => k_is); (case po => k_is); (case sa => k_is); (case ha => k_is); (case hn => k_is); (case ht => k_is); (case hm => k_is)
    case F_nReaderOpened =>
      refine' L2.noattr_mk ?a
      (case a => k_is)
    case F_nReaderFigures =>
      refine' L2.noattr_mk ?a
      (case a => k_is)
    case F_nReaderDue =>
      refine' L2.noattr_mk ?a
      (case a => k_is)
    case F_nReaderWhole =>
      refine' L2.noattr_mk ?a
      (case a => k_is)
    case F_mkReader =>
      refine' L2.maket_mk ?m ?kc ?a ?i ?l ?c ?k (fun _ _ _ _ _ _ us hl => match us, hl with | [_], _ => rfl)
      (case m => k_is); (case kc => k_is); (case a => k_is); (case i => k_is); (case l => k_is); (case c => k_is); (case k => k_is)
    case F_mReaderTake =>
      refine' L2.metht_mk ?a ?i ?l ?c ?k (fun _ _ _ _ _ _ us hl => match us, hl with | [_, _], _ => rfl)
      (case a => k_is); (case i => k_is); (case l => k_is); (case c => k_is); (case k => k_is)
    case F_mReaderTakeTree =>
      refine' L2.metht_mk ?a ?i ?l ?c ?k (fun _ _ _ _ _ _ us hl => match us, hl with | [_, _], _ => rfl)
      (case a => k_is); (case i => k_is); (case l => k_is); (case c => k_is); (case k => k_is)
    case F_mReaderTakeBehind =>
      refine' L2.metht_mk ?a ?i ?l ?c ?k (fun _ _ _ _ _ _ us hl => match us, hl with | [_, _], _ => rfl)
      (case a => k_is); (case i => k_is); (case l => k_is); (case c => k_is); (case k => k_is)
    case F_mReaderPut =>
      refine' L2.metht_mk ?a ?i ?l ?c ?k (fun _ _ _ _ _ _ us hl => match us, hl with | [_, _], _ => rfl)
      (case a => k_is); (case i => k_is); (case l => k_is); (case c => k_is); (case k => k_is)
    (case F_kPointTree => kit_is)
    (case F_kBesideTree => kit_is)
    (case F_kAcrossTree => kit_is)
    (case F_kBracketTree => kit_is)
    (case F_kReaderTree => kit_is)
    case F_vMOST_POINTS =>
      refine' Bw.most_mk (PySem.W.mg_of KX G ?a) ?e
      (case a => k_is)
      (case e => exact ⟨_, rfl⟩)
    case F_vMOST_SIGNS =>
      refine' Bw.most_mk (PySem.W.mg_of KX G ?a) ?e
      (case a => k_is)
      (case e => exact ⟨_, rfl⟩)
    case F_vFIGURES =>
      refine' Bw.text_mk (PySem.W.mg_of KX G ?a) ?e
      (case a => k_is)
      (case e => exact ⟨_, rfl⟩)
    case F_any =>
      refine' PySem.W.mg_none_of KX G ?a
      (case a => k_is)
    case F_bool =>
      refine' PySem.W.mg_none_of KX G ?a
      (case a => k_is)
    case F_enum =>
      refine' PySem.W.mg_none_of KX G ?a
      (case a => k_is)
    case F_int =>
      refine' PySem.W.mg_none_of KX G ?a
      (case a => k_is)
    case F_isinst =>
      refine' PySem.W.mg_none_of KX G ?a
      (case a => k_is)
    case F_len =>
      refine' PySem.W.mg_none_of KX G ?a
      (case a => k_is)
    case F_list =>
      refine' PySem.W.mg_none_of KX G ?a
      (case a => k_is)
    case F_min =>
      refine' PySem.W.mg_none_of KX G ?a
      (case a => k_is)
    case F_range =>
      refine' PySem.W.mg_none_of KX G ?a
      (case a => k_is)
    case F_set =>
      refine' PySem.W.mg_none_of KX G ?a
      (case a => k_is)
    case F_str =>
      refine' PySem.W.mg_none_of KX G ?a
      (case a => k_is)
    case F_tuple =>
      refine' PySem.W.mg_none_of KX G ?a
      (case a => k_is)
    (case la => k_is); (case ll => k_is); (case lc => k_is); (case lk => k_is)
#print axioms PySem.Challenge.cw_besideweb_k09_texts_misread_holds

