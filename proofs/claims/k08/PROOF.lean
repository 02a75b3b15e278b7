import PyProof.Rows.All
import Wide.All
import OpenK.AllK
import Wide.FinOn
import Lean
import PyProof.EqAt
import PyProof.EqKinds
import PyProof.TupleCall
import KE.KMinBuiltin
import PyProof.Rows.CallKwBuiltin
import PyProof.Rows.MinMaxN
import PySem.Challenge.RW_besideweb_k08_whole_same
set_option Elab.async false
set_option linter.all false
namespace L2
open PySem PySem.Spec PyProof.Rows
def inClass (s:Stmt) (j:Nat):Stmt:=match s with
 | .ClassDef _ _ _ body _ _ _ _ _ _ _=>body.getD j (.Pass ⟨0,0,0,0⟩)
 | _=>.Pass ⟨0,0,0,0⟩
def defArgs (s:Stmt):Arguments:=match s with
 | .FunctionDef _ a _ _ _ _ _ _ _ _=>a
 | _=>{ posonlyargs:=[],args:=[],vararg:=none,kwonlyargs:=[],kw_defaults:=[],kwarg:=none,defaults:=[] }
def defBody (s:Stmt):List Stmt:=match s with
 | .FunctionDef _ _ b _ _ _ _ _ _ _=>b
 | _=>[]
def defScope (s:Stmt):Scope:=match s with
 | .FunctionDef _ _ _ _ _ _ sc _ _ _=>sc
 | _=>{ kind:=.function,names:=[],isGenerator:=false,isCoroutine:=false }
end L2
namespace Bw
open PySem PySem.W PyProof.Rows
def topRunT (tb:String->Option Builtin) (p:Program) (w:World) (n₀:Nat) (ann:Option Value):Nat->SharedT->Thread->Option SharedT
 | 0,_,_=>none
 | n + 1,s,t=>match through t with
  | true=>some s
  | false=>match stepOk n₀ ann t with
   | false=>none
   | true=>match stepT (denote tb) p w s t with
    | some (s',t')=>topRunT tb p w n₀ ann n s' t'
    | none=>none
theorem topRun_of {tb:String->Option Builtin} {p:Program} {w:World} {n₀:Nat} {ann:Option Value}:∀ {n:Nat} {s s':SharedT} {t:Thread},topRunT tb p w n₀ ann n s t=some s'->topRun tb p w n₀ ann n s.abs t=some s'.abs
 | 0,_,_,_,h=>by cases h
 | n + 1,s,s',t,h=>by
  unfold topRunT at h
  unfold topRun
  cases he:through t with
  | true=>rw [he] at h; cases h; rfl
  | false =>
   rw [he] at h
   cases hk:stepOk n₀ ann t with
   | false=>rw [hk] at h; cases h
   | true =>
    rw [hk] at h
    cases hs:stepT (denote tb) p w s t with
    | none=>rw [hs] at h; cases h
    | some r=>obtain ⟨s₂,t₂⟩:=r; rw [hs] at h; rw [stepT_spec hs]; exact topRun_of h
noncomputable def topRunQ (p:Program) (w:World) (n₀:Nat) (ann:Option Value):Nat->SharedT->Thread->Option SharedT
 | 0,_,_=>none
 | n + 1,s,t=>match through t with
  | true=>some s
  | false=>match Fast.tw6613529449190102663 n₀ ann t with
   | false=>none
   | true=>match Fast.tw10156331382660048174 (Fast.tw11892475500146522536 Fast.tw14364793385576792824) p w s t with
    | some (s',t')=>topRunQ p w n₀ ann n s' t'
    | none=>none
theorem topRunQ_eq {p:Program} {w:World} {n₀:Nat} {ann:Option Value}:∀ (n:Nat) (s:SharedT) (t:Thread),topRunQ p w n₀ ann n s t=topRunT treeTable p w n₀ ann n s t
 | 0,_,_=>rfl
 | n + 1,s,t=>by
  unfold topRunQ topRunT
  rw [<- Fast.te6613529449190102663,<- Fast.te10156331382660048174,<- Fast.te11892475500146522536,<- Fast.te14364793385576792824]
  cases through t with
  | true=>rfl
  | false =>
   cases stepOk n₀ ann t with
   | false=>rfl
   | true =>
    cases stepT (denote treeTable) p w s t with
    | none=>rfl
    | some r=>exact topRunQ_eq n r.1 r.2
def putAll:List Obj->BT->Nat->BT
 | [],t,_=>t
 | o::l,t,n=>putAll l (t.ins n o) (n + 1)
noncomputable def bootT (P:Params):BT:=putAll (boot_heap P).objs.toList .nil 0
theorem bootT_abs (P:Params):absHeap (bootT P) (boot_heap P).objs.size (boot_heap P).life=boot_heap P:=by kernel_rfl
theorem left_of_tree {p q:Program} {loose:List Str} {Xt:Shared->Bool} {α:Type} {Yf:Shared->α} {Ya:World->α} {N:Nat} {g0:Bool} {m₀:Nat} {ann:Option Value}
  (e:opening p=plainProg p.main.scope.names) (hN:Nat.ble 600 N=true) (f:∀ s,fenceModules? p s=some s)
  (size:∀ w:World,((boot_heap w.params).isNs mainGlobals,(boot_heap w.params).objs.size,(boot_heap w.params).nsMap mainGlobals "__annotations__")=(true,m₀,ann))
  (run:∀ (w:World) (os:OsState),(topRunQ p w m₀ ann N ⟨bootT w.params,m₀,(boot_heap w.params).life,#[],boot_drawn,boot_toks,os⟩ (topStub p)).map (fun s=>(fun s₁:Shared =>
   ((staticsOk (importedModules p.main.body) (boot_heap w.params) s₁.heap && namesBound p s₁.heap && gensDone s₁ && laidKept (boot_heap w.params) s₁.heap),openSeen q loose (importedModules p.main.body) Xt g0 s₁,Yf s₁)) s.abs)=some (true,openGood q loose,Ya w)) :
  LeftO p q loose Xt Yf Ya N g0:=fun w=>by
 obtain ⟨⟨h,gs,d,k,os⟩,e1,e'⟩:=Option.map_eq_some_iff.mp (boot_open (N:=N) e hN f w)
 obtain ⟨rfl,rfl,rfl,rfl⟩:h=boot_heap w.params/\gs=#[]/\d=boot_drawn/\k=boot_toks:=by simpa using e'
 obtain ⟨z1,z2,z3⟩:_/\_/\_:=by simpa only [Prod.mk.injEq] using size w
 obtain ⟨s,r1,r2⟩:=Option.map_eq_some_iff.mp (run w os)
 obtain ⟨l1,l2,l3⟩:_/\_/\_:=by simpa only [Prod.mk.injEq] using r2
 have r:=topRun_of ((topRunQ_eq _ _ _).symm.trans r1)
 have ab:(⟨bootT w.params,m₀,(boot_heap w.params).life,#[],boot_drawn,boot_toks,os⟩:SharedT).abs=⟨boot_heap w.params,#[],boot_drawn,boot_toks,os⟩:=by
  unfold SharedT.abs
  dsimp only
  rw [<- z2,bootT_abs]
 rw [ab] at r
 have t:topFrom treeTable p w N ⟨boot_heap w.params,#[],boot_drawn,boot_toks,os⟩=some s.abs:=by
  unfold topFrom
  dsimp only
  rw [z1,z2,z3,r]
  show (match staticsOk (importedModules p.main.body) (boot_heap w.params) s.abs.heap && namesBound p s.abs.heap && gensDone s.abs && laidKept (boot_heap w.params) s.abs.heap with | true=>_ | false=>_)=_
  rw [l1]
 unfold openEnds
 rw [e1]
 show (topFrom treeTable p w N _).map _=_
 rw [t]
 exact congrArg some (Prod.ext l2 l3)
end Bw
set_option maxRecDepth 100000
namespace Bw
open PySem L2
def top (i:Nat):Stmt:=PySem.Challenge.pw_besideweb_k08_whole_same.main.body.getD i (.Pass ⟨0,0,0,0⟩)
abbrev sIsBelow:Stmt:=top 10
abbrev sTied:Stmt:=top 11
abbrev sHasPoints:Stmt:=top 12
abbrev sCheckWeb:Stmt:=top 13
abbrev sCheckTies:Stmt:=top 14
abbrev sCheckPoints:Stmt:=top 15
abbrev sBracketed:Stmt:=top 22
abbrev sCheckTrees:Stmt:=top 23
abbrev sTurned:Stmt:=top 25
abbrev sAmong:Stmt:=top 26
abbrev sTiesAmong:Stmt:=top 27
abbrev sParts:Stmt:=top 28
abbrev sHangingWith:Stmt:=top 29
abbrev sTelling:Stmt:=top 34
abbrev sTreeOf:Stmt:=top 35
abbrev sGoesOn:Stmt:=top 36
abbrev sRowIn:Stmt:=top 37
abbrev sLongerRows:Stmt:=top 38
abbrev sTreeAmong:Stmt:=top 39
abbrev sTreesAmong:Stmt:=top 40
abbrev sShapeOf:Stmt:=top 42
abbrev sSame:Stmt:=top 43
abbrev sPointsByShape:Stmt:=top 44
abbrev sLawCellAt:Stmt:=top 46
abbrev sLawDraw:Stmt:=top 47
abbrev sLawWeb:Stmt:=top 48
abbrev sLawTie:Stmt:=top 49
abbrev sLawFour:Stmt:=top 50
abbrev sLawRefused:Stmt:=top 51
abbrev sLawBarred:Stmt:=top 52
abbrev sLawMapped:Stmt:=top 53
abbrev sLawLists:Stmt:=top 54
abbrev sLawRenumbered:Stmt:=top 55
abbrev sLawParted:Stmt:=top 56
abbrev sLawShape:Stmt:=top 57
abbrev sLawBoth:Stmt:=top 58
abbrev sLaw:Stmt:=top 59
abbrev sNotmadeInit:Stmt:=inClass (top 6) 0
abbrev sBadtextInit:Stmt:=inClass (top 7) 0
abbrev sTreeInit:Stmt:=inClass (top 17) 0
abbrev sTreePoints:Stmt:=inClass (top 17) 1
abbrev sTreeTold:Stmt:=inClass (top 17) 2
abbrev sTreeShape:Stmt:=inClass (top 17) 3
abbrev sPointInit:Stmt:=inClass (top 18) 0
abbrev sPointPoints:Stmt:=inClass (top 18) 1
abbrev sPointTold:Stmt:=inClass (top 18) 2
abbrev sPointShape:Stmt:=inClass (top 18) 3
abbrev sDoingInit:Stmt:=inClass (top 19) 0
abbrev sDoingLay:Stmt:=inClass (top 19) 1
abbrev sDoingSign:Stmt:=inClass (top 19) 2
abbrev sDoingPoints:Stmt:=inClass (top 19) 3
abbrev sDoingTold:Stmt:=inClass (top 19) 4
abbrev sDoingShape:Stmt:=inClass (top 19) 5
abbrev sBesideInit:Stmt:=inClass (top 20) 0
abbrev sBesideSign:Stmt:=inClass (top 20) 1
abbrev sAcrossInit:Stmt:=inClass (top 21) 0
abbrev sAcrossSign:Stmt:=inClass (top 21) 1
abbrev sAnswerHolds:Stmt:=inClass (top 31) 0
abbrev sAnswerIsSo:Stmt:=inClass (top 31) 1
abbrev sMadeInit:Stmt:=inClass (top 32) 0
abbrev sMadeIsSo:Stmt:=inClass (top 32) 1
abbrev sRowInit:Stmt:=inClass (top 33) 0
abbrev sRowIsSo:Stmt:=inClass (top 33) 1
abbrev so:=PySem.Str.ofString
abbrev kh:=@PySem.PyData.keyHash
abbrev hdE (P:PySem.Params) (x:String) (n:Nat) (v:Value):DictEntry:={ hash:=kh P (so x),key:=.str (so x) n,val:=v }
abbrev hdS (x:String) (n:Nat):Value:=.str (so x) n
abbrev hdC (x y:String) (a b c:Nat) (l k:Int) (p:Value) (u:Int) (q r v w z:Value) (d e:Int) (g:Nat):Obj:={ cls:=.type "code",data:=.fields #[.str (so x) a,.str (so y) b,.str (so "/claim/cut.py") c,.int l 0,.int k 0,.int 0 0,.int 0 0,.int 3 0,p,.bool true,.int u 0,q,r,v,w,z,.int d 0,.int e 0,.str (so "/claim/cut.py") g] }
abbrev hdF (x y:String) (s:Stmt) (d k o m:Value) (an:Option Addr) (c t:Value):Obj:=⟨.type "function",none,.func (PySem.W.fnOf (so x) (so y) (defArgs s) (defBody s) (defScope s) d k o m an c t),#[]⟩
def KB:PySem.Params->PySem.W.Frag:=fun P =>
 (nat_lit 2,({ cls:=.none,data:=.dict #[] }:Obj)) ::
 (nat_lit 3,({ cls:=.type "dict",data:=.dict #[hdE P "__name__" 165 (hdS "law_besideweb_k08_whole_same" 833),hdE P "__doc__" 166 .none,hdE P "__package__" 167 .none,hdE P "__loader__" 168 (.builtin "__main__.__loader__#opaque"),hdE P "__spec__" 169 .none,hdE P "__annotations__" 170 (.ref 6),hdE P "__builtins__" 171 (.ref 4),hdE P "__file__" 173 (hdS "/claim/cut.py" 172),hdE P "__cached__" 174 .none,hdE P "_wall" 193 (.ref 21),hdE P "WebError" 213 (.ref 31),hdE P "BadWeb" 229 (.ref 44),hdE P "BadTree" 245 (.ref 56),hdE P "NoPoint" 261 (.ref 68),hdE P "NotMade" 286 (.ref 87),hdE P "BadText" 311 (.ref 106),hdE P "MOST_POINTS" 315 (.int 10 314),hdE P "is_below" 323 (.ref 115),hdE P "tied" 332 (.ref 122),hdE P "has_points" 338 (.ref 127),hdE P "check_web" 347 (.ref 134),hdE P "check_ties" 356 (.ref 141),hdE P "check_points" 364 (.ref 148),hdE P "Tree" 415 (.ref 187),hdE P "Point" 461 (.ref 229),hdE P "Doing" 523 (.ref 280),hdE P "Beside" 554 (.ref 306),hdE P "Across" 585 (.ref 332),hdE P "bracketed" 594 (.ref 341),hdE P "check_trees" 603 (.ref 348),hdE P "turned" 611 (.ref 353),hdE P "among" 617 (.ref 358),hdE P "ties_among" 629 (.ref 365),hdE P "parts" 639 (.ref 372),hdE P "hanging_with" 651 (.ref 379),hdE P "Answer" 689 (.ref 403),hdE P "Made" 722 (.ref 431),hdE P "Row" 755 (.ref 457),hdE P "telling" 763 (.ref 466),hdE P "tree_of" 771 (.ref 473),hdE P "goes_on" 777 (.ref 478),hdE P "row_in" 786 (.ref 485),hdE P "longer_rows" 792 (.ref 490),hdE P "tree_among" 802 (.ref 497),hdE P "trees_among" 808 (.ref 502),hdE P "shape_of" 817 (.ref 509),hdE P "same" 823 (.ref 514),hdE P "points_by_shape" 832 (.ref 521),hdE P "_law_cell_at" 842 (.ref 528),hdE P "_law_draw" 853 (.ref 535),hdE P "_law_web" 859 (.ref 540),hdE P "_law_tie" 868 (.ref 547),hdE P "_law_four" 878 (.ref 554),hdE P "_law_refused" 888 (.ref 561),hdE P "_law_barred" 898 (.ref 568),hdE P "_law_mapped" 910 (.ref 575),hdE P "_law_lists" 916 (.ref 580),hdE P "_law_renumbered" 922 (.ref 585),hdE P "_law_parted" 928 (.ref 590),hdE P "_law_shape" 934 (.ref 595),hdE P "_law_both" 940 (.ref 600),hdE P "law" 950 (.ref 607)] 62 }:Obj)) ::
 (nat_lit 4,({ cls:=.type "module",dict:=some 0,data:=.plain }:Obj)) ::
 (nat_lit 30,({ cls:=.type "dict",data:=.dict #[hdE P "__module__" 203 (hdS "besideweb.errors" 194),hdE P "__firstlineno__" 207 (.int 5 206),hdE P "__static_attributes__" 208 (.ref 29),hdE P "__weakref__" 210 (.ref 32),hdE P "__doc__" 211 .none] 3 }:Obj)) ::
 (nat_lit 31,({ cls:=.type "type",data:=.cls { name:=so "WebError",bases:=[.type "ValueError"],mro:=[.ref 31,.type "ValueError",.type "Exception",.type "BaseException",.type "object"],ns:=30,qualname:=so "WebError",subclasses:=[.ref 44,.ref 56,.ref 68,.ref 87,.ref 106] },slots:=#[some (.ref 22),none,some (hdS "WebError" 196),some (hdS "WebError" 204),some (.builtin "ValueError.__new__"),some (.bool true)] }:Obj)) ::
 (nat_lit 43,({ cls:=.type "dict",data:=.dict #[hdE P "__module__" 221 (hdS "besideweb.errors" 194),hdE P "__firstlineno__" 225 (.int 7 224),hdE P "__static_attributes__" 226 (.ref 42),hdE P "__doc__" 227 .none] 2 }:Obj)) ::
 (nat_lit 44,({ cls:=.type "type",data:=.cls { name:=so "BadWeb",bases:=[.ref 31],mro:=[.ref 44,.ref 31,.type "ValueError",.type "Exception",.type "BaseException",.type "object"],ns:=43,qualname:=so "BadWeb" },slots:=#[some (.ref 35),none,some (hdS "BadWeb" 214),some (hdS "BadWeb" 222),some (.builtin "ValueError.__new__"),some (.bool true)] }:Obj)) ::
 (nat_lit 55,({ cls:=.type "dict",data:=.dict #[hdE P "__module__" 237 (hdS "besideweb.errors" 194),hdE P "__firstlineno__" 241 (.int 9 240),hdE P "__static_attributes__" 242 (.ref 54),hdE P "__doc__" 243 .none] 2 }:Obj)) ::
 (nat_lit 56,({ cls:=.type "type",data:=.cls { name:=so "BadTree",bases:=[.ref 31],mro:=[.ref 56,.ref 31,.type "ValueError",.type "Exception",.type "BaseException",.type "object"],ns:=55,qualname:=so "BadTree" },slots:=#[some (.ref 47),none,some (hdS "BadTree" 230),some (hdS "BadTree" 238),some (.builtin "ValueError.__new__"),some (.bool true)] }:Obj)) ::
 (nat_lit 67,({ cls:=.type "dict",data:=.dict #[hdE P "__module__" 253 (hdS "besideweb.errors" 194),hdE P "__firstlineno__" 257 (.int 11 256),hdE P "__static_attributes__" 258 (.ref 66),hdE P "__doc__" 259 .none] 2 }:Obj)) ::
 (nat_lit 68,({ cls:=.type "type",data:=.cls { name:=so "NoPoint",bases:=[.ref 31],mro:=[.ref 68,.ref 31,.type "ValueError",.type "Exception",.type "BaseException",.type "object"],ns:=67,qualname:=so "NoPoint" },slots:=#[some (.ref 59),none,some (hdS "NoPoint" 246),some (hdS "NoPoint" 254),some (.builtin "ValueError.__new__"),some (.bool true)] }:Obj)) ::
 (nat_lit 83,(hdC "__init__" "NotMade.__init__" 274 275 276 15 2 (.ref 78) 181 (.ref 79) .none (.ref 80) (.ref 81) (.ref 82) 279 15 280)) ::
 (nat_lit 84,(hdF "__init__" "NotMade.__init__" sNotmadeInit .none .none .none (hdS "besideweb.errors" 194) none (.ref 83) .none)) ::
 (nat_lit 86,({ cls:=.type "dict",data:=.dict #[hdE P "__module__" 269 (hdS "besideweb.errors" 194),hdE P "__firstlineno__" 273 (.int 13 272),hdE P "__init__" 281 (.ref 84),hdE P "__static_attributes__" 283 (.ref 85),hdE P "__doc__" 284 .none] 2 }:Obj)) ::
 (nat_lit 87,({ cls:=.type "type",data:=.cls { name:=so "NotMade",bases:=[.ref 31],mro:=[.ref 87,.ref 31,.type "ValueError",.type "Exception",.type "BaseException",.type "object"],ns:=86,qualname:=so "NotMade" },slots:=#[some (.ref 71),none,some (hdS "NotMade" 262),some (hdS "NotMade" 270),some (.builtin "ValueError.__new__"),some (.bool true)] }:Obj)) ::
 (nat_lit 102,(hdC "__init__" "BadText.__init__" 299 300 301 20 2 (.ref 97) 181 (.ref 98) .none (.ref 99) (.ref 100) (.ref 101) 304 20 305)) ::
 (nat_lit 103,(hdF "__init__" "BadText.__init__" sBadtextInit .none .none .none (hdS "besideweb.errors" 194) none (.ref 102) .none)) ::
 (nat_lit 105,({ cls:=.type "dict",data:=.dict #[hdE P "__module__" 294 (hdS "besideweb.errors" 194),hdE P "__firstlineno__" 298 (.int 18 297),hdE P "__init__" 306 (.ref 103),hdE P "__static_attributes__" 308 (.ref 104),hdE P "__doc__" 309 .none] 2 }:Obj)) ::
 (nat_lit 106,({ cls:=.type "type",data:=.cls { name:=so "BadText",bases:=[.ref 31],mro:=[.ref 106,.ref 31,.type "ValueError",.type "Exception",.type "BaseException",.type "object"],ns:=105,qualname:=so "BadText" },slots:=#[some (.ref 90),none,some (hdS "BadText" 287),some (hdS "BadText" 295),some (.builtin "ValueError.__new__"),some (.bool true)] }:Obj)) ::
 (nat_lit 114,(hdC "is_below" "is_below" 316 317 318 25 2 (.ref 109) 181 (.ref 110) .none (.ref 111) (.ref 112) (.ref 113) 321 25 322)) ::
 (nat_lit 115,(hdF "is_below" "is_below" sIsBelow .none .none .none (hdS "besideweb.checks" 312) none (.ref 114) .none)) ::
 (nat_lit 121,(hdC "tied" "tied" 324 325 326 27 3 (.ref 116) 181 (.ref 117) .none (.ref 118) (.ref 119) (.ref 120) 330 27 331)) ::
 (nat_lit 122,(hdF "tied" "tied" sTied .none .none .none (hdS "besideweb.checks" 312) none (.ref 121) .none)) ::
 (nat_lit 126,(hdC "has_points" "has_points" 333 334 335 29 2 (.ref 123) 181 (.ref 124) .none .none .none (.ref 125) 336 29 337)) ::
 (nat_lit 127,(hdF "has_points" "has_points" sHasPoints .none .none .none (hdS "besideweb.checks" 312) none (.ref 126) .none)) ::
 (nat_lit 133,(hdC "check_web" "check_web" 339 340 341 31 1 (.ref 128) 181 (.ref 129) .none (.ref 130) (.ref 131) (.ref 132) 345 31 346)) ::
 (nat_lit 134,(hdF "check_web" "check_web" sCheckWeb .none .none .none (hdS "besideweb.checks" 312) none (.ref 133) .none)) ::
 (nat_lit 140,(hdC "check_ties" "check_ties" 348 349 350 39 2 (.ref 135) 181 (.ref 136) .none (.ref 137) (.ref 138) (.ref 139) 354 39 355)) ::
 (nat_lit 141,(hdF "check_ties" "check_ties" sCheckTies .none .none .none (hdS "besideweb.checks" 312) none (.ref 140) .none)) ::
 (nat_lit 147,(hdC "check_points" "check_points" 357 358 359 45 2 (.ref 142) 181 (.ref 143) .none (.ref 144) (.ref 145) (.ref 146) 362 45 363)) ::
 (nat_lit 148,(hdF "check_points" "check_points" sCheckPoints .none .none .none (hdS "besideweb.checks" 312) none (.ref 147) .none)) ::
 (nat_lit 162,(hdC "__init__" "Tree.__init__" 379 380 381 55 2 (.ref 157) 181 (.ref 158) .none (.ref 159) (.ref 160) (.ref 161) 384 55 385)) ::
 (nat_lit 163,(hdF "__init__" "Tree.__init__" sTreeInit (.ref 156) .none .none (hdS "besideweb.trees" 365) none (.ref 162) .none)) ::
 (nat_lit 169,(hdC "points" "Tree.points" 387 388 389 58 1 (.ref 164) 181 (.ref 165) .none (.ref 166) (.ref 167) (.ref 168) 391 58 392)) ::
 (nat_lit 170,(hdF "points" "Tree.points" sTreePoints .none .none .none (hdS "besideweb.trees" 365) none (.ref 169) .none)) ::
 (nat_lit 176,(hdC "told" "Tree.told" 394 395 396 61 1 (.ref 171) 181 (.ref 172) .none (.ref 173) (.ref 174) (.ref 175) 398 61 399)) ::
 (nat_lit 177,(hdF "told" "Tree.told" sTreeTold .none .none .none (hdS "besideweb.trees" 365) none (.ref 176) .none)) ::
 (nat_lit 183,(hdC "shape" "Tree.shape" 401 402 403 64 1 (.ref 178) 181 (.ref 179) .none (.ref 180) (.ref 181) (.ref 182) 405 64 406)) ::
 (nat_lit 184,(hdF "shape" "Tree.shape" sTreeShape .none .none .none (hdS "besideweb.trees" 365) none (.ref 183) .none)) ::
 (nat_lit 186,({ cls:=.type "dict",data:=.dict #[hdE P "__module__" 374 (hdS "besideweb.trees" 365),hdE P "__firstlineno__" 378 (.int 53 377),hdE P "__init__" 386 (.ref 163),hdE P "points" 393 (.ref 170),hdE P "told" 400 (.ref 177),hdE P "shape" 407 (.ref 184),hdE P "__static_attributes__" 408 (.ref 185),hdE P "__dict__" 410 (.ref 188),hdE P "__weakref__" 412 (.ref 189),hdE P "__doc__" 413 .none] 4 }:Obj)) ::
 (nat_lit 187,({ cls:=.type "type",data:=.cls { name:=so "Tree",bases:=[.type "object"],mro:=[.ref 187,.type "object"],ns:=186,qualname:=so "Tree",subclasses:=[.ref 229,.ref 280] },slots:=#[none,none,some (hdS "Tree" 367),some (hdS "Tree" 375),some (.builtin "object.__new__"),some (.bool true)] }:Obj)) ::
 (nat_lit 204,(hdC "__init__" "Point.__init__" 428 429 430 68 2 (.ref 199) 181 (.ref 200) .none (.ref 201) (.ref 202) (.ref 203) 433 68 434)) ::
 (nat_lit 205,(hdF "__init__" "Point.__init__" sPointInit .none .none .none (hdS "besideweb.trees" 365) none (.ref 204) .none)) ::
 (nat_lit 211,(hdC "points" "Point.points" 436 437 438 73 1 (.ref 206) 181 (.ref 207) .none (.ref 208) (.ref 209) (.ref 210) 440 73 441)) ::
 (nat_lit 212,(hdF "points" "Point.points" sPointPoints .none .none .none (hdS "besideweb.trees" 365) none (.ref 211) .none)) ::
 (nat_lit 218,(hdC "told" "Point.told" 443 444 445 76 1 (.ref 213) 181 (.ref 214) .none (.ref 215) (.ref 216) (.ref 217) 447 76 448)) ::
 (nat_lit 219,(hdF "told" "Point.told" sPointTold .none .none .none (hdS "besideweb.trees" 365) none (.ref 218) .none)) ::
 (nat_lit 225,(hdC "shape" "Point.shape" 450 451 452 79 1 (.ref 220) 181 (.ref 221) .none (.ref 222) (.ref 223) (.ref 224) 454 79 455)) ::
 (nat_lit 226,(hdF "shape" "Point.shape" sPointShape .none .none .none (hdS "besideweb.trees" 365) none (.ref 225) .none)) ::
 (nat_lit 228,({ cls:=.type "dict",data:=.dict #[hdE P "__module__" 423 (hdS "besideweb.trees" 365),hdE P "__firstlineno__" 427 (.int 66 426),hdE P "__init__" 435 (.ref 205),hdE P "points" 442 (.ref 212),hdE P "told" 449 (.ref 219),hdE P "shape" 456 (.ref 226),hdE P "__static_attributes__" 458 (.ref 227),hdE P "__doc__" 459 .none] 2 }:Obj)) ::
 (nat_lit 229,({ cls:=.type "type",data:=.cls { name:=so "Point",bases:=[.ref 187],mro:=[.ref 229,.ref 187,.type "object"],ns:=228,qualname:=so "Point" },slots:=#[some (.ref 192),none,some (hdS "Point" 416),some (hdS "Point" 424),some (.builtin "object.__new__"),some (.bool true)] }:Obj)) ::
 (nat_lit 245,(hdC "__init__" "Doing.__init__" 474 475 476 83 2 (.ref 240) 181 (.ref 241) .none (.ref 242) (.ref 243) (.ref 244) 479 83 480)) ::
 (nat_lit 246,(hdF "__init__" "Doing.__init__" sDoingInit (.ref 239) .none .none (hdS "besideweb.trees" 365) none (.ref 245) .none)) ::
 (nat_lit 252,(hdC "lay" "Doing.lay" 482 483 484 86 2 (.ref 247) 181 (.ref 248) .none (.ref 249) (.ref 250) (.ref 251) 487 86 488)) ::
 (nat_lit 253,(hdF "lay" "Doing.lay" sDoingLay .none .none .none (hdS "besideweb.trees" 365) none (.ref 252) .none)) ::
 (nat_lit 259,(hdC "sign" "Doing.sign" 490 491 492 91 1 (.ref 254) 181 (.ref 255) .none (.ref 256) (.ref 257) (.ref 258) 494 91 495)) ::
 (nat_lit 260,(hdF "sign" "Doing.sign" sDoingSign .none .none .none (hdS "besideweb.trees" 365) none (.ref 259) .none)) ::
 (nat_lit 266,(hdC "points" "Doing.points" 497 498 499 94 1 (.ref 261) 181 (.ref 262) .none (.ref 263) (.ref 264) (.ref 265) 503 94 504)) ::
 (nat_lit 267,(hdF "points" "Doing.points" sDoingPoints .none .none .none (hdS "besideweb.trees" 365) none (.ref 266) .none)) ::
 (nat_lit 271,(hdC "told" "Doing.told" 506 507 508 100 1 (.ref 268) 181 (.ref 269) .none .none .none (.ref 270) 509 100 510)) ::
 (nat_lit 272,(hdF "told" "Doing.told" sDoingTold .none .none .none (hdS "besideweb.trees" 365) none (.ref 271) .none)) ::
 (nat_lit 276,(hdC "shape" "Doing.shape" 512 513 514 103 1 (.ref 273) 181 (.ref 274) .none .none .none (.ref 275) 515 103 516)) ::
 (nat_lit 277,(hdF "shape" "Doing.shape" sDoingShape .none .none .none (hdS "besideweb.trees" 365) none (.ref 276) .none)) ::
 (nat_lit 279,({ cls:=.type "dict",data:=.dict #[hdE P "__module__" 469 (hdS "besideweb.trees" 365),hdE P "__firstlineno__" 473 (.int 81 472),hdE P "__init__" 481 (.ref 246),hdE P "lay" 489 (.ref 253),hdE P "sign" 496 (.ref 260),hdE P "points" 505 (.ref 267),hdE P "told" 511 (.ref 272),hdE P "shape" 517 (.ref 277),hdE P "__static_attributes__" 520 (.ref 278),hdE P "__doc__" 521 .none] 2 }:Obj)) ::
 (nat_lit 280,({ cls:=.type "type",data:=.cls { name:=so "Doing",bases:=[.ref 187],mro:=[.ref 280,.ref 187,.type "object"],ns:=279,qualname:=so "Doing",subclasses:=[.ref 306,.ref 332] },slots:=#[some (.ref 232),none,some (hdS "Doing" 462),some (hdS "Doing" 470),some (.builtin "object.__new__"),some (.bool true)] }:Obj)) ::
 (nat_lit 295,(hdC "__init__" "Beside.__init__" 536 537 538 107 2 (.ref 290) 181 (.ref 291) .none (.ref 292) (.ref 293) (.ref 294) 541 107 542)) ::
 (nat_lit 296,(hdF "__init__" "Beside.__init__" sBesideInit .none .none .none (hdS "besideweb.trees" 365) none (.ref 295) .none)) ::
 (nat_lit 302,(hdC "sign" "Beside.sign" 544 545 546 110 1 (.ref 297) 181 (.ref 298) .none (.ref 299) (.ref 300) (.ref 301) 548 110 549)) ::
 (nat_lit 303,(hdF "sign" "Beside.sign" sBesideSign .none .none .none (hdS "besideweb.trees" 365) none (.ref 302) .none)) ::
 (nat_lit 305,({ cls:=.type "dict",data:=.dict #[hdE P "__module__" 531 (hdS "besideweb.trees" 365),hdE P "__firstlineno__" 535 (.int 105 534),hdE P "__init__" 543 (.ref 296),hdE P "sign" 550 (.ref 303),hdE P "__static_attributes__" 551 (.ref 304),hdE P "__doc__" 552 .none] 2 }:Obj)) ::
 (nat_lit 306,({ cls:=.type "type",data:=.cls { name:=so "Beside",bases:=[.ref 280],mro:=[.ref 306,.ref 280,.ref 187,.type "object"],ns:=305,qualname:=so "Beside" },slots:=#[some (.ref 283),none,some (hdS "Beside" 524),some (hdS "Beside" 532),some (.builtin "object.__new__"),some (.bool true)] }:Obj)) ::
 (nat_lit 321,(hdC "__init__" "Across.__init__" 567 568 569 114 2 (.ref 316) 181 (.ref 317) .none (.ref 318) (.ref 319) (.ref 320) 572 114 573)) ::
 (nat_lit 322,(hdF "__init__" "Across.__init__" sAcrossInit .none .none .none (hdS "besideweb.trees" 365) none (.ref 321) .none)) ::
 (nat_lit 328,(hdC "sign" "Across.sign" 575 576 577 117 1 (.ref 323) 181 (.ref 324) .none (.ref 325) (.ref 326) (.ref 327) 579 117 580)) ::
 (nat_lit 329,(hdF "sign" "Across.sign" sAcrossSign .none .none .none (hdS "besideweb.trees" 365) none (.ref 328) .none)) ::
 (nat_lit 331,({ cls:=.type "dict",data:=.dict #[hdE P "__module__" 562 (hdS "besideweb.trees" 365),hdE P "__firstlineno__" 566 (.int 112 565),hdE P "__init__" 574 (.ref 322),hdE P "sign" 581 (.ref 329),hdE P "__static_attributes__" 582 (.ref 330),hdE P "__doc__" 583 .none] 2 }:Obj)) ::
 (nat_lit 332,({ cls:=.type "type",data:=.cls { name:=so "Across",bases:=[.ref 280],mro:=[.ref 332,.ref 280,.ref 187,.type "object"],ns:=331,qualname:=so "Across" },slots:=#[some (.ref 309),none,some (hdS "Across" 555),some (hdS "Across" 563),some (.builtin "object.__new__"),some (.bool true)] }:Obj)) ::
 (nat_lit 340,(hdC "bracketed" "bracketed" 586 587 588 119 2 (.ref 335) 181 (.ref 336) .none (.ref 337) (.ref 338) (.ref 339) 592 119 593)) ::
 (nat_lit 341,(hdF "bracketed" "bracketed" sBracketed .none .none .none (hdS "besideweb.trees" 365) none (.ref 340) .none)) ::
 (nat_lit 347,(hdC "check_trees" "check_trees" 595 596 597 122 1 (.ref 342) 181 (.ref 343) .none (.ref 344) (.ref 345) (.ref 346) 601 122 602)) ::
 (nat_lit 348,(hdF "check_trees" "check_trees" sCheckTrees .none .none .none (hdS "besideweb.trees" 365) none (.ref 347) .none)) ::
 (nat_lit 352,(hdC "turned" "turned" 606 607 608 133 1 (.ref 349) 181 (.ref 350) .none .none .none (.ref 351) 609 133 610)) ::
 (nat_lit 353,(hdF "turned" "turned" sTurned .none .none .none (hdS "besideweb.webs" 604) none (.ref 352) .none)) ::
 (nat_lit 357,(hdC "among" "among" 612 613 614 137 2 (.ref 354) 181 (.ref 355) .none .none .none (.ref 356) 615 137 616)) ::
 (nat_lit 358,(hdF "among" "among" sAmong .none .none .none (hdS "besideweb.webs" 604) none (.ref 357) .none)) ::
 (nat_lit 364,(hdC "ties_among" "ties_among" 618 619 620 141 3 (.ref 359) 181 (.ref 360) .none (.ref 361) (.ref 362) (.ref 363) 627 141 628)) ::
 (nat_lit 365,(hdF "ties_among" "ties_among" sTiesAmong .none .none .none (hdS "besideweb.webs" 604) none (.ref 364) .none)) ::
 (nat_lit 371,(hdC "parts" "parts" 630 631 632 147 1 (.ref 366) 181 (.ref 367) .none (.ref 368) (.ref 369) (.ref 370) 637 147 638)) ::
 (nat_lit 372,(hdF "parts" "parts" sParts .none .none .none (hdS "besideweb.webs" 604) none (.ref 371) .none)) ::
 (nat_lit 378,(hdC "hanging_with" "hanging_with" 640 641 642 155 2 (.ref 373) 181 (.ref 374) .none (.ref 375) (.ref 376) (.ref 377) 649 155 650)) ::
 (nat_lit 379,(hdF "hanging_with" "hanging_with" sHangingWith .none .none .none (hdS "besideweb.webs" 604) none (.ref 378) .none)) ::
 (nat_lit 392,(hdC "holds" "Answer.holds" 666 667 668 168 2 (.ref 387) 181 (.ref 388) .none (.ref 389) (.ref 390) (.ref 391) 671 168 672)) ::
 (nat_lit 393,(hdF "holds" "Answer.holds" sAnswerHolds .none .none .none (hdS "besideweb.tellings" 652) none (.ref 392) .none)) ::
 (nat_lit 399,(hdC "is_so" "Answer.is_so" 674 675 676 171 2 (.ref 394) 181 (.ref 395) .none (.ref 396) (.ref 397) (.ref 398) 679 171 680)) ::
 (nat_lit 400,(hdF "is_so" "Answer.is_so" sAnswerIsSo .none .none .none (hdS "besideweb.tellings" 652) none (.ref 399) .none)) ::
 (nat_lit 402,({ cls:=.type "dict",data:=.dict #[hdE P "__module__" 661 (hdS "besideweb.tellings" 652),hdE P "__firstlineno__" 665 (.int 166 664),hdE P "holds" 673 (.ref 393),hdE P "is_so" 681 (.ref 400),hdE P "__static_attributes__" 682 (.ref 401),hdE P "__dict__" 684 (.ref 404),hdE P "__weakref__" 686 (.ref 405),hdE P "__doc__" 687 .none] 4 }:Obj)) ::
 (nat_lit 403,({ cls:=.type "type",data:=.cls { name:=so "Answer",bases:=[.type "object"],mro:=[.ref 403,.type "object"],ns:=402,qualname:=so "Answer",subclasses:=[.ref 431,.ref 457] },slots:=#[none,none,some (hdS "Answer" 654),some (hdS "Answer" 662),some (.builtin "object.__new__"),some (.bool true)] }:Obj)) ::
 (nat_lit 420,(hdC "__init__" "Made.__init__" 702 703 704 175 2 (.ref 415) 181 (.ref 416) .none (.ref 417) (.ref 418) (.ref 419) 707 175 708)) ::
 (nat_lit 421,(hdF "__init__" "Made.__init__" sMadeInit .none .none .none (hdS "besideweb.tellings" 652) none (.ref 420) .none)) ::
 (nat_lit 427,(hdC "is_so" "Made.is_so" 710 711 712 178 2 (.ref 422) 181 (.ref 423) .none (.ref 424) (.ref 425) (.ref 426) 715 178 716)) ::
 (nat_lit 428,(hdF "is_so" "Made.is_so" sMadeIsSo .none .none .none (hdS "besideweb.tellings" 652) none (.ref 427) .none)) ::
 (nat_lit 430,({ cls:=.type "dict",data:=.dict #[hdE P "__module__" 697 (hdS "besideweb.tellings" 652),hdE P "__firstlineno__" 701 (.int 173 700),hdE P "__init__" 709 (.ref 421),hdE P "is_so" 717 (.ref 428),hdE P "__static_attributes__" 719 (.ref 429),hdE P "__doc__" 720 .none] 2 }:Obj)) ::
 (nat_lit 431,({ cls:=.type "type",data:=.cls { name:=so "Made",bases:=[.ref 403],mro:=[.ref 431,.ref 403,.type "object"],ns:=430,qualname:=so "Made" },slots:=#[some (.ref 408),none,some (hdS "Made" 690),some (hdS "Made" 698),some (.builtin "object.__new__"),some (.bool true)] }:Obj)) ::
 (nat_lit 446,(hdC "__init__" "Row.__init__" 735 736 737 182 2 (.ref 441) 181 (.ref 442) .none (.ref 443) (.ref 444) (.ref 445) 740 182 741)) ::
 (nat_lit 447,(hdF "__init__" "Row.__init__" sRowInit .none .none .none (hdS "besideweb.tellings" 652) none (.ref 446) .none)) ::
 (nat_lit 453,(hdC "is_so" "Row.is_so" 743 744 745 185 2 (.ref 448) 181 (.ref 449) .none (.ref 450) (.ref 451) (.ref 452) 748 185 749)) ::
 (nat_lit 454,(hdF "is_so" "Row.is_so" sRowIsSo .none .none .none (hdS "besideweb.tellings" 652) none (.ref 453) .none)) ::
 (nat_lit 456,({ cls:=.type "dict",data:=.dict #[hdE P "__module__" 730 (hdS "besideweb.tellings" 652),hdE P "__firstlineno__" 734 (.int 180 733),hdE P "__init__" 742 (.ref 447),hdE P "is_so" 750 (.ref 454),hdE P "__static_attributes__" 752 (.ref 455),hdE P "__doc__" 753 .none] 2 }:Obj)) ::
 (nat_lit 457,({ cls:=.type "type",data:=.cls { name:=so "Row",bases:=[.ref 403],mro:=[.ref 457,.ref 403,.type "object"],ns:=456,qualname:=so "Row" },slots:=#[some (.ref 434),none,some (hdS "Row" 723),some (hdS "Row" 731),some (.builtin "object.__new__"),some (.bool true)] }:Obj)) ::
 (nat_lit 465,(hdC "telling" "telling" 756 757 758 187 1 (.ref 460) 181 (.ref 461) .none (.ref 462) (.ref 463) (.ref 464) 761 187 762)) ::
 (nat_lit 466,(hdF "telling" "telling" sTelling .none .none .none (hdS "besideweb.tellings" 652) none (.ref 465) .none)) ::
 (nat_lit 472,(hdC "tree_of" "tree_of" 764 765 766 193 1 (.ref 467) 181 (.ref 468) .none (.ref 469) (.ref 470) (.ref 471) 769 193 770)) ::
 (nat_lit 473,(hdF "tree_of" "tree_of" sTreeOf .none .none .none (hdS "besideweb.tellings" 652) none (.ref 472) .none)) ::
 (nat_lit 477,(hdC "goes_on" "goes_on" 772 773 774 198 3 (.ref 474) 181 (.ref 475) .none .none .none (.ref 476) 775 198 776)) ::
 (nat_lit 478,(hdF "goes_on" "goes_on" sGoesOn .none .none .none (hdS "besideweb.tellings" 652) none (.ref 477) .none)) ::
 (nat_lit 484,(hdC "row_in" "row_in" 778 779 780 200 1 (.ref 479) 181 (.ref 480) .none (.ref 481) (.ref 482) (.ref 483) 784 200 785)) ::
 (nat_lit 485,(hdF "row_in" "row_in" sRowIn .none .none .none (hdS "besideweb.tellings" 652) none (.ref 484) .none)) ::
 (nat_lit 489,(hdC "longer_rows" "longer_rows" 787 788 789 205 2 (.ref 486) 181 (.ref 487) .none .none .none (.ref 488) 790 205 791)) ::
 (nat_lit 490,(hdF "longer_rows" "longer_rows" sLongerRows .none .none .none (hdS "besideweb.tellings" 652) none (.ref 489) .none)) ::
 (nat_lit 496,(hdC "tree_among" "tree_among" 793 794 795 210 2 (.ref 491) 181 (.ref 492) .none (.ref 493) (.ref 494) (.ref 495) 800 210 801)) ::
 (nat_lit 497,(hdF "tree_among" "tree_among" sTreeAmong .none .none .none (hdS "besideweb.tellings" 652) none (.ref 496) .none)) ::
 (nat_lit 501,(hdC "trees_among" "trees_among" 803 804 805 218 3 (.ref 498) 181 (.ref 499) .none .none .none (.ref 500) 806 218 807)) ::
 (nat_lit 502,(hdF "trees_among" "trees_among" sTreesAmong .none .none .none (hdS "besideweb.tellings" 652) none (.ref 501) .none)) ::
 (nat_lit 508,(hdC "shape_of" "shape_of" 811 812 813 224 1 (.ref 503) 181 (.ref 504) .none (.ref 505) (.ref 506) (.ref 507) 815 224 816)) ::
 (nat_lit 509,(hdF "shape_of" "shape_of" sShapeOf .none .none .none (hdS "besideweb.likeness" 809) none (.ref 508) .none)) ::
 (nat_lit 513,(hdC "same" "same" 818 819 820 226 2 (.ref 510) 181 (.ref 511) .none .none .none (.ref 512) 821 226 822)) ::
 (nat_lit 514,(hdF "same" "same" sSame .none .none .none (hdS "besideweb.likeness" 809) none (.ref 513) .none)) ::
 (nat_lit 520,(hdC "points_by_shape" "points_by_shape" 824 825 826 237 1 (.ref 515) 181 (.ref 516) .none (.ref 517) (.ref 518) (.ref 519) 830 237 831)) ::
 (nat_lit 521,(hdF "points_by_shape" "points_by_shape" sPointsByShape .none .none .none (hdS "besideweb.likeness" 809) none (.ref 520) .none)) ::
 (nat_lit 527,(hdC "_law_cell_at" "_law_cell_at" 835 836 837 245 2 (.ref 522) 181 (.ref 523) .none (.ref 524) (.ref 525) (.ref 526) 840 245 841)) ::
 (nat_lit 528,(hdF "_law_cell_at" "_law_cell_at" sLawCellAt .none .none .none (hdS "law_besideweb_k08_whole_same" 833) none (.ref 527) .none)) ::
 (nat_lit 534,(hdC "_law_draw" "_law_draw" 843 844 845 249 3 (.ref 529) 181 (.ref 530) .none (.ref 531) (.ref 532) (.ref 533) 851 249 852)) ::
 (nat_lit 535,(hdF "_law_draw" "_law_draw" sLawDraw .none .none .none (hdS "law_besideweb_k08_whole_same" 833) none (.ref 534) .none)) ::
 (nat_lit 539,(hdC "_law_web" "_law_web" 854 855 856 253 3 (.ref 536) 181 (.ref 537) .none .none .none (.ref 538) 857 253 858)) ::
 (nat_lit 540,(hdF "_law_web" "_law_web" sLawWeb .none .none .none (hdS "law_besideweb_k08_whole_same" 833) none (.ref 539) .none)) ::
 (nat_lit 546,(hdC "_law_tie" "_law_tie" 860 861 862 275 3 (.ref 541) 181 (.ref 542) .none (.ref 543) (.ref 544) (.ref 545) 866 275 867)) ::
 (nat_lit 547,(hdF "_law_tie" "_law_tie" sLawTie .none .none .none (hdS "law_besideweb_k08_whole_same" 833) none (.ref 546) .none)) ::
 (nat_lit 553,(hdC "_law_four" "_law_four" 869 870 871 278 2 (.ref 548) 181 (.ref 549) .none (.ref 550) (.ref 551) (.ref 552) 876 278 877)) ::
 (nat_lit 554,(hdF "_law_four" "_law_four" sLawFour .none .none .none (hdS "law_besideweb_k08_whole_same" 833) none (.ref 553) .none)) ::
 (nat_lit 560,(hdC "_law_refused" "_law_refused" 879 880 881 288 2 (.ref 555) 181 (.ref 556) .none (.ref 557) (.ref 558) (.ref 559) 886 288 887)) ::
 (nat_lit 561,(hdF "_law_refused" "_law_refused" sLawRefused .none .none .none (hdS "law_besideweb_k08_whole_same" 833) none (.ref 560) .none)) ::
 (nat_lit 567,(hdC "_law_barred" "_law_barred" 889 890 891 297 1 (.ref 562) 181 (.ref 563) .none (.ref 564) (.ref 565) (.ref 566) 896 297 897)) ::
 (nat_lit 568,(hdF "_law_barred" "_law_barred" sLawBarred .none .none .none (hdS "law_besideweb_k08_whole_same" 833) none (.ref 567) .none)) ::
 (nat_lit 574,(hdC "_law_mapped" "_law_mapped" 899 900 901 305 3 (.ref 569) 181 (.ref 570) .none (.ref 571) (.ref 572) (.ref 573) 908 305 909)) ::
 (nat_lit 575,(hdF "_law_mapped" "_law_mapped" sLawMapped .none .none .none (hdS "law_besideweb_k08_whole_same" 833) none (.ref 574) .none)) ::
 (nat_lit 579,(hdC "_law_lists" "_law_lists" 911 912 913 318 1 (.ref 576) 181 (.ref 577) .none .none .none (.ref 578) 914 318 915)) ::
 (nat_lit 580,(hdF "_law_lists" "_law_lists" sLawLists .none .none .none (hdS "law_besideweb_k08_whole_same" 833) none (.ref 579) .none)) ::
 (nat_lit 584,(hdC "_law_renumbered" "_law_renumbered" 917 918 919 327 2 (.ref 581) 181 (.ref 582) .none .none .none (.ref 583) 920 327 921)) ::
 (nat_lit 585,(hdF "_law_renumbered" "_law_renumbered" sLawRenumbered .none .none .none (hdS "law_besideweb_k08_whole_same" 833) none (.ref 584) .none)) ::
 (nat_lit 589,(hdC "_law_parted" "_law_parted" 923 924 925 338 3 (.ref 586) 181 (.ref 587) .none .none .none (.ref 588) 926 338 927)) ::
 (nat_lit 590,(hdF "_law_parted" "_law_parted" sLawParted .none .none .none (hdS "law_besideweb_k08_whole_same" 833) none (.ref 589) .none)) ::
 (nat_lit 594,(hdC "_law_shape" "_law_shape" 929 930 931 349 2 (.ref 591) 181 (.ref 592) .none .none .none (.ref 593) 932 349 933)) ::
 (nat_lit 595,(hdF "_law_shape" "_law_shape" sLawShape .none .none .none (hdS "law_besideweb_k08_whole_same" 833) none (.ref 594) .none)) ::
 (nat_lit 599,(hdC "_law_both" "_law_both" 935 936 937 358 2 (.ref 596) 181 (.ref 597) .none .none .none (.ref 598) 938 358 939)) ::
 (nat_lit 600,(hdF "_law_both" "_law_both" sLawBoth .none .none .none (hdS "law_besideweb_k08_whole_same" 833) none (.ref 599) .none)) ::
 (nat_lit 606,(hdC "law" "law" 941 942 943 373 1 (.ref 601) 181 (.ref 602) .none (.ref 603) (.ref 604) (.ref 605) 948 373 949)) ::
 (nat_lit 607,(hdF "law" "law" sLaw .none .none .none (hdS "law_besideweb_k08_whole_same" 833) none (.ref 606) .none))::[]
def KK:PySem.Params->PySem.W.Frag:=fun P=>(nat_lit 516,({ cls:=.none,data:=.fields #[] }:Obj))::(nat_lit 597,({ cls:=.none,data:=.fields #[] }:Obj))::KB P
def KAs:List Addr:=[516,597,2,3,4,30,31,43,44,55,56,67,68,83,84,86,87,102,103,105,106,114,115,121,122,126,127,133,134,140,141,147,148,162,163,169,170,176,177,183,184,186,187,204,205,211,212,218,219,225,226,228,229,245,246,252,253,259,260,266,267,271,272,276,277,279,280,295,296,302,303,305,306,321,322,328,329,331,332,340,341,347,348,352,353,357,358,364,365,371,372,378,379,392,393,399,400,402,403,420,421,427,428,430,431,446,447,453,454,456,457,465,466,472,473,477,478,484,485,489,490,496,497,501,502,508,509,513,514,520,521,527,528,534,535,539,540,546,547,553,554,560,561,567,568,574,575,579,580,584,585,589,590,594,595,599,600,606,607]
def qv:Program:={ PySem.Challenge.pw_besideweb_k08_whole_same with main:={ PySem.Challenge.pw_besideweb_k08_whole_same.main with body:=[top 59] } }
def looseK:List Str:=[so "_wall",so "WebError",so "BadWeb",so "BadTree",so "NoPoint",so "NotMade",so "BadText",so "MOST_POINTS",so "is_below",so "tied",so "has_points",so "check_web",so "check_ties",so "check_points",so "Tree",so "Point",so "Doing",so "Beside",so "Across",so "bracketed",so "check_trees",so "turned",so "among",so "ties_among",so "parts",so "hanging_with",so "Answer",so "Made",so "Row",so "telling",so "tree_of",so "goes_on",so "row_in",so "longer_rows",so "tree_among",so "trees_among",so "shape_of",so "same",so "points_by_shape",so "_law_cell_at",so "_law_draw",so "_law_web",so "_law_tie",so "_law_four",so "_law_refused",so "_law_barred",so "_law_mapped",so "_law_lists",so "_law_renumbered",so "_law_parted",so "_law_shape",so "_law_both"]
end Bw
namespace Bw
open PySem PySem.W PyProof.Rows
def kH:Hook:=kHook KK KAs (fun _=>by kernel_rfl)
set_option maxHeartbeats 0 in
theorem head_left:LeftO PySem.Challenge.rw_besideweb_k08_whole_same.row.prog qv looseK (fun s=>xlAt qv [] s && recOk (RowW.records (OpenRow.toRowW PySem.Challenge.rw_besideweb_k08_whole_same.row)) s) kH.obs kH.val 10016:=by
 exact Bw.left_of_tree (m₀:=nat_lit 11) (ann:=some (.ref 6)) (by rfl) (by decide) (fun s=>by rfl) (fun w=>by kernel_rfl) (fun w os=>by kernel_rfl)
end Bw
namespace L2
open PySem PySem.Spec PyProof.Rows
abbrev Key:=Sum Int Str
def keyIs:Key->Value->Bool
 | .inl k,v=>Value.isInt k v
 | .inr x,v=>Value.isStrOf x v
def keyH (w:World):Key->Int
 | .inl k=>hashInt k
 | .inr x=>hashStr w x
theorem keyIs_shape:∀ {k:Key} {v:Value},keyIs k v=true->(∃ i t,k=Sum.inl i/\v=Value.int i t)\/(∃ x t,k=Sum.inr x/\v=Value.str x t)
 | .inl i,v,h=>by
  obtain ⟨t,e⟩:=Value.isInt_shape (k:=i) (v:=v) h
  exact .inl ⟨i,t,rfl,e⟩
 | .inr x,v,h=>by
  obtain ⟨t,e⟩:=Value.isStrOf_shape (x:=x) (v:=v) h
  exact .inr ⟨x,t,rfl,e⟩
theorem keyIs_int (i:Int) (t:Tok):keyIs (.inl i) (.int i t)=true:=by simp [keyIs,Value.isInt]
theorem keyIs_str (x:Str) (t:Tok):keyIs (.inr x) (.str x t)=true:=by simp [keyIs,Value.isStrOf]
theorem key_ll (a b:Int):decide ((Sum.inl a:Key)=Sum.inl b)=(a == b):=by
 by_cases e:a=b
 ·subst e; simp
 ·have h:¬ (Sum.inl a:Key)=Sum.inl b:=fun q=>e (Sum.inl.inj q)
  rw [decide_eq_false h]
  exact (beq_eq_false_iff_ne.mpr e).symm
theorem key_rr (a b:Str):decide ((Sum.inr a:Key)=Sum.inr b)=decide (a=b):=by
 by_cases e:a=b
 ·subst e; simp
 ·have h:¬ (Sum.inr a:Key)=Sum.inr b:=fun q=>e (Sum.inr.inj q)
  rw [decide_eq_false h,decide_eq_false e]
theorem key_lr (a:Int) (b:Str):decide ((Sum.inl a:Key)=Sum.inr b)=false:=decide_eq_false (fun q=>nomatch q)
theorem key_rl (a:Str) (b:Int):decide ((Sum.inr a:Key)=Sum.inl b)=false:=decide_eq_false (fun q=>nomatch q)
def mixKind (prog:Program) (w:World):PySem.KeyKind prog w Key where
 is:=keyIs
 hash:=keyH w
 inj:=fun v a b ha hb=>by
  rcases keyIs_shape ha with ⟨i,t,rfl,rfl⟩ | ⟨x,t,rfl,rfl⟩
  ·rcases keyIs_shape hb with ⟨j,u,rfl,e⟩ | ⟨y,u,rfl,e⟩
   ·injection e with e1 _; rw [e1]
   ·exact nomatch e
  ·rcases keyIs_shape hb with ⟨j,u,rfl,e⟩ | ⟨y,u,rfl,e⟩
   ·exact nomatch e
   ·injection e with e1 _; rw [e1]
 byValue:=fun k v h=>by
  rcases keyIs_shape h with ⟨i,t,rfl,rfl⟩ | ⟨x,t,rfl,rfl⟩ <;> rfl
 pyHash:=fun hv h=>by
  rcases keyIs_shape hv with ⟨i,t,rfl,rfl⟩ | ⟨x,t,rfl,rfl⟩
  ·exact wpAny_pyHash_int h
  ·exact wpAny_pyHash_str h
 eqBool:=fun hu hv h=>by
  rcases keyIs_shape hu with ⟨i,t,rfl,rfl⟩ | ⟨x,t,rfl,rfl⟩
  ·rcases keyIs_shape hv with ⟨j,u,rfl,rfl⟩ | ⟨y,u,rfl,rfl⟩
   ·rw [key_ll] at h; exact wpAny_eqBool_int h
   ·rw [key_lr] at h; exact SeqAt.EqAt.int_str i t y u _ _ _ _ h
  ·rcases keyIs_shape hv with ⟨j,u,rfl,rfl⟩ | ⟨y,u,rfl,rfl⟩
   ·rw [key_rl] at h; exact SeqAt.EqAt.str_int x t j u _ _ _ _ h
   ·rw [key_rr] at h; exact wpAny_eqBool_str h
 «strs»:=fun k x t v h=>by
  rcases keyIs_shape h with ⟨i,u,rfl,e⟩ | ⟨y,u,rfl,e⟩
  ·exact nomatch e
  ·injection e with e1 _
   subst e1
   cases v <;> rfl
theorem mixKind_is (prog:Program) (w:World) (k:Key) (v:Value):(mixKind prog w).is k v=keyIs k v:=rfl
theorem mixKind_int (prog:Program) (w:World) (i:Int) (t:Tok):(mixKind prog w).is (.inl i) (.int i t)=true:=keyIs_int i t
theorem mixKind_str (prog:Program) (w:World) (x:Str) (t:Tok):(mixKind prog w).is (.inr x) (.str x t)=true:=keyIs_str x t
end L2
namespace L2
open PySem PySem.Spec PyProof.Rows
inductive V where
 | non | bl (b:Bool) | int (i:Int) | str (x:Str) | byt (b:Array UInt8) | flt (b:UInt64) | ref (a:Addr) | ty (n:String)
 deriving DecidableEq
def RelV:V->Value->Prop
 | .non,u=>u=Value.none
 | .bl b,u=>u=Value.bool b
 | .int i,u=>∃ t,u=Value.int i t
 | .str x,u=>∃ t,u=Value.str x t
 | .byt b,u=>∃ t,u=Value.bytes b t
 | .flt b,u=>∃ t,u=Value.float b t
 | .ref a,u=>u=Value.ref a
 | .ty n,u=>u=Value.type n
abbrev Vals:List V->List Value->Prop:=Paired RelV
theorem Vals.length {xs:List V} {us:List Value} (r:Vals xs us):xs.length=us.length:=Paired.length r
theorem Vals.get:∀ {xs:List V} {us:List Value} {i:Nat} {x:V},Vals xs us->xs[i]? = some x->∃ u,us[i]? = some u/\RelV x u
 | _,_,_,_,.nil,e=>by simp at e
 | _,_,0,_,.cons r _,e=>by simp at e; subst e; exact ⟨_,rfl,r⟩
 | _,_,i + 1,x,.cons _ t,e=>by
  obtain ⟨u,h1,h2⟩:=Vals.get (i:=i) (x:=x) t (by simpa using e)
  exact ⟨u,by simpa using h1,h2⟩
theorem Vals.set {x:V} {u:Value} (r:RelV x u):∀ {xs:List V} {us:List Value} (i:Nat),Vals xs us->Vals (xs.set i x) (us.set i u)
 | _,_,_,.nil=>.nil
 | _,_,0,.cons _ t=>.cons r t
 | _,_,i + 1,.cons q t=>.cons q (Vals.set r i t)
theorem Vals.append:∀ {xs ys:List V} {us ws:List Value},Vals xs us->Vals ys ws->Vals (xs ++ ys) (us ++ ws)
 | _,_,_,_,.nil,s=>s
 | _,_,_,_,.cons r t,s=>.cons r (Vals.append t s)
theorem Vals.take:∀ {xs:List V} {us:List Value} (n:Nat),Vals xs us->Vals (xs.take n) (us.take n)
 | _,_,0,_=>.nil
 | _,_,_ + 1,.nil=>.nil
 | _,_,n + 1,.cons r t=>.cons r (Vals.take n t)
theorem Vals.drop:∀ {xs:List V} {us:List Value} (n:Nat),Vals xs us->Vals (xs.drop n) (us.drop n)
 | _,_,0,r=>r
 | _,_,_ + 1,.nil=>.nil
 | _,_,n + 1,.cons _ t=>Vals.drop n t
def RelO:Option V->Option Value->Prop
 | some v,some u=>RelV v u
 | none,none=>True
 | _,_=>False
def KV {κ:Type}:List (κ × V)->List (κ × Value)->Prop:=Paired fun (p:κ × V) (q:κ × Value)=>p.1=q.1/\RelV p.2 q.2
def kV:Key->V
 | .inl i=>.int i
 | .inr x=>.str x
inductive HO where
 | lst (xs:List V)
 | tup (xs:List V)
 | dK (kvs:List (Key × V)) | dT (kvs:List (List Key × V))
 | set (S:Int->Bool) (n:Nat)
 | ins (C dx:Addr) (fs:List (Str × V))
 | own (x:Addr)
 | xd (fs:List (Str × V))
 | met (f x:Addr)
 | rng (lo hi:Int)
 | frz (o:Obj) (u:HO)
 | tbl (ps:Array Value)
 | ext (φ:Heap->Prop)
abbrev Hp:=Addr->Option HO
def upd (H:Hp) (a:Addr) (o:HO):Hp:=fun b=>if b=a then some o else H b
theorem upd_same {H:Hp} {a:Addr} {o:HO}:upd H a o a=some o:=by unfold upd; rw [if_pos rfl]
theorem upd_ne {H:Hp} {a b:Addr} {o:HO} (h:b ≠ a):upd H a o b=H b:=by unfold upd; rw [if_neg h]
theorem upd_upd {H:Hp} {a:Addr} {o u:HO}:upd (upd H a o) a u=upd H a u:=by
 funext b; unfold upd; split <;> rfl
theorem ne_of {H:Hp} {a b:Addr} {o u:HO} (h:H a=some o) (h':H b=some u) (d:o ≠ u):a ≠ b:=by
 intro e; subst e; rw [h] at h'; exact d (Option.some.inj h')
theorem ne_of_none {H:Hp} {a b:Addr} {o:HO} (h:H a=some o) (h':H b=none):a ≠ b:=by
 intro e; subst e; rw [h] at h'; cases h'
section
variable (P:Program) (w:World)
def ObjOk (H:Hp) (h:Heap) (a:Addr):HO->Prop
 | .lst xs=>xs.length <= sizeLine/\∃ (its:List Value) (n:Nat),Vals xs its/\h.get? a=some { cls:=.type "list",data:=.seq its.toArray n }
 | .tup xs=>xs.length <= sizeLine/\∃ its:List Value,Vals xs its/\IsTup h a its.toArray
 | .dK kvs=>kvs.length <= sizeLine/\(a == sysModules)=false/\∃ vs,KV kvs vs/\h.DictOf (mixKind P w) a vs
 | .dT kvs=>kvs.length <= sizeLine/\(a == sysModules)=false/\∃ xs:List (List Key × Addr × Value),
   Paired (fun (p:List Key × V) (q:List Key × Addr × Value)=>p.1=q.1/\H q.2.1=some (.tup (p.1.map kV))/\RelV p.2 q.2.2) kvs xs /\
   ∃ o es ep,h.get? a=some o/\o.ExactDict/\o.data=.dict es ep/\es.toList=xs.map (entryOfKey (tupleKind (mixKind P w)))/\(xs.map (·.1)).Nodup
 | .set S n=>h.SetOf (intKind P w) a S n
 | .ins C dx fs=>H dx=some (.own a)/\fs.length <= 1000/\dx ≠ a/\h.get? a=some (PySem.W.instObj C dx) /\
   ∃ mA,h.Ns1 dx mA/\(∀ f,RelO (fs.lookup f) (mA f))/\PySem.Within mA (fs.map (·.1))
 | .own _=>∃ o,h.get? a=some o
 | .xd fs=>∃ mA,h.Ns1 a mA/\∀ f,RelO (fs.lookup f) (mA f)
 | .rng lo hi=>∃ t u v,h.get? a=some { cls:=.type "range",data:=.fields #[.int lo t,.int hi u,.int 1 v] }
 | .frz o u=>h.get? a=some o/\ObjOk H h a u
 | .tbl ps=>h.get? a=some { cls:=.none,data:=.fields ps }
 | .met f x=>h.get? a=some (PySem.W.methodObj (.ref f) (.ref x))
 | .ext φ=>φ h/\(∃ o,h.get? a=some o)/\∀ h1 h2:Heap,φ h1->(∀ o,h1.get? a=some o->h2.get? a=some o)->φ h2
def HOk (H:Hp) (h:Heap):Prop:=∀ a o,H a=some o->ObjOk P w H h a o
end
section
variable {P:Program} {w:World} {H H':Hp} {h h':Heap} {a:Addr} {o:HO}
theorem ObjOk.lt (x:ObjOk P w H h a o):a < h.objs.size:=by
 cases o with
 | lst xs=>obtain ⟨_,_,_,_,e⟩:=x; exact Heap.lt_size e
 | tup xs=>obtain ⟨_,_,_,p⟩:=x; exact p.lt
 | dK kvs=>obtain ⟨_,_,_,_,o,_,_,e,_⟩:=x; exact Heap.lt_size e
 | dT kvs=>obtain ⟨_,_,_,_,o,_,_,e,_⟩:=x; exact Heap.lt_size e
 | set S n=>obtain ⟨o,_,_,_,e,_⟩:=x; exact Heap.lt_size e
 | ins C dx fs=>obtain ⟨_,_,_,e,_⟩:=x; exact Heap.lt_size e
 | own y=>obtain ⟨_,e⟩:=x; exact Heap.lt_size e
 | xd fs=>obtain ⟨_,⟨_,_,_,e,_⟩,_⟩:=x; exact Heap.lt_size e
 | rng lo hi=>obtain ⟨_,_,_,e⟩:=x; exact Heap.lt_size e
 | frz ob u=>obtain ⟨e,_⟩:=x; exact Heap.lt_size e
 | tbl ps=>exact Heap.lt_size (show h.get? a=some _ from x)
 | met f y=>exact Heap.lt_size (show h.get? a=some _ from x)
 | ext φ=>obtain ⟨_,⟨_,e⟩,_⟩:=x; exact Heap.lt_size e
theorem Paired.mapP {α β:Type} {F G:α->β->Prop}:∀ {l₁:List α} {l₂:List β},Paired F l₁ l₂->(∀ a b,F a b->G a b)->Paired G l₁ l₂
 | _,_,.nil,_=>.nil
 | _,_,.cons r t,f=>.cons (f _ _ r) (Paired.mapP t f)
theorem ObjOk.stay (x:ObjOk P w H h a o) (k:∀ b u,(b=a\/H b=some (.own a))->h.get? b=some u->h'.get? b=some u)
  (ho:∀ b,H b=some (.own a)->H' b=some (.own a)) (ht:∀ b xs,H b=some (.tup xs)->H' b=some (.tup xs)):ObjOk P w H' h' a o:=by
 induction o with
 | lst xs=>obtain ⟨z,its,n,r,e⟩:=x; exact ⟨z,its,n,r,k _ _ (.inl rfl) e⟩
 | tup xs=>obtain ⟨z,its,r,ob,e,c⟩:=x; exact ⟨z,its,r,ob,k _ _ (.inl rfl) e,c⟩
 | dK kvs=>obtain ⟨z,y,vs,r,ob,es,ep,e,c⟩:=x; exact ⟨z,y,vs,r,ob,es,ep,k _ _ (.inl rfl) e,c⟩
 | dT kvs =>
  obtain ⟨z,y,xs,r,ob,es,ep,e,c⟩:=x
  exact ⟨z,y,xs,Paired.mapP r fun p q z=>⟨z.1,ht _ _ z.2.1,z.2.2⟩,ob,es,ep,k _ _ (.inl rfl) e,c⟩
 | set S n=>obtain ⟨ob,es,ep,t,e,c⟩:=x; exact ⟨ob,es,ep,t,k _ _ (.inl rfl) e,c⟩
 | ins C dx fs =>
  obtain ⟨d,z,ne,e,mA,⟨od,es,ep,e2,c⟩,r⟩:=x
  exact ⟨ho _ d,z,ne,k _ _ (.inl rfl) e,mA,⟨od,es,ep,k _ _ (.inr d) e2,c⟩,r⟩
 | own y=>obtain ⟨ob,e⟩:=x; exact ⟨ob,k _ _ (.inl rfl) e⟩
 | xd fs=>obtain ⟨mA,⟨od,es,ep,e,c⟩,r⟩:=x; exact ⟨mA,⟨od,es,ep,k _ _ (.inl rfl) e,c⟩,r⟩
 | rng lo hi=>obtain ⟨t,u,v,e⟩:=x; exact ⟨t,u,v,k _ _ (.inl rfl) e⟩
 | frz ob u ih=>obtain ⟨e,q⟩:=x; exact ⟨k _ _ (.inl rfl) e,ih q⟩
 | tbl ps =>
  have e:h.get? a=some { cls:=.none,data:=.fields ps }:=x
  show h'.get? a=some { cls:=.none,data:=.fields ps }
  exact k a _ (.inl rfl) e
 | met f y =>
  have e:h.get? a=some (PySem.W.methodObj (.ref f) (.ref y)):=x
  show h'.get? a=some (PySem.W.methodObj (.ref f) (.ref y))
  exact k a _ (.inl rfl) e
 | ext φ=>obtain ⟨p,⟨o,e⟩,st⟩:=x; exact ⟨st _ _ p fun o q=>k _ _ (.inl rfl) q,⟨o,k _ _ (.inl rfl) e⟩,st⟩
theorem HOk.lt (x:HOk P w H h) (e:H a=some o):a < h.objs.size:=(x a o e).lt
theorem HOk.fresh (x:HOk P w H h) (e:h.objs.size <= a):H a=none:=by
 cases q:H a with
 | none=>rfl
 | some u=>exact absurd (Nat.lt_of_lt_of_le (x.lt q) e) (Nat.lt_irrefl _)
theorem HOk.kept (x:HOk P w H h) (k:∀ b u,h.get? b=some u->h'.get? b=some u):HOk P w H h':=fun a o e =>
 (x a o e).stay (fun b u _ q=>k b u q) (fun _ q=>q) fun _ _ q=>q
theorem HOk.laid (x:HOk P w H h) (k:∀ b u,h.get? b=some u->h'.get? b=some u) (hp:h.objs.size <= a) (new:ObjOk P w (upd H a o) h' a o):HOk P w (upd H a o) h':=fun b u e=>by
 have hn:=x.fresh hp
 by_cases hb:b=a
 ·subst hb; rw [upd_same] at e; cases e; exact new
 ·rw [upd_ne hb] at e
  exact (x b u e).stay (fun c v _ q=>k c v q) (fun c q=>by rw [upd_ne (ne_of_none q hn)]; exact q) fun c xs q=>by rw [upd_ne (ne_of_none q hn)]; exact q
end
def Rd (H:Hp) (a:Addr) (u:HO):Prop:=H a=some u\/∃ o,H a=some (.frz o u)
theorem Rd.ok {P:Program} {w:World} {H:Hp} {h:Heap} {a:Addr} {u:HO} (r:Rd H a u) (x:HOk P w H h):ObjOk P w H h a u:=by
 rcases r with r | ⟨o,r⟩
 ·exact x a u r
 ·obtain ⟨_,q⟩:=x a _ r
  exact q
def Mut:Option HO->Prop
 | some (.lst _)=>True
 | some (.dK _)=>True
 | some (.dT _)=>True
 | some (.set _ _)=>True
 | some (.ins _ _ _)=>True
 | some (.ext _)=>True
 | _=>False
section
variable {P:Program} {w:World} {H:Hp} {h h':Heap} {x e:Addr} {o':HO}
theorem HOk.write (ok:HOk P w H h) (mu:Mut (H x)) (he:e=x\/H e=some (.own x)) (k:∀ b u,b ≠ e->h.get? b=some u->h'.get? b=some u) (heo:∃ u,h'.get? e=some u)
  (new:ObjOk P w (upd H x o') h' x o'):HOk P w (upd H x o') h':=fun b u q=>by
 have nown:∀ c y,H c=some (.own y)->c ≠ x:=fun c y r z=>by subst z; rw [r] at mu; exact mu
 have ntup:∀ c xs,H c=some (.tup xs)->c ≠ x:=fun c xs r z=>by subst z; rw [r] at mu; exact mu
 by_cases hb:b=x
 ·subst hb; rw [upd_same] at q; cases q; exact new
 ·rw [upd_ne hb] at q
  by_cases hbe:b=e
  ·have q':H b=some (.own x):=by
    rcases he with z | z
    ·exact absurd (hbe.trans z) hb
    ·rw [hbe]; exact z
   rw [q] at q'; cases q'
   obtain ⟨v,hv⟩:=heo
   exact ⟨v,by rw [hbe]; exact hv⟩
  ·refine (ok b u q).stay (fun c v hc r=>k c v ?_ r) (fun c r=>by rw [upd_ne (nown c b r)]; exact r) fun c xs r=>by rw [upd_ne (ntup c xs r)]; exact r
   rcases hc with rfl | hc
   ·exact hbe
   ·rintro rfl
    rcases he with z | z
    ·exact nown c b hc z
    ·rw [hc] at z; cases z; exact hb rfl
end
structure Un (fs ex:List Addr) (H H':Hp) (h h':Heap):Prop where
 keep:∀ b o,h.get? b=some o->H b=none->b ∉ fs->b ∉ ex->h'.get? b=some o
 slot:∀ b o,h.get? b=some o->H b=none->b ∈ fs->b ∉ ex->∃ sl,h'.get? b=some { o with slots:=sl }
 free:∀ b o,h.get? b=some o->H b=none->b ∉ ex->H' b=none
 there:∀ b o,h.get? b=some o->b ∉ ex->∃ o',h'.get? b=some o'
 tups:∀ b xs,H b=some (.tup xs)->H' b=some (.tup xs)
 frzs:∀ b o u,H b=some (.frz o u)->H' b=some (.frz o u)
 tbls:∀ b ps,H b=some (.tbl ps)->∃ more,H' b=some (.tbl (ps ++ more))
section
variable {fs fs' ex ex':List Addr} {H H1 H2:Hp} {h h1 h2 h':Heap} {a x e:Addr} {o:HO}
theorem Un.any (u:Un fs ex H H1 h h1) {b:Addr} {ob:Obj} (q:h.get? b=some ob) (n:H b=none) (hx:b ∉ ex):∃ sl,h1.get? b=some { ob with slots:=sl }:=by
 by_cases hb:b ∈ fs
 ·exact u.slot b ob q n hb hx
 ·exact ⟨ob.slots,u.keep b ob q n hb hx⟩
theorem Un.kept (k:∀ b u,h.get? b=some u->h'.get? b=some u):Un fs ex H H h h' :=
 ⟨fun b ob q _ _ _=>k b ob q,fun b ob q _ _ _=>⟨ob.slots,k b ob q⟩,fun _ _ _ n _=>n,fun b ob q _=>⟨ob,k b ob q⟩,fun _ _ q=>q,fun _ _ _ q=>q,fun _ ps q=>⟨#[],by rw [q]; simp⟩⟩
theorem Un.refl:Un fs ex H H h h:=Un.kept fun _ _ q=>q
theorem Un.laid (k:∀ b u,h.get? b=some u->h'.get? b=some u) (hp:h.objs.size <= a) (hn:H a=none):Un fs ex H (upd H a o) h h' where
 keep:=fun b u q _ _ _=>k b u q
 slot:=fun b u q _ _ _=>⟨u.slots,k b u q⟩
 free:=fun b u q n _=>by rw [upd_ne (Nat.ne_of_lt (Nat.lt_of_lt_of_le (Heap.lt_size q) hp))]; exact n
 there:=fun b u q _=>⟨u,k b u q⟩
 tups:=fun b xs q=>by rw [upd_ne (ne_of_none q hn)]; exact q
 frzs:=fun b u xs q=>by rw [upd_ne (ne_of_none q hn)]; exact q
 tbls:=fun b ps q=>⟨#[],by rw [upd_ne (ne_of_none q hn),q]; simp⟩
theorem Un.write (mu:Mut (H x)) (he:e=x\/H e=some (.own x)) (k:∀ b u,b ≠ e->h.get? b=some u->h'.get? b=some u) (heo:∃ u,h'.get? e=some u):Un fs ex H (upd H x o) h h':=by
 have hx:∀ b,H b=none->b ≠ x:=fun b n z=>by subst z; rw [n] at mu; exact mu
 have hb:∀ b,H b=none->b ≠ e:=fun b n z=>by
  subst z
  rcases he with r | r
  ·exact hx b n r
  ·rw [n] at r; cases r
 have hm:∀ b u,H b=some u->¬ Mut (some u)->b ≠ x:=fun b u q nm z=>by subst z; rw [q] at mu; exact nm mu
 refine ⟨fun b u q n _ _=>k b u (hb b n) q,fun b u q n _ _=>⟨u.slots,k b u (hb b n) q⟩,fun b u q n _=>by rw [upd_ne (hx b n)]; exact n,fun b u q _=>?_,
  fun b xs q=>by rw [upd_ne (hm b _ q fun z=>z)]; exact q,fun b u xs q=>by rw [upd_ne (hm b _ q fun z=>z)]; exact q,fun b ps q=>⟨#[],by rw [upd_ne (hm b _ q fun z=>z),q]; simp⟩⟩
 by_cases hbe:b=e
 ·subst hbe; exact heo
 ·exact ⟨u,k b u hbe q⟩
end
def trk (h:Heap) (H:Hp):List Addr:=(List.range h.objs.size).filter fun a=>(H a).isSome
def hidT (h:Heap) (H:Hp):Heap:=PySem.W.hideAll h (trk h H)
theorem hidT_size (h:Heap) (H:Hp):(hidT h H).objs.size=h.objs.size:=PySem.W.hideAll_size _ _
theorem hidT_get {h:Heap} {H:Hp} {b:Addr} {o:Obj} (e:h.get? b=some o) (n:H b=none):(hidT h H).get? b=some o :=
 PySem.W.hideAll_get _ e fun hm=>by
  have q:(H b).isSome=true:=(List.mem_filter.mp hm).2
  rw [n] at q; simp at q
theorem of_hidT {h:Heap} {H:Hp} {b:Addr} {o:Obj} (e:(hidT h H).get? b=some o):h.get? b=some o/\H b=none:=by
 have e':h.get? b=some o:=PySem.W.of_hideAll (trk h H) e
 refine ⟨e',?_⟩
 cases q:H b with
 | none=>rfl
 | some x =>
  have hm:b ∈ trk h H:=List.mem_filter.mpr ⟨List.mem_range.mpr (Heap.lt_size e'),by simp [q]⟩
  have z:(hidT h H).get? b=none:=PySem.W.hideAll_none (trk h H) hm
  rw [z] at e; cases e
end L2
namespace L2
open PySem PySem.Spec PyProof.Rows
structure Mod (K:PySem.W.Frag) (mg:Str->Option Value) (base:Heap):Prop where
 kin:K.In base
 glob:base.Ns mainGlobals mg
 blt:∃ mb,base.Ns builtinsNs mb/\∀ x:Str,x ≠ "__name__"->mb x=bootBuiltins x
 nolimit:base.NoLimit
structure Cx where
 prog:Program
 w:World
 K:PySem.W.Frag
 mg:Str->Option Value
 base:Heap
 A:Around
 N:List Str
 s₀:Shared
 H₀:Hp
 env:Env
 outer:List Env
 stack:List Env
 ex:List Addr
 fn:Str->Bool
 calm:Bool
 pn:List (Addr × Obj)
 xe:Value->Shared->Prop
def frs (l:List Env):List Addr:=l.filterMap (·.frame)
abbrev Cx.fs (X:Cx):List Addr:=frs X.outer
def Vis (sc:Scope) (x:Str):Prop:=sc.names.lookup x=some .local\/sc.names.lookup x=some .cell\/sc.names.lookup x=some .free
def Loc (sc:Scope) (x:Str):Prop:=sc.names.lookup x=some .local\/sc.names.lookup x=some .cell
def Look (env:Env) (h:Heap) (m:Str->Option Value) (x:Str) (u:Value):Prop :=
 (env.kindOf x=some .local/\m x=some u)\/((env.kindOf x=some .cell\/env.kindOf x=some .free)/\∃ c,env.cells.lookup x=some c/\h.IsCell c (some u))
structure Cx.Ok (X:Cx):Prop where
 mod:Mod X.K X.mg X.base
 kind:X.env.scope.kind=.function
 glob:X.env.globals=mainGlobals
 blt:X.env.builtins=builtinsNs
 above:X.s₀.heap.objs.size <= X.env.locals
 inj:∀ x y c,X.env.cells.lookup x=some c->X.env.cells.lookup y=some c->x=y
 has:∀ x,(X.env.kindOf x=some .cell\/X.env.kindOf x=some .free)->∃ c,X.env.cells.lookup x=some c
 cab:∀ x c,X.fn x=true->X.env.cells.lookup x=some c->X.s₀.heap.objs.size <= c
 hd:X.calm=true->X.A.handled=none
 frames:X.A.frames=some X.stack
 stk:X.stack=X.outer\/(X.stack=X.env::X.outer/\X.env.frame=some X.env.locals)
 exf:∀ b ∈ X.ex,b ≠ X.env.locals/\∀ x c,X.env.cells.lookup x=some c->c ≠ b
 bs:∀ b o,X.base.get? b=some o->X.s₀.heap.get? b=some o/\X.H₀ b=none
 bsz:X.base.objs.size <= X.s₀.heap.objs.size
 noex:∀ b o,X.base.get? b=some o->b ∉ X.ex
 exfs:∀ b ∈ X.ex,b ∉ X.fs
 funs:X.s₀.heap.FunFrames X.base X.outer
 frf:∀ b ∈ X.fs,X.H₀ b=none
structure Inv (X:Cx) (pins:List (Addr × Obj)) (σ:List (Option V)) (H:Hp) (s:Shared):Prop where
 ok:X.Ok
 os:s.os=X.s₀.os
 bare:AllBare s.gens
 base:Un X.fs X.ex X.H₀ H X.s₀.heap s.heap
 loc:∃ m,s.heap.Ns X.env.locals m/\∀ (i:Nat) (x:Str) (v:V),X.N[i]? = some x->σ[i]? = some (some v)->Vis X.env.scope x->∃ u,RelV v u/\Look X.env s.heap m x u
 cell:∀ x c,X.env.cells.lookup x=some c->∃ v,s.heap.IsCell c v
 free:H X.env.locals=none
 freeC:∀ x c,X.env.cells.lookup x=some c->H c=none
 pin:∀ p ∈ X.pn ++ pins,s.heap.get? p.1=some p.2/\H p.1=none/\p.1 ≠ X.env.locals/\p.1 ∉ X.fs/\∀ v,p.2.data ≠ .cell v
 hok:HOk X.prog X.w H s.heap
 len:σ.length=X.N.length
section
variable {X:Cx} {pins:List (Addr × Obj)} {σ:List (Option V)} {H H':Hp} {s:Shared} {h':Heap}
theorem Cx.Ok.nofr (ok:X.Ok) {b:Addr} {o:Obj} (e:X.base.get? b=some o):b ∉ X.fs:=fun hb=>by
 have:=(ok.funs.mem hb).1
 rw [e] at this; cases this
theorem Inv.bs (I:Inv X pins σ H s):∀ b o,X.base.get? b=some o->s.heap.get? b=some o/\H b=none:=fun b o e =>
 ⟨I.base.keep b o (I.ok.bs b o e).1 (I.ok.bs b o e).2 (I.ok.nofr e) (I.ok.noex b o e),I.base.free b o (I.ok.bs b o e).1 (I.ok.bs b o e).2 (I.ok.noex b o e)⟩
theorem Inv.bk (I:Inv X pins σ H s):∀ b o,X.base.get? b=some o->s.heap.get? b=some o:=fun b o e=>(I.bs b o e).1
theorem Inv.mod (I:Inv X pins σ H s):Mod X.K X.mg X.base:=I.ok.mod
theorem Inv.kIn (I:Inv X pins σ H s):X.K.In s.heap:=I.ok.mod.kin.keeps I.bk
theorem Inv.lt (I:Inv X pins σ H s):X.env.locals < s.heap.objs.size:=let ⟨_,hn,_⟩:=I.loc; hn.lt
theorem Inv.sz (I:Inv X pins σ H s):X.s₀.heap.objs.size <= s.heap.objs.size:=Nat.le_trans I.ok.above (Nat.le_of_lt I.lt)
theorem Inv.nofs (I:Inv X pins σ H s) {a:Addr} (h:s.heap.objs.size <= a):a ∉ X.fs:=fun hb=>by
 obtain ⟨_,o,ho,_⟩:=I.ok.funs.mem hb
 exact absurd (Nat.lt_of_lt_of_le (Heap.lt_size ho) (Nat.le_trans I.sz h)) (Nat.lt_irrefl _)
theorem Inv.cne (I:Inv X pins σ H s):∀ x c,X.env.cells.lookup x=some c->c ≠ X.env.locals:=fun x c e z=>by
 obtain ⟨v,o,ho,hd⟩:=I.cell x c e
 obtain ⟨m,⟨o',es,ep,ho',hd',_⟩,_⟩:=I.loc
 rw [z,ho'] at ho; cases ho; rw [hd'] at hd; cases hd
theorem Inv.funs (I:Inv X pins σ H s):s.heap.FunFrames X.base X.outer:=by
 have all:∀ (l:List Env),(∀ b ∈ frs l,b ∈ X.fs)->X.s₀.heap.FunFrames X.base l->s.heap.FunFrames X.base l:=by
  intro l
  induction l with
  | nil=>intro _ _; trivial
  | cons env r ih =>
   intro hs hl
   obtain ⟨hk,⟨L,o,hf,hn,ho,hd⟩,hr⟩:=hl
   have hL:L ∈ X.fs:=hs L (by unfold frs; rw [List.filterMap_cons,hf]; exact List.mem_cons_self)
   obtain ⟨sl,e⟩:=I.base.slot L o ho (I.ok.frf L hL) hL fun z=>I.ok.exfs L z hL
   exact ⟨hk,⟨L,_,hf,hn,e,hd⟩,ih (fun b hb=>hs b (by unfold frs; rw [List.filterMap_cons,hf]; exact List.mem_cons_of_mem _ hb)) hr⟩
 exact all X.outer (fun _ hb=>hb) I.ok.funs
theorem Inv.stack (I:Inv X pins σ H s):s.heap.FunFrames X.base X.stack:=by
 rcases I.ok.stk with e | ⟨e,hf⟩
 ·rw [e]; exact I.funs
 ·rw [e]
  obtain ⟨m,hn,_⟩:=I.loc
  refine .cons (by rw [I.ok.kind]; decide) hf hn ?_ I.funs
  exact Heap.get?_none_of_le (Nat.le_trans I.ok.bsz I.ok.above)
theorem Inv.stkSub (I:Inv X pins σ H s):∀ b ∈ frs X.stack,b ∈ X.env.locals::X.fs:=fun b hb=>by
 rcases I.ok.stk with e | ⟨e,hf⟩
 ·rw [e] at hb; exact List.mem_cons_of_mem _ hb
 ·rw [e] at hb
  unfold frs at hb
  rw [List.filterMap_cons,hf] at hb
  exact hb
theorem Inv.stkFree (I:Inv X pins σ H s):∀ b ∈ frs X.stack,H b=none:=fun b hb=>by
 rcases List.mem_cons.mp (I.stkSub b hb) with e | hb
 ·rw [e]; exact I.free
 ·obtain ⟨_,o,ho,_⟩:=I.ok.funs.mem hb
  exact I.base.free b o ho (I.ok.frf b hb) fun z=>I.ok.exfs b z hb
theorem Inv.step {g':Array GenState} {t':Nat} {d':Drawn} {ch:List Addr} (I:Inv X pins σ H s)
  (hch:∀ b ∈ ch,(b ∈ X.ex\/X.s₀.heap.objs.size <= b)/\b ≠ X.env.locals/\(∀ x c,X.env.cells.lookup x=some c->c ≠ b)/\∀ p ∈ X.pn ++ pins,p.1 ≠ b)
  (keep:∀ b o,b ≠ X.env.locals->b ∉ X.fs->b ∉ ch->s.heap.get? b=some o->H b=none->h'.get? b=some o)
  (slot:∀ b o,b ≠ X.env.locals->b ∈ X.fs->b ∉ ch->s.heap.get? b=some o->H b=none->∃ sl,h'.get? b=some { o with slots:=sl }) (free:∀ b o,b ∉ ch->s.heap.get? b=some o->H b=none->H' b=none)
  (there:∀ b o,b ∉ ch->s.heap.get? b=some o->∃ o',h'.get? b=some o')
  (tups:∀ b xs,H b=some (.tup xs)->H' b=some (.tup xs)) (frzs:∀ b o u,H b=some (.frz o u)->H' b=some (.frz o u)) (tbls:∀ b ps,H b=some (.tbl ps)->∃ more,H' b=some (.tbl (ps ++ more)))
  (ns:∀ m,s.heap.Ns X.env.locals m->h'.Ns X.env.locals m) (hok:HOk X.prog X.w H' h') (hg:AllBare g') :
  Inv X pins σ H' { s with heap:=h',gens:=g',drawn:=d',toks:=t' }:=by
 have neL:∀ b o,X.s₀.heap.get? b=some o->b ≠ X.env.locals:=fun b o e=>Nat.ne_of_lt (Nat.lt_of_lt_of_le (Heap.lt_size e) I.ok.above)
 have neC:∀ b o,X.s₀.heap.get? b=some o->b ∉ X.ex->b ∉ ch:=fun b o e hx hb=>by
  rcases (hch b hb).1 with z | z
  ·exact hx z
  ·exact absurd (Nat.lt_of_lt_of_le (Heap.lt_size e) z) (Nat.lt_irrefl _)
 have cellK:∀ x c,X.env.cells.lookup x=some c->∀ v,s.heap.IsCell c v->h'.IsCell c v:=fun x c e v ⟨o,ho,hd⟩=>by
  have nch:c ∉ ch:=fun z=>(hch c z).2.2.1 x c e rfl
  by_cases hc:c ∈ X.fs
  ·obtain ⟨sl,q⟩:=slot c o (I.cne x c e) hc nch ho (I.freeC x c e)
   exact ⟨_,q,hd⟩
  ·exact ⟨o,keep c o (I.cne x c e) hc nch ho (I.freeC x c e),hd⟩
 refine ⟨I.ok,I.os,hg,⟨fun b o e n hb hx=>?_,fun b o e n hb hx=>?_,fun b o e n hx=>?_,fun b o e hx=>?_,fun b xs e=>tups b xs (I.base.tups b xs e),fun b o xs e=>frzs b o xs (I.base.frzs b o xs e),fun b ps e=>?_⟩,?_,fun x c e=>?_,?_,fun x c e=>?_,fun p hp=>?_,hok,I.len⟩
 ·exact keep b o (neL b o e) hb (neC b o e hx) (I.base.keep b o e n hb hx) (I.base.free b o e n hx)
 ·obtain ⟨sl,e1⟩:=I.base.slot b o e n hb hx
  obtain ⟨sl',e2⟩:=slot b _ (neL b o e) hb (neC b o e hx) e1 (I.base.free b o e n hx)
  exact ⟨sl',e2⟩
 ·obtain ⟨o',e1⟩:=I.base.there b o e hx
  exact free b o' (neC b o e hx) e1 (I.base.free b o e n hx)
 ·obtain ⟨o',e1⟩:=I.base.there b o e hx
  exact there b o' (neC b o e hx) e1
 ·obtain ⟨m1,e1⟩:=I.base.tbls b ps e
  obtain ⟨m2,e2⟩:=tbls b _ e1
  exact ⟨m1 ++ m2,by rw [e2,Array.append_assoc]⟩
 ·obtain ⟨m,hn,hl⟩:=I.loc
  refine ⟨m,ns m hn,fun i x v e1 e2 e3=>?_⟩
  obtain ⟨u,r,l⟩:=hl i x v e1 e2 e3
  refine ⟨u,r,?_⟩
  rcases l with l | ⟨k,c,e,z⟩
  ·exact .inl l
  ·exact .inr ⟨k,c,e,cellK x c e _ z⟩
 ·obtain ⟨v,z⟩:=I.cell x c e
  exact ⟨v,cellK x c e v z⟩
 ·obtain ⟨m,⟨o,_,_,ho,_⟩,_⟩:=I.loc
  exact free _ o (fun z=>(hch _ z).2.1 rfl) ho I.free
 ·obtain ⟨v,o,ho,hd⟩:=I.cell x c e
  exact free c o (fun z=>(hch c z).2.2.1 x c e rfl) ho (I.freeC x c e)
 ·obtain ⟨e,n,ne,nf,d⟩:=I.pin p hp
  have nch:p.1 ∉ ch:=fun z=>(hch p.1 z).2.2.2 p hp rfl
  exact ⟨keep p.1 p.2 ne nf nch e n,free p.1 p.2 nch e n,ne,nf,d⟩
theorem Inv.un {t':Nat} (I:Inv X pins σ H s) (u:Un X.fs [] H H' s.heap h') (hok:HOk X.prog X.w H' h'):Inv X pins σ H' { s with heap:=h',toks:=t' }:=by
 obtain ⟨m,⟨o,es,ep,ho,r⟩,_⟩:=id I.loc
 obtain ⟨sl,hL⟩:=u.any ho I.free (by simp)
 exact I.step (g':=s.gens) (d':=s.drawn) (ch:=[]) (fun _ z=>nomatch z) (fun b o _ hb _ e n=>u.keep b o e n hb (by simp)) (fun b o _ hb _ e n=>u.slot b o e n hb (by simp)) (fun b o _ e n=>u.free b o e n (by simp)) (fun b o _ e=>u.there b o e (by simp)) u.tups u.frzs u.tbls (fun m' hm=>by
  obtain ⟨o',es',ep',ho',r'⟩:=hm
  rw [ho] at ho'; cases ho'
  exact ⟨_,es',ep',hL,r'⟩) hok I.bare
theorem Inv.call {g':Array GenState} {t':Nat} {d':Drawn} {ch:List Addr} (I:Inv X pins σ H s) (u:Un (frs X.stack) ch H H' s.heap h') (hok:HOk X.prog X.w H' h') (hg:AllBare g')
  (hch:∀ b ∈ ch,(b ∈ X.ex\/X.s₀.heap.objs.size <= b)/\b ≠ X.env.locals/\(∀ x c,X.env.cells.lookup x=some c->c ≠ b)/\∀ p ∈ X.pn ++ pins,p.1 ≠ b) :
  Inv X pins σ H' { s with heap:=h',gens:=g',drawn:=d',toks:=t' }:=by
 obtain ⟨m,⟨o,es,ep,ho,r⟩,_⟩:=id I.loc
 obtain ⟨sl,hL⟩:=u.any ho I.free fun z=>(hch _ z).2.1 rfl
 exact I.step (ch:=ch) hch (fun b o hL hb hc e n=>u.keep b o e n (fun z=>(List.mem_cons.mp (I.stkSub b z)).elim hL hb) hc) (fun b o _ _ hc e n=>u.any e n hc) (fun b o hc e n=>u.free b o e n hc) (fun b o hc e=>u.there b o e hc) u.tups u.frzs u.tbls (fun m' hm=>by
  obtain ⟨o',es',ep',ho',r'⟩:=hm
  rw [ho] at ho'; cases ho'
  exact ⟨_,es',ep',hL,r'⟩) hok hg
theorem Inv.turned {t':Nat} {it:Addr} (I:Inv X pins σ H s) (k:∀ b o,b ≠ it->s.heap.get? b=some o->h'.get? b=some o) (hn:H it=none) (hL:it ≠ X.env.locals)
  (h1:it ∈ X.ex\/X.s₀.heap.objs.size <= it) (h2:∀ x c,X.env.cells.lookup x=some c->c ≠ it) (h3:∀ p ∈ X.pn ++ pins,p.1 ≠ it):Inv X pins σ H { s with heap:=h',toks:=t' }:=by
 have nit:∀ b u,H b=some u->b ≠ it:=fun b u e z=>by rw [z,hn] at e; cases e
 refine I.step (g':=s.gens) (d':=s.drawn) (ch:=[it]) (fun b hb=>?_) (fun b o _ _ hc e _=>k b o (fun z=>hc (by simp [z])) e) (fun b o _ _ hc e _=>⟨o.slots,k b o (fun z=>hc (by simp [z])) e⟩) (fun _ _ _ _ n=>n)
  (fun b o hc e=>⟨o,k b o (fun z=>hc (by simp [z])) e⟩) (fun _ _ e=>e) (fun _ _ _ e=>e) (fun b ps e=>⟨#[],by rw [e]; simp⟩) (fun m hm=>?_) (fun b u e=>?_) I.bare
 ·have e:b=it:=by simpa using hb
  subst e
  exact ⟨h1,hL,h2,h3⟩
 ·obtain ⟨o,es,ep,ho,r⟩:=hm
  exact ⟨o,es,ep,k _ o (Ne.symm hL) ho,r⟩
 ·refine (I.hok b u e).stay (fun c v hc q=>k c v ?_ q) (fun _ q=>q) fun _ _ q=>q
  rcases hc with z | z
  ·rw [z]; exact nit b u e
  ·exact nit c _ z
theorem Inv.tok (I:Inv X pins σ H s) (t:Nat):Inv X pins σ H { s with toks:=t }:=I.un (h':=s.heap) (t':=t) Un.refl I.hok
theorem Inv.kept {t':Nat} (I:Inv X pins σ H s) (k:∀ b u,s.heap.get? b=some u->h'.get? b=some u):Inv X pins σ H { s with heap:=h',toks:=t' }:=I.un (Un.kept k) (I.hok.kept k)
theorem Inv.laid {a:Addr} {o:HO} {t':Nat} (I:Inv X pins σ H s) (k:∀ b u,s.heap.get? b=some u->h'.get? b=some u) (hp:s.heap.objs.size <= a) (new:ObjOk X.prog X.w (upd H a o) h' a o) :
  Inv X pins σ (upd H a o) { s with heap:=h',toks:=t' }:=I.un (Un.laid k hp (I.hok.fresh hp)) (I.hok.laid k hp new)
theorem Inv.write {x e:Addr} {o:HO} {t':Nat} (I:Inv X pins σ H s) (mu:Mut (H x)) (he:e=x\/H e=some (.own x)) (k:∀ b u,b ≠ e->s.heap.get? b=some u->h'.get? b=some u) (heo:∃ u,h'.get? e=some u)
  (new:ObjOk X.prog X.w (upd H x o) h' x o):Inv X pins σ (upd H x o) { s with heap:=h',toks:=t' }:=I.un (Un.write mu he k heo) (I.hok.write mu he k heo new)
theorem Inv.weak {σ':List (Option V)} (I:Inv X pins σ H s) (hl:σ'.length=σ.length) (w:∀ (i:Nat) v,σ'[i]? = some (some v)->σ[i]? = some (some v)):Inv X pins σ' H s :=
 ⟨I.ok,I.os,I.bare,I.base,let ⟨m,hn,hl'⟩:=I.loc; ⟨m,hn,fun i x v e1 e2 e3=>hl' i x v e1 (w i v e2) e3⟩,I.cell,I.free,I.freeC,I.pin,I.hok,hl.trans I.len⟩
theorem Inv.pins_of {pins':List (Addr × Obj)} (I:Inv X pins σ H s) (h:∀ p ∈ pins',s.heap.get? p.1=some p.2/\H p.1=none/\p.1 ≠ X.env.locals/\p.1 ∉ X.fs/\∀ v,p.2.data ≠ .cell v):Inv X pins' σ H s :=
 ⟨I.ok,I.os,I.bare,I.base,I.loc,I.cell,I.free,I.freeC,fun p hp=>(List.mem_append.mp hp).elim (fun z=>I.pin p (List.mem_append_left _ z)) (h p),I.hok,I.len⟩
theorem nodup_ix {N:List Str} (hN:N.Nodup) {i j:Nat} {x:Str} (a:N[i]? = some x) (b:N[j]? = some x):i=j:=by
 obtain ⟨h1,e1⟩:=List.getElem?_eq_some_iff.mp a
 obtain ⟨h2,e2⟩:=List.getElem?_eq_some_iff.mp b
 exact (List.getElem_inj hN).mp (e1.trans e2.symm)
theorem store_ok2 {M:Model} {A:Around} {E:Value->Shared->Prop} {i:Nat} {x:Str} {v:V} {u:Value} {Q:Unit->Shared->Prop} (I:Inv X pins σ H s) (hN:X.N.Nodup) (hi:X.N[i]? = some x) (hx:Loc X.env.scope x) (r:RelV v u)
  (h:∀ s',Inv X pins (σ.set i (some v)) H s'->(∃ a,Heap.SameBut a s.heap s'.heap/\(a=X.env.locals\/X.env.cells.lookup x=some a))->Q () s') (hf:X.fn x=true\/X.env.scope.names.lookup x=some .local:=by first | exact .inl rfl | exact .inr rfl | assumption):wpAny M A (storeName X.env x u) Q E s:=by
 obtain ⟨m,hn,hl⟩:=id I.loc
 have hcls:(X.env.scope.kind == .class || (X.env.scope.kind == .module && X.env.locals != X.env.globals))=false:=by rw [I.ok.kind]; rfl
 have hiσ:i < σ.length:=by rw [I.len]; exact (List.getElem?_eq_some_iff.mp hi).1
 have cne:=I.cne
 have tracked:∀ {a:Addr} {h':Heap},(∃ o,s.heap.get? a=some o/\H a=none)->Heap.SameBut a s.heap h'->HOk X.prog X.w H h':=fun {a h'} ha hs b ob e=>by
  obtain ⟨_,_,hfree⟩:=ha
  refine (I.hok b ob e).stay (fun c w' hc q=>(hs.2 c ?_).trans q) (fun _ q=>q) fun _ _ q=>q
  rintro rfl
  rcases hc with rfl | hc
  ·rw [hfree] at e; cases e
  ·rw [hfree] at hc; cases hc
 rcases hx with hk | hk
 ·refine wpAny_storeName_local hk hn (fun h' hn' hs=>?_) hcls
  obtain ⟨oL,_,_,hoL,_⟩:=id hn
  refine h _ ⟨I.ok,I.os,I.bare,⟨fun b o e n hb hx=>?_,fun b o e n hb hx=>?_,I.base.free,fun b o e hx=>?_,I.base.tups,I.base.frzs,I.base.tbls⟩,⟨_,hn',fun j y v' e1 e2 e3=>?_⟩,fun y c e=>?_,I.free,I.freeC,fun p hp=>?_,tracked ⟨oL,hoL,I.free⟩ hs,by simpa using I.len⟩ ⟨_,hs,.inl rfl⟩
  ·exact (hs.2 b (Nat.ne_of_lt (Nat.lt_of_lt_of_le (Heap.lt_size e) I.ok.above))).trans (I.base.keep b o e n hb hx)
  ·obtain ⟨sl,e1⟩:=I.base.slot b o e n hb hx
   exact ⟨sl,(hs.2 b (Nat.ne_of_lt (Nat.lt_of_lt_of_le (Heap.lt_size e) I.ok.above))).trans e1⟩
  ·obtain ⟨o',e1⟩:=I.base.there b o e hx
   exact ⟨o',(hs.2 b (Nat.ne_of_lt (Nat.lt_of_lt_of_le (Heap.lt_size e) I.ok.above))).trans e1⟩
  ·by_cases hj:j=i
   ·subst hj
    rw [hi] at e1; cases e1
    rw [List.getElem?_set_self hiσ] at e2
    cases e2
    exact ⟨u,r,.inl ⟨hk,by simp⟩⟩
   ·rw [List.getElem?_set_ne (Ne.symm hj)] at e2
    obtain ⟨u',r',q⟩:=hl j y v' e1 e2 e3
    refine ⟨u',r',?_⟩
    rcases q with ⟨k,e⟩ | ⟨k,c,e,z⟩
    ·refine .inl ⟨k,?_⟩
     have:y ≠ x:=fun e=>hj (nodup_ix hN e1 (e ▸ hi))
     simp [this,e]
    ·exact .inr ⟨k,c,e,z.sameBut hs (cne y c e)⟩
  ·obtain ⟨w',z⟩:=I.cell y c e
   exact ⟨w',z.sameBut hs (cne y c e)⟩
  ·obtain ⟨e,n,ne,nf,d⟩:=I.pin p hp
   exact ⟨(hs.2 p.1 ne).trans e,n,ne,nf,d⟩
 ·have hfn:X.fn x=true:=by
   rcases hf with z | z
   ·exact z
   ·rw [z] at hk; cases hk
  obtain ⟨c,hc⟩:=I.ok.has x (.inl hk)
  obtain ⟨w',z⟩:=I.cell x c hc
  refine wpAny_storeName_cell I.ok.kind hk hc z (fun h' hc' hs=>?_)
  obtain ⟨oc,hoc,hocd⟩:=id z
  refine h { s with heap:=h' } ⟨I.ok,I.os,I.bare,⟨fun b o e n hb hx=>?_,fun b o e n hb hx=>?_,I.base.free,fun b o e hx=>?_,I.base.tups,I.base.frzs,I.base.tbls⟩,⟨m,hn.sameBut hs (Ne.symm (cne x c hc)),fun j y v' e1 e2 e3=>?_⟩,fun y c' e=>?_,I.free,I.freeC,fun p hp=>?_,tracked ⟨oc,hoc,I.freeC x c hc⟩ hs,by simpa using I.len⟩ ⟨c,hs,.inr hc⟩
  ·exact (hs.2 b (Nat.ne_of_lt (Nat.lt_of_lt_of_le (Heap.lt_size e) (I.ok.cab x c hfn hc)))).trans (I.base.keep b o e n hb hx)
  ·obtain ⟨sl,e1⟩:=I.base.slot b o e n hb hx
   exact ⟨sl,(hs.2 b (Nat.ne_of_lt (Nat.lt_of_lt_of_le (Heap.lt_size e) (I.ok.cab x c hfn hc)))).trans e1⟩
  ·obtain ⟨o',e1⟩:=I.base.there b o e hx
   exact ⟨o',(hs.2 b (Nat.ne_of_lt (Nat.lt_of_lt_of_le (Heap.lt_size e) (I.ok.cab x c hfn hc)))).trans e1⟩
  ·by_cases hj:j=i
   ·subst hj
    rw [hi] at e1; cases e1
    rw [List.getElem?_set_self hiσ] at e2
    cases e2
    exact ⟨u,r,.inr ⟨.inl hk,c,hc,hc'⟩⟩
   ·rw [List.getElem?_set_ne (Ne.symm hj)] at e2
    obtain ⟨u',r',q⟩:=hl j y v' e1 e2 e3
    refine ⟨u',r',?_⟩
    rcases q with q | ⟨k,c',e,z'⟩
    ·exact .inl q
    ·refine .inr ⟨k,c',e,z'.sameBut hs ?_⟩
     rintro rfl
     exact hj (nodup_ix hN e1 (I.ok.inj _ _ _ e hc ▸ hi))
  ·by_cases hcc:c'=c
   ·subst hcc; exact ⟨_,hc'⟩
   ·obtain ⟨w2,z2⟩:=I.cell y c' e
    exact ⟨w2,z2.sameBut hs hcc⟩
  ·obtain ⟨e,n,ne,nf,d⟩:=I.pin p hp
   refine ⟨(hs.2 p.1 ?_).trans e,n,ne,nf,d⟩
   intro q
   rw [q,hoc] at e
   have q':oc=p.2:=Option.some.inj e
   exact d w' (by rw [<- q']; exact hocd)
theorem store_ok {M:Model} {A:Around} {E:Value->Shared->Prop} {i:Nat} {x:Str} {v:V} {u:Value} {Q:Unit->Shared->Prop} (I:Inv X pins σ H s) (hN:X.N.Nodup) (hi:X.N[i]? = some x) (hx:Loc X.env.scope x) (r:RelV v u)
  (h:∀ s',Inv X pins (σ.set i (some v)) H s'->Q () s') (hf:X.fn x=true\/X.env.scope.names.lookup x=some .local:=by first | exact .inl rfl | exact .inr rfl | assumption):wpAny M A (storeName X.env x u) Q E s :=
 store_ok2 I hN hi hx r (fun s' I' _=>h s' I') hf
theorem Inv.call' {s':Shared} {ch:List Addr} (I:Inv X pins σ H s) (ho:s'.os=s.os) (u:Un (frs X.stack) ch H H' s.heap s'.heap) (hok:HOk X.prog X.w H' s'.heap) (hg:AllBare s'.gens)
  (hch:∀ b ∈ ch,(b ∈ X.ex\/X.s₀.heap.objs.size <= b)/\b ≠ X.env.locals/\(∀ x c,X.env.cells.lookup x=some c->c ≠ b)/\∀ p ∈ X.pn ++ pins,p.1 ≠ b):Inv X pins σ H' s':=by
 obtain ⟨h',g',d',t',o'⟩:=s'
 have e:o'=s.os:=ho
 subst e
 exact I.call (g':=g') (t':=t') (d':=d') u hok hg hch
end
abbrev XK:=Value->Option Addr->Hp->Prop
abbrev St:=List (Option V)
abbrev VK:=V->Hp->Prop
abbrev TE:=St->Hp->VK->Prop
abbrev TT:=St->Hp->(Bool->Hp->Prop)->Prop
abbrev TA:=St->Hp->(List V->Hp->Prop)->Prop
structure Ends where
 nx:St->Hp->Prop
 rt:VK
 bk:St->Hp->Prop:=fun _ _=>False
 ct:St->Hp->Prop:=fun _ _=>False
abbrev TS:=Ends->St->Hp->Prop
def EP (X:Cx) (pins:List (Addr × Obj)) (σ:St) (Q:VK) (u:Value) (s':Shared):Prop:=∃ v H',Inv X pins σ H' s'/\RelV v u/\Q v H'
def TP (X:Cx) (pins:List (Addr × Obj)) (σ:St) (Q:Bool->Hp->Prop) (b:Bool) (s':Shared):Prop:=∃ H',Inv X pins σ H' s'/\Q b H'
def AP (X:Cx) (pins:List (Addr × Obj)) (σ:St) (Q:List V->Hp->Prop) (us:List Value) (s':Shared):Prop:=∃ vs H',Inv X pins σ H' s'/\Vals vs us/\Q vs H'
def SP (X:Cx) (pins:List (Addr × Obj)) (D:Ends) (f:Flow) (s':Shared):Prop :=
 match f with
 | .next=>∃ σ' H',Inv X pins σ' H' s'/\D.nx σ' H'
 | .brk=>∃ σ' H',Inv X pins σ' H' s'/\D.bk σ' H'
 | .cont=>∃ σ' H',Inv X pins σ' H' s'/\D.ct σ' H'
 | .ret u=>∃ v σ' H',Inv X pins σ' H' s'/\RelV v u/\D.rt v H'
def PE (X:Cx) (e:Expr) (t:TE):Prop :=
 ∀ (pins:List (Addr × Obj)) (s:Shared) (σ:St) (H:Hp) (Q:VK),Inv X pins σ H s->t σ H Q->wpAny (model X.prog X.w) X.A (eval e X.env) (EP X pins σ Q) X.xe s
def PT (X:Cx) (e:Expr) (t:TT):Prop :=
 ∀ (pins:List (Addr × Obj)) (s:Shared) (σ:St) (H:Hp) (Q:Bool->Hp->Prop),Inv X pins σ H s->t σ H Q->wpAny (model X.prog X.w) X.A (isTrue e X.env (eval e X.env)) (TP X pins σ Q) X.xe s
def PW (X:Cx) (e:Expr) (t:TT):Prop :=
 ∀ (whole:Sem Value) (pins:List (Addr × Obj)) (s:Shared) (σ:St) (H:Hp) (Q:Bool->Hp->Prop),Inv X pins σ H s->t σ H Q->wpAny (model X.prog X.w) X.A (isTrue e X.env whole) (TP X pins σ Q) X.xe s
theorem PW.pt {X:Cx} {e:Expr} {t:TT} (h:PW X e t):PT X e t:=h _
def PA (X:Cx) (es:List Expr) (t:TA):Prop :=
 ∀ (pos:Pos) (pins:List (Addr × Obj)) (s:Shared) (σ:St) (H:Hp) (Q:List V->Hp->Prop),Inv X pins σ H s->t σ H Q->wpAny (model X.prog X.w) X.A (spliced (backTo pos (starEach es X.env))) (AP X pins σ Q) X.xe s
def PS (X:Cx) (st:Stmt) (t:TS):Prop :=
 ∀ (pins:List (Addr × Obj)) (s:Shared) (σ:St) (H:Hp) (D:Ends),Inv X pins σ H s->t D σ H->wpAny (model X.prog X.w) X.A (exec st X.env) (SP X pins D) X.xe s
def PSs (X:Cx) (st:List Stmt) (t:TS):Prop :=
 ∀ (pins:List (Addr × Obj)) (s:Shared) (σ:St) (H:Hp) (D:Ends),Inv X pins σ H s->t D σ H->wpAny (model X.prog X.w) X.A (execs st X.env) (SP X pins D) X.xe s
theorem thn {α:Type} {t:Sem α} {Q Q':α->Shared->Prop} {M:Model} {A:Around} {E:Value->Shared->Prop} {s:Shared} (h:wpAny M A t Q E s) (hQ:∀ a s,Q a s->Q' a s):wpAny M A t Q' E s:=wpAny_mono h hQ fun _ _ x=>x
end L2
namespace L2
open PySem PySem.Spec PyProof.Rows
section
variable {X:Cx}
def tVar (i:Nat):TE:=fun σ H Q=>∃ v,σ[i]? = some (some v)/\Q v H
def tC (v:V):TE:=fun _ H Q=>Q v H
theorem pe_var {i:Nat} {x:Str} {pos:Pos} (hN:X.N[i]? = some x) (hv:Vis X.env.scope x) (hd:(x == ("__debug__":Str))=false:=by decide) (hcd:(x == ("__classdict__":Str))=false:=by decide):PE X (.Name x pos) (tVar i):=by
 intro pins s σ H Q I h
 obtain ⟨v,e,h⟩:=h
 obtain ⟨m,hn,hl⟩:=I.loc
 obtain ⟨u,r,l⟩:=hl i x v hN e hv
 have fin:EP X pins σ Q u s:=⟨v,H,I,r,h⟩
 rcases l with ⟨hk,hm⟩ | ⟨hk,c,hc,hcell⟩
 ·exact wpAny_Name (wpAny_loadName_local I.ok.kind hk hn hm fin) hd
 ·rcases hk with hk | hk
  ·exact wpAny_Name (wpAny_loadName_cell I.ok.kind hk hc hcell fin) hd
  ·exact wpAny_Name (wpAny_loadName_free I.ok.kind hk hc hcell fin hcd) hd
theorem pe_int {i j pos}:PE X (.Constant (.int i) j pos) (tC (.int i)):=fun _ _ _ H _ I h=>wpAny_Constant_int ⟨.int i,H,I.tok _,⟨_,rfl⟩,h⟩
theorem pe_bl {b j pos}:PE X (.Constant (.bool b) j pos) (tC (.bl b)):=fun _ _ _ H _ I h=>Constant_bool ⟨.bl b,H,I,rfl,h⟩
theorem pe_non {j pos}:PE X (.Constant .none j pos) (tC .non):=fun _ _ _ H _ I h=>Constant_none ⟨.non,H,I,rfl,h⟩
theorem pe_str {x j pos}:PE X (.Constant (.str x) j pos) (tC (.str x)):=fun _ _ _ H _ I h=>Calls.Constant_str ⟨.str x,H,I.tok _,⟨_,rfl⟩,h⟩
def Gl (X:Cx) (x:Str):Prop:=X.env.kindOf x=some .globalImplicit
theorem ld_glob {E:Value->Shared->Prop} {pins:List (Addr × Obj)} {s:Shared} {σ:St} {H:Hp} {x:Str} {u:Value} {pos:Pos} {Q:Value->Shared->Prop} (I:Inv X pins σ H s) (hg:Gl X x) (hm:X.mg x=some u) (h:Q u s)
  (hd:(x == ("__debug__":Str))=false:=by decide):wpAny (model X.prog X.w) X.A (eval (.Name x pos) X.env) Q E s :=
 Calls.Name_function_global I.ok.kind hg (Calls.loadGlobal_global (by rw [I.ok.glob]; exact I.mod.glob.keeps I.bk) hm h) hd
theorem ld_blt {E:Value->Shared->Prop} {pins:List (Addr × Obj)} {s:Shared} {σ:St} {H:Hp} {x:Str} {u:Value} {pos:Pos} {Q:Value->Shared->Prop} (I:Inv X pins σ H s) (hg:Gl X x) (hm:X.mg x=none) (hv:bootBuiltins x=some u) (h:Q u s)
  (hn:x ≠ "__name__":=by decide) (hd:(x == ("__debug__":Str))=false:=by decide):wpAny (model X.prog X.w) X.A (eval (.Name x pos) X.env) Q E s:=by
 obtain ⟨mb,h1,h2⟩:=I.mod.blt
 exact Calls.Name_function_global I.ok.kind hg (Calls.loadGlobal_builtin (by rw [I.ok.glob]; exact I.mod.glob.keeps I.bk) hm (by rw [I.ok.blt]; exact h1.keeps I.bk) ((h2 x hn).trans hv) h) hd
theorem pe_glob {x:Str} {v:V} {u:Value} {pos:Pos} (hg:Gl X x) (hm:X.mg x=some u) (r:RelV v u) (hd:(x == ("__debug__":Str))=false:=by decide):PE X (.Name x pos) (tC v) :=
 fun _ _ _ H _ I h=>ld_glob I hg hm ⟨v,H,I,r,h⟩ hd
theorem pe_bltn {x:Str} {v:V} {u:Value} {pos:Pos} (hg:Gl X x) (hm:X.mg x=none) (hv:bootBuiltins x=some u) (r:RelV v u) (hn:x ≠ "__name__":=by decide) (hd:(x == ("__debug__":Str))=false:=by decide):PE X (.Name x pos) (tC v) :=
 fun _ _ _ H _ I h=>ld_blt I hg hm hv ⟨v,H,I,r,h⟩ hn hd
variable {a b:Expr} {ta tb:TE} {pos:Pos}
def PC (X:Cx) (op:CmpOp) (a b:Expr) (t:TE):Prop :=
 ∀ (pins:List (Addr × Obj)) (s:Shared) (σ:St) (H:Hp) (Q:VK),Inv X pins σ H s->t σ H Q ->
  wpAny (model X.prog X.w) X.A (eval a X.env) (fun v s₁=>wpAny (model X.prog X.w) X.A (eval b X.env) (fun u s₂=>wpAny (model X.prog X.w) X.A (compareOp op v u) (EP X pins σ Q) X.xe s₂) X.xe s₁) X.xe s
theorem nobehind (b:Expr) {op:CmpOp} (h:op ≠ .In) (h2:op ≠ .NotIn):behindInMarks op b=false:=by
 have e1:(op == CmpOp.In)=false:=by cases op <;> first | rfl | exact absurd rfl h
 have e2:(op == CmpOp.NotIn)=false:=by cases op <;> first | rfl | exact absurd rfl h2
 cases b <;> simp [behindInMarks,e1,e2]
def tIsN (ta:TE):TE:=fun σ H Q=>ta σ H fun x H1=>Q (.bl (decide (x=.non))) H1
def tNotN (ta:TE):TE:=fun σ H Q=>ta σ H fun x H1=>Q (.bl (!decide (x=.non))) H1
theorem RelV.none_iff {x:V} {v:Value} (r:RelV x v):(v == Value.none)=decide (x=.non):=by
 cases x with
 | non=>cases r; rfl
 | bl _=>cases r; rfl
 | int _=>obtain ⟨t,rfl⟩:=r; rfl
 | str _=>obtain ⟨t,rfl⟩:=r; rfl
 | byt _=>obtain ⟨t,rfl⟩:=r; rfl
 | flt _=>obtain ⟨t,rfl⟩:=r; rfl
 | ref _=>cases r; rfl
 | ty _=>cases r; rfl
theorem pc_isN {j pos'} (ha:PE X a ta):PC X .Is a (.Constant .none j pos') (tIsN ta):=by
 intro pins s σ H Q I h
 refine thn (ha pins s σ H _ I h) fun v s1 ⟨x,H1,I1,r1,q1⟩=>?_
 exact Constant_none (is_none_gen ⟨.bl _,H1,I1,by rw [r1.none_iff]; rfl,q1⟩)
theorem pc_notN {j pos'} (ha:PE X a ta):PC X .IsNot a (.Constant .none j pos') (tNotN ta):=by
 intro pins s σ H Q I h
 refine thn (ha pins s σ H _ I h) fun v s1 ⟨x,H1,I1,r1,q1⟩=>?_
 exact Constant_none (isnot_none_gen ⟨.bl _,H1,I1,by rw [r1.none_iff]; rfl,q1⟩)
def tB (t:TE):TT:=fun σ H Q=>t σ H fun x H1=>∃ c,x=.bl c/\Q c H1
theorem pe_cmp {op:CmpOp} {t:TE} (h:PC X op a b t) (h1:behindInMarks op b=false:=by first | exact nobehind _ (by decide) (by decide) | rfl):PE X (.Compare a [op] [b] pos) t:=fun pins s σ H Q I hw=>wpAny_Compare1 (h pins s σ H Q I hw) h1
theorem pt_cmp {op:CmpOp} {t:TE} (h:PC X op a b t) (h1:behindInMarks op b=false:=by first | exact nobehind _ (by decide) (by decide) | rfl):PT X (.Compare a [op] [b] pos) (tB t):=by
 intro pins s σ H Q I hw
 refine wpAny_isTrue_Compare1 (thn (h pins s σ H _ I hw) fun v s1 h1=>thn h1 fun u s2 h2=>thn h2 fun c s3 ⟨x,H1,I1,r1,q1⟩=>?_) h1
 obtain ⟨d,rfl,q⟩:=q1
 cases r1
 exact wpAny_truthy_bool ⟨H1,I1,q⟩
theorem pt_val {e:Expr} {t:TE} (h:PE X e t) (he:∀ whole,isTrue e X.env whole=(do let v <- whole; standAt e.pos; holding [v] (truthy v)):=by intro _; rfl):PT X e (tB t):=by
 intro pins s σ H Q I hw
 refine isTrue_plain (thn (h pins s σ H _ I hw) fun v s1 ⟨x,H1,I1,r1,q1⟩=>?_) (he _)
 obtain ⟨d,rfl,q⟩:=q1
 cases r1
 exact wpAny_truthy_bool ⟨H1,I1,q⟩
variable {tA tB':TT} {rest:List Expr}
def tAnd (t u:TT):TT:=fun σ H Q=>t σ H fun c H1=>if c=true then u σ H1 Q else Q false H1
def tOr (t u:TT):TT:=fun σ H Q=>t σ H fun c H1=>if c=true then Q true H1 else u σ H1 Q
def tNot (t:TT):TT:=fun σ H Q=>t σ H fun c H1=>Q (!c) H1
theorem pw_and1 (ha:PT X a tA):PW X (.BoolOp .And [a] pos) tA:=by
 intro wh pins s σ H Q I h
 refine isTrue_and (thn (ha pins s σ H Q I h) fun c s1 e=>?_)
 cases c with
 | true=>exact isTrue_and_nil e
 | false=>exact e
theorem pw_or1 (ha:PT X a tA):PW X (.BoolOp .Or [a] pos) tA:=by
 intro wh pins s σ H Q I h
 refine isTrue_or (thn (ha pins s σ H Q I h) fun c s1 e=>?_)
 cases c with
 | false=>exact isTrue_or_nil e
 | true=>exact e
theorem pw_and (ha:PT X a tA) (hb:PW X (.BoolOp .And (b::rest) pos) tB'):PW X (.BoolOp .And (a::b::rest) pos) (tAnd tA tB'):=by
 intro wh pins s σ H Q I h
 refine isTrue_and (thn (ha pins s σ H _ I h) fun c s1 ⟨H1,I1,q1⟩=>?_)
 cases c with
 | true=>exact hb wh pins s1 σ H1 Q I1 q1
 | false=>exact ⟨H1,I1,q1⟩
theorem pw_or (ha:PT X a tA) (hb:PW X (.BoolOp .Or (b::rest) pos) tB'):PW X (.BoolOp .Or (a::b::rest) pos) (tOr tA tB'):=by
 intro wh pins s σ H Q I h
 refine isTrue_or (thn (ha pins s σ H _ I h) fun c s1 ⟨H1,I1,q1⟩=>?_)
 cases c with
 | true=>exact ⟨H1,I1,q1⟩
 | false=>exact hb wh pins s1 σ H1 Q I1 q1
theorem pt_not (ha:PT X a tA):PT X (.UnaryOp .Not a pos) (tNot tA):=by
 intro pins s σ H Q I h
 exact isTrue_not (ha pins s σ H (fun c H1=>Q (!c) H1) I h)
def tAndV (ta tb:TE):TE:=fun σ H Q=>ta σ H fun x H1=>∃ c,x=.bl c/\if c=true then tb σ H1 Q else Q (.bl false) H1
def tNotV (ta:TE):TE:=fun σ H Q=>ta σ H fun x H1=>∃ c,x=.bl c/\Q (.bl (!c)) H1
theorem pe_one {op} {t:TE} (h:PE X a t):PE X (.BoolOp op [a] pos) t:=fun pins s σ H Q I hw=>BoolOp_one (h pins s σ H Q I hw)
theorem pe_and (ha:PE X a ta) (hb:PE X (.BoolOp .And (b::rest) pos) tb):PE X (.BoolOp .And (a::b::rest) pos) (tAndV ta tb):=by
 intro pins s σ H Q I h
 refine BoolOp_and (thn (ha pins s σ H _ I h) fun v s1 ⟨x,H1,I1,r1,q1⟩=>?_)
 obtain ⟨c,rfl,q1⟩:=q1
 cases r1
 refine wpAny_truthy_bool ?_
 cases c with
 | true=>exact hb pins s1 σ H1 Q I1 q1
 | false=>exact ⟨.bl false,H1,I1,rfl,q1⟩
theorem pe_not (ha:PE X a ta):PE X (.UnaryOp .Not a pos) (tNotV ta):=by
 intro pins s σ H Q I h
 refine UnaryOp_ (thn (ha pins s σ H _ I h) fun v s1 ⟨x,H1,I1,r1,q1⟩=>?_)
 obtain ⟨c,rfl,q1⟩:=q1
 cases r1
 exact not_of (wpAny_truthy_bool ⟨.bl (!c),H1,I1,rfl,q1⟩)
def tIf (t:TT) (ta tb:TE):TE:=fun σ H Q=>t σ H fun c H1=>if c=true then ta σ H1 Q else tb σ H1 Q
theorem pe_ifExp {c:Expr} (hc:PT X c tA) (ha:PE X a ta) (hb:PE X b tb):PE X (.IfExp c a b pos) (tIf tA ta tb):=by
 intro pins s σ H Q I h
 refine wpAny_IfExp (thn (hc pins s σ H _ I h) fun d s1 ⟨H1,I1,q1⟩=>?_)
 cases d with
 | true=>exact ha pins s1 σ H1 Q I1 q1
 | false=>exact hb pins s1 σ H1 Q I1 q1
end
end L2
namespace L2
open PySem PySem.Spec PyProof.Rows
def SqL (K:PySem.W.Frag) (H:Hp) (a:Addr) (xs:List V):Prop :=
 Rd H a (.lst xs) \/
  ∃ (o:Obj) (its:Array Value) (n:Nat),K.lookup a=some o/\o.cls=.type "list"/\o.dict=none/\o.data=.seq its n/\its.size <= sizeLine/\Vals xs its.toList
def SqT (K:PySem.W.Frag) (H:Hp) (a:Addr) (xs:List V):Prop :=
 Rd H a (.tup xs) \/
  ∃ (o:Obj) (its:Array Value) (n:Nat),K.lookup a=some o/\o.cls=.type "tuple"/\o.data=.seq its n/\its.size <= sizeLine/\Vals xs its.toList
def absV:Value->Option V
 | .none=>some .non
 | .bool b=>some (.bl b)
 | .int i _=>some (.int i)
 | .str x _=>some (.str x)
 | .bytes b _=>some (.byt b)
 | .float b _=>some (.flt b)
 | .ref a=>some (.ref a)
 | .type n=>some (.ty n)
 | _=>none
theorem RelV.abs {x:V} {u:Value} (r:RelV x u):absV u=some x:=by
 cases x with
 | non=>cases r; rfl
 | bl _=>cases r; rfl
 | int _=>obtain ⟨t,rfl⟩:=r; rfl
 | str _=>obtain ⟨t,rfl⟩:=r; rfl
 | byt _=>obtain ⟨t,rfl⟩:=r; rfl
 | flt _=>obtain ⟨t,rfl⟩:=r; rfl
 | ref _=>cases r; rfl
 | ty _=>cases r; rfl
theorem RelV.inj {x y:V} {u:Value} (r:RelV x u) (q:RelV y u):x=y:=Option.some.inj (r.abs.symm.trans q.abs)
theorem Vals.inj:∀ {xs ys:List V} {us:List Value},Vals xs us->Vals ys us->xs=ys
 | _,_,_,.nil,.nil=>rfl
 | _,_,_,.cons r t,.cons r' t'=>by rw [r.inj r',Vals.inj t t']
section
variable {X:Cx} {pins:List (Addr × Obj)} {σ:St} {H:Hp} {s:Shared} {a:Addr} {xs ys:List V}
theorem SqL.of {K:PySem.W.Frag} (h:H a=some (.lst xs)):SqL K H a xs:=.inl (.inl h)
theorem SqT.of {K:PySem.W.Frag} (h:H a=some (.tup xs)):SqT K H a xs:=.inl (.inl h)
theorem Inv.list (I:Inv X pins σ H s) (h:SqL X.K H a xs):∃ its:List Value,Vals xs its/\PlainL s.heap a its.toArray/\xs.length <= sizeLine:=by
 rcases h with h | ⟨o,its,n,hk,hc,hd,hs,hz,r⟩
 ·obtain ⟨z,its,n,r,e⟩:=h.ok I.hok
  exact ⟨its,r,⟨_,n,e,rfl,rfl,rfl⟩,z⟩
 ·refine ⟨its.toList,r,⟨o,n,I.kIn a o hk,hc,hd,by simpa using hs⟩,?_⟩
  have e:=r.length
  simp only [Array.length_toList] at e
  omega
theorem Inv.tuple (I:Inv X pins σ H s) (h:SqT X.K H a xs):∃ its:List Value,Vals xs its/\IsTup s.heap a its.toArray/\xs.length <= sizeLine:=by
 rcases h with h | ⟨o,its,n,hk,hc,hs,hz,r⟩
 ·obtain ⟨z,its,r,p⟩:=h.ok I.hok
  exact ⟨its,r,p,z⟩
 ·refine ⟨its.toList,r,⟨o,I.kIn a o hk,hc,n,by simpa using hs⟩,?_⟩
  have e:=r.length
  simp only [Array.length_toList] at e
  omega
theorem Inv.list_inj (I:Inv X pins σ H s) (h:SqL X.K H a xs) (h':SqL X.K H a ys):xs=ys:=by
 obtain ⟨its,r,⟨o,n,e,_,_,d⟩,_⟩:=I.list h
 obtain ⟨its',r',⟨o',n',e',_,_,d'⟩,_⟩:=I.list h'
 rw [e] at e'; cases e'
 rw [d] at d'
 injection d' with d1 _
 have:its=its':=by simpa using congrArg Array.toList d1
 subst this
 exact r.inj r'
theorem Inv.tuple_inj (I:Inv X pins σ H s) (h:SqT X.K H a xs) (h':SqT X.K H a ys):xs=ys:=by
 obtain ⟨its,r,⟨o,e,_,n,d⟩,_⟩:=I.tuple h
 obtain ⟨its',r',⟨o',e',_,n',d'⟩,_⟩:=I.tuple h'
 rw [e] at e'; cases e'
 rw [d] at d'
 injection d' with d1 _
 have:its=its':=by simpa using congrArg Array.toList d1
 subst this
 exact r.inj r'
end
abbrev Cx.wish (X:Cx) (E:Value->Shared->Prop):Cx:={ X with xe:=E }
abbrev Cx.nox (X:Cx):Cx:=X.wish fun _ _=>False
theorem Cx.Ok.wish {X:Cx} (ok:X.Ok) (E:Value->Shared->Prop):(X.wish E).Ok :=
 ⟨ok.mod,ok.kind,ok.glob,ok.blt,ok.above,ok.inj,ok.has,ok.cab,ok.hd,ok.frames,ok.stk,ok.exf,ok.bs,ok.bsz,ok.noex,ok.exfs,ok.funs,ok.frf⟩
theorem Cx.Ok.unwish {X:Cx} {E:Value->Shared->Prop} (ok:(X.wish E).Ok):X.Ok :=
 ⟨ok.mod,ok.kind,ok.glob,ok.blt,ok.above,ok.inj,ok.has,ok.cab,ok.hd,ok.frames,ok.stk,ok.exf,ok.bs,ok.bsz,ok.noex,ok.exfs,ok.funs,ok.frf⟩
section
variable {X:Cx} {pins:List (Addr × Obj)} {σ:St} {H:Hp} {s:Shared} {E:Value->Shared->Prop}
theorem Inv.wish (I:Inv X pins σ H s) (E:Value->Shared->Prop):Inv (X.wish E) pins σ H s:=⟨I.ok.wish E,I.os,I.bare,I.base,I.loc,I.cell,I.free,I.freeC,I.pin,I.hok,I.len⟩
theorem Inv.unwish (I:Inv (X.wish E) pins σ H s):Inv X pins σ H s:=⟨I.ok.unwish,I.os,I.bare,I.base,I.loc,I.cell,I.free,I.freeC,I.pin,I.hok,I.len⟩
theorem SP.unwish {D:Ends} {f:Flow} {s':Shared} (h:SP (X.wish E) pins D f s'):SP X pins D f s':=by
 cases f with
 | next=>obtain ⟨σ',H',I,q⟩:=h; exact ⟨σ',H',I.unwish,q⟩
 | brk=>obtain ⟨σ',H',I,q⟩:=h; exact ⟨σ',H',I.unwish,q⟩
 | cont=>obtain ⟨σ',H',I,q⟩:=h; exact ⟨σ',H',I.unwish,q⟩
 | ret u=>obtain ⟨v,σ',H',I,r,q⟩:=h; exact ⟨v,σ',H',I.unwish,r,q⟩
theorem PSs.nox {st:List Stmt} {t:TS} (h:PSs X.nox st t):PSs X st t:=fun pins s σ H D I hw =>
 wpAny_mono (h pins s σ H D (I.wish _) hw) (fun _ _ q=>q.unwish) fun _ _ z=>False.elim z
end
section
variable {X:Cx} {st:Stmt} {rest:List Stmt} {t u:TS} {e:Expr} {te:TE} {pos:Pos}
def tNext:TS:=fun D σ H=>D.nx σ H
def tSeq (t u:TS):TS:=fun D σ H=>t { D with nx:=u D } σ H
theorem pss_nil:PSs X [] tNext:=fun _ _ σ H _ I h=>wpAny_execs_nil ⟨σ,H,I,h⟩
theorem pss_cons (h1:PS X st t) (h2:PSs X rest u):PSs X (st::rest) (tSeq t u):=by
 intro pins s σ H D I h
 refine wpAny_execs_cons (thn (h1 pins s σ H { D with nx:=u D } I h) fun f s1 q=>?_)
 cases f with
 | next =>
  obtain ⟨σ',H',I',q⟩:=q
  exact h2 pins s1 σ' H' D I' q
 | ret v=>exact q
 | brk=>exact q
 | cont=>exact q
theorem pss_one (h1:PS X st t):PSs X [st] t:=by
 intro pins s σ H D I h
 refine wpAny_execs_cons (thn (h1 pins s σ H D I h) fun f s1 q=>?_)
 cases f with
 | next=>exact wpAny_execs_nil q
 | ret v=>exact q
 | brk=>exact q
 | cont=>exact q
theorem Inv.quiet {pins:List (Addr × Obj)} {σ:St} {H:Hp} {s:Shared} (I:Inv X pins σ H s):interactive X.env=false:=by simp [interactive,I.ok.kind]
def tDrop (te:TE):TS:=fun D σ H=>te σ H fun _ H1=>D.nx σ H1
theorem ps_expr (he:PE X e te) (hs:swapsWith e none pos.line X.env=pure false:=by rfl):PS X (.Expr e pos) (tDrop te):=by
 intro pins s σ H D I h
 exact wpAny_Expr_any (thn (he pins s σ H _ I h) fun v s1 ⟨x,H1,I1,r1,q1⟩=>⟨σ,H1,I1,q1⟩) I.quiet hs
def tRet (te:TE):TS:=fun D σ H=>te σ H D.rt
theorem ps_ret (he:PE X e te):PS X (.Return (some e) pos) (tRet te):=by
 intro pins s σ H D I h
 exact wpAny_Return_some (thn (he pins s σ H _ I h) fun v s1 ⟨x,H1,I1,r1,q1⟩=>⟨x,σ,H1,I1,r1,q1⟩)
def tIfS (c:TT) (t u:TS):TS:=fun D σ H=>c σ H fun b H1=>if b=true then t D σ H1 else u D σ H1
theorem ps_if {c:Expr} {a b:List Stmt} {tc:TT} (hc:PT X c tc) (ha:PSs X a t) (hb:PSs X b u):PS X (.If c a b pos) (tIfS tc t u):=by
 intro pins s σ H D I h
 refine wpAny_If (thn (hc pins s σ H _ I h) fun d s1 ⟨H1,I1,q1⟩=>?_)
 cases d with
 | true=>exact ha pins s1 σ H1 D I1 q1
 | false=>exact hb pins s1 σ H1 D I1 q1
def tNever:TS:=fun _ _ _=>False
theorem pss_never {sts:List Stmt}:PSs X sts tNever:=fun _ _ _ _ _ _ h=>h.elim
end
abbrev TG:=V->St->Hp->(St->Hp->Prop)->Prop
abbrev TGs:=List V->St->Hp->(St->Hp->Prop)->Prop
def PG (X:Cx) (target:Expr) (t:TG):Prop :=
 ∀ (pins:List (Addr × Obj)) (s:Shared) (σ:St) (H:Hp) (v:V) (u:Value) (Q:St->Hp->Prop),Inv X pins σ H s->RelV v u->t v σ H Q ->
  wpAny (model X.prog X.w) X.A (assign target X.env u) (fun _ s'=>∃ σ' H',Inv X pins σ' H' s'/\Q σ' H') X.xe s
def PGs (X:Cx) (ts:List Expr) (t:TGs):Prop :=
 ∀ (pins:List (Addr × Obj)) (s:Shared) (σ:St) (H:Hp) (vs:List V) (us:List Value) (Q:St->Hp->Prop),Inv X pins σ H s->Vals vs us->t vs σ H Q ->
  wpAny (model X.prog X.w) X.A (assignInOrder ((assignEach ts X.env).map (·.2)) us) (fun _ s'=>∃ σ' H',Inv X pins σ' H' s'/\Q σ' H') X.xe s
abbrev TSet:=V->V->V->Hp->(Hp->Prop)->Prop
def PSet (X:Cx) (t:TSet):Prop :=
 ∀ (pins:List (Addr × Obj)) (s:Shared) (σ:St) (H:Hp) (o i v:V) (ov iv u:Value) (Q:Hp->Prop),Inv X pins σ H s->RelV o ov->RelV i iv->RelV v u->t o i v H Q ->
  wpAny (model X.prog X.w) X.A (setItem ov iv u) (fun _ s'=>∃ H',Inv X pins σ H' s'/\Q H') X.xe s
section
variable {X:Cx} {pos:Pos}
def gName (i:Nat):TG:=fun v σ H Q=>Q (σ.set i (some v)) H
theorem pg_name {i:Nat} {x:Str} (hN:X.N.Nodup) (hi:X.N[i]? = some x) (hx:Loc X.env.scope x) (hf:X.fn x=true\/X.env.scope.names.lookup x=some .local:=by first | exact .inl rfl | exact .inr rfl | assumption):PG X (.Name x pos) (gName i):=by
 intro pins s σ H v u Q I r h
 exact wpAny_assign_Name (store_ok I hN hi hx r (fun s' I'=>⟨_,H,I',h⟩) hf)
def gNil:TGs:=fun vs σ H Q=>vs=[]/\Q σ H
def gCons (t:TG) (u:TGs):TGs:=fun vs σ H Q=>∃ v r,vs=v::r/\t v σ H fun σ' H'=>u r σ' H' Q
theorem pgs_nil:PGs X [] gNil:=by
 intro pins s σ H vs us Q I r h
 obtain ⟨e,h⟩:=h
 subst e
 cases r
 exact assignInOrder_nil ⟨σ,H,I,h⟩
theorem pgs_cons {e:Expr} {es:List Expr} {t:TG} {u:TGs} (h1:PG X e t) (h2:PGs X es u)
  (hs:(assignEach (e::es) X.env).map (·.2)=assign e X.env::(assignEach es X.env).map (·.2):=by rfl):PGs X (e::es) (gCons t u):=by
 intro pins s σ H vs us Q I r h
 obtain ⟨v,vr,e1,h⟩:=h
 subst e1
 cases r with
 | cons r rr =>
  rw [hs]
  refine assignInOrder_cons (thn (h1 pins s σ H _ _ _ I r h) fun _ s1 ⟨σ1,H1,I1,q1⟩=>?_)
  exact h2 pins s1 σ1 H1 _ _ Q I1 rr q1
def gTup (K:PySem.W.Frag) (n:Nat) (t:TGs):TG:=fun v σ H Q=>∃ a xs,v=.ref a/\SqT K H a xs/\xs.length=n/\t xs σ H Q
theorem pg_tup {es:List Expr} {k:Nat} {t:TGs} {n:Nat} (hc:X.calm=true) (h:PGs X es t)
  (hn:(assignEach es X.env).length=n:=by rfl) (hst:(assignEach es X.env).findIdx? (·.1)=none:=by rfl):PG X (.Tuple es k pos) (gTup X.K n t):=by
 intro pins s σ H v u Q I r hw
 obtain ⟨a,xs,e1,hq,hl,hw⟩:=hw
 subst e1
 cases r
 obtain ⟨its,rv,ht,hz⟩:=I.tuple hq
 refine assign_Tuple_tuple (I.ok.hd hc) ht (by simp [hn,<- hl,rv.length]) hst fun h' hx=>?_
 have I1:Inv X pins σ H { s with heap:=h' }:=I.kept (t':=s.toks) fun b o e=>hx b o (Nat.ne_of_lt (Heap.lt_size e)) e
 exact h pins _ σ H xs _ Q I1 (by simpa using rv) hw
def gSub (to ti:TE) (t:TSet):TG:=fun v σ H Q=>to σ H fun o H1=>ti σ H1 fun i H2=>t o i v H2 fun H3=>Q σ H3
theorem pg_sub {o i:Expr} {to ti:TE} {t:TSet} (ho:PE X o to) (hi:PE X i ti) (hs:PSet X t)
  (ha:∀ v,assign (.Subscript o i pos) X.env v=(do
   let ov <- holding [v] (eval o X.env)
   let iv <- holding [v,ov] (eval i X.env)
   standAt pos
   holding [v,ov,iv] (setItem ov iv v)
   release [v,ov,iv] []):=by intro _; rfl):PG X (.Subscript o i pos) (gSub to ti t):=by
 intro pins s σ H v u Q I r h
 rw [ha]
 refine wpAny_bind (wpAny_holding (thn (ho pins s σ H _ I h) fun ov s1 ⟨x,H1,I1,r1,q1⟩=>?_))
 refine wpAny_bind (wpAny_holding (thn (hi pins s1 σ H1 _ I1 q1) fun iv s2 ⟨y,H2,I2,r2,q2⟩=>?_))
 refine wpAny_bind (wpAny_standAt (wpAny_bind (wpAny_holding (thn (hs pins s2 σ H2 x y v ov iv u _ I2 r1 r2 r q2) fun _ s3 ⟨H3,I3,q3⟩=>?_))))
 exact wpAny_release ⟨σ,H3,I3,q3⟩
def tAsg (te:TE) (g:TG):TS:=fun D σ H=>te σ H fun x H1=>g x σ H1 D.nx
theorem ps_asg {tg e:Expr} {te:TE} {g:TG} (he:PE X e te) (hg:PG X tg g) (hs:swapsWithSole [tg] e pos.line X.env=pure false:=by rfl) (hw:swappedStores [tg] e X.env=pure none:=by rfl)
  (h1:(assignEach [tg] X.env).map (·.2)=[assign tg X.env]:=by rfl):PS X (.Assign [tg] e pos) (tAsg te g):=by
 intro pins s σ H D I h
 refine wpAny_Assign_stores (thn (he pins s σ H _ I h) fun v s1 ⟨x,H1,I1,r1,q1⟩=>?_) hs hw
 rw [h1]
 exact thn (hg pins s1 σ H1 x v _ I1 r1 q1) fun _ s2 q=>q
theorem ps_set {i:Nat} {x:Str} {e:Expr} {te:TE} {pos':Pos} (hN:X.N.Nodup) (hi:X.N[i]? = some x) (hx:Loc X.env.scope x) (he:PE X e te) (hs:swapsWith e (some (.Name x pos')) pos.line X.env=pure false:=by rfl) (hf:X.fn x=true\/X.env.scope.names.lookup x=some .local:=by first | exact .inl rfl | exact .inr rfl | assumption) :
  PS X (.Assign [.Name x pos'] e pos) (tAsg te (gName i)):=by
 intro pins s σ H D I h
 refine wpAny_Assign_Name (thn (he pins s σ H _ I h) fun v s1 ⟨y,H1,I1,r1,q1⟩=>?_) hs
 exact store_ok I1 hN hi hx r1 (fun s2 I2=>⟨_,H1,I2,q1⟩) hf
end
section
variable {X:Cx} {pos:Pos}
def tWhile (c:TT) (tb:TS):TS:=fun D σ H=>∃ W:Nat->St->Hp->Prop,(∃ m,W m σ H)/\∀ m σ H,W m σ H ->
 c σ H fun b H1=>if b=true then ∃ N:St->Hp->Prop,(∀ σ' H',N σ' H'->∃ m',m' < m/\W m' σ' H')/\tb { D with nx:=N,ct:=N,bk:=D.nx } σ H1 else D.nx σ H1
theorem ps_while {c:Expr} {body:List Stmt} {tc:TT} {tb:TS} (hp:PassesOwn (model X.prog X.w) X.A X.env X.xe) (hc:PT X c tc) (hb:PSs X body tb):PS X (.While c body [] pos) (tWhile tc tb):=by
 intro pins s σ H D I h
 obtain ⟨W,⟨m0,w0⟩,turn⟩:=h
 refine wpAny_While (codeAny_whileLoop (fun n s'=>∃ σ' H',Inv X pins σ' H' s'/\W n σ' H') ?_ m0 ⟨σ,H,I,w0⟩)
 rintro n s1 ⟨σ1,H1,I1,w1⟩
 refine wpAny_passesOwn hp (thn (hc pins s1 σ1 H1 _ I1 (turn n σ1 H1 w1)) fun b s2 ⟨H2,I2,q2⟩=>?_)
 cases b with
 | true =>
  obtain ⟨N,hN,q2⟩:=q2
  rw [if_pos rfl]
  refine wpAny_passesOwn hp (thn (hb pins s2 σ1 H2 _ I2 q2) fun f s3 q3=>?_)
  cases f with
  | next =>
   obtain ⟨σ3,H3,I3,n3⟩:=q3
   obtain ⟨m',hm,w3⟩:=hN σ3 H3 n3
   exact ⟨m',hm,σ3,H3,I3,w3⟩
  | cont =>
   obtain ⟨σ3,H3,I3,n3⟩:=q3
   obtain ⟨m',hm,w3⟩:=hN σ3 H3 n3
   exact ⟨m',hm,σ3,H3,I3,w3⟩
  | brk=>exact q3
  | ret v=>exact q3
 | false =>
  rw [if_neg Bool.false_ne_true]
  exact wpAny_execs_nil ⟨σ1,H2,I2,q2⟩
end
structure It where
 go:Nat->Hp->Prop
 yld:Nat->Hp->V->Hp->Prop
 stop:Nat->Hp->Prop
def FpOk (X:Cx) (pins:List (Addr × Obj)) (H:Hp) (b:Addr):Prop :=
 H b=none/\b ≠ X.env.locals/\b ∉ X.fs/\(b ∈ X.ex\/X.s₀.heap.objs.size <= b)/\(∀ x c,X.env.cells.lookup x=some c->c ≠ b)/\∀ p ∈ X.pn ++ pins,p.1 ≠ b
theorem Inv.fpOk {X:Cx} {pins:List (Addr × Obj)} {σ:St} {H H':Hp} {s:Shared} {b:Addr} (I:Inv X pins σ H s) (hb:s.heap.objs.size <= b) (hn:H' b=none):FpOk X pins H' b:=by
 refine ⟨hn,Nat.ne_of_gt (Nat.lt_of_lt_of_le I.lt hb),I.nofs hb,.inr (Nat.le_trans I.sz hb),fun x c e z=>?_,fun p hp z=>?_⟩
 ·obtain ⟨v,q⟩:=I.cell x c e
  exact absurd (Nat.lt_of_lt_of_le q.lt (by rw [z]; exact hb)) (Nat.lt_irrefl _)
 ·exact absurd (Nat.lt_of_lt_of_le (Heap.lt_size (I.pin p hp).1) (by rw [z]; exact hb)) (Nat.lt_irrefl _)
structure Turn (P:Program) (w:World) (K:PySem.W.Frag) (tg:Expr) (J:It) (fp:List Addr) (it:Addr) (tn:Nat->Heap->Prop):Prop where
 mem:it ∈ fp
 obj:∀ i h,tn i h->∀ b ∈ fp,∃ o,h.get? b=some o/\∀ v,o.data ≠ .cell v
 keep:∀ i h h',tn i h->(∀ b ∈ fp,∀ o,h.get? b=some o->h'.get? b=some o)->tn i h'
 item:∀ (X:Cx),X.prog=P->X.w=w->X.K=K->X.calm=true->∀ (i:Nat) (pins:List (Addr × Obj)) (s:Shared) (σ:St) (H:Hp) (E:Value->Shared->Prop),Inv X pins σ H s->(∀ b ∈ fp,FpOk X pins H b)->tn i s.heap->J.go i H ->
  wpAny (model P w) X.A (pyNext (.ref it)) (fun r s1=>∃ u,r=some u /\
   wpAny (model P w) X.A (letOwnedTupleGo tg (.ref it) u) (fun _ s2=>∃ x H',Inv X pins σ H' s2/\RelV x u/\J.yld i H x H'/\tn (i + 1) s2.heap/\∀ b ∈ fp,H' b=none) E s1) E s
 done:∀ (X:Cx),X.prog=P->X.w=w->X.K=K->X.calm=true->∀ (i:Nat) (pins:List (Addr × Obj)) (s:Shared) (σ:St) (H:Hp) (E:Value->Shared->Prop),Inv X pins σ H s->(∀ b ∈ fp,FpOk X pins H b)->tn i s.heap->J.stop i H ->
  wpAny (model P w) X.A (pyNext (.ref it)) (fun r s1=>r=none/\Inv X pins σ H s1) E s
 self:∀ (A:Around) (i:Nat) (s:Shared) (Q:Value->Shared->Prop) (E:Value->Shared->Prop),tn i s.heap->Q (.ref it) s->wpAny (model P w) A (pyIter (.ref it)) Q E s
abbrev TI:=St->Hp->(It->Hp->Prop)->Prop
def PIE (X:Cx) (pins:List (Addr × Obj)) (σ:St) (tg:Expr) (R:It->Hp->Prop) (itv:Value) (s2:Shared):Prop :=
 ∃ (it:Addr) (fp:List Addr) (tn:Nat->Heap->Prop) (J:It) (H':Hp),itv=.ref it/\Inv X pins σ H' s2/\Turn X.prog X.w X.K tg J fp it tn/\tn 0 s2.heap/\(∀ b ∈ fp,FpOk X pins H' b)/\R J H'
def PI (X:Cx) (tg iter:Expr) (wi:TI):Prop :=
 ∀ (pins:List (Addr × Obj)) (s:Shared) (σ:St) (H:Hp) (R:It->Hp->Prop),Inv X pins σ H s->wi σ H R ->
  wpAny (model X.prog X.w) X.A (eval iter X.env) (fun v s1=>wpAny (model X.prog X.w) X.A (pyIter v) (PIE X pins σ tg R) X.xe s1) X.xe s
theorem go_of {M:Model} {A:Around} {E:Value->Shared->Prop} {s:Shared} {tg:Expr} {it:Addr} {u:Value} {o:Obj} {n:String} {vs:Array Value} {Q:Unit->Shared->Prop} (ho:s.heap.get? it=some o) (hc:o.cls=.type n) (hd:o.data=.fields vs)
  (hn:["enumerate","zip","dict_itemiterator","dict_reverseitemiterator","odict_iterator","itertools.zip_longest","itertools.pairwise"].contains n=false) (hQ:Q () s):wpAny M A (letOwnedTupleGo tg (.ref it) u) Q E s:=by
 unfold letOwnedTupleGo
 cases tg <;> first
  | exact wpAny_pure hQ
  | (cases u <;> first
    | exact wpAny_pure hQ
    | (refine wpAny_bind (wpAny_load ho ?_)
       rw [hc,hd]
       show wpAny M A (if (["enumerate","zip","dict_itemiterator","dict_reverseitemiterator","odict_iterator","itertools.zip_longest","itertools.pairwise"].contains n && vs[0]? == some (rawInt _))=true then _ else _) Q E s
       rw [if_neg (by intro h; rw [hn,Bool.false_and] at h; cases h)]
       exact wpAny_pure hQ))
def Itl (K:PySem.W.Frag) (a:Addr):It :=
 ⟨fun i H=>∃ xs x,SqL K H a xs/\xs[i]? = some x,fun i H x H'=>H'=H/\∀ xs,SqL K H a xs->xs[i]? = some x,fun i H=>∃ xs,SqL K H a xs/\xs.length <= i⟩
def Itt (K:PySem.W.Frag) (a:Addr):It :=
 ⟨fun i H=>∃ xs x,SqT K H a xs/\xs[i]? = some x,fun i H x H'=>H'=H/\∀ xs,SqT K H a xs->xs[i]? = some x,fun i H=>∃ xs,SqT K H a xs/\xs.length <= i⟩
def Itr (lo:Int) (n:Nat):It:=⟨fun i _=>i < n,fun i H x H'=>H'=H/\x=.int (lo + i),fun i _=>n <= i⟩
theorem turn_list {P:Program} {w:World} {K:PySem.W.Frag} {tg:Expr} (a it:Addr):Turn P w K tg (Itl K a) [it] it (fun i h=>h.IsListIter it a i) where
 mem:=by simp
 obj:=fun i h st b hb=>by
  have e:b=it:=by simpa using hb
  subst e
  obtain ⟨o,e,c,d⟩:=st
  exact ⟨o,e,fun v z=>by rw [d] at z; cases z⟩
 keep:=fun i h h' st k=>st.at fun o e=>k it (by simp) o e
 item:=by
  intro X hP hw hK hc i pins s σ H E I hf st hg
  subst hP hw hK
  obtain ⟨xs,x,hq,hx⟩:=hg
  obtain ⟨its,rv,p,hz⟩:=I.list hq
  obtain ⟨u,hu,ru⟩:=rv.get hx
  obtain ⟨f0,f1,f2,f3,f4,f5⟩:=hf it (by simp)
  refine wpAny_pyNext_list_item st p.isList (x:=u) (by simpa using hu) fun h' st' sb=>?_
  have I1:Inv X pins σ H { s with heap:=h' }:=I.turned (t':=s.toks) (fun b o hb e=>(sb.2 b hb).trans e) f0 f1 f3 f4 f5
  obtain ⟨o,e,c,d⟩:=id st'
  exact ⟨u,rfl,go_of (s:={ s with heap:=h' }) e c d (by decide) ⟨x,H,I1,ru,⟨rfl,fun ys hy=>by rw [I.list_inj hy hq]; exact hx⟩,st',fun b hb=>(hf b hb).1⟩⟩
 done:=by
  intro X hP hw hK hc i pins s σ H E I hf st hg
  subst hP hw hK
  obtain ⟨xs,hq,hx⟩:=hg
  obtain ⟨its,rv,p,hz⟩:=I.list hq
  obtain ⟨f0,f1,f2,f3,f4,f5⟩:=hf it (by simp)
  have hl:=rv.length
  exact wpAny_pyNext_list_end (I.ok.hd hc) st p.isList (by simp; omega) fun h' eb=>⟨rfl,I.turned (t':=s.toks) (fun b o hb e=>eb b o hb e) f0 f1 f3 f4 f5⟩
 self:=fun _ _ _ _ _ st h=>wpAny_pyIter_listiter st h
theorem turn_tuple {P:Program} {w:World} {K:PySem.W.Frag} {tg:Expr} (a it:Addr):Turn P w K tg (Itt K a) [it] it (fun i h=>h.IsTupleIter it a i) where
 mem:=by simp
 obj:=fun i h st b hb=>by
  have e:b=it:=by simpa using hb
  subst e
  obtain ⟨o,e,c,d⟩:=st
  exact ⟨o,e,fun v z=>by rw [d] at z; cases z⟩
 keep:=fun i h h' st k=>st.at fun o e=>k it (by simp) o e
 item:=by
  intro X hP hw hK hc i pins s σ H E I hf st hg
  subst hP hw hK
  obtain ⟨xs,x,hq,hx⟩:=hg
  obtain ⟨its,rv,p,hz⟩:=I.tuple hq
  obtain ⟨u,hu,ru⟩:=rv.get hx
  obtain ⟨f0,f1,f2,f3,f4,f5⟩:=hf it (by simp)
  refine wpAny_pyNext_tuple_item st (show s.heap.IsTuple a its.toArray from p) (x:=u) (by simpa using hu) fun h' st' sb=>?_
  have I1:Inv X pins σ H { s with heap:=h' }:=I.turned (t':=s.toks) (fun b o hb e=>(sb.2 b hb).trans e) f0 f1 f3 f4 f5
  obtain ⟨o,e,c,d⟩:=id st'
  exact ⟨u,rfl,go_of (s:={ s with heap:=h' }) e c d (by decide) ⟨x,H,I1,ru,⟨rfl,fun ys hy=>by rw [I.tuple_inj hy hq]; exact hx⟩,st',fun b hb=>(hf b hb).1⟩⟩
 done:=by
  intro X hP hw hK hc i pins s σ H E I hf st hg
  subst hP hw hK
  obtain ⟨xs,hq,hx⟩:=hg
  obtain ⟨its,rv,p,hz⟩:=I.tuple hq
  obtain ⟨f0,f1,f2,f3,f4,f5⟩:=hf it (by simp)
  have hl:=rv.length
  exact wpAny_pyNext_tuple_end (I.ok.hd hc) st (show s.heap.IsTuple a its.toArray from p) (by simp; omega) fun h' eb=>⟨rfl,I.turned (t':=s.toks) (fun b o hb e=>eb b o hb e) f0 f1 f3 f4 f5⟩
 self:=fun _ _ _ _ _ st h=>wpAny_pyIter_tupleiter st h
theorem turn_range {P:Program} {w:World} {K:PySem.W.Frag} {tg:Expr} (it:Addr) (lo:Int) (n:Nat):Turn P w K tg (Itr lo n) [it] it (fun i h=>IsRangeIter h it (lo + (i:Nat) * 1) ((n:Int) - (i:Nat)) 1) where
 mem:=by simp
 obj:=fun i h st b hb=>by
  have e:b=it:=by simpa using hb
  subst e
  exact ⟨_,st,fun v z=>by
   have z':Data.fields _=Data.cell v:=z
   cases z'⟩
 keep:=fun i h h' st k=>k it (by simp) _ st
 item:=by
  intro X hP hw hK hc i pins s σ H E I hf st hg
  subst hP hw hK
  obtain ⟨f0,f1,f2,f3,f4,f5⟩:=hf it (by simp)
  have W:=Walks.range (prog:=X.prog) (w:=X.w) (I.ok.hd hc) it lo 1 n
  refine W.item i s _ _ hg st fun v h' tk hv st' kk=>?_
  obtain ⟨t,rfl⟩:=hv
  have I1:Inv X pins σ H { s with heap:=h',toks:=tk }:=I.turned (fun b o hb e=>kk b o (by simpa using hb) e) f0 f1 f3 f4 f5
  refine ⟨_,rfl,go_of (s:={ s with heap:=h',toks:=tk }) (n:="range_iterator") st' rfl rfl (by decide) ⟨.int (lo + i),H,I1,⟨t,?_⟩,⟨rfl,rfl⟩,st',fun b hb=>(hf b hb).1⟩⟩
  rw [Int.mul_one]
 done:=by
  intro X hP hw hK hc i pins s σ H E I hf st hg
  subst hP hw hK
  obtain ⟨f0,f1,f2,f3,f4,f5⟩:=hf it (by simp)
  exact wpAny_pyNext_range_end (I.ok.hd hc) st (by have:n <= i:=hg; omega) fun h' eb=>⟨rfl,I.turned (t':=s.toks) (fun b o hb e=>eb b o hb e) f0 f1 f3 f4 f5⟩
 self:=fun _ _ _ _ _ st h=>wpAny_pyIter_rangeiter st h
end L2
namespace L2
open PySem PySem.Spec PyProof.Rows
section
variable {X:Cx} {tg:Expr}
def iList (K:PySem.W.Frag) (tl:TE):TI:=fun σ H R=>tl σ H fun x H1=>∃ a,x=.ref a/\(∃ xs,SqL K H1 a xs)/\R (Itl K a) H1
def iTup (K:PySem.W.Frag) (tl:TE):TI:=fun σ H R=>tl σ H fun x H1=>∃ a,x=.ref a/\(∃ xs,SqT K H1 a xs)/\R (Itt K a) H1
theorem pi_list {l:Expr} {tl:TE} (hl:PE X l tl):PI X tg l (iList X.K tl):=by
 intro pins s σ H R I h
 refine thn (hl pins s σ H _ I h) fun v s1 ⟨x,H1,I1,r1,q1⟩=>?_
 obtain ⟨a,e,⟨xs,hq⟩,q⟩:=q1
 subst e
 cases r1
 obtain ⟨its,rv,p,hz⟩:=I1.list hq
 refine wpAny_pyIter_list p.isList ?_
 refine ⟨s1.heap.objs.size,[s1.heap.objs.size],_,_,H1,rfl,I1.kept (t':=s1.toks) fun b o e=>Heap.get?_push_of_some _ e,turn_list a _,⟨_,Heap.get?_push_size _ rfl,rfl,rfl⟩,fun b hb=>?_,q⟩
 have e:b=s1.heap.objs.size:=by simpa using hb
 subst e
 exact I1.fpOk (Nat.le_refl _) (I1.hok.fresh (Nat.le_refl _))
theorem pi_tup {l:Expr} {tl:TE} (hl:PE X l tl):PI X tg l (iTup X.K tl):=by
 intro pins s σ H R I h
 refine thn (hl pins s σ H _ I h) fun v s1 ⟨x,H1,I1,r1,q1⟩=>?_
 obtain ⟨a,e,⟨xs,hq⟩,q⟩:=q1
 subst e
 cases r1
 obtain ⟨its,rv,p,hz⟩:=I1.tuple hq
 refine wpAny_pyIter_tuple (show s1.heap.IsTuple a its.toArray from p) ?_
 refine ⟨s1.heap.objs.size,[s1.heap.objs.size],_,_,H1,rfl,I1.kept (t':=s1.toks) fun b o e=>Heap.get?_push_of_some _ e,turn_tuple a _,⟨_,Heap.get?_push_size _ rfl,rfl,rfl⟩,fun b hb=>?_,q⟩
 have e:b=s1.heap.objs.size:=by simpa using hb
 subst e
 exact I1.fpOk (Nat.le_refl _) (I1.hok.fresh (Nat.le_refl _))
theorem range_it {pins:List (Addr × Obj)} {σ:St} {H:Hp} {s:Shared} {R:It->Hp->Prop} {E:Value->Shared->Prop} {lo hi:Int} {t u v:Tok} {tk:Nat} (I:Inv X pins σ H s) (h1:-(2 ^ 62) <= lo) (h2:lo < 2 ^ 62) (h3:-(2 ^ 62) <= hi) (h4:hi < 2 ^ 62)
  (q:R (Itr lo (hi - lo).toNat) H):wpAny (model X.prog X.w) X.A (pyIter (.ref s.heap.objs.size)) (PIE X pins σ tg R) E { s with heap:=s.heap.push { cls:=.type "range",data:=.fields #[.int lo t,.int hi u,.int 1 v] },toks:=tk }:=by
 refine wpAny_pyIter_range (IsRange.new ..) (small_one h1 h2 h3 h4) ?_
 have I1:Inv X pins σ H { s with heap:=s.heap.push { cls:=.type "range",data:=.fields #[.int lo t,.int hi u,.int 1 v] },toks:=tk }:=I.kept fun b o e=>Heap.get?_push_of_some _ e
 refine ⟨(s.heap.push { cls:=.type "range",data:=.fields #[.int lo t,.int hi u,.int 1 v] }).objs.size,[(s.heap.push { cls:=.type "range",data:=.fields #[.int lo t,.int hi u,.int 1 v] }).objs.size],_,_,H,rfl,
  I1.kept (t':=tk) fun b o e=>Heap.get?_push_of_some _ e,turn_range _ lo (hi - lo).toNat,?_,fun b hb=>?_,q⟩
 ·have e1:lo + ((0:Nat):Int) * 1=lo:=by simp
  have e2:(((hi - lo).toNat:Nat):Int) - ((0:Nat):Int)=Builtin.Range.rangeSize lo hi 1:=by rw [rangeSize_one]; split <;> omega
  show IsRangeIter _ _ (lo + ((0:Nat):Int) * 1) ((((hi - lo).toNat:Nat):Int) - ((0:Nat):Int)) 1
  rw [e1,e2]
  exact Heap.get?_push_size _ rfl
 ·have e:b=(s.heap.push { cls:=.type "range",data:=.fields #[.int lo t,.int hi u,.int 1 v] }).objs.size:=by simpa using hb
  subst e
  exact I1.fpOk (Nat.le_refl _) (I1.hok.fresh (Nat.le_refl _))
def iRng1 (ta:TA):TI:=fun σ H R=>ta σ H fun vs H1=>∃ j:Int,vs=[.int j]/\-(2 ^ 62) <= j/\j < 2 ^ 62/\R (Itr 0 j.toNat) H1
theorem pi_range1 {a:Expr} {ta:TA} {p pos:Pos} (hg:Gl X "range") (hm:X.mg "range"=none) (ha:PA X [a] ta) (hs:starEach [a] X.env=[(false,eval a X.env)]:=by rfl):PI X tg (.Call (.Name "range" p) [a] [] pos) (iRng1 ta):=by
 intro pins s σ H R I h
 refine Call_ (ld_blt I hg hm boot_range (PyProof.Rows.callWith_type1 (thn (ha pos pins s σ H _ I h) fun us s1 ⟨vs,H1,I1,r1,q1⟩=>?_) hs rfl))
 obtain ⟨j,e,q1,q2,q⟩:=q1
 subst e
 cases r1 with
 | cons r rr =>
  cases rr
  obtain ⟨t,rfl⟩:=r
  exact call_range_1 (range_it I1 (by omega) (by omega) q1 q2 (by simpa using q))
def tFor (wi:TI) (g:TG) (tb:TS):TS:=fun D σ H=>wi σ H fun J H1=>∃ W:Nat->Nat->St->Hp->Prop,(∃ m,W 0 m σ H1)/\∀ i m σ H,W i m σ H ->
 (J.stop i H/\D.nx σ H)\/(J.go i H/\∃ N:St->Hp->Prop,(∀ σ' H',N σ' H'->∃ m',m' < m/\W (i + 1) m' σ' H')/\∀ x H',J.yld i H x H'->g x σ H' fun σ2 H2=>tb { D with nx:=N,ct:=N,bk:=D.nx } σ2 H2)
def pinsAt (fp:List Addr) (h:Heap):List (Addr × Obj):=fp.filterMap fun b=>(h.get? b).map fun o=>(b,o)
theorem mem_pinsAt {fp:List Addr} {h:Heap} {b:Addr} {o:Obj} (hb:b ∈ fp) (e:h.get? b=some o):(b,o) ∈ pinsAt fp h:=List.mem_filterMap.mpr ⟨b,hb,by rw [e]; rfl⟩
theorem of_pinsAt {fp:List Addr} {h:Heap} {p:Addr × Obj} (hp:p ∈ pinsAt fp h):p.1 ∈ fp/\h.get? p.1=some p.2:=by
 obtain ⟨b,hb,e⟩:=List.mem_filterMap.mp hp
 cases q:h.get? b with
 | none=>rw [q] at e; cases e
 | some o =>
  rw [q] at e
  have e':(b,o)=p:=Option.some.inj e
  subst e'
  exact ⟨hb,q⟩
theorem Inv.pinned {pins:List (Addr × Obj)} {σ:St} {H:Hp} {s:Shared} {fp:List Addr} (I:Inv X pins σ H s) (hf:∀ b ∈ fp,FpOk X pins H b) (ho:∀ b ∈ fp,∃ o,s.heap.get? b=some o/\∀ v,o.data ≠ .cell v):Inv X (pins ++ pinsAt fp s.heap) σ H s :=
 I.pins_of fun p hp=>(List.mem_append.mp hp).elim (fun z=>I.pin p (List.mem_append_right _ z)) fun z=>by
  obtain ⟨hb,e⟩:=of_pinsAt z
  obtain ⟨f0,f1,f2,_⟩:=hf p.1 hb
  obtain ⟨o,e',d⟩:=ho p.1 hb
  rw [e] at e'; cases e'
  exact ⟨e,f0,f1,f2,d⟩
theorem Inv.unpinned {pins pl:List (Addr × Obj)} {σ:St} {H:Hp} {s:Shared} (I:Inv X (pins ++ pl) σ H s):Inv X pins σ H s:=I.pins_of fun p hp=>I.pin p (List.mem_append_right _ (List.mem_append_left _ hp))
theorem ps_for {iter:Expr} {body:List Stmt} {wi:TI} {g:TG} {tb:TS} {pos:Pos} (hp:PassesOwn (model X.prog X.w) X.A X.env X.xe) (hc:X.calm=true) (hi:PI X tg iter wi) (hg:PG X tg g) (hb:PSs X body tb)
  (hs:∀ x,foldedSetIterable iter X.env x=pure x:=by intro _; rfl):PS X (.For tg iter body [] pos) (tFor wi g tb):=by
 intro pins s σ H D I h
 refine wpAny_For (thn (hi pins s σ H _ I h) fun v s1 h1=>thn h1 fun itv s2 h2=>?_) hs
 obtain ⟨it,fp,tn,J,H2,e,I2,T,st2,f2,W,⟨m0,w0⟩,turn⟩:=h2
 subst e
 have stat:∀ {H':Hp},(∀ b ∈ fp,H' b=none)->∀ b ∈ fp,FpOk X pins H' b:=fun hn b hb=>⟨hn b hb,(f2 b hb).2⟩
 refine codeAny_forLoop_any (fun n s'=>∃ i σ' H',Inv X pins σ' H' s'/\tn i s'.heap/\(∀ b ∈ fp,H' b=none)/\W i n σ' H') ?_ m0 ⟨0,σ,H2,I2,st2,fun b hb=>(f2 b hb).1,w0⟩
 rintro n s3 ⟨i,σ3,H3,I3,st3,fr3,w3⟩
 rcases turn i n σ3 H3 w3 with ⟨stop,qn⟩ | ⟨go,N,hN,step⟩
 ·refine wpAny_passesOwn hp (thn (T.done X rfl rfl rfl hc i pins s3 σ3 H3 X.xe I3 (stat fr3) st3 stop) fun r s4 ⟨hr,I4⟩=>?_)
  subst hr
  exact wpAny_execs_nil ⟨σ3,H3,I4,qn⟩
 ·refine wpAny_passesOwn hp (thn (T.item X rfl rfl rfl hc i pins s3 σ3 H3 X.xe I3 (stat fr3) st3 go) fun r s4 ⟨u,hr,h4⟩=>?_)
  subst hr
  refine wpAny_passesOwn hp (thn h4 fun _ s5 ⟨x,H5,I5,r5,y5,st5,fr5⟩=>?_)
  have I5':=I5.pinned (stat fr5) (T.obj _ _ st5)
  refine wpAny_passesOwn hp (thn (hg _ s5 σ3 H5 x u _ I5' r5 (step x H5 y5)) fun _ s6 ⟨σ6,H6,I6,q6⟩=>?_)
  refine wpAny_passesOwn hp (thn (hb _ s6 σ6 H6 _ I6 q6) fun f s7 q7=>?_)
  have again:∀ {σ7:St} {H7:Hp},Inv X (pins ++ pinsAt fp s5.heap) σ7 H7 s7->N σ7 H7->∃ m,m < n/\∃ i σ' H',Inv X pins σ' H' s7/\tn i s7.heap/\(∀ b ∈ fp,H' b=none)/\W i m σ' H':=fun {σ7 H7} I7 n7=>by
   obtain ⟨m',hm,w7⟩:=hN σ7 H7 n7
   refine ⟨m',hm,i + 1,σ7,H7,I7.unpinned,T.keep _ _ _ st5 fun b hb o e=>(I7.pin (b,o) (List.mem_append_right _ (List.mem_append_right _ (mem_pinsAt hb e)))).1,fun b hb=>?_,w7⟩
   obtain ⟨o,e,d⟩:=T.obj _ _ st5 b hb
   exact (I7.pin (b,o) (List.mem_append_right _ (List.mem_append_right _ (mem_pinsAt hb e)))).2.1
  cases f with
  | next=>obtain ⟨σ7,H7,I7,n7⟩:=q7; exact again I7 n7
  | cont=>obtain ⟨σ7,H7,I7,n7⟩:=q7; exact again I7 n7
  | brk=>obtain ⟨σ7,H7,I7,q7⟩:=q7; exact ⟨σ7,H7,I7.unpinned,q7⟩
  | ret v=>obtain ⟨x7,σ7,H7,I7,r7,q7⟩:=q7; exact ⟨x7,σ7,H7,I7.unpinned,r7,q7⟩
end
theorem for_list {K:PySem.W.Frag} {a:Addr} {xs:List V} {g:TG} {tb:TS} {D:Ends} {σ:St} {H:Hp} (Pv:Nat->St->Hp->Prop) (h0:Pv 0 σ H) (hl:∀ i σ H,i <= xs.length->Pv i σ H->SqL K H a xs)
  (hs:∀ i x σ H,xs[i]? = some x->Pv i σ H->g x σ H fun σ2 H2=>tb { D with nx:=Pv (i + 1),ct:=Pv (i + 1),bk:=D.nx } σ2 H2) (hd:∀ σ H,Pv xs.length σ H->D.nx σ H) :
  ∃ W:Nat->Nat->St->Hp->Prop,(∃ m,W 0 m σ H)/\∀ i m σ H,W i m σ H ->
   ((Itl K a).stop i H/\D.nx σ H)\/((Itl K a).go i H/\∃ N:St->Hp->Prop,(∀ σ' H',N σ' H'->∃ m',m' < m/\W (i + 1) m' σ' H')/\∀ x H',(Itl K a).yld i H x H'->g x σ H' fun σ2 H2=>tb { D with nx:=N,ct:=N,bk:=D.nx } σ2 H2):=by
 refine ⟨fun i m σ H=>m=xs.length - i/\i <= xs.length/\Pv i σ H,⟨xs.length,by simp,Nat.zero_le _,h0⟩,?_⟩
 rintro i m σ H ⟨rfl,hi,p⟩
 have q:=hl i σ H hi p
 by_cases hlt:i < xs.length
 ·refine .inr ⟨⟨xs,xs[i],q,by simp [hlt]⟩,Pv (i + 1),fun σ' H' p'=>⟨xs.length - (i + 1),by omega,rfl,hlt,p'⟩,fun x H' y=>?_⟩
  obtain ⟨e,y⟩:=y
  subst e
  exact hs i x σ _ (y xs q) p
 ·have e:i=xs.length:=by omega
  subst e
  exact .inl ⟨⟨xs,q,Nat.le_refl _⟩,hd σ H p⟩
theorem for_tup {K:PySem.W.Frag} {a:Addr} {xs:List V} {g:TG} {tb:TS} {D:Ends} {σ:St} {H:Hp} (Pv:Nat->St->Hp->Prop) (h0:Pv 0 σ H) (hl:∀ i σ H,i <= xs.length->Pv i σ H->SqT K H a xs)
  (hs:∀ i x σ H,xs[i]? = some x->Pv i σ H->g x σ H fun σ2 H2=>tb { D with nx:=Pv (i + 1),ct:=Pv (i + 1),bk:=D.nx } σ2 H2) (hd:∀ σ H,Pv xs.length σ H->D.nx σ H) :
  ∃ W:Nat->Nat->St->Hp->Prop,(∃ m,W 0 m σ H)/\∀ i m σ H,W i m σ H ->
   ((Itt K a).stop i H/\D.nx σ H)\/((Itt K a).go i H/\∃ N:St->Hp->Prop,(∀ σ' H',N σ' H'->∃ m',m' < m/\W (i + 1) m' σ' H')/\∀ x H',(Itt K a).yld i H x H'->g x σ H' fun σ2 H2=>tb { D with nx:=N,ct:=N,bk:=D.nx } σ2 H2):=by
 refine ⟨fun i m σ H=>m=xs.length - i/\i <= xs.length/\Pv i σ H,⟨xs.length,by simp,Nat.zero_le _,h0⟩,?_⟩
 rintro i m σ H ⟨rfl,hi,p⟩
 have q:=hl i σ H hi p
 by_cases hlt:i < xs.length
 ·refine .inr ⟨⟨xs,xs[i],q,by simp [hlt]⟩,Pv (i + 1),fun σ' H' p'=>⟨xs.length - (i + 1),by omega,rfl,hlt,p'⟩,fun x H' y=>?_⟩
  obtain ⟨e,y⟩:=y
  subst e
  exact hs i x σ _ (y xs q) p
 ·have e:i=xs.length:=by omega
  subst e
  exact .inl ⟨⟨xs,q,Nat.le_refl _⟩,hd σ H p⟩
theorem for_range {lo:Int} {n:Nat} {g:TG} {tb:TS} {D:Ends} {σ:St} {H:Hp} (Pv:Nat->St->Hp->Prop) (h0:Pv 0 σ H)
  (hs:∀ i σ H,i < n->Pv i σ H->g (.int (lo + i)) σ H fun σ2 H2=>tb { D with nx:=Pv (i + 1),ct:=Pv (i + 1),bk:=D.nx } σ2 H2) (hd:∀ σ H,Pv n σ H->D.nx σ H) :
  ∃ W:Nat->Nat->St->Hp->Prop,(∃ m,W 0 m σ H)/\∀ i m σ H,W i m σ H ->
   ((Itr lo n).stop i H/\D.nx σ H)\/((Itr lo n).go i H/\∃ N:St->Hp->Prop,(∀ σ' H',N σ' H'->∃ m',m' < m/\W (i + 1) m' σ' H')/\∀ x H',(Itr lo n).yld i H x H'->g x σ H' fun σ2 H2=>tb { D with nx:=N,ct:=N,bk:=D.nx } σ2 H2):=by
 refine ⟨fun i m σ H=>m=n - i/\i <= n/\Pv i σ H,⟨n,by simp,Nat.zero_le _,h0⟩,?_⟩
 rintro i m σ H ⟨rfl,hi,p⟩
 by_cases hlt:i < n
 ·refine .inr ⟨hlt,Pv (i + 1),fun σ' H' p'=>⟨n - (i + 1),by omega,rfl,hlt,p'⟩,fun x H' y=>?_⟩
  obtain ⟨e,y⟩:=y
  subst e y
  exact hs i σ _ hlt p
 ·have e:i=n:=by omega
  subst e
  exact .inl ⟨Nat.le_refl _,hd σ H p⟩
end L2
namespace L2
open PySem PySem.Spec PyProof.Rows
abbrev R2:=V->V->Hp->VK->Prop
def OpR (X:Cx) (f:Value->Value->Sem Value) (r:R2):Prop :=
 ∀ (pins:List (Addr × Obj)) (s:Shared) (σ:St) (H:Hp) (x y:V) (v u:Value) (Q:VK),Inv X pins σ H s->RelV x v->RelV y u->r x y H Q ->
  wpAny (model X.prog X.w) X.A (f v u) (EP X pins σ Q) X.xe s
def UnR (X:Cx) (f:Value->Sem Value) (r:V->Hp->VK->Prop):Prop :=
 ∀ (pins:List (Addr × Obj)) (s:Shared) (σ:St) (H:Hp) (x:V) (v:Value) (Q:VK),Inv X pins σ H s->RelV x v->r x H Q ->
  wpAny (model X.prog X.w) X.A (f v) (EP X pins σ Q) X.xe s
def CallR (X:Cx) (f:Value) (r:List V->Hp->VK->Prop):Prop :=
 ∀ (pins:List (Addr × Obj)) (s:Shared) (σ:St) (H:Hp) (xs:List V) (us:List Value) (Q:VK),Inv X pins σ H s->Vals xs us->r xs H Q ->
  wpAny (model X.prog X.w) X.A (call f us) (EP X pins σ Q) X.xe s
def tOp (r:R2) (ta tb:TE):TE:=fun σ H Q=>ta σ H fun x H1=>tb σ H1 fun y H2=>r x y H2 Q
def tUn (r:V->Hp->VK->Prop) (ta:TE):TE:=fun σ H Q=>ta σ H fun x H1=>r x H1 Q
def rI (C:Int->Int->Prop) (g:Int->Int->V):R2:=fun x y H Q=>∃ i j,x=.int i/\y=.int j/\C i j/\Q (g i j) H
def rI0 (g:Int->Int->V):R2:=fun x y H Q=>∃ i j,x=.int i/\y=.int j/\Q (g i j) H
def rU (g:Int->V):V->Hp->VK->Prop:=fun x H Q=>∃ i,x=.int i/\Q (g i) H
section
variable {X:Cx} {a b c:Expr} {ta tb tc:TE} {pos:Pos}
theorem binT (ha:PE X a ta) (hb:PE X b tb) {pins:List (Addr × Obj)} {s:Shared} {σ:St} {H:Hp} {R:V->V->Hp->Prop} (I:Inv X pins σ H s)
  (h:ta σ H fun x H1=>tb σ H1 fun y H2=>R x y H2) {Q:Value->Shared->Prop} {f:Value->Value->Sem Value}
  (hf:∀ v u s2 x y H2,Inv X pins σ H2 s2->RelV x v->RelV y u->R x y H2->wpAny (model X.prog X.w) X.A (f v u) Q X.xe s2) :
  wpAny (model X.prog X.w) X.A (eval a X.env) (fun v s₁=>wpAny (model X.prog X.w) X.A (eval b X.env) (fun u s₂=>wpAny (model X.prog X.w) X.A (f v u) Q X.xe s₂) X.xe s₁) X.xe s:=by
 refine thn (ha pins s σ H _ I h) fun v s1 ⟨x,H1,I1,r1,q1⟩=>?_
 refine thn (hb pins s1 σ H1 _ I1 q1) fun u s2 ⟨y,H2,I2,r2,q2⟩=>?_
 exact hf v u s2 x y H2 I2 r1 r2 q2
theorem pe_op {op:Operator} {r:R2} (ho:OpR X (binaryOp op) r) (ha:PE X a ta) (hb:PE X b tb):PE X (.BinOp a op b pos) (tOp r ta tb):=by
 intro pins s σ H Q I h
 exact wpAny_BinOp (binT ha hb I h fun v u s2 x y H2 I2 rx ry q=>ho pins s2 σ H2 x y v u Q I2 rx ry q)
theorem pe_un {op:UnaryOp} {r:V->Hp->VK->Prop} (ho:UnR X (unaryOp op) r) (ha:PE X a ta):PE X (.UnaryOp op a pos) (tUn r ta):=by
 intro pins s σ H Q I h
 exact UnaryOp_ (thn (ha pins s σ H _ I h) fun v s1 ⟨x,H1,I1,r1,q1⟩=>ho pins s1 σ H1 x v Q I1 r1 q1)
theorem opI {f:Value->Value->Sem Value} {C:Int->Int->Prop} {g:Int->Int->Int}
  (rule:∀ (i j:Int) (t u:Tok) (s:Shared) (Q:Value->Shared->Prop) (E:Value->Shared->Prop),C i j->Q (.int (g i j) s.toks) { s with toks:=s.toks + 1 }->wpAny (model X.prog X.w) X.A (f (.int i t) (.int j u)) Q E s) :
  OpR X f (rI C fun i j=>.int (g i j)):=by
 intro pins s σ H x y v u Q I rx ry h
 obtain ⟨i,j,rfl,rfl,hc,q⟩:=h
 obtain ⟨t,rfl⟩:=rx
 obtain ⟨t',rfl⟩:=ry
 exact rule i j t t' s _ _ hc ⟨.int (g i j),H,I.tok _,⟨_,rfl⟩,q⟩
theorem opI0 {f:Value->Value->Sem Value} {g:Int->Int->Int}
  (rule:∀ (i j:Int) (t u:Tok) (s:Shared) (Q:Value->Shared->Prop) (E:Value->Shared->Prop),Q (.int (g i j) s.toks) { s with toks:=s.toks + 1 }->wpAny (model X.prog X.w) X.A (f (.int i t) (.int j u)) Q E s) :
  OpR X f (rI0 fun i j=>.int (g i j)):=by
 intro pins s σ H x y v u Q I rx ry h
 obtain ⟨i,j,rfl,rfl,q⟩:=h
 obtain ⟨t,rfl⟩:=rx
 obtain ⟨t',rfl⟩:=ry
 exact rule i j t t' s _ _ ⟨.int (g i j),H,I.tok _,⟨_,rfl⟩,q⟩
theorem opB0 {f:Value->Value->Sem Value} {g:Int->Int->Bool}
  (rule:∀ (i j:Int) (t u:Tok) (s:Shared) (Q:Value->Shared->Prop) (E:Value->Shared->Prop),Q (.bool (g i j)) s->wpAny (model X.prog X.w) X.A (f (.int i t) (.int j u)) Q E s) :
  OpR X f (rI0 fun i j=>.bl (g i j)):=by
 intro pins s σ H x y v u Q I rx ry h
 obtain ⟨i,j,rfl,rfl,q⟩:=h
 obtain ⟨t,rfl⟩:=rx
 obtain ⟨t',rfl⟩:=ry
 exact rule i j t t' s _ _ ⟨.bl (g i j),H,I,rfl,q⟩
def CDiv (i j:Int):Prop:=0 < j/\j < 1073741824
def CPow (i j:Int):Prop:=0 <= j/\j <= 1000000/\i.natAbs < 2 ^ 64
def CMul (i j:Int):Prop:=(-(2 ^ 64) < i/\i < 2 ^ 64)\/(-(2 ^ 64) < j/\j < 2 ^ 64)
theorem CMul.ok {i j:Int} (h:CMul i j):IntMulOk i j:=by
 rcases h with ⟨h1,h2⟩ | ⟨h1,h2⟩
 ·exact .of_left (intBits_le_64 h1 h2)
 ·exact .of_right (intBits_le_64 h1 h2)
theorem two_pow_nn (k:Nat):(0:Int) <= 2 ^ k:=by
 rw [two_pow_cast]
 exact Int.natCast_nonneg _
theorem op_add:OpR X (binaryOp .Add) (rI0 fun i j=>.int (i + j)):=opI0 fun _ _ _ _ _ _ _ q=>add_int q
theorem op_sub:OpR X (binaryOp .Sub) (rI0 fun i j=>.int (i - j)):=opI0 fun _ _ _ _ _ _ _ q=>sub_int q
theorem op_mul:OpR X (binaryOp .Mult) (rI CMul fun i j=>.int (i * j)):=opI fun _ _ _ _ _ _ _ hc q=>mul_int q hc.ok
theorem op_fdiv:OpR X (binaryOp .FloorDiv) (rI CDiv fun i j=>.int (i / j)):=opI fun i j _ _ _ _ _ hc q=>by
 have h1:(0:Int) < j:=hc.1
 have h2:j < 1073741824:=hc.2
 exact floordiv_int (by omega) (by rw [Int.fdiv_eq_ediv_of_nonneg i (by omega)]; exact q) (.inl (PyProof.noPylong_small (by omega)))
theorem op_mod:OpR X (binaryOp .Mod) (rI (fun _ j=>0 < j) fun i j=>.int (i % j)):=opI fun i j _ _ _ _ _ hc q=>by
 have h1:(0:Int) < j:=hc
 exact mod_int' (by omega) (by rw [Int.fmod_eq_emod_of_nonneg i (by omega)]; exact q)
theorem op_shl:OpR X (binaryOp .LShift) (rI CPow fun i j=>.int (i * 2 ^ j.toNat)):=opI fun _ _ _ _ _ _ _ hc q=>lshift_int_small hc.1 hc.2.1 hc.2.2 q
theorem op_shr:OpR X (binaryOp .RShift) (rI (fun _ j=>0 <= j) fun i j=>.int (i / 2 ^ j.toNat)):=opI fun i j _ _ _ _ _ hc q =>
 rshift_int hc (by rw [Int.fdiv_eq_ediv_of_nonneg i (two_pow_nn _)]; exact q)
theorem op_and:OpR X (binaryOp .BitAnd) (rI0 fun i j=>.int (Builtin.bitAnd i j)):=opI0 fun _ _ _ _ _ _ _ q=>and_int q
theorem op_or:OpR X (binaryOp .BitOr) (rI0 fun i j=>.int (Builtin.bitOr i j)):=opI0 fun _ _ _ _ _ _ _ q=>or_int q
theorem op_xor:OpR X (binaryOp .BitXor) (rI0 fun i j=>.int (Builtin.bitXor i j)):=opI0 fun _ _ _ _ _ _ _ q=>xor_int q
theorem unI {f:Value->Sem Value} {g:Int->Int}
  (rule:∀ (i:Int) (t:Tok) (s:Shared) (Q:Value->Shared->Prop) (E:Value->Shared->Prop),Q (.int (g i) s.toks) { s with toks:=s.toks + 1 }->wpAny (model X.prog X.w) X.A (f (.int i t)) Q E s) :
  UnR X f (rU fun i=>.int (g i)):=by
 intro pins s σ H x v Q I rx h
 obtain ⟨i,rfl,q⟩:=h
 obtain ⟨t,rfl⟩:=rx
 exact rule i t s _ _ ⟨.int (g i),H,I.tok _,⟨_,rfl⟩,q⟩
theorem un_neg:UnR X (unaryOp .USub) (rU fun i=>.int (-i)):=unI fun _ _ _ _ _ q=>neg_int q
theorem un_inv:UnR X (unaryOp .Invert) (rU fun i=>.int (Builtin.bitNot i)):=unI fun _ _ _ _ _ q=>invert_int q
end
def scal:V->V->Bool
 | .non,.non=>true | .non,.int _=>true | .int _,.non=>true | .non,.bl _=>true | .bl _,.non=>true | .non,.str _=>true | .str _,.non=>true
 | .int _,.int _=>true | .bl _,.bl _=>true | .str _,.str _=>true | .byt _,.byt _=>true
 | .int _,.str _=>true | .str _,.int _=>true | .bl _,.str _=>true | .str _,.bl _=>true
 | _,_=>false
def rEq:R2:=fun x y H Q=>scal x y=true/\Q (.bl (decide (x=y))) H
def rNe:R2:=fun x y H Q=>scal x y=true/\Q (.bl (!decide (x=y))) H
theorem dec_int {i j:Int}:decide (V.int i=V.int j)=(i == j):=by
 rw [Bool.eq_iff_iff]
 simp
theorem dec_bl {i j:Bool}:decide (V.bl i=V.bl j)=(i == j):=by
 rw [Bool.eq_iff_iff]
 simp
theorem dec_str {i j:Str}:decide (V.str i=V.str j)=(i == j):=by
 rw [Bool.eq_iff_iff]
 simp
theorem dec_byt {i j:Array UInt8}:decide (V.byt i=V.byt j)=(i.toList == j.toList):=by
 rw [Bool.eq_iff_iff]
 cases i
 cases j
 simp
section
variable {X:Cx} {a b c:Expr} {ta tb tc:TE} {pos:Pos}
theorem fin_bl {pins:List (Addr × Obj)} {σ:St} {H:Hp} {s:Shared} {Q:VK} {k k':Bool} (I:Inv X pins σ H s) (q:Q (.bl k) H) (e:k=k'):EP X pins σ Q (.bool k') s:=by
 subst e
 exact ⟨.bl k,H,I,rfl,q⟩
theorem op_eq:OpR X (compareOp .Eq) rEq:=by
 intro pins s σ H x y v u Q I rx ry h
 obtain ⟨hs,q⟩:=h
 cases x with
 | non =>
  cases rx
  cases y with
  | non=>cases ry; exact PySem.EqNone.eq_none_none (fin_bl I q (by simp))
  | bl j=>cases ry; exact PySem.EqNone.eq_none_bool (fin_bl I q (by simp))
  | int j=>obtain ⟨t',rfl⟩:=ry; exact PySem.EqNone.eq_none_int (fin_bl I q (by simp))
  | str j=>obtain ⟨t',rfl⟩:=ry; exact PySem.EqNone.eq_none_str (fin_bl I q (by simp))
  | _=>exact absurd (show false=true from hs) Bool.false_ne_true
 | bl i =>
  cases rx
  cases y with
  | non=>cases ry; exact PySem.EqNone.eq_bool_none (fin_bl I q (by simp))
  | bl j=>cases ry; exact eq_bool (fin_bl I q dec_bl)
  | str j=>obtain ⟨t',rfl⟩:=ry; exact PySem.EqMixed.eq_bool_str (fin_bl I q (by simp))
  | _=>exact absurd (show false=true from hs) Bool.false_ne_true
 | int i =>
  obtain ⟨t,rfl⟩:=rx
  cases y with
  | non=>cases ry; exact PySem.EqNone.eq_int_none (fin_bl I q (by simp))
  | int j=>obtain ⟨t',rfl⟩:=ry; exact eq_int (fin_bl I q dec_int)
  | str j=>obtain ⟨t',rfl⟩:=ry; exact PySem.EqMixed.eq_int_str (fin_bl I q (by simp))
  | _=>exact absurd (show false=true from hs) Bool.false_ne_true
 | str i =>
  obtain ⟨t,rfl⟩:=rx
  cases y with
  | non=>cases ry; exact PySem.EqNone.eq_str_none (fin_bl I q (by simp))
  | bl j=>cases ry; exact PySem.EqMixed.eq_str_bool (fin_bl I q (by simp))
  | int j=>obtain ⟨t',rfl⟩:=ry; exact PySem.EqMixed.eq_str_int (fin_bl I q (by simp))
  | str j=>obtain ⟨t',rfl⟩:=ry; exact eq_str (fin_bl I q dec_str)
  | _=>exact absurd (show false=true from hs) Bool.false_ne_true
 | byt i =>
  obtain ⟨t,rfl⟩:=rx
  cases y with
  | byt j=>obtain ⟨t',rfl⟩:=ry; exact PySem.W.eq_bytes (fin_bl I q dec_byt)
  | _=>exact absurd (show false=true from hs) Bool.false_ne_true
 | _=>cases y <;> exact absurd (show false=true from hs) Bool.false_ne_true
theorem op_ne:OpR X (compareOp .NotEq) rNe:=by
 intro pins s σ H x y v u Q I rx ry h
 obtain ⟨hs,q⟩:=h
 cases x with
 | non =>
  cases rx
  cases y with
  | non=>cases ry; exact PySem.EqNone.ne_none_none (fin_bl I q (by simp))
  | bl j=>cases ry; exact PySem.EqNone.ne_none_bool (fin_bl I q (by simp))
  | int j=>obtain ⟨t',rfl⟩:=ry; exact PySem.EqNone.ne_none_int (fin_bl I q (by simp))
  | str j=>obtain ⟨t',rfl⟩:=ry; exact PySem.EqNone.ne_none_str (fin_bl I q (by simp))
  | _=>exact absurd (show false=true from hs) Bool.false_ne_true
 | bl i =>
  cases rx
  cases y with
  | non=>cases ry; exact PySem.EqNone.ne_bool_none (fin_bl I q (by simp))
  | bl j=>cases ry; exact ne_bool (fin_bl I q (congrArg not dec_bl))
  | str j=>obtain ⟨t',rfl⟩:=ry; exact PySem.EqMixed.ne_bool_str (fin_bl I q (by simp))
  | _=>exact absurd (show false=true from hs) Bool.false_ne_true
 | int i =>
  obtain ⟨t,rfl⟩:=rx
  cases y with
  | non=>cases ry; exact PySem.EqNone.ne_int_none (fin_bl I q (by simp))
  | int j=>obtain ⟨t',rfl⟩:=ry; exact ne_int (fin_bl I q (congrArg not dec_int))
  | str j=>obtain ⟨t',rfl⟩:=ry; exact PySem.EqMixed.ne_int_str (fin_bl I q (by simp))
  | _=>exact absurd (show false=true from hs) Bool.false_ne_true
 | str i =>
  obtain ⟨t,rfl⟩:=rx
  cases y with
  | non=>cases ry; exact PySem.EqNone.ne_str_none (fin_bl I q (by simp))
  | bl j=>cases ry; exact PySem.EqMixed.ne_str_bool (fin_bl I q (by simp))
  | int j=>obtain ⟨t',rfl⟩:=ry; exact PySem.EqMixed.ne_str_int (fin_bl I q (by simp))
  | str j=>obtain ⟨t',rfl⟩:=ry; exact ne_str (fin_bl I q (congrArg not dec_str))
  | _=>exact absurd (show false=true from hs) Bool.false_ne_true
 | byt i =>
  obtain ⟨t,rfl⟩:=rx
  cases y with
  | byt j=>obtain ⟨t',rfl⟩:=ry; exact PySem.W.ne_bytes (fin_bl I q (congrArg not dec_byt))
  | _=>exact absurd (show false=true from hs) Bool.false_ne_true
 | _=>cases y <;> exact absurd (show false=true from hs) Bool.false_ne_true
theorem op_lt:OpR X (compareOp .Lt) (rI0 fun i j=>.bl (decide (i < j))):=opB0 fun _ _ _ _ _ _ _ q=>lt_int q
theorem op_le:OpR X (compareOp .LtE) (rI0 fun i j=>.bl (decide (i <= j))):=opB0 fun _ _ _ _ _ _ _ q=>le_int q
theorem op_gt:OpR X (compareOp .Gt) (rI0 fun i j=>.bl (decide (j < i))):=opB0 fun _ _ _ _ _ _ _ q=>gt_int q
theorem nomark (b:Expr) {op:CmpOp} (h:op ≠ .In:=by decide) (h2:op ≠ .NotIn:=by decide):behindInMarks op b=false:=by
 have e1:(op == CmpOp.In)=false:=by cases op <;> first | rfl | exact absurd rfl h
 have e2:(op == CmpOp.NotIn)=false:=by cases op <;> first | rfl | exact absurd rfl h2
 cases b <;> simp [behindInMarks,e1,e2]
theorem pe_cmpR {op:CmpOp} {r:R2} (ho:OpR X (compareOp op) r) (ha:PE X a ta) (hb:PE X b tb) (hm:behindInMarks op b=false):PE X (.Compare a [op] [b] pos) (tOp r ta tb):=by
 intro pins s σ H Q I h
 exact wpAny_Compare1 (binT ha hb I h fun v u s2 x y H2 I2 rx ry q=>ho pins s2 σ H2 x y v u Q I2 rx ry q) hm
def tTest (t:TE):TT:=fun σ H Q=>t σ H fun x H'=>∃ k,x=.bl k/\Q k H'
theorem pt_cmpR {op:CmpOp} {r:R2} (ho:OpR X (compareOp op) r) (ha:PE X a ta) (hb:PE X b tb) (hm:behindInMarks op b=false):PT X (.Compare a [op] [b] pos) (tTest (tOp r ta tb)):=by
 intro pins s σ H Q I h
 refine wpAny_isTrue_Compare1 (thn (ha pins s σ H _ I h) fun v s1 ⟨x,H1,I1,r1,q1⟩=>thn (hb pins s1 σ H1 _ I1 q1) fun u s2 ⟨y,H2,I2,r2,q2⟩ =>
  thn (ho pins s2 σ H2 x y v u _ I2 r1 r2 q2) fun c s3 ⟨z,H3,I3,r3,k,e,q3⟩=>?_) hm
 subst e
 cases r3
 exact wpAny_truthy_bool ⟨H3,I3,q3⟩
def tChain (r r':R2) (ta tb tc:TE):TE:=fun σ H Q=>ta σ H fun x H1=>tb σ H1 fun y H2=>r x y H2 fun z H3=>∃ k,z=.bl k /\
 (if k=true then tc σ H3 fun w' H4=>r' y w' H4 Q else Q (.bl false) H3)
theorem pe_chain {op op':CmpOp} {r r':R2} (ho:OpR X (compareOp op) r) (ho':OpR X (compareOp op') r') (ha:PE X a ta) (hb:PE X b tb) (hc:PE X c tc)
  (hm:lastMarks [op,op'] [b,c]=false:=by with_unfolding_all rfl):PE X (.Compare a [op,op'] [b,c] pos) (tChain r r' ta tb tc):=by
 intro pins s σ H Q I h
 refine Compare_chain (thn (ha pins s σ H _ I h) fun v s1 ⟨x,H1,I1,r1,q1⟩=>chain_link (thn (hb pins s1 σ H1 _ I1 q1) fun u s2 ⟨y,H2,I2,r2,q2⟩ =>
  thn (ho pins s2 σ H2 x y v u _ I2 r1 r2 q2) fun d s3 ⟨z,H3,I3,r3,k,e,q3⟩=>?_)) hm
 subst e
 cases r3
 refine wpAny_truthy_bool ?_
 cases k with
 | false=>exact ite_ff ⟨.bl false,H3,I3,rfl,q3⟩
 | true=>exact ite_tt (chain_last (thn (hc pins s3 σ H3 _ I3 q3) fun w' s4 ⟨z',H4,I4,r4,q4⟩=>ho' pins s4 σ H4 y z' u w' Q I4 r2 r4 q4))
theorem pt_chain {op op':CmpOp} {r r':R2} (ho:OpR X (compareOp op) r) (ho':OpR X (compareOp op') r') (ha:PE X a ta) (hb:PE X b tb) (hc:PE X c tc)
  (hm:lastMarks [op,op'] [b,c]=false:=by with_unfolding_all rfl):PT X (.Compare a [op,op'] [b,c] pos) (tTest (tChain r r' ta tb tc)):=by
 intro pins s σ H Q I h
 refine isTrue_chain (thn (ha pins s σ H _ I h) fun v s1 ⟨x,H1,I1,r1,q1⟩=>test_link (thn (hb pins s1 σ H1 _ I1 q1) fun u s2 ⟨y,H2,I2,r2,q2⟩ =>
  thn (ho pins s2 σ H2 x y v u _ I2 r1 r2 q2) fun d s3 ⟨z,H3,I3,r3,k,e,q3⟩=>?_)) hm
 subst e
 cases r3
 refine wpAny_truthy_bool ?_
 cases k with
 | false =>
  obtain ⟨k',e',q'⟩:=q3
  cases e'
  exact ite_ff ⟨H3,I3,q'⟩
 | true =>
  refine ite_tt (test_last (thn (hc pins s3 σ H3 _ I3 q3) fun w' s4 ⟨z',H4,I4,r4,q4⟩=>thn (ho' pins s4 σ H4 y z' u w' _ I4 r2 r4 q4) fun d' s5 ⟨z2,H5,I5,r5,k2,e2,q5⟩=>?_))
  subst e2
  cases r5
  exact wpAny_truthy_bool ⟨H5,I5,q5⟩
theorem line63:(sizeLine:Nat) < 2 ^ 63:=by rw [sizeLine_eq]; decide
theorem op_add_str:OpR X (binaryOp .Add) (fun x y H Q=>∃ i j,x=.str i/\y=.str j/\i.length + j.length <= sizeLine/\Q (.str (i ++ j)) H):=by
 intro pins s σ H x y v u Q I rx ry h
 obtain ⟨i,j,rfl,rfl,hz,q⟩:=h
 obtain ⟨t,rfl⟩:=rx
 obtain ⟨t',rfl⟩:=ry
 exact add_str (fun t' tk=>⟨.str (i ++ j),H,I.tok _,⟨_,rfl⟩,q⟩) hz
theorem vals1 {x:V} {us:List Value} (r:Vals [x] us):∃ u,us=[u]/\RelV x u:=by
 cases r with
 | cons r1 r2=>cases r2; exact ⟨_,rfl,r1⟩
theorem vals2 {x y:V} {us:List Value} (r:Vals [x,y] us):∃ u w',us=[u,w']/\RelV x u/\RelV y w':=by
 cases r with
 | cons r1 r2 =>
  cases r2 with
  | cons r3 r4=>cases r4; exact ⟨_,_,rfl,r1,r3⟩
theorem call_min2 (hc:X.calm=true):CallR X (.builtin "min") (fun xs H Q=>∃ i j,xs=[.int i,.int j]/\Q (.int (if j < i then j else i)) H):=by
 intro pins s σ H xs us Q I r h
 obtain ⟨i,j,rfl,q⟩:=h
 obtain ⟨u,w',rfl,⟨t,rfl⟩,⟨t',rfl⟩⟩:=vals2 r
 refine min_two_ints (I.ok.hd hc) fun h' tk k=>⟨_,H,I.kept k,?_,q⟩
 by_cases hj:j < i
 ·rw [if_pos hj,if_pos hj]; exact ⟨_,rfl⟩
 ·rw [if_neg hj,if_neg hj]; exact ⟨_,rfl⟩
theorem call_int1:CallR X (.type "int") (fun xs H Q=>(∃ i,xs=[.int i]/\Q (.int i) H)\/∃ k,xs=[.bl k]/\Q (.int (if k then 1 else 0)) H):=by
 intro pins s σ H xs us Q I r h
 rcases h with ⟨i,rfl,q⟩ | ⟨k,rfl,q⟩
 ·obtain ⟨u,rfl,t,rfl⟩:=vals1 r
  exact call_int_int ⟨.int i,H,I,⟨_,rfl⟩,q⟩
 ·obtain ⟨u,rfl,r1⟩:=vals1 r
  cases r1
  exact call_int_bool ⟨.int (if k then 1 else 0),H,I.tok _,⟨_,rfl⟩,q⟩
end
end L2
namespace L2
open PySem PySem.Spec PyProof.Rows
structure ObjM (h:Heap) (x dx C:Addr) (mA:Str->Option Value):Prop where
 obj:h.get? x=some (PySem.W.instObj C dx)
 ns:h.Ns1 dx mA
 ne:dx ≠ x
theorem lookIn_ns {h:Heap} {dx:Addr} {mA:Str->Option Value} (n:h.Ns1 dx mA):∃ od,h.get? dx=some od/\∀ name,PySem.W.lookIn name od=some (mA name):=by
 obtain ⟨o,es,ep,ho,hd,hk,_,hm⟩:=n
 refine ⟨o,ho,fun name=>?_⟩
 have e:=hm name
 unfold nsFind findBy at e
 rw [<- Array.find?_toList] at e
 unfold PySem.W.lookIn
 rw [hd]
 dsimp only
 split
 ·rename_i y q
  rw [q] at e
  exact congrArg some e
 ·rename_i q
  rw [q] at e
  have a:es.toList.any (·.refKey)=false:=by
   rw [List.any_eq_false]
   intro y hy
   obtain ⟨z,t,hkey⟩:=hk y (Array.mem_toList_iff.mp hy)
   simp [DictEntry.refKey,hkey]
  have a':¬ es.toList.any (·.refKey)=true:=by rw [a]; exact Bool.false_ne_true
  rw [if_neg a']
  exact congrArg some e
theorem ObjM.look {h:Heap} {x dx C:Addr} {mA:Str->Option Value} (I:ObjM h x dx C mA):∃ od,PySem.W.InstAt h x (PySem.W.instObj C dx) C (some od)/\∀ name,PySem.W.lookIn name od=some (mA name) :=
 let ⟨od,ho,hl⟩:=lookIn_ns I.ns
 ⟨od,⟨I.obj,rfl,rfl,ho⟩,hl⟩
section
variable {prog:Program} {w:World} {A:Around} {E:Value->Shared->Prop} {s:Shared} {K:PySem.W.Frag} {x dx C f:Addr} {mA:Str->Option Value} {name:Str} {v:Value}
theorem get_map {expr:Bool} {Q:Value->Shared->Prop} (X:K.In s.heap) (I:ObjM s.heap x dx C mA) (hg:PySem.W.plainGet K C name=true) (hh:PySem.W.hasDictIn K C=true)
  (ha:PySem.W.findIn K (.ref C) name=some none) (hv:mA name=some v) (hv':PySem.W.handedIn v=true) (h:Q v { s with toks:=s.toks + 1 }) :
  wpAny (model prog w) A (getAttr (.ref x) name expr) Q E s:=by
 obtain ⟨od,J,hl⟩:=I.look
 exact PySem.W.get_value X J (PySem.W.plainGet_of hg).1 (PySem.W.findObj_own hh ha rfl (by rw [hl,hv])) hv' h
theorem get_meth {pl:Sem Bool} {Q:Value × List Value->Shared->Prop} (X:K.In s.heap) (I:ObjM s.heap x dx C mA) (hg:PySem.W.plainGet K C name=true)
  (hf:PySem.W.findIn K (.ref C) name=some (some (.ref f))) (ht:PySem.W.isFn K (.ref f)=true) (hv:mA name=none) (h:Q (.ref f,[.ref x]) s) :
  wpAny (model prog w) A (getMethod (.ref x) name pl) Q E s:=by
 obtain ⟨od,J,hl⟩:=I.look
 exact PySem.W.method_fn X J (PySem.W.plainGet_of hg).1 (PySem.W.plainGet_of hg).2 hf (beq_iff_eq.mp ht) (by show (PySem.W.lookIn name od).map (·.isSome)=some false; rw [hl,hv]; rfl) h
theorem set_map {ns:List Str} {Q:Unit->Shared->Prop} (X:K.In s.heap) (I:ObjM s.heap x dx C mA)
  (hs:PySem.W.findIn K (.ref C) "__setattr__"=some (some (.builtin "object.__setattr__"))) (hp:PySem.W.plainOver K C=true) (ht:PySem.W.takerIn K C name=some none) (hh:PySem.W.hasDictIn K C=true)
  (hw:PySem.Within mA ns) (hsz:ns.length <= sizeLine)
  (h:∀ h',ObjM h' x dx C (fun y=>if y=name then some v else mA y)->Heap.SameBut dx s.heap h'->Q () { s with heap:=h',toks:=s.toks + 2 }) :
  wpAny (model prog w) A (setAttr (.ref x) name v) Q E s:=by
 obtain ⟨od,J,hl⟩:=I.look
 refine PySem.W.set_plain X J hs (PySem.W.osa_open (s:={ s with toks:=s.toks + 1 }) (r:=none) X J hp ht fun b=>?_)
 obtain ⟨cd,hc,hd'⟩:=PySem.W.any_some hh
 have hx:s.heap.get? x=some ⟨.ref C,some dx,.plain,#[]⟩:=I.obj
 refine wpAny_bind (wpAny_pure (wpAny_bind (wpAny_bind (wpAny_loadPart hx (wpAny_bind (PySem.W.Looks.here (s:={ s with toks:=s.toks + 1 }) (PySem.W.looks_clsIn X hc) ?_))))))
 rw [hd']
 refine wpAny_pure (a:=some dx) (wpAny_bind (wpAny_pure (wpAny_bind ?_)))
 refine wpAny_nsSet1 (s:={ s with toks:=s.toks + 1 }) I.ns fun h' hn2 hs2=>?_
 obtain ⟨oD,esD,epD,hoD,hdD,hcD⟩:=hn2.count (PySem.Within.cons name v hw)
 refine wpAny_bind (wpAny_lookBehind hoD (by rw [hdD]; exact pastItsLine_dict (Nat.le_trans hcD (by rw [List.length_cons]; omega))) ?_)
 exact wpAny_pure (h _ ⟨(hs2.2 _ (Ne.symm I.ne)).trans I.obj,hn2,I.ne⟩ hs2)
theorem make_map {R:Result->Shared->Prop} {vs:List Value} {kw:List (Str × Value)} (X:K.In s.heap) (hm:PySem.W.makesIn K C=true)
  (hi:PySem.W.findIn K (.ref C) "__init__"=some (some (.ref f))) (hf:PySem.W.typeIn K (.ref f)=some (.type "function"))
  (h:codeAny (model prog w) (A.under (.builtin "type.__call__" ⟨.ref C::vs,kw⟩)) (.call (.ref f) ⟨.ref (s.heap.objs.size + 1)::vs,kw⟩) (PySem.W.InitBack (s.heap.objs.size + 1) R)
   { s with heap:=(s.heap.push PySem.W.emptyDict).push (PySem.W.instObj C s.heap.objs.size) }) :
  codeAny (model prog w) A (.call (.ref C) ⟨vs,kw⟩) R s:=by
 obtain ⟨hh,g,d,t,os⟩:=s
 exact PySem.W.make_core (PySem.W.makes_of X hm) (PySem.W.looks_findIn X hi) (fun self=>PySem.W.bind_fn X self hf) (.inl rfl) h
end
def putF (f:Str) (v:V):List (Str × V)->List (Str × V)
 | []=>[(f,v)]
 | (g,x)::r=>if g=f then (g,v)::r else (g,x)::putF f v r
theorem lookup_putF (f g:Str) (v:V):∀ fs:List (Str × V),(putF f v fs).lookup g=if g=f then some v else fs.lookup g
 | []=>by
  show List.lookup g [(f,v)]=_
  by_cases h:g=f
  ·have hb:(g == f)=true:=beq_iff_eq.mpr h
   simp only [List.lookup,hb,if_pos h]
  ·have hb:(g == f)=false:=beq_eq_false_iff_ne.mpr h
   simp only [List.lookup,hb,if_neg h]
 | (k,x)::r=>by
  have ih:=lookup_putF f g v r
  rw [show putF f v ((k,x)::r)=(if k=f then (k,v)::r else (k,x)::putF f v r) from rfl]
  by_cases hk:k=f
  ·rw [if_pos hk]
   by_cases h:g=k
   ·have hb:(g == k)=true:=beq_iff_eq.mpr h
    simp only [List.lookup,hb,if_pos (h.trans hk)]
   ·have hb:(g == k)=false:=beq_eq_false_iff_ne.mpr h
    simp only [List.lookup,hb,if_neg (fun e:g=f=>h (e.trans hk.symm))]
  ·rw [if_neg hk]
   by_cases h:g=k
   ·have hb:(g == k)=true:=beq_iff_eq.mpr h
    simp only [List.lookup,hb,if_neg (fun e:g=f=>hk (h.symm.trans e))]
   ·have hb:(g == k)=false:=beq_eq_false_iff_ne.mpr h
    simp only [List.lookup,hb]
    exact ih
theorem keys_putF (f:Str) (v:V):∀ fs:List (Str × V),f ∈ (putF f v fs).map (·.1)/\∀ g,g ∈ fs.map (·.1)->g ∈ (putF f v fs).map (·.1)
 | []=>⟨by simp [putF],fun g h=>by simp at h⟩
 | (k,x)::r=>by
  obtain ⟨i1,i2⟩:=keys_putF f v r
  rw [show putF f v ((k,x)::r)=(if k=f then (k,v)::r else (k,x)::putF f v r) from rfl]
  by_cases hk:k=f
  ·rw [if_pos hk]
   subst hk
   exact ⟨by simp,fun g h=>by simpa using h⟩
  ·rw [if_neg hk]
   refine ⟨?_,fun g h=>?_⟩
   ·rw [List.map_cons]
    exact List.mem_cons_of_mem _ i1
   ·rw [List.map_cons] at h ⊢
    rcases List.mem_cons.mp h with e | e
    ·exact List.mem_cons.mpr (.inl e)
    ·exact List.mem_cons_of_mem _ (i2 g e)
theorem length_putF (f:Str) (v:V):∀ fs:List (Str × V),(putF f v fs).length <= fs.length + 1
 | []=>by simp [putF]
 | (k,x)::r=>by
  have ih:=length_putF f v r
  rw [show putF f v ((k,x)::r)=(if k=f then (k,v)::r else (k,x)::putF f v r) from rfl]
  by_cases hk:k=f
  ·rw [if_pos hk,List.length_cons,List.length_cons]; omega
  ·rw [if_neg hk,List.length_cons,List.length_cons]; omega
theorem RelO.some_of {v:V} {o:Option Value} (r:RelO (some v) o):∃ u,o=some u/\RelV v u:=by
 cases o with
 | none=>exact (show False from r).elim
 | some u=>exact ⟨u,rfl,r⟩
theorem RelO.none_of {o:Option Value} (r:RelO none o):o=none:=by
 cases o with
 | none=>rfl
 | some u=>exact (show False from r).elim
theorem handed_of {v:V} {u:Value} (r:RelV v u):PySem.W.handedIn u=true:=by
 cases v with
 | non=>cases (show u=Value.none from r); rfl
 | bl b=>cases (show u=Value.bool b from r); rfl
 | int i=>obtain ⟨t,e⟩:=(show ∃ t,u=Value.int i t from r); cases e; rfl
 | str x=>obtain ⟨t,e⟩:=(show ∃ t,u=Value.str x t from r); cases e; rfl
 | byt b=>obtain ⟨t,e⟩:=(show ∃ t,u=Value.bytes b t from r); cases e; rfl
 | flt b=>obtain ⟨t,e⟩:=(show ∃ t,u=Value.float b t from r); cases e; rfl
 | ref a=>cases (show u=Value.ref a from r); rfl
 | ty n=>cases (show u=Value.type n from r); rfl
section
variable {P:Program} {w:World} {H H':Hp} {h h':Heap} {a C dx:Addr} {fs fs':List (Str × V)}
theorem ins_get (hok:HOk P w H h) (e:H a=some (.ins C dx fs)):∃ mA,ObjM h a dx C mA/\(∀ f,RelO (fs.lookup f) (mA f))/\PySem.Within mA (fs.map (·.1))/\fs.length <= 1000/\H dx=some (.own a):=by
 obtain ⟨d,z,ne,ob,mA,n,r,q⟩:=(show ObjOk P w H h a (.ins C dx fs) from hok a _ e)
 exact ⟨mA,⟨ob,n,ne⟩,r,q,z,d⟩
end
structure Cls (K:PySem.W.Frag) (C:Addr):Prop where
 pg:PySem.W.plainGet K C Str.empty=true
 hd:PySem.W.hasDictIn K C=true
 po:PySem.W.plainOver K C=true
 sa:PySem.W.findIn K (.ref C) "__setattr__"=some (some (.builtin "object.__setattr__"))
theorem Cls.get {K:PySem.W.Frag} {C:Addr} (c:Cls K C) (f:Str):PySem.W.plainGet K C f=true:=c.pg
def NoAttr (K:PySem.W.Frag) (C:Addr) (f:Str):Prop:=PySem.W.findIn K (.ref C) f=some none
theorem NoAttr.taker {K:PySem.W.Frag} {C:Addr} {f:Str} (n:NoAttr K C f):PySem.W.takerIn K C f=some none:=by
 unfold PySem.W.takerIn
 rw [show PySem.W.findIn K (.ref C) f=some none from n]
 rfl
structure Meth (K:PySem.W.Frag) (C:Addr) (m:Str) (f:Addr):Prop where
 at_:PySem.W.findIn K (.ref C) m=some (some (.ref f))
 fn:PySem.W.isFn K (.ref f)=true
 kp:PySem.W.keepIn K (.ref f)=true
section
variable {X:Cx} {pins:List (Addr × Obj)} {σ:St} {H:Hp} {s:Shared} {a C dx:Addr} {fs:List (Str × V)} {f:Str} {v:V} {A:Around} {E:Value->Shared->Prop}
theorem getattr_ok {b:Bool} {Q:Value->Shared->Prop} (I:Inv X pins σ H s) (e:H a=some (.ins C dx fs)) (c:Cls X.K C) (n:NoAttr X.K C f) (l:fs.lookup f=some v)
  (h:∀ u s',Inv X pins σ H s'->RelV v u->Q u s'):wpAny (model X.prog X.w) A (getAttr (.ref a) f b) Q E s:=by
 obtain ⟨mA,O,r,_,_,_⟩:=ins_get I.hok e
 obtain ⟨u,hu,ru⟩:=RelO.some_of (v:=v) (o:=mA f) (by rw [<- l]; exact r f)
 exact get_map I.kIn O (c.get f) c.hd n hu (handed_of ru) (h u _ (I.tok _) ru)
theorem getmeth_ok {m:Str} {g:Addr} {pl:Sem Bool} {Q:Value × List Value->Shared->Prop} (I:Inv X pins σ H s) (e:H a=some (.ins C dx fs)) (c:Cls X.K C) (k:Meth X.K C m g) (l:fs.lookup m=none)
  (h:Q (.ref g,[.ref a]) s):wpAny (model X.prog X.w) A (getMethod (.ref a) m pl) Q E s:=by
 obtain ⟨mA,O,r,_,_,_⟩:=ins_get I.hok e
 have hn:mA m=none:=RelO.none_of (by rw [<- l]; exact r m)
 exact get_meth I.kIn O (c.get m) k.at_ k.fn hn h
theorem setattr_ok {y:V} {u:Value} {Q:Unit->Shared->Prop} (I:Inv X pins σ H s) (e:H a=some (.ins C dx fs)) (c:Cls X.K C) (n:NoAttr X.K C f) (hl:fs.length < 1000) (ry:RelV y u)
  (h:∀ s',Inv X pins σ (upd H a (.ins C dx (putF f y fs))) s'->Q () s'):wpAny (model X.prog X.w) A (setAttr (.ref a) f u) Q E s:=by
 obtain ⟨mA,O,r,wi,_,ho⟩:=ins_get I.hok e
 have hz:(fs.map (·.1)).length <= sizeLine:=by rw [List.length_map,sizeLine_eq]; omega
 refine set_map I.kIn O c.sa c.po n.taker c.hd wi hz fun h' O' sb=>h _ ?_
 have hd:∃ o,h'.get? dx=some o:=let ⟨o,_,_,e',_⟩:=O'.ns; ⟨o,e'⟩
 refine I.write (x:=a) (e:=dx) (by rw [e]; exact True.intro) (.inr ho) (fun b q hb z=>(sb.2 b hb).trans z) hd ?_
 refine ⟨by rw [upd_ne O.ne]; exact ho,?_,O.ne,O'.obj,_,O'.ns,fun g=>?_,fun g hg=>?_⟩
 ·have:=length_putF f y fs; omega
 ·show RelO ((putF f y fs).lookup g) (if g=f then some u else mA g)
  rw [lookup_putF]
  by_cases q:g=f
  ·rw [if_pos q,if_pos q]; exact ry
  ·rw [if_neg q,if_neg q]; exact r g
 ·by_cases q:g=f
  ·rw [q]; exact (keys_putF f y fs).1
  ·refine (keys_putF f y fs).2 g (wi g fun z=>hg ?_)
   show (if g=f then some u else mA g)=none
   rw [if_neg q]; exact z
theorem Inv.made (I:Inv X pins σ H s):Inv X pins σ (upd (upd H s.heap.objs.size (.own (s.heap.objs.size + 1))) (s.heap.objs.size + 1) (.ins C s.heap.objs.size []))
  { s with heap:=(s.heap.push PySem.W.emptyDict).push (PySem.W.instObj C s.heap.objs.size) }:=by
 have e1:(s.heap.push PySem.W.emptyDict).get? s.heap.objs.size=some PySem.W.emptyDict:=Heap.get?_push_size s.heap rfl
 have e2:((s.heap.push PySem.W.emptyDict).push (PySem.W.instObj C s.heap.objs.size)).get? (s.heap.objs.size + 1)=some (PySem.W.instObj C s.heap.objs.size):=by
  have:=Heap.get?_push_size (s.heap.push PySem.W.emptyDict) (o:=PySem.W.instObj C s.heap.objs.size) rfl
  rwa [Heap.size_push] at this
 have e3:(s.heap.push PySem.W.emptyDict).Ns s.heap.objs.size (fun _=>none):=⟨PySem.W.emptyDict,#[],_,e1,rfl,(fun e he=>absurd he (by simp)),fun _=>rfl⟩
 have I1:=I.laid (a:=s.heap.objs.size) (o:=.own (s.heap.objs.size + 1)) (h':=s.heap.push PySem.W.emptyDict) (t':=s.toks) (fun b u q=>Heap.get?_push_of_some _ q) (Nat.le_refl _) ⟨_,e1⟩
 refine I1.laid (a:=s.heap.objs.size + 1) (o:=.ins C s.heap.objs.size []) (t':=s.toks) (fun b u q=>Heap.get?_push_of_some _ q) (Nat.le_of_eq (Heap.size_push _ _)) ?_
 have ne:s.heap.objs.size ≠ s.heap.objs.size + 1:=Nat.ne_of_lt (Nat.lt_succ_self _)
 refine ⟨by rw [upd_ne ne,upd_same],Nat.zero_le _,ne,e2,fun _=>none,(Heap.Ns1.of_empty e3).at fun o q=>Heap.get?_push_of_some _ q,fun _=>True.intro,fun y hy=>absurd rfl hy⟩
theorem attr_of {prog:Program} {w:World} {env:Env} {e:Expr} {f:Str} {pos:Pos} {s:Shared} {Q:Value->Shared->Prop} (hb:attributeBase e f env (eval e env)=eval e env)
  (h:wpAny (model prog w) A (eval e env) (fun o s₁=>wpAny (model prog w) A (getAttr o f true) Q E s₁) E s):wpAny (model prog w) A (eval (.Attribute e f pos) env) Q E s :=
 Attribute_any_ h (by rw [arm_eval_Attribute,hb])
end
def tFld (K:PySem.W.Frag) (ta:TE) (f:Str):TE:=fun σ H Q=>ta σ H fun x H1=>∃ a C dx fs v,x=.ref a/\H1 a=some (.ins C dx fs)/\Cls K C/\NoAttr K C f/\fs.lookup f=some v/\Q v H1
def sFld (K:PySem.W.Frag) (ta tv:TE) (f:Str):TS:=fun D σ H=>tv σ H fun y H1=>ta σ H1 fun x H2=>∃ a C dx fs,x=.ref a/\H2 a=some (.ins C dx fs)/\Cls K C/\NoAttr K C f/\fs.length < 1000 /\
 D.nx σ (upd H2 a (.ins C dx (putF f y fs)))
section
variable {X:Cx} {o e value:Expr} {f:Str} {pos pos' tpos:Pos} {ta tv:TE}
theorem pe_fld (he:PE X e ta) (hb:attributeBase e f X.env (eval e X.env)=eval e X.env):PE X (.Attribute e f pos) (tFld X.K ta f):=by
 intro pins s σ H Q I h
 refine attr_of hb (thn (he pins s σ H _ I h) fun u s1 ⟨x,H1,I1,rx,a,C,dx,fs,v,ex,ea,c,n,l,q⟩=>?_)
 subst ex
 obtain rfl:u=Value.ref a:=rx
 exact getattr_ok I1 ea c n l fun u' s2 I2 ru=>⟨v,H1,I2,ru,q⟩
theorem ps_fld (ha:PE X o ta) (hv:PE X value tv) (hs:swapsWith value (some (.Attribute o f pos')) pos.line X.env=pure false):PS X (.Assign [.Attribute o f pos'] value pos) (sFld X.K ta tv f):=by
 intro pins s σ H D I h
 refine plainObj_wpAny_Assign_Attribute (thn (hv pins s σ H _ I h) fun u s1 ⟨y,H1,I1,ry,q⟩=>thn (ha pins s1 σ H1 _ I1 q) fun ov s2 ⟨x,H2,I2,rx,a,C,dx,fs,ex,ea,c,n,l,q2⟩=>?_) hs
 subst ex
 obtain rfl:ov=Value.ref a:=rx
 exact setattr_ok I2 ea c n l ry fun s3 I3=>⟨σ,_,I3,q2⟩
end
section
variable {X:Cx} {pins:List (Addr × Obj)} {σ:St} {H:Hp} {s:Shared} {A:Around} {E:Value->Shared->Prop} {Q:Value->Shared->Prop} {c:Value} {b:Bool}
inductive TyOf (K:PySem.W.Frag) (H:Hp):V->Value->Prop where
 | non:TyOf K H .non (.type "NoneType")
 | bl (x:Bool):TyOf K H (.bl x) (.type "bool")
 | int (i:Int):TyOf K H (.int i) (.type "int")
 | str (x:Str):TyOf K H (.str x) (.type "str")
 | flt (x:UInt64):TyOf K H (.flt x) (.type "float")
 | lst {a:Addr} {xs:List V} (e:H a=some (.lst xs)):TyOf K H (.ref a) (.type "list")
 | frz {a:Addr} {o:Obj} {xs:List V} (e:H a=some (.frz o (.lst xs))):TyOf K H (.ref a) (.type "list")
 | tup {a:Addr} {xs:List V} (e:H a=some (.tup xs)):TyOf K H (.ref a) (.type "tuple")
 | dK {a:Addr} {kvs:List (Key × V)} (e:H a=some (.dK kvs)):TyOf K H (.ref a) (.type "dict")
 | dT {a:Addr} {kvs:List (List Key × V)} (e:H a=some (.dT kvs)):TyOf K H (.ref a) (.type "dict")
 | ins {a C dx:Addr} {fs:List (Str × V)} (e:H a=some (.ins C dx fs)) (cl:Cls K C) (ha:PySem.W.findIn K (.ref C) "__class__"=some (some (.builtin "object.__class__")))
   (hn:PySem.W.specialIn K (.builtin "object.__class__") "__get__"=some (some (.builtin "getset_descriptor.__get__"))) (htk:PySem.W.takesIn K (.builtin "object.__class__")=some true)
   (hm:PySem.W.mroIn K C (.type "object")=some true):TyOf K H (.ref a) (.ref C)
theorem isinst_ok {x:V} {u t:Value} (I:Inv X pins σ H s) (rx:RelV x u) (ty:TyOf X.K H x t) (e:PySem.W.kitOne X.K t c=some b) (h:∀ tk,Q (.bool b) { s with toks:=tk }) :
  wpAny (model X.prog X.w) A (call (.builtin "isinstance") [u,c]) Q E s:=by
 cases ty with
 | non=>cases (show u=Value.none from rx); exact PySem.W.kia_one PySem.W.kitx_none I.kIn True.intro e (fun z=>nomatch z) h
 | bl y=>cases (show u=Value.bool y from rx); exact PySem.W.kia_one PySem.W.kitx_bool I.kIn True.intro e (fun z=>nomatch z) h
 | int i=>obtain ⟨t,q⟩:=(show ∃ t,u=Value.int i t from rx); cases q; exact PySem.W.kia_one PySem.W.kitx_int I.kIn True.intro e (fun z=>nomatch z) h
 | str y=>obtain ⟨t,q⟩:=(show ∃ t,u=Value.str y t from rx); cases q; exact PySem.W.kia_one PySem.W.kitx_str I.kIn True.intro e (fun z=>nomatch z) h
 | flt y=>obtain ⟨t,q⟩:=(show ∃ t,u=Value.float y t from rx); cases q; exact PySem.W.kia_one PySem.W.kitx_float I.kIn True.intro e (fun z=>nomatch z) h
 | @lst a xs ea =>
  cases (show u=Value.ref a from rx)
  obtain ⟨_,_,n,_,h1⟩:=(show ObjOk X.prog X.w H s.heap a (.lst xs) from I.hok a _ ea)
  exact PySem.W.kia_one PySem.W.kitx_list I.kIn ⟨_,h1,rfl⟩ e (fun z=>nomatch z) h
 | @frz a ob xs ea =>
  cases (show u=Value.ref a from rx)
  obtain ⟨_,_,_,n,_,h1⟩:=(show ObjOk X.prog X.w H s.heap a (.frz ob (.lst xs)) from I.hok a _ ea)
  exact PySem.W.kia_one PySem.W.kitx_list I.kIn ⟨_,h1,rfl⟩ e (fun z=>nomatch z) h
 | @tup a xs ea =>
  cases (show u=Value.ref a from rx)
  obtain ⟨_,_,_,p⟩:=(show ObjOk X.prog X.w H s.heap a (.tup xs) from I.hok a _ ea)
  obtain ⟨o,h1,h2,_⟩:=p
  exact PySem.W.kia_one PySem.W.kitx_tuple I.kIn ⟨o,h1,h2⟩ e (fun z=>nomatch z) h
 | @dK a kvs ea =>
  cases (show u=Value.ref a from rx)
  obtain ⟨_,_,vs,_,p⟩:=(show ObjOk X.prog X.w H s.heap a (.dK kvs) from I.hok a _ ea)
  obtain ⟨o,es,ep,h1,h2,_⟩:=p
  exact PySem.W.kia_one PySem.W.kitx_dict I.kIn ⟨o,h1,h2.1⟩ e (fun z=>nomatch z) h
 | @dT a kvs ea =>
  cases (show u=Value.ref a from rx)
  obtain ⟨_,_,xs,_,o,es,ep,h1,h2,_⟩:=(show ObjOk X.prog X.w H s.heap a (.dT kvs) from I.hok a _ ea)
  exact PySem.W.kia_one PySem.W.kitx_dict I.kIn ⟨o,h1,h2.1⟩ e (fun z=>nomatch z) h
 | @ins a C dx fs ea cl ha hn htk hm =>
  cases (show u=Value.ref a from rx)
  obtain ⟨mA,O,_⟩:=ins_get I.hok ea
  obtain ⟨od,J,_⟩:=O.look
  exact PySem.W.kia_one (PySem.W.kitx_own (cl.get _) cl.hd ha hn htk hm) I.kIn J e (fun z=>nomatch z) h
end
end L2
namespace L2
open PySem PySem.Spec PyProof.Rows
structure Room (k:Nat) (A:Around):Prop where
 hd:A.handled=none
 dp:A.depth + 3 * k + 5 < recursionLimit
 un:A.units + 16 * k + 200 < cLine
theorem Room.mono {j k:Nat} {A:Around} (r:Room k A) (h:j <= k):Room j A:=⟨r.hd,by have:=r.dp; omega,by have:=r.un; omega⟩
theorem Room.deeper {k:Nat} {A:Around} (r:Room (k + 1) A) (env:Env):Room k (A.deeper env) :=
 ⟨r.hd,by have:=r.dp; show A.depth + 1 + 3 * k + 5 < _; omega,by have:=r.un; show A.units + 3 + 16 * k + 200 < _; omega⟩
theorem Room.in1 {k:Nat} {A:Around} (r:Room (k + 1) A):Room k A.in1 :=
 ⟨r.hd,by have:=r.dp; show A.depth + 3 * k + 5 < _; omega,by have:=r.un; show A.units + 1 + 16 * k + 200 < _; omega⟩
theorem make_depth {A:Around} {C:Addr} {us:List Value} {kw:List (Str × Value)}:(A.under (.builtin "type.__call__" ⟨.ref C::us,kw⟩)).depth=A.depth + 1:=by
 first | rfl | simp [Around.under,Code.weight,Code.isCreation,Code.isGuard,Code.isCaller,Code.frames,Code.isFrame,guardIds]
theorem make_units {A:Around} {C:Addr} {us:List Value} {kw:List (Str × Value)}:(A.under (.builtin "type.__call__" ⟨.ref C::us,kw⟩)).units=A.units + 1:=by
 first | rfl | simp [Around.under,Code.cUnits,Code.frames,Code.isFrame]
theorem Room.make {k:Nat} {A:Around} (r:Room (k + 1) A) (C:Addr) (us:List Value) (kw:List (Str × Value)):Room k (A.under (.builtin "type.__call__" ⟨.ref C::us,kw⟩)) :=
 ⟨r.hd,by have:=r.dp; rw [make_depth]; omega,by have:=r.un; rw [make_units]; omega⟩
theorem Room.depth {k:Nat} {A:Around} (r:Room k A):A.depth < recursionLimit:=by have:=r.dp; omega
theorem Room.units {k:Nat} {A:Around} (r:Room k A):A.units + 64 < cLine:=by have:=r.un; omega
def tNil:TA:=fun _ H Q=>Q [] H
def tCons (ta:TE) (tr:TA):TA:=fun σ H Q=>ta σ H fun x H1=>tr σ H1 fun xs H2=>Q (x::xs) H2
section
variable {X:Cx} {e:Expr} {es:List Expr} {te:TE} {t:TA} {pos:Pos}
theorem pa_nil:PA X [] tNil:=fun _ _ _ _ H Q I h=>Calls.spliced_nil ⟨[],H,I,.nil,h⟩
theorem pa_cons (ha:PE X e te) (hr:PA X es t) (hs:starEach (e::es) X.env=(false,eval e X.env)::starEach es X.env:=by rfl):PA X (e::es) (tCons te t):=by
 intro pos pins s σ H Q I h
 rw [hs]
 show wpAny _ _ (spliced ((false,eval e X.env)::backTo pos (starEach es X.env))) _ _ s
 refine Calls.spliced_cons (thn (ha pins s σ H _ I h) fun u s1 ⟨x,H1,I1,r1,q1⟩=>?_)
 exact thn (hr pos pins s1 σ H1 _ I1 q1) fun us s2 ⟨xs,H2,I2,r2,q2⟩=>⟨x::xs,H2,I2,.cons r1 r2,q2⟩
def tTup (t:TA):TE:=fun σ H Q=>t σ H fun xs H1=>xs.length <= sizeLine/\∀ p,H1 p=none->Q (.ref p) (upd H1 p (.tup xs))
def tLst (t:TA):TE:=fun σ H Q=>t σ H fun xs H1=>xs.length <= sizeLine/\∀ p,H1 p=none->Q (.ref p) (upd H1 p (.lst xs))
theorem pe_tup {x1} (h:PA X es t):PE X (.Tuple es x1 pos) (tTup t):=by
 intro pins s σ H Q I hq
 refine wpAny_Tuple_spliced (thn (h pos pins s σ H _ I hq) fun us s1 ⟨xs,H1,I1,r,z,q⟩=>⟨by rw [<- r.length]; exact z,?_⟩)
 have hf:H1 s1.heap.objs.size=none:=I1.hok.fresh (Nat.le_refl _)
 refine ⟨.ref s1.heap.objs.size,upd H1 s1.heap.objs.size (.tup xs),I1.laid (t':=s1.toks) (fun b u e=>Heap.get?_push_of_some _ e) (Nat.le_refl _) ?_,rfl,q _ hf⟩
 exact ⟨z,us,r,⟨_,Heap.get?_push_size _ rfl,rfl,_,rfl⟩⟩
theorem pe_lst (h:PA X es t):PE X (.List es pos) (tLst t):=by
 intro pins s σ H Q I hq
 refine wpAny_List_spliced (thn (h pos pins s σ H _ I hq) fun us s1 ⟨xs,H1,I1,r,z,q⟩=>⟨by rw [<- r.length]; exact z,?_⟩)
 have hf:H1 s1.heap.objs.size=none:=I1.hok.fresh (Nat.le_refl _)
 refine ⟨.ref s1.heap.objs.size,upd H1 s1.heap.objs.size (.lst xs),I1.laid (t':=s1.toks) (fun b u e=>Heap.get?_push_of_some _ e) (Nat.le_refl _) ?_,rfl,q _ hf⟩
 exact ⟨z,us,0,r,Heap.get?_push_size _ rfl⟩
end
abbrev Sp:=List V->Hp->VK->XK->Prop
abbrev CXT:=List Env->Hp->Shared->XK->Value->Shared->Prop
structure Env0 (P:Program) (w:World) (K:PySem.W.Frag) (mg:Str->Option Value) (base:Heap) (A:Around) (outer:List Env) (s:Shared) (H:Hp):Prop where
 frames:A.frames=some outer
 mod:Mod K mg base
 bs:∀ b o,base.get? b=some o->s.heap.get? b=some o/\H b=none
 bsz:base.objs.size <= s.heap.objs.size
 funs:s.heap.FunFrames base outer
 frf:∀ b ∈ frs outer,H b=none
 hok:HOk P w H s.heap
 bare:AllBare s.gens
def CE (outer:List Env) (P:Program) (w:World) (H:Hp) (s:Shared) (Q:VK) (u:Value) (s':Shared):Prop :=
 ∃ v H',s'.os=s.os/\AllBare s'.gens/\Un (frs outer) [] H H' s.heap s'.heap/\HOk P w H' s'.heap/\RelV v u/\Q v H'
def CR (CX:CXT) (outer:List Env) (P:Program) (w:World) (H:Hp) (s:Shared) (Q:VK) (E:XK) (r:Result) (s':Shared):Prop :=
 match r with
 | .ok (.ret u)=>CE outer P w H s Q u s'
 | .ok _=>False
 | .error e=>CX outer H s E e s'
structure FnOk (P:Program) (w:World) (K:PySem.W.Frag) (mg:Str->Option Value) (base:Heap) (CX:CXT) (k:Nat) (f:Addr) (fd:FuncData) (ps:List Str) (sp:Sp):Prop where
 len:∀ vs H Q E,sp vs H Q E->vs.length=ps.length
 run:∀ (A:Around) (outer:List Env) (s:Shared) (H:Hp) (args:Args) (us:List Value) (vs:List V) (Q:VK) (E:XK),Room k A->Env0 P w K mg base A outer s H->BindsTo s fd args (ps.zip us)->Vals vs us->sp vs H Q E ->
  codeAny (model P w) A (.call (.ref f) args) (CR CX outer P w H s Q E) s
theorem FnOk.mono {P:Program} {w:World} {K:PySem.W.Frag} {mg:Str->Option Value} {base:Heap} {CX:CXT} {j k:Nat} {f:Addr} {fd:FuncData} {ps:List Str} {sp:Sp} (F:FnOk P w K mg base CX j f fd ps sp) (h:j <= k) :
  FnOk P w K mg base CX k f fd ps sp:=⟨F.len,fun A outer s H args us vs Q E hr=>F.run A outer s H args us vs Q E (hr.mono h)⟩
theorem Env0.make {P:Program} {w:World} {K:PySem.W.Frag} {mg:Str->Option Value} {base:Heap} {A:Around} {outer:List Env} {s:Shared} {H:Hp} (e:Env0 P w K mg base A outer s H) (C:Addr) (us:List Value) (kw:List (Str × Value)) :
  Env0 P w K mg base (A.under (.builtin "type.__call__" ⟨.ref C::us,kw⟩)) outer s H:=⟨by first | exact e.frames | (simpa [Around.under,Code.envs,Code.isFrame,pushEnvs] using e.frames),e.mod,e.bs,e.bsz,e.funs,e.frf,e.hok,e.bare⟩
theorem Env0.in1 {P:Program} {w:World} {K:PySem.W.Frag} {mg:Str->Option Value} {base:Heap} {A:Around} {outer:List Env} {s:Shared} {H:Hp} (e:Env0 P w K mg base A outer s H) :
  Env0 P w K mg base A.in1 outer s H:=⟨e.frames,e.mod,e.bs,e.bsz,e.funs,e.frf,e.hok,e.bare⟩
section
variable {X:Cx} {pins:List (Addr × Obj)} {σ:St} {H:Hp} {s s':Shared}
theorem Inv.env0 (I:Inv X pins σ H s):Env0 X.prog X.w X.K X.mg X.base X.A X.stack s H :=
 ⟨I.ok.frames,I.ok.mod,I.bs,Nat.le_trans I.ok.bsz I.sz,I.stack,I.stkFree,I.hok,I.bare⟩
theorem Inv.after {Q:VK} {u:Value} (I:Inv X pins σ H s) (h:CE X.stack X.prog X.w H s Q u s'):EP X pins σ Q u s':=by
 obtain ⟨v,H',os,bare,un,hok,r,q⟩:=h
 obtain ⟨hh,g,d,t,os'⟩:=s'
 obtain rfl:os'=s.os:=os
 exact ⟨v,H',I.call (h':=hh) (g':=g) (d':=d) (t':=t) (ch:=[]) un hok bare (fun b z=>absurd z (by simp)),r,q⟩
end
def tCall (sp:Sp) (dvs:List V) (E:XK) (t:TA):TE:=fun σ H Q=>t σ H fun vs H1=>sp (vs ++ dvs) H1 Q E
def tMake (C:Addr) (sp:Sp) (dvs:List V) (E:XK) (t:TA):TE:=fun σ H Q=>t σ H fun vs H1=>∀ x dx,H1 x=none->H1 dx=none->dx ≠ x ->
 sp (.ref x::(vs ++ dvs)) (upd (upd H1 dx (.own x)) x (.ins C dx [])) (fun v H2=>v=.non/\Q (.ref x) H2) E
def Binds (K:PySem.W.Frag) (fd:FuncData) (ps:List Str) (ds:List Value):Prop :=
 ∀ (s:Shared) (us:List Value),K.In s.heap->(us ++ ds).length=ps.length->BindsTo s fd ⟨us,[]⟩ (ps.zip (us ++ ds))
theorem Binds.all {K:PySem.W.Frag} {fd:FuncData} {ps:List Str} (h:∀ us:List Value,us.length=ps.length->bindArgs fd ⟨us,[]⟩=pure (ps.zip us)):Binds K fd ps []:=fun s us _ hl=>by
 rw [List.append_nil] at hl ⊢
 exact .of_eq (h us hl)
def Passes (CX:CXT) (X:Cx) (E:XK):Prop:=∀ (pins:List (Addr × Obj)) (σ:St) (H:Hp) (s:Shared) (e:Value) (s':Shared),Inv X pins σ H s->CX X.stack H s E e s'->X.xe e s'
section
variable {X:Cx} {CX:CXT} {k:Nat} {f C:Addr} {fd:FuncData} {ps:List Str} {sp:Sp} {dvs:List V} {ds:List Value} {E:XK} {x m:Str} {p pos apos:Pos} {e o:Expr} {es:List Expr} {ta:TE} {t:TA}
theorem run_fn {pins:List (Addr × Obj)} {σ:St} {H:Hp} {s:Shared} {Q:VK} {us:List Value} {vs:List V} (F:FnOk X.prog X.w X.K X.mg X.base CX k f fd ps sp) (hr:Room k X.A) (hb:Binds X.K fd ps ds) (hd:Vals dvs ds) (hx:Passes CX X E)
  (I:Inv X pins σ H s) (r:Vals vs us) (h:sp (vs ++ dvs) H Q E):wpAny (model X.prog X.w) X.A (call (.ref f) us) (EP X pins σ Q) X.xe s:=by
 have r2:Vals (vs ++ dvs) (us ++ ds):=r.append hd
 have hl:(us ++ ds).length=ps.length:=by rw [<- r2.length]; exact F.len _ _ _ _ h
 refine wpAny_call (codeAny_mono (F.run X.A X.stack s H ⟨us,[]⟩ (us ++ ds) (vs ++ dvs) Q E hr I.env0 (hb s us I.kIn hl) r2 h) fun r s' hq=>?_)
 cases r with
 | error e=>exact hx pins σ H s e s' I hq
 | ok fl =>
  cases fl with
  | ret u=>exact I.after hq
  | next=>exact False.elim hq
  | brk=>exact False.elim hq
  | cont=>exact False.elim hq
theorem pe_call (F:FnOk X.prog X.w X.K X.mg X.base CX k f fd ps sp) (hr:Room k X.A) (hg:Gl X x) (hm:X.mg x=some (.ref f)) (hk:PySem.W.keepIn X.K (.ref f)=true) (hb:Binds X.K fd ps ds) (hd:Vals dvs ds) (hx:Passes CX X E)
  (ha:PA X (e::es) t) (hdb:(x == ("__debug__":Str))=false:=by decide) (he:starEach (e::es) X.env=(false,eval e X.env)::starEach es X.env:=by rfl) (hpl:(backTo pos (starEach es X.env)).any (·.1)=false:=by rfl) :
  PE X (.Call (.Name x p) (e::es) [] pos) (tCall sp dvs E t):=by
 intro pins s σ H Q I h
 refine wpAny_Call_Name_kw (ld_glob I hg hm ?_ hdb)
 refine PySem.W.callWith_K (h₀:=X.base) I.ok.mod.kin hk (thn (ha pos pins s σ H _ I h) fun us s1 ⟨vs,H1,I1,r,q⟩=>⟨I1.kIn,?_⟩) he hpl
 exact run_fn F hr hb hd hx I1 r q
structure Mk (K:PySem.W.Frag) (C f:Addr):Prop where
 makes:PySem.W.makesIn K C=true
 init:PySem.W.findIn K (.ref C) "__init__"=some (some (.ref f))
 fn:PySem.W.isFn K (.ref f)=true
 kp:PySem.W.keepIn K (.ref C)=true
theorem run_make {pins:List (Addr × Obj)} {σ:St} {H:Hp} {s:Shared} {Q:VK} {us:List Value} {vs:List V} (M:Mk X.K C f) (F:FnOk X.prog X.w X.K X.mg X.base CX k f fd ps sp) (hr:Room (k + 1) X.A) (hb:Binds X.K fd ps ds) (hd:Vals dvs ds)
  (hx:Passes CX X E) (I:Inv X pins σ H s) (r:Vals vs us)
  (h:∀ x dx,H x=none->H dx=none->dx ≠ x->sp (.ref x::(vs ++ dvs)) (upd (upd H dx (.own x)) x (.ins C dx [])) (fun v H2=>v=.non/\Q (.ref x) H2) E) :
  wpAny (model X.prog X.w) X.A (call (.ref C) us) (EP X pins σ Q) X.xe s:=by
 have hq:=h (s.heap.objs.size + 1) s.heap.objs.size (I.hok.fresh (Nat.le_succ _)) (I.hok.fresh (Nat.le_refl _)) (Nat.ne_of_lt (Nat.lt_succ_self _))
 have I2:=Inv.made (C:=C) I
 have r2:Vals (V.ref (s.heap.objs.size + 1)::(vs ++ dvs)) (Value.ref (s.heap.objs.size + 1)::(us ++ ds)):=.cons rfl (r.append hd)
 have hl:(Value.ref (s.heap.objs.size + 1)::us ++ ds).length=ps.length:=by
  have e:=r2.length
  rw [F.len _ _ _ _ hq] at e
  exact e.symm
 refine wpAny_call (make_map (f:=f) I.kIn M.makes M.init (beq_iff_eq.mp M.fn) (codeAny_mono (F.run _ X.stack _ _ ⟨Value.ref (s.heap.objs.size + 1)::us,[]⟩ (Value.ref (s.heap.objs.size + 1)::(us ++ ds)) _ _ E (hr.make C us [])
  (I2.env0.make C us []) (hb _ (Value.ref (s.heap.objs.size + 1)::us) I2.kIn hl) r2 hq) fun r s' hq'=>?_))
 cases r with
 | error e=>exact hx pins σ _ _ e s' I2 hq'
 | ok fl =>
  cases fl with
  | ret u =>
   obtain ⟨v,H',I3,rv,ev,q3⟩:=I2.after hq'
   subst ev
   exact ⟨rv,⟨V.ref (s.heap.objs.size + 1),H',I3,rfl,q3⟩⟩
  | next=>exact False.elim hq'
  | brk=>exact False.elim hq'
  | cont=>exact False.elim hq'
theorem pe_make (M:Mk X.K C f) (F:FnOk X.prog X.w X.K X.mg X.base CX k f fd ps sp) (hr:Room (k + 1) X.A) (hg:Gl X x) (hm:X.mg x=some (.ref C)) (hb:Binds X.K fd ps ds) (hd:Vals dvs ds) (hx:Passes CX X E)
  (ha:PA X (e::es) t) (hdb:(x == ("__debug__":Str))=false:=by decide) (he:starEach (e::es) X.env=(false,eval e X.env)::starEach es X.env:=by rfl) (hpl:(backTo pos (starEach es X.env)).any (·.1)=false:=by rfl) :
  PE X (.Call (.Name x p) (e::es) [] pos) (tMake C sp dvs E t):=by
 intro pins s σ H Q I h
 refine wpAny_Call_Name_kw (ld_glob I hg hm ?_ hdb)
 refine PySem.W.callWith_K (h₀:=X.base) I.ok.mod.kin M.kp (thn (ha pos pins s σ H _ I h) fun us s1 ⟨vs,H1,I1,r,q⟩=>⟨I1.kIn,?_⟩) he hpl
 exact run_make M F hr hb hd hx I1 r q
end
section
variable {X:Cx} {CX:CXT} {k:Nat} {f C:Addr} {fd:FuncData} {ps ks:List Str} {sp:Sp} {E:XK} {x m:Str} {p pos apos kpos:Pos} {e o:Expr} {es:List Expr} {kws:List Keyword} {te ta:TE} {t tk:TA} {nm:Option Str}
variable {g:List Value->List Value->List Value} {gV:List V->List V->List V}
end
structure FnScope (N P:List Str) (sc:Scope):Prop where
 kind:sc.kind=.function
 co:sc.isCoroutine=false
 gen:sc.isGenerator=false
 nd:N.Nodup
 pre:N.take P.length=P
 par:∀ x ∈ P,sc.names.lookup x=some .local\/sc.names.lookup x=some .cell
 nofree:∀ y ∈ sc.names,y.2 ≠ .free
theorem bindL_out {kindOf:Str->Option NameKind} {x:Str}:∀ {binds:List (Str × Value)} {m:Str->Option Value},(∀ v,(x,v) ∉ binds)->bindL kindOf binds m x=m x
 | [],_,_=>rfl
 | (n,v)::r,m,h=>by
  unfold bindL
  rw [bindL_out fun w hw=>h w (List.mem_cons_of_mem _ hw)]
  split
  ·have:x ≠ n:=by rintro rfl; exact h v List.mem_cons_self
   simp [this]
  ·rfl
theorem bindC_out {kindOf:Str->Option NameKind} {x:Str}:∀ {binds:List (Str × Value)} {m:Str->Option Value},(∀ v,(x,v) ∉ binds)->bindC kindOf binds m x=m x
 | [],_,_=>rfl
 | (n,v)::r,m,h=>by
  unfold bindC
  rw [bindC_out fun w hw=>h w (List.mem_cons_of_mem _ hw)]
  split
  ·rfl
  ·have:x ≠ n:=by rintro rfl; exact h v List.mem_cons_self
   simp [this]
theorem bindL_get {kindOf:Str->Option NameKind} {x:Str} {v:Value}:∀ {P:List Str} {vs:List Value} {i:Nat} {m:Str->Option Value},P.Nodup->P[i]? = some x->vs[i]? = some v->kindOf x=some .local ->
  bindL kindOf (P.zip vs) m x=some v
 | [],_,_,_,_,h,_,_=>by simp at h
 | _::_,[],_,_,_,_,h,_=>by simp at h
 | p::P,w::vs,0,m,nd,h1,h2,hk=>by
  simp at h1 h2; subst h1; subst h2
  show bindL kindOf ((p,w)::P.zip vs) m p=_
  unfold bindL
  rw [bindL_out fun v hv=>(List.nodup_cons.mp nd).1 (List.of_mem_zip hv).1,if_pos hk]
  simp
 | p::P,w::vs,i + 1,m,nd,h1,h2,hk=>by
  show bindL kindOf ((p,w)::P.zip vs) m x=_
  unfold bindL
  exact bindL_get (i:=i) (List.nodup_cons.mp nd).2 (by simpa using h1) (by simpa using h2) hk
theorem bindC_get {kindOf:Str->Option NameKind} {x:Str} {v:Value}:∀ {P:List Str} {vs:List Value} {i:Nat} {m:Str->Option Value},P.Nodup->P[i]? = some x->vs[i]? = some v->kindOf x ≠ some .local ->
  bindC kindOf (P.zip vs) m x=some v
 | [],_,_,_,_,h,_,_=>by simp at h
 | _::_,[],_,_,_,_,h,_=>by simp at h
 | p::P,w::vs,0,m,nd,h1,h2,hk=>by
  simp at h1 h2; subst h1; subst h2
  show bindC kindOf ((p,w)::P.zip vs) m p=_
  unfold bindC
  rw [bindC_out fun v hv=>(List.nodup_cons.mp nd).1 (List.of_mem_zip hv).1,if_neg hk]
  simp
 | p::P,w::vs,i + 1,m,nd,h1,h2,hk=>by
  show bindC kindOf ((p,w)::P.zip vs) m x=_
  unfold bindC
  exact bindC_get (i:=i) (List.nodup_cons.mp nd).2 (by simpa using h1) (by simpa using h2) hk
def start (N:List Str) (vs:List V):St:=vs.map some ++ List.replicate (N.length - vs.length) none
def cxOf (CX:CXT) (P:Program) (w:World) (K:PySem.W.Frag) (mg:Str->Option Value) (base:Heap) (N:List Str) (qual:Str) (scope:Scope) (f:Addr) (cd:Value) (A:Around) (outer:List Env) (s:Shared) (H:Hp) (E:XK):Cx where
 prog:=P
 w:=w
 K:=K
 mg:=mg
 base:=base
 A:=A.deeper (envOfC qual scope s.heap.objs.size f cd)
 N:=N
 s₀:=s
 H₀:=H
 env:=envOfC qual scope s.heap.objs.size f cd
 outer:=outer
 stack:=envOfC qual scope s.heap.objs.size f cd::outer
 ex:=[]
 calm:=true
 fn:=fun _=>true
 pn:=[]
 xe:=fun e s'=>wpAny (model P w) (A.deeper (envOfC qual scope s.heap.objs.size f cd)) (leaving (envOfC qual scope s.heap.objs.size f cd) e) (fun _ s''=>CX outer H s E e s'') (fun e' s''=>CX outer H s E e' s'') s'
theorem cell_has {sc:Scope} {n:Nat} {x:Str} (h:sc.names.lookup x=some .cell):∃ c,(cellsFrom n sc.names []).lookup x=some c:=by
 have q:=PySem.W.cellsFrom_some sc.names n [] (.inl h)
 exact Option.isSome_iff_exists.mp q
theorem inv_start {CX:CXT} {P:Program} {w:World} {K:PySem.W.Frag} {mg:Str->Option Value} {base:Heap} {N ps:List Str} {qual:Str} {scope:Scope} {f:Addr} {cd:Value} {A:Around} {outer:List Env} {s s1:Shared} {H:Hp} {E:XK} {us:List Value} {vs:List V}
  (S:FnScope N ps scope) (hd:A.handled=none) (e0:Env0 P w K mg base A outer s H) (hl:vs.length=ps.length) (r:Vals vs us)
  (x:InCallC s s.heap.objs.size (bindL (envOfC qual scope s.heap.objs.size f cd).kindOf (ps.zip us) fun _=>none) (cellsFrom (s.heap.objs.size + 1) scope.names []) (bindC (envOfC qual scope s.heap.objs.size f cd).kindOf (ps.zip us) fun _=>none) s1) :
  Inv (cxOf CX P w K mg base N qual scope f cd A outer s H E) [] (start N vs) H s1:=by
 have hpl:ps.length <= N.length:=by have:=congrArg List.length S.pre; rw [List.length_take] at this; omega
 obtain ⟨h1,tk,rfl,hk⟩:=x.done
 have noA:∀ b:Addr,b ∉ (cxOf CX P w K mg base N qual scope f cd A outer s H E).ex:=fun b z=>absurd (show b ∈ ([]:List Addr) from z) (by simp)
 refine ⟨⟨e0.mod,S.kind,rfl,rfl,Nat.le_refl _,fun y z c h1 h2=>?_,fun y hy=>?_,fun y c _ h=>?_,fun _=>hd,Around.frames_deeper e0.frames,.inr ⟨rfl,rfl⟩,fun b z=>absurd z (noA b),e0.bs,e0.bsz,fun b _ _=>noA b,fun b z=>absurd z (noA b),e0.funs,e0.frf⟩,
  rfl,e0.bare,Un.kept hk,⟨_,x.toInCall.ns,fun i y v h1 h2 h3=>?_⟩,fun y c h=>⟨_,x.cell y c h⟩,e0.hok.fresh (Nat.le_refl _),fun y c h=>?_,fun p hp=>absurd (show p ∈ ([]:List (Addr × Obj)) from hp) (by simp),e0.hok.kept hk,?_⟩
 ·exact name_of_addr x.apart (PySem.mem_of_lookup h1) (PySem.mem_of_lookup h2)
 ·have hy:scope.names.lookup y=some .cell\/scope.names.lookup y=some .free:=hy
  rcases hy with hy | hy
  ·exact cell_has hy
  ·exact absurd rfl (S.nofree _ (PySem.mem_of_lookup hy))
 ·exact Nat.le_of_lt (x.above y c (PySem.mem_of_lookup h))
 ·have hi:i < vs.length:=by
   unfold start at h2
   by_cases hi:i < vs.length
   ·exact hi
   ·rw [List.getElem?_append_right (by simpa using hi)] at h2
    rw [List.getElem?_replicate] at h2
    split at h2 <;> cases h2
  have ha:vs[i]? = some v:=by
   unfold start at h2
   rw [List.getElem?_append_left (by simpa using hi),List.getElem?_map] at h2
   cases e:vs[i]? with
   | none=>rw [e] at h2; cases h2
   | some a=>rw [e] at h2; cases h2; rfl
  obtain ⟨u,hu,rv⟩:=r.get ha
  have hp:ps[i]? = some y:=by
   rw [<- S.pre,List.getElem?_take_of_lt (by omega)]; exact h1
  have ndP:ps.Nodup:=by rw [<- S.pre]; exact S.nd.sublist (List.take_sublist _ _)
  refine ⟨u,rv,?_⟩
  rcases S.par y (List.mem_of_getElem? hp) with k | k
  ·exact .inl ⟨k,bindL_get ndP hp hu k⟩
  ·obtain ⟨c,e⟩:=cell_has (n:=s.heap.objs.size + 1) k
   refine .inr ⟨.inl k,c,e,?_⟩
   have q:=x.cell y c e
   rw [bindC_get ndP hp hu (by show scope.names.lookup y ≠ _; rw [k]; decide)] at q
   exact q
 ·exact e0.hok.fresh (Nat.le_of_lt (x.above y c (PySem.mem_of_lookup h)))
 ·unfold start
  show _=N.length
  rw [List.length_append,List.length_map,List.length_replicate]
  omega
theorem fn_of {CX:CXT} {P:Program} {w:World} {K:PySem.W.Frag} {mg:Str->Option Value} {base:Heap} {k:Nat} {f:Addr} {name qual:Str} {params:Arguments} {body:List Stmt} {scope:Scope} {dV kV doc pm cdv ct oc:Value} {an od:Option Addr}
  {osl:Array (Option Value)} {N ps:List Str} {sp:Sp} (lk:K.lookup f=some ⟨oc,od,.func (PySem.W.fnOf name qual params body scope dV kV doc pm an cdv ct),osl⟩) (hcd:PySem.W.codeIn K cdv qual=true) (S:FnScope N ps scope)
  (len:∀ vs H Q E,sp vs H Q E->vs.length=ps.length)
  (hbody:∀ (A:Around) (outer:List Env) (s:Shared) (H:Hp) (vs:List V) (Q:VK) (E:XK),Room k (A.deeper (envOfC qual scope s.heap.objs.size f cdv))->sp vs H Q E ->
   ∃ t,PSs (cxOf CX P w K mg base N qual scope f cdv A outer s H E) body t/\t { nx:=fun _ H'=>Q .non H',rt:=Q } (start N vs) H) :
  FnOk P w K mg base CX (k + 1) f (PySem.W.fnOf name qual params body scope dV kV doc pm an cdv ct) ps sp:=by
 refine ⟨len,fun A outer s H args us vs Q E hr e0 hb r hsp=>?_⟩
 have hl:=len _ _ _ _ hsp
 have KX:K.In s.heap:=e0.mod.kin.keeps fun b o e=>(e0.bs b o e).1
 have lim:s.heap.NoLimit:=e0.mod.nolimit.keeps fun b o e=>(e0.bs b o e).1
 have hkind:∀ y ∈ ps.zip us,scope.names.lookup y.1=some .local\/(scope.names.lookup y.1=some .cell/\((cellsFrom (s.heap.objs.size + 1) scope.names []).lookup y.1).isSome=true):=fun ⟨n,v⟩ hy=>by
  rcases S.par n (List.of_mem_zip hy).1 with q | q
  ·exact .inl q
  ·exact .inr ⟨q,PySem.W.cellsFrom_some _ _ _ (.inl q)⟩
 refine codeAny_call_function hr.depth (KX _ _ lk) rfl S.co S.gen rfl (PySem.W.codeRec_of KX hcd) (hb _ _ _ _ ?_)
 refine wpAny_newFunctionEnv_cells S.kind hkind fun env he s1 x=>?_
 subst he
 refine ⟨lim.keeps x.toInCall.keep,codeAny_func ?_⟩
 obtain ⟨t,ht,hq⟩:=hbody A outer s H vs Q E (hr.deeper _) hsp
 have I:Inv (cxOf CX P w K mg base N qual scope f cdv A outer s H E) [] (start N vs) H s1:=inv_start S hr.hd e0 hl r x
 refine wpAny_mono (ht [] s1 (start N vs) H _ I hq) (fun fl s' hs=>?_) fun e s' hs=>hs
 have fin:∀ {σ':St} {H':Hp} {v:V} {u:Value},Inv (cxOf CX P w K mg base N qual scope f cdv A outer s H E) [] σ' H' s'->RelV v u->Q v H'->CE outer P w H s Q u s' :=
  fun {σ' H' v u} J rv q=>⟨v,H',J.os,J.bare,J.base,J.hok,rv,q⟩
 cases fl with
 | ret u =>
  obtain ⟨v,σ',H',J,rv,q⟩:=hs
  exact fin J rv q
 | next =>
  obtain ⟨σ',H',J,q⟩:=hs
  exact fin (v:=V.non) (u:=Value.none) J rfl q
 | brk =>
  obtain ⟨_,_,_,q⟩:=hs
  exact False.elim q
 | cont =>
  obtain ⟨_,_,_,q⟩:=hs
  exact False.elim q
end L2
namespace L2
open PySem PySem.Spec PyProof.Rows
section
variable {X:Cx} {x:Str} {p pos:Pos} {e:Expr} {es:List Expr} {t:TA} {id T:String} {r:List V->Hp->VK->Prop}
def tCB (r:List V->Hp->VK->Prop) (t:TA):TE:=fun σ H Q=>t σ H fun vs H1=>r vs H1 Q
theorem pe_callB (hc:CallR X (.builtin id) r) (hg:Gl X x) (hm:X.mg x=none) (hv:bootBuiltins x=some (.builtin id)) (ha:PA X (e::es) t) (hn:x ≠ "__name__":=by decide) (hdb:(x == ("__debug__":Str))=false:=by decide)
  (he:starEach (e::es) X.env=(false,eval e X.env)::starEach es X.env:=by rfl) (hpl:(backTo pos (starEach es X.env)).any (·.1)=false:=by rfl):PE X (.Call (.Name x p) (e::es) [] pos) (tCB r t):=by
 intro pins s σ H Q I h
 refine wpAny_Call_Name_kw (ld_blt I hg hm hv ?_ hn hdb)
 exact PyProof.Rows.callWith_builtin1 (thn (ha pos pins s σ H _ I h) fun us s1 ⟨vs,H1,I1,r1,q1⟩=>hc pins s1 σ H1 vs us Q I1 r1 q1) he hpl
theorem pe_callTy (hc:CallR X (.type T) r) (hg:Gl X x) (hm:X.mg x=none) (hv:bootBuiltins x=some (.type T)) (ha:PA X (e::es) t) (hn:x ≠ "__name__":=by decide) (hdb:(x == ("__debug__":Str))=false:=by decide)
  (he:starEach (e::es) X.env=(false,eval e X.env)::starEach es X.env:=by rfl) (hpl:(backTo pos (starEach es X.env)).any (·.1)=false:=by rfl):PE X (.Call (.Name x p) (e::es) [] pos) (tCB r t):=by
 intro pins s σ H Q I h
 refine wpAny_Call_Name_kw (ld_blt I hg hm hv ?_ hn hdb)
 exact PyProof.Rows.callWith_type1 (thn (ha pos pins s σ H _ I h) fun us s1 ⟨vs,H1,I1,r1,q1⟩=>hc pins s1 σ H1 vs us Q I1 r1 q1) he hpl
end
end L2
namespace HT
open PySem PyProof.Rows
section
open PySem.SeqAt
open PySem.AutoSeq1 (wpAny_loadPart')
open PySem.MeetsSeq PySem.MeetsSeq2 PySem.MeetsSeq3
end
section
variable {prog:Program} {w:World} {A:Around} {E:Value->Shared->Prop} {s:Shared}
def sIx (n d:Nat):Option Int->Nat
 | none=>d
 | some v=>if v < 0 then (v + (n:Int)).toNat else min v.toNat n
theorem sIx_none (n d:Nat):sIx n d none=d:=rfl
end
end HT
namespace L2
open PySem PySem.Spec PyProof.Rows
abbrev TO:=St->Hp->(Option Int->Hp->Prop)->Prop
def PO (X:Cx) (e:Option Expr) (t:TO):Prop :=
 ∀ (pins:List (Addr × Obj)) (s:Shared) (σ:St) (H:Hp) (Q:Option Int->Hp->Prop),Inv X pins σ H s->t σ H Q ->
  wpAny (model X.prog X.w) X.A (evalPart e X.env) (fun u s'=>∃ o H',Inv X pins σ H' s'/\IsPart u o/\Q o H') X.xe s
def tNoPart:TO:=fun _ H Q=>Q none H
def tPart (t:TE):TO:=fun σ H Q=>t σ H fun x H1=>∃ i,x=.int i/\Q (some i) H1
theorem intsAre_of {ns:List Int}:∀ {us:List Value},Vals (ns.map V.int) us->IntsAre us ns:=by
 induction ns with
 | nil=>intro us r; rw [List.map_nil] at r; cases r; exact .nil
 | cons n ns ih =>
  intro us r
  rw [List.map_cons] at r
  cases r with
  | cons r1 r2 =>
   obtain ⟨t,e⟩:=r1
   subst e
   exact .cons n t (ih r2)
section
variable {X:Cx} {e:Expr} {te:TE} {lo hi:Option Expr} {tl th:TO} {pos p2:Pos}
theorem po_none:PO X none tNoPart:=by
 intro pins s σ H Q I h
 rw [evalPart_none]
 exact wpAny_pure ⟨none,H,I,.none,h⟩
theorem po_some (h:PE X e te):PO X (some e) (tPart te):=by
 intro pins s σ H Q I hw
 rw [evalPart_some]
 refine thn (h pins s σ H _ I hw) fun u s1 ⟨x,H1,I1,r1,q1⟩=>?_
 obtain ⟨i,rfl,q⟩:=q1
 obtain ⟨t,rfl⟩:=r1
 exact ⟨some i,H1,I1,.int i t,q⟩
def SlR (X:Cx) (r:V->Option Int->Option Int->Hp->VK->Prop):Prop :=
 ∀ (pins:List (Addr × Obj)) (s:Shared) (σ:St) (H:Hp) (x:V) (v vl vu:Value) (lo hi:Option Int) (sl:Addr) (Q:VK),Inv X pins σ H s->RelV x v->s.heap.IsSliceOf sl vl vu .none->IsPart vl lo->IsPart vu hi->r x lo hi H Q ->
  ∃ T id,typeLookup (.type T) "__getitem__"=pure (some (.builtin id))/\s.TypeIs v T/\wpAny (model X.prog X.w) X.A (getItem v (.ref sl)) (EP X pins σ Q) X.xe s
def tSl (r:V->Option Int->Option Int->Hp->VK->Prop) (te:TE) (tl th:TO):TE:=fun σ H Q=>te σ H fun x H1=>tl σ H1 fun l H2=>th σ H2 fun u H3=>r x l u H3 Q
theorem pe_slice {r:V->Option Int->Option Int->Hp->VK->Prop} (hr:SlR X r) (he:PE X e te) (hl:PO X lo tl) (hu:PO X hi th):PE X (.Subscript e (.Slice lo hi none p2) pos) (tSl r te tl th):=by
 intro pins s σ H Q I h
 refine Subscript_ (thn (he pins s σ H _ I h) fun v s1 ⟨x,H1,I1,r1,q1⟩=>?_)
 refine wpAny_Slice (thn (hl pins s1 σ H1 _ I1 q1) fun vl s2 ⟨l,H2,I2,pl,q2⟩=>thn (hu pins s2 σ H2 _ I2 q2) fun vu s3 ⟨u,H3,I3,pu,q3⟩=>?_)
 rw [evalPart_none]
 refine wpAny_pure ?_
 have I4:Inv X pins σ H3 { s3 with heap:=s3.heap.push { cls:=.type "slice",data:=.fields #[vl,vu,.none] } }:=I3.kept (t':=s3.toks) fun b ob q=>Heap.get?_push_of_some _ q
 obtain ⟨T,id,hT,ht,hg⟩:=hr pins { s3 with heap:=s3.heap.push { cls:=.type "slice",data:=.fields #[vl,vu,.none] } } σ H3 x v vl vu l u s3.heap.objs.size Q I4 r1 (Heap.IsSliceOf.new ..) pl pu q3
 show wpAny (model X.prog X.w) X.A (subscriptTail e (.Slice lo hi none p2) v (.ref s3.heap.objs.size)) (EP X pins σ Q) X.xe { s3 with heap:=s3.heap.push { cls:=.type "slice",data:=.fields #[vl,vu,.none] } }
 exact tail_any (ops:=[.ref s3.heap.objs.size,v]) ht hT hg (by with_unfolding_all rfl)
def cutV (xs:List V) (lo hi:Option Int):List V:=(xs.drop (HT.sIx xs.length 0 lo)).take (HT.sIx xs.length xs.length hi - HT.sIx xs.length 0 lo)
theorem cutV_length (xs:List V) (lo hi:Option Int):(cutV xs lo hi).length <= xs.length:=by
 unfold cutV
 rw [List.length_take,List.length_drop]
 omega
end
end L2
namespace L2
open PySem PySem.Spec PyProof.Rows
def ixN (n:Nat) (i:Int):Option Nat:=if 0 <= i then (if i < n then some i.toNat else none) else if -(n:Int) <= i then some (i + n).toNat else none
def atI {α:Type} (xs:List α) (i:Int):Option α:=(ixN xs.length i).bind fun j=>xs[j]?
theorem ixN_seq {n:Nat} {i:Int} {j:Nat} (h:ixN n i=some j):seqIndex? i n=some j/\j < n/\-(n:Int) <= i/\i < n:=by
 unfold ixN at h
 by_cases h0:0 <= i
 ·rw [if_pos h0] at h
  by_cases h1:i < n
  ·rw [if_pos h1] at h
   have e:i.toNat=j:=Option.some.inj h
   exact ⟨by rw [seqIndex_of h0 h1,e],by omega,by omega,h1⟩
  ·rw [if_neg h1] at h; cases h
 ·rw [if_neg h0] at h
  by_cases h1:-(n:Int) <= i
  ·rw [if_pos h1] at h
   have e:(i + n).toNat=j:=Option.some.inj h
   exact ⟨by rw [seqIndex_neg (by omega) h1,e],by omega,h1,by omega⟩
  ·rw [if_neg h1] at h; cases h
theorem atI_get {α:Type} {xs:List α} {i:Int} {v:α} (h:atI xs i=some v):∃ j,seqIndex? i xs.length=some j/\xs[j]? = some v/\j < xs.length/\-(xs.length:Int) <= i/\i < xs.length:=by
 unfold atI at h
 cases e:ixN xs.length i with
 | none=>rw [e] at h; cases h
 | some j =>
  rw [e] at h
  obtain ⟨h1,h2,h3,h4⟩:=ixN_seq e
  exact ⟨j,h1,h,h2,h3,h4⟩
theorem atI_nat {α:Type} {xs:List α} {j:Nat} {v:α} (h:xs[j]? = some v):atI xs (j:Int)=some v:=by
 have hj:j < xs.length:=(List.getElem?_eq_some_iff.mp h).1
 have e:ixN xs.length (j:Int)=some j:=by
  unfold ixN
  rw [if_pos (by omega),if_pos (by omega)]; simp
 unfold atI; rw [e]; exact h
def PlainIx (b:Expr):Prop:=∀ o i,subscripted b false o i=operate [o,i] (getItem o i)
def IxR (X:Cx) (r:R2):Prop :=
 ∀ (value slice:Expr) (pins:List (Addr × Obj)) (s:Shared) (σ:St) (H:Hp) (x y:V) (v u:Value) (Q:VK),Inv X pins σ H s->RelV x v->RelV y u->r x y H Q ->
  subscripted slice false v u=operate [v,u] (getItem v u)->wpAny (model X.prog X.w) X.A (subscriptTail value slice v u) (EP X pins σ Q) X.xe s
def MtR (X:Cx) (id:String) (r:V->List V->Hp->VK->Prop):Prop :=
 ∀ (pins:List (Addr × Obj)) (s:Shared) (σ:St) (H:Hp) (x:V) (xs:List V) (v:Value) (us:List Value) (Q:VK),Inv X pins σ H s->RelV x v->Vals xs us->r x xs H Q ->
  wpAny (model X.prog X.w) X.A (call (.builtin id) (v::us)) (EP X pins σ Q) X.xe s
section
variable {X:Cx} {a b:Expr} {ta tb:TE} {pos:Pos}
theorem pe_ix {r:R2} (hr:IxR X r) (ha:PE X a ta) (hb:PE X b tb) (hs:PlainIx b):PE X (.Subscript a b pos) (tOp r ta tb):=by
 intro pins s σ H Q I h
 exact Subscript_ (binT ha hb I h fun v u s2 x y H2 I2 rx ry q=>hr a b pins s2 σ H2 x y v u Q I2 rx ry q (hs _ _))
def rIxL (K:PySem.W.Frag):R2:=fun x y H Q=>∃ p xs i v,x=.ref p/\y=.int i/\SqL K H p xs/\atI xs i=some v/\Q v H
def rIxT (K:PySem.W.Frag):R2:=fun x y H Q=>∃ p xs i v,x=.ref p/\y=.int i/\SqT K H p xs/\atI xs i=some v/\Q v H
theorem ix_list:IxR X (rIxL X.K):=by
 intro value slice pins s σ H x y v u Q I rx ry h hs
 obtain ⟨p,xs,i,z,rfl,rfl,hq,he,q⟩:=h
 cases rx
 obtain ⟨t,rfl⟩:=ry
 obtain ⟨its,r,pl,hz⟩:=I.list hq
 obtain ⟨j,h1,h2,h3,h4,h5⟩:=atI_get he
 obtain ⟨w,ew,rw'⟩:=r.get h2
 have hl:=r.length
 have hn:=line63
 have fin:EP X pins σ Q w s:=⟨z,H,I,rw',q⟩
 by_cases h0:0 <= i
 ·have hj:i.toNat=j:=by
   rw [seqIndex_of h0 h5] at h1
   exact Option.some.inj h1
  exact item_listR pl.isList h0 (by omega) (by rw [hj]; simpa using ew) fin hs
 ·have hj:(i + (its.toArray.size:Int)).toNat=j:=by
   rw [seqIndex_neg (by omega) h4] at h1
   rw [List.size_toArray,<- hl]
   exact Option.some.inj h1
  exact subscriptTail_builtinR (x:=w) pl.isList.typeIs slot_list_getitem.lookup
   (wpAny_getItem_list_neg (Q:=fun r s'=>r=w/\EP X pins σ Q r s') pl.isList (by omega) (by rw [List.size_toArray] <;> omega) (by omega) (by rw [hj]; simpa using ew) ⟨rfl,fin⟩) hs
theorem ix_tup:IxR X (rIxT X.K):=by
 intro value slice pins s σ H x y v u Q I rx ry h hs
 obtain ⟨p,xs,i,z,rfl,rfl,hq,he,q⟩:=h
 cases rx
 obtain ⟨t,rfl⟩:=ry
 obtain ⟨its,r,pl,hz⟩:=I.tuple hq
 obtain ⟨j,h1,h2,h3,h4,h5⟩:=atI_get he
 obtain ⟨w,ew,rw'⟩:=r.get h2
 have hl:=r.length
 have hn:=line63
 have fin:EP X pins σ Q w s:=⟨z,H,I,rw',q⟩
 exact subscriptTail_builtinR (x:=w) pl.typeIs slot_tuple_getitem.lookup
  (getItem_tuple (j:=j) (Q:=fun r s'=>r=w/\EP X pins σ Q r s') pl (by omega) (by omega) (by rw [List.size_toArray,<- hl]; exact h1) (by simpa using ew) ⟨rfl,fin⟩) hs
theorem mapSeq_set (its:List Value) (n j:Nat) (u:Value):Obj.mapSeq (·.setIfInBounds j u) { cls:=.type "list",data:=.seq its.toArray n }={ cls:=.type "list",data:=.seq (its.set j u).toArray n }:=by
 simp [Obj.mapSeq]
theorem Inv.lst {pins:List (Addr × Obj)} {σ:St} {H:Hp} {s:Shared} {p:Addr} {xs:List V} (I:Inv X pins σ H s) (h:H p=some (.lst xs)) :
  ∃ (its:List Value) (n:Nat),Vals xs its/\s.heap.get? p=some { cls:=.type "list",data:=.seq its.toArray n }/\xs.length <= sizeLine:=by
 obtain ⟨z,its,n,r,e⟩:=I.hok p _ h
 exact ⟨its,n,r,e,z⟩
theorem Inv.lstUpd {pins:List (Addr × Obj)} {σ:St} {H:Hp} {s:Shared} {p:Addr} {xs ys:List V} {its its':List Value} {n n':Nat} {f:Obj->Obj} (I:Inv X pins σ H s) (h:H p=some (.lst xs))
  (ho:s.heap.get? p=some { cls:=.type "list",data:=.seq its.toArray n }) (hf:f { cls:=.type "list",data:=.seq its.toArray n }={ cls:=.type "list",data:=.seq its'.toArray n' }) (r:Vals ys its') (hz:ys.length <= sizeLine) (t:Nat) :
  Inv X pins σ (upd H p (.lst ys)) { s with heap:=s.heap.update p f,toks:=t }:=by
 have e:(s.heap.update p f).get? p=some { cls:=.type "list",data:=.seq its'.toArray n' }:=by
  rw [Heap.get?_update_self f ho (by rw [hf] <;> rfl),hf]
 refine I.write (x:=p) (e:=p) (by rw [h]; trivial) (.inl rfl) (fun b u hb q=>(Heap.get?_update_other _ _ (Ne.symm hb)).trans q) ⟨_,e⟩ ?_
 exact ⟨hz,its',n',r,e⟩
def rSetL:V->V->V->Hp->(Hp->Prop)->Prop:=fun o i v H Q=>∃ p xs k j,o=.ref p/\i=.int k/\H p=some (.lst xs)/\ixN xs.length k=some j/\Q (upd H p (.lst (xs.set j v)))
theorem set_list:PSet X rSetL:=by
 intro pins s σ H o i v ov iv u Q I ro ri rv h
 obtain ⟨p,xs,k,j,rfl,rfl,hp,hj,q⟩:=h
 cases ro
 obtain ⟨t,rfl⟩:=ri
 obtain ⟨its,n,r,ho,hz⟩:=I.lst hp
 obtain ⟨h1,h2,h3,h4⟩:=ixN_seq hj
 have hl:=r.length
 have hn:=line63
 have I':Inv X pins σ (upd H p (.lst (xs.set j v))) { s with heap:=s.heap.update p (Obj.mapSeq (·.setIfInBounds j u)) } :=
  I.lstUpd hp ho (mapSeq_set its n j u) (r.set rv j) (by rw [List.length_set]; exact hz) s.toks
 by_cases h0:0 <= k
 ·have hk:k.toNat=j:=by
   rw [seqIndex_of h0 h4] at h1
   exact Option.some.inj h1
  exact PySem.W.ki_setAt ho h0 (by omega) (by rw [List.size_toArray,<- hl]; exact h4) (by rw [hk]; exact ⟨_,I',q⟩)
 ·have hk:(k + (its.toArray.size:Int)).toNat=j:=by
   rw [seqIndex_neg (by omega) h3] at h1
   rw [List.size_toArray,<- hl]
   exact Option.some.inj h1
  exact PySem.W.ki_setBack ho (by omega) (by rw [List.size_toArray,<- hl]; exact h3) (by omega) (by rw [hk]; exact ⟨_,I',q⟩)
theorem slice_bounds (lo hi:Option Int) (n:Nat):(sliceBounds lo hi none n).1=((HT.sIx n 0 lo:Nat):Int)/\(sliceBounds lo hi none n).2.1=((HT.sIx n n hi:Nat):Int)/\(sliceBounds lo hi none n).2.2=1:=by
 refine ⟨?_,?_,rfl⟩
 ·cases lo with
  | none=>simp [sliceBounds,HT.sIx]
  | some i =>
   simp only [sliceBounds,HT.sIx,Option.getD_none,show (1:Int) > 0 by decide,if_true]
   by_cases h:i < 0
   ·simp only [h,if_true] <;> omega
   ·simp only [h,if_false] <;> omega
 ·cases hi with
  | none=>simp [sliceBounds,HT.sIx]
  | some i =>
   simp only [sliceBounds,HT.sIx,Option.getD_none,show (1:Int) > 0 by decide,if_true]
   by_cases h:i < 0
   ·simp only [h,if_true] <;> omega
   ·simp only [h,if_false] <;> omega
theorem slicePick_cut (its:List Value) (lo hi:Option Int):slicePick its.toArray lo hi none=((its.drop (HT.sIx its.length 0 lo)).take (HT.sIx its.length its.length hi - HT.sIx its.length 0 lo)).toArray:=by
 obtain ⟨h1,h2,h3⟩:=slice_bounds lo hi its.toArray.size
 unfold slicePick
 rw [h1,h2,h3]
 simp only [sliceRange_one,pick_run,List.size_toArray] <;> rfl
def rSlL (K:PySem.W.Frag):V->Option Int->Option Int->Hp->VK->Prop:=fun x lo hi H Q=>∃ a xs,x=.ref a/\SqL K H a xs/\∀ p,H p=none->Q (.ref p) (upd H p (.lst (cutV xs lo hi)))
theorem sl_list:SlR X (rSlL X.K):=by
 intro pins s σ H x v vl vu lo hi sl Q I rx hs pl pu h
 obtain ⟨a,xs,rfl,hx,q⟩:=h
 cases rx
 obtain ⟨its,r,ht,hz⟩:=I.list hx
 have hlen:=r.length
 refine ⟨"list",_,slot_list_getitem.lookup,ht.isList.typeIs,?_⟩
 refine wpAny_getItem_list_slice ht.isList hs pl pu .none (by simp) ?_ (by rw [List.size_toArray] <;> omega)
 rw [slicePick_cut,<- hlen]
 refine ⟨.ref s.heap.objs.size,_,I.laid (t':=s.toks) (o:=.lst (cutV xs lo hi)) (fun b ob q=>Heap.get?_push_of_some _ q) (Nat.le_refl _) ?_,rfl,q _ (I.hok.fresh (Nat.le_refl _))⟩
 exact ⟨Nat.le_trans (cutV_length xs lo hi) hz,_,0,(r.drop (HT.sIx xs.length 0 lo)).take (HT.sIx xs.length xs.length hi - HT.sIx xs.length 0 lo),Heap.get?_push_size _ rfl⟩
def flatV:V->Bool
 | .non=>true
 | .bl _=>true
 | .int _=>true
 | .str _=>true
 | _=>false
def eqV:V->V->Bool
 | .non,.non=>true
 | .bl a,.bl b=>a == b
 | .bl a,.int b=>(if a then 1 else 0) == b
 | .int a,.bl b=>a == (if b then 1 else 0)
 | .int a,.int b=>a == b
 | .str a,.str b=>a == b
 | _,_=>false
theorem eqAt_V {A:Around} {s:Shared} {y x:V} {u v:Value} (ry:RelV y u) (rx:RelV x v) (fy:flatV y=true) (fx:flatV x=true):SeqAt.EqAt A s u v (eqV y x):=by
 cases y with
 | non =>
  cases ry
  cases x with
  | non=>cases rx; exact SeqAt.EqAt.same _
  | bl b=>cases rx; exact SeqAt.EqAt.none_bool b
  | int b=>obtain ⟨t,rfl⟩:=rx; exact SeqAt.EqAt.none_int b t
  | str b=>obtain ⟨t,rfl⟩:=rx; exact SeqAt.EqAt.none_str b t
  | _=>exact absurd (show false=true from fx) Bool.false_ne_true
 | bl a =>
  cases ry
  cases x with
  | non=>cases rx; exact SeqAt.EqAt.bool_none a
  | bl b=>cases rx; exact SeqAt.EqAt.bool_bool a b
  | int b=>obtain ⟨t,rfl⟩:=rx; exact SeqAt.EqAt.bool_int a b t
  | str b=>obtain ⟨t,rfl⟩:=rx; exact SeqAt.EqAt.bool_str a b t
  | _=>exact absurd (show false=true from fx) Bool.false_ne_true
 | int a =>
  obtain ⟨t',rfl⟩:=ry
  cases x with
  | non=>cases rx; exact SeqAt.EqAt.int_none a t'
  | bl b=>cases rx; exact SeqAt.EqAt.int_bool a t' b
  | int b=>obtain ⟨t,rfl⟩:=rx; exact SeqAt.EqAt.int_int a t' b t
  | str b=>obtain ⟨t,rfl⟩:=rx; exact SeqAt.EqAt.int_str a t' b t
  | _=>exact absurd (show false=true from fx) Bool.false_ne_true
 | str a =>
  obtain ⟨t',rfl⟩:=ry
  cases x with
  | non=>cases rx; exact SeqAt.EqAt.str_none a t'
  | bl b=>cases rx; exact SeqAt.EqAt.str_bool a t' b
  | int b=>obtain ⟨t,rfl⟩:=rx; exact SeqAt.EqAt.str_int a t' b t
  | str b=>obtain ⟨t,rfl⟩:=rx; exact SeqAt.EqAt.str_str a t' b t
  | _=>exact absurd (show false=true from fx) Bool.false_ne_true
 | _=>exact absurd (show false=true from fy) Bool.false_ne_true
def eqU (x:V) (u:Value):Bool:=match u with
 | .none=>eqV .non x
 | .bool b=>eqV (.bl b) x
 | .int i _=>eqV (.int i) x
 | .str z _=>eqV (.str z) x
 | _=>false
theorem eqU_of {x y:V} {u:Value} (r:RelV y u) (f:flatV y=true):eqU x u=eqV y x:=by
 cases y with
 | non=>cases r; rfl
 | bl b=>cases r; rfl
 | int i=>obtain ⟨t,rfl⟩:=r; rfl
 | str z=>obtain ⟨t,rfl⟩:=r; rfl
 | _=>exact absurd (show false=true from f) Bool.false_ne_true
theorem any_eqU {x:V}:∀ {xs:List V} {us:List Value},Vals xs us->xs.all flatV=true->us.any (eqU x)=xs.any fun y=>eqV y x
 | _,_,.nil,_=>rfl
 | y::xs,u::us,.cons r t,f=>by
  rw [List.all_cons,Bool.and_eq_true] at f
  rw [List.any_cons,List.any_cons,eqU_of r f.1,any_eqU t f.2]
theorem mem_eqAt {A:Around} {s:Shared} {x:V} {v:Value} (rx:RelV x v) (fx:flatV x=true):∀ {xs:List V} {us:List Value},Vals xs us->xs.all flatV=true->∀ u ∈ us,SeqAt.EqAt A s u v (eqU x u)
 | _,_,.nil,_=>fun u hu=>by cases hu
 | y::xs,u::us,.cons r t,f=>fun u' hu=>by
  rw [List.all_cons,Bool.and_eq_true] at f
  rcases List.mem_cons.mp hu with rfl | hu
  ·rw [eqU_of r f.1]; exact eqAt_V r rx f.1 fx
  ·exact mem_eqAt rx fx t f.2 u' hu
def inV (x:V) (xs:List V):Bool:=xs.any fun y=>eqV y x
def rIn (K:PySem.W.Frag) (neg:Bool):R2:=fun x y H Q=>∃ p xs,y=.ref p/\(SqL K H p xs\/SqT K H p xs)/\flatV x=true/\xs.all flatV=true/\Q (.bl (if neg then !inV x xs else inV x xs)) H
theorem op_notIn_seq:OpR X (compareOp .NotIn) (rIn X.K true):=by
 intro pins s σ H x y v u Q I rx ry h
 obtain ⟨p,xs,rfl,hq,fx,fs,q⟩:=h
 cases ry
 rcases hq with hq | hq
 ·obtain ⟨its,r,pl,hz⟩:=I.list hq
  refine SeqAt.notIn_listAt (eqU x) pl.isList (fun w hw=>mem_eqAt rx fx r fs w (by simpa using hw)) ⟨.bl _,H,I,rfl,?_⟩
  rw [show its.toArray.any (eqU x)=its.any (eqU x) by simp,any_eqU r fs]
  exact q
 ·obtain ⟨its,r,pl,hz⟩:=I.tuple hq
  refine SeqAt.notIn_tupleAt (eqU x) pl (fun w hw=>mem_eqAt rx fx r fs w (by simpa using hw)) ⟨.bl _,H,I,rfl,?_⟩
  rw [show its.toArray.any (eqU x)=its.any (eqU x) by simp,any_eqU r fs]
  exact q
theorem call_len_seq:CallR X (.builtin "len") (fun xs H Q=>∃ p ys,xs=[.ref p]/\(SqL X.K H p ys\/SqT X.K H p ys)/\Q (.int ys.length) H):=by
 intro pins s σ H xs us Q I r h
 obtain ⟨p,ys,rfl,hq,q⟩:=h
 obtain ⟨u,rfl,rx⟩:=vals1 r
 cases rx
 have hn:=line63
 rcases hq with hq | hq
 ·obtain ⟨its,r',pl,hz⟩:=I.list hq
  have hlen:=r'.length
  exact Calls.call_len_list pl.isList (by simp only [List.size_toArray] <;> omega) ⟨.int ys.length,H,I.tok _,⟨s.toks + 1,by rw [List.size_toArray,hlen]⟩,q⟩
 ·obtain ⟨its,r',pl,hz⟩:=I.tuple hq
  have hlen:=r'.length
  exact len_tuple pl (by simp only [List.size_toArray] <;> omega) ⟨.int ys.length,H,I.tok _,⟨s.toks + 1,by rw [List.size_toArray,hlen]⟩,q⟩
theorem call_list_of:CallR X (.type "list") (fun xs H Q=>∃ p ys,xs=[.ref p]/\(SqL X.K H p ys\/SqT X.K H p ys)/\∀ l,H l=none->Q (.ref l) (upd H l (.lst ys))):=by
 intro pins s σ H xs us Q I r h
 obtain ⟨p,ys,rfl,hq,q⟩:=h
 obtain ⟨u,rfl,rx⟩:=vals1 r
 cases rx
 have fin:∀ (its:List Value),Vals ys its->ys.length <= sizeLine->∀ (h':Heap) (c':Nat),(∀ b o',s.heap.get? b=some o'->h'.get? b=some o') ->
   h'.get? s.heap.objs.size=some { cls:=.type "list",dict:=none,data:=.seq its.toArray c',slots:=#[] }->EP X pins σ Q (.ref s.heap.objs.size) { s with heap:=h' }:=fun its r' hz h' c' kp e =>
  ⟨.ref s.heap.objs.size,_,I.laid (t':=s.toks) kp (Nat.le_refl _) (show ObjOk X.prog X.w _ h' _ (.lst ys) from ⟨hz,its,c',r',e⟩),rfl,q _ (I.hok.fresh (Nat.le_refl _))⟩
 rcases hq with hq | hq
 ·obtain ⟨its,r',pl,hz⟩:=I.list hq
  have hlen:=r'.length
  obtain ⟨o,ho,hc,n,hd⟩:=pl.isList
  exact call_list_seq p (.inl rfl) ho hc hd (fun h' c' kp e=>fin its r' hz h' c' kp e) (by simp only [List.size_toArray] <;> omega)
 ·obtain ⟨its,r',pl,hz⟩:=I.tuple hq
  have hlen:=r'.length
  obtain ⟨o,ho,hc,n,hd⟩:=pl
  exact call_list_seq p (.inr rfl) ho hc hd (fun h' c' kp e=>fin its r' hz h' c' kp e) (by simp only [List.size_toArray] <;> omega)
theorem call_tuple_of:CallR X (.type "tuple") (fun xs H Q=>∃ p ys,xs=[.ref p]/\((SqL X.K H p ys/\∀ l,H l=none->Q (.ref l) (upd H l (.tup ys)))\/(SqT X.K H p ys/\Q (.ref p) H))):=by
 intro pins s σ H xs us Q I r h
 obtain ⟨p,ys,rfl,h⟩:=h
 obtain ⟨u,rfl,rx⟩:=vals1 r
 cases rx
 rcases h with ⟨hq,q⟩ | ⟨hq,q⟩
 ·obtain ⟨its,r',pl,hz⟩:=I.list hq
  have hlen:=r'.length
  refine call_tuple_list pl.isList (fun h' kp=>?_) (by simp only [List.size_toArray] <;> omega)
  have I1:Inv X pins σ H { s with heap:=h' }:=I.kept (t':=s.toks) kp
  have I2:Inv X pins σ (upd H h'.objs.size (.tup ys)) { s with heap:=h'.push { cls:=.type "tuple",data:=.seq its.toArray } } :=
   I1.laid (t':=s.toks) (fun b o e=>Heap.get?_push_of_some _ e) (Nat.le_refl _) (show ObjOk X.prog X.w _ _ _ (.tup ys) from ⟨hz,its,r',IsTup.new _ _⟩)
  exact ⟨.ref h'.objs.size,_,I2,rfl,q _ (I1.hok.fresh (Nat.le_refl _))⟩
 ·obtain ⟨its,r',pl,hz⟩:=I.tuple hq
  exact call_tuple_same pl ⟨.ref p,H,I,rfl,q⟩
def tyV (K:PySem.W.Frag) (T:String) (x:V) (H:Hp):Prop:=match x with
 | .str _=>T="str"
 | .int _=>T="int"
 | .ref p=>(T="list"/\∃ xs,SqL K H p xs)\/(T="tuple"/\∃ o,K.lookup p=some o/\o.cls=.type "tuple"/\o.dict=none) \/
   (T="dict"/\((∃ kvs,H p=some (.dK kvs))\/∃ kvs,H p=some (.dT kvs)))\/(T="set"/\∃ S n,H p=some (.set S n))
 | _=>False
theorem tyV_is {pins:List (Addr × Obj)} {σ:St} {H:Hp} {s:Shared} {T:String} {x:V} {v:Value} (I:Inv X pins σ H s) (r:RelV x v) (ty:tyV X.K T x H) :
  s.TypeIs v T/\∀ a,v=.ref a->∃ ob,s.heap.get? a=some ob/\ob.dict=none:=by
 cases x with
 | str z =>
  obtain ⟨t,rfl⟩:=r
  cases (show T="str" from ty)
  exact ⟨typeIs_str s z t,fun _ e=>nomatch e⟩
 | int i =>
  obtain ⟨t,rfl⟩:=r
  cases (show T="int" from ty)
  exact ⟨typeIs_int s i t,fun _ e=>nomatch e⟩
 | ref p =>
  cases r
  rcases ty with ⟨rfl,xs,hq⟩ | ⟨rfl,o,hk,hc,hd⟩ | ⟨rfl,hk⟩ | ⟨rfl,S,n,hk⟩
  ·obtain ⟨its,_,pl,_⟩:=I.list hq
   refine ⟨pl.isList.typeIs,fun a e=>?_⟩
   cases e
   obtain ⟨o,n,e,c,hd,_⟩:=pl
   exact ⟨o,e,hd⟩
  ·refine ⟨⟨o,I.kIn p o hk,hc⟩,fun a e=>?_⟩
   cases e
   exact ⟨o,I.kIn _ o hk,hd⟩
  ·have z:∃ o,s.heap.get? p=some o/\o.ExactDict:=by
    rcases hk with ⟨kvs,hk⟩ | ⟨kvs,hk⟩
    ·obtain ⟨_,_,_,_,o,_,_,e,ex,_⟩:=I.hok p _ hk
     exact ⟨o,e,ex⟩
    ·obtain ⟨_,_,_,_,o,_,_,e,ex,_⟩:=I.hok p _ hk
     exact ⟨o,e,ex⟩
   obtain ⟨o,e,ex⟩:=z
   refine ⟨⟨o,e,ex.1⟩,fun a e2=>?_⟩
   cases e2
   exact ⟨o,e,ex.2.1⟩
  ·obtain ⟨o,_,_,_,e,ex,_⟩:=I.hok p _ hk
   refine ⟨⟨o,e,ex.1⟩,fun a e2=>?_⟩
   cases e2
   exact ⟨o,e,ex.2.1⟩
 | _=>exact False.elim ty
def tBM0 (K:PySem.W.Frag) (T:String) (r:V->List V->Hp->VK->Prop) (to:TE):TE:=fun σ H Q=>to σ H fun x H1=>tyV K T x H1/\r x [] H1 Q
def tBM (K:PySem.W.Frag) (T:String) (r:V->List V->Hp->VK->Prop) (to:TE) (t:TA):TE:=fun σ H Q=>to σ H fun x H1=>tyV K T x H1/\t σ H1 fun xs H2=>r x xs H2 Q
variable {o e:Expr} {es:List Expr} {to:TE} {t:TA} {name:Str} {apos cpos:Pos} {T id:String} {r:V->List V->Hp->VK->Prop}
theorem pe_bm0 (pa:PlainAttrs T) (slot:Slot T name id) (hty:typeOf (.builtin id)=pure (.type "method_descriptor")) (hm:MtR X id r) (ho:PE X o to)
  (hbase:attributeBase o name X.env (eval o X.env)=eval o X.env:=by rfl) (hline:(apos.endLine == cpos.line)=true:=by rfl):PE X (.Call (.Attribute o name apos) [] [] cpos) (tBM0 X.K T r to):=by
 intro pins s σ H Q I h
 refine wpAny_Call_method0_late hbase hline (thn (ho pins s σ H _ I h) fun v s1 ⟨x,H1,I1,r1,ty,q1⟩=>?_)
 obtain ⟨h1,h2⟩:=tyV_is I1 r1 ty
 exact ⟨T,id,pa,slot,hty,h1,h2,Calls.callWith_builtin rfl (PySem.evalArgs_none (hm pins s1 σ H1 x [] v [] Q I1 r1 .nil q1))⟩
theorem pe_bm (pa:PlainAttrs T) (slot:Slot T name id) (hty:typeOf (.builtin id)=pure (.type "method_descriptor")) (hm:MtR X id r) (ho:PE X o to) (ha:PA X (e::es) t)
  (hbase:attributeBase o name X.env (eval o X.env)=eval o X.env:=by rfl)
  (hfew:((backTo cpos (starEach (e::es) X.env)).all (fun x=>!x.1) && (backToKw cpos (keywordEach [] X.env)).all (fun x=>x.1.isSome)
   && decide ((e::es).length + ([]:List Keyword).length + (if ([]:List Keyword).isEmpty then 0 else 1) < 30))=true:=by rfl)
  (hline:(apos.endLine == cpos.line)=true:=by rfl) (hs:starEach (e::es) X.env=(false,eval e X.env)::starEach es X.env:=by rfl) (hplain:(backTo cpos (starEach es X.env)).any (·.1)=false:=by rfl) :
  PE X (.Call (.Attribute o name apos) (e::es) [] cpos) (tBM X.K T r to t):=by
 intro pins s σ H Q I h
 refine wpAny_Call_method_late hbase hfew hline rfl (thn (ho pins s σ H _ I h) fun v s1 ⟨x,H1,I1,r1,ty,q1⟩=>?_)
 obtain ⟨h1,h2⟩:=tyV_is I1 r1 ty
 refine ⟨T,id,pa,slot,hty,h1,h2,?_⟩
 have hA:=ha cpos pins s1 σ H1 _ I1 q1
 rw [hs] at hA ⊢
 refine Calls.callWith_builtin (by show (false || (backTo cpos (starEach es X.env)).any (·.1))=false; rw [hplain] <;> rfl) (Calls.evalArgs_plain ?_)
 exact thn hA fun us s2 ⟨vs,H2,I2,r2,q2⟩=>hm pins s2 σ H2 x vs v us Q I2 r1 r2 q2
end
end L2
namespace L2
open PySem PySem.Spec PyProof.Rows
def MtM (X:Cx) (id:String) (r:V->List V->Hp->VK->Prop):Prop :=
 ∀ (pins:List (Addr × Obj)) (s:Shared) (σ:St) (H:Hp) (x:V) (xs:List V) (v:Value) (us:List Value) (Q:VK),Inv X pins σ H s->RelV x v->Vals xs us->r x xs H Q ->
  wpAny (model X.prog X.w) X.A (call (.builtin id) (v::us)) (EP X pins σ Q) X.xe s
theorem Vals.one:∀ {x:V} {us:List Value},Vals [x] us->∃ u,us=[u]/\RelV x u
 | _,_,.cons r .nil=>⟨_,rfl,r⟩
theorem Vals.zero:∀ {us:List Value},Vals [] us->us=[]
 | _,.nil=>rfl
theorem Vals.dropLast {xs:List V} {us:List Value} (h:Vals xs us):Vals xs.dropLast us.dropLast:=by
 induction h with
 | nil=>exact .nil
 | cons r t ih =>
  cases t with
  | nil=>exact .nil
  | cons q t'=>exact .cons r ih
theorem Vals.eraseIdx:∀ {xs:List V} {us:List Value} (i:Nat),Vals xs us->Vals (xs.eraseIdx i) (us.eraseIdx i)
 | _,_,_,.nil=>.nil
 | _,_,0,.cons _ t=>t
 | _,_,i + 1,.cons r t=>.cons r (Vals.eraseIdx i t)
theorem erase_last {α:Type} (l:List α):l.eraseIdx (l.length - 1)=l.dropLast:=by
 induction l with
 | nil=>rfl
 | cons a r ih =>
  cases r with
  | nil=>rfl
  | cons b r =>
   have e:(a::b::r).length - 1=((b::r).length - 1) + 1:=by
    have h1:(a::b::r).length=r.length + 2:=rfl
    have h2:(b::r).length=r.length + 1:=rfl
    omega
   rw [e,List.eraseIdx_cons_succ,ih]
   all_goals rfl
theorem len_erase {α:Type}:∀ (l:List α) (i:Nat),(l.eraseIdx i).length <= l.length
 | [],_=>Nat.le_refl _
 | _::_,0=>Nat.le_succ _
 | _::r,i + 1=>Nat.succ_le_succ (len_erase r i)
section
variable {X:Cx} {pins:List (Addr × Obj)} {σ:St} {H:Hp} {s:Shared} {l b:Addr} {xs ys zs:List V}
theorem Inv.lset {its its':List Value} {n:Nat} {f:Array Value->Array Value} {t':Nat} (I:Inv X pins σ H s) (hH:H l=some (.lst xs))
  (e:s.heap.get? l=some { cls:=.type "list",data:=.seq its.toArray n }) (hf:f its.toArray=its'.toArray) (hv:Vals ys its') (hz:ys.length <= sizeLine) :
  Inv X pins σ (upd H l (.lst ys)) { s with heap:=s.heap.update l (Obj.mapSeq f),toks:=t' }:=by
 have q:=PySem.IsL.update e f
 rw [hf] at q
 refine I.write (x:=l) (e:=l) (by rw [hH]; exact trivial) (.inl rfl) (fun b' u hb hu=>(Heap.get?_update_other s.heap (Obj.mapSeq f) (Ne.symm hb)).trans hu) ⟨_,q⟩ ?_
 exact ⟨hz,its',_,hv,q⟩
theorem Inv.lnew {its:List Value} {t':Nat} (I:Inv X pins σ H s) (hv:Vals ys its) (hz:ys.length <= sizeLine) :
  Inv X pins σ (upd H s.heap.objs.size (.lst ys)) { s with heap:=s.heap.push { cls:=.type "list",data:=.seq its.toArray },toks:=t' } :=
 I.laid (fun _ _ q=>Heap.get?_push_of_some _ q) (Nat.le_refl _) ⟨hz,its,0,hv,Heap.get?_push_size _ rfl⟩
theorem Inv.fresh (I:Inv X pins σ H s):H s.heap.objs.size=none:=I.hok.fresh (Nat.le_refl _)
theorem Inv.lstM (I:Inv X pins σ H s) (hH:H l=some (.lst xs)):xs.length <= sizeLine/\∃ (its:List Value) (n:Nat),Vals xs its/\xs.length=its.length/\s.heap.get? l=some { cls:=.type "list",data:=.seq its.toArray n }:=by
 obtain ⟨z,its,n,r,e⟩:=I.hok l _ hH
 exact ⟨z,its,n,r,r.length,e⟩
theorem notLongL {n:Nat} (h:n <= sizeLine):Builtin.List.listTooLong n=false:=by
 unfold Builtin.List.listTooLong
 exact decide_eq_false (by omega)
end
section
variable {X:Cx}
def rAppend:V->List V->Hp->VK->Prop:=fun x vs H Q=>∃ l xs y,x=.ref l/\vs=[y]/\H l=some (.lst xs)/\xs.length < sizeLine/\Q .non (upd H l (.lst (xs ++ [y])))
theorem mt_append:MtM X "list.append" rAppend:=by
 intro pins s σ H x vs v us Q I rx rv h
 obtain ⟨l,xs,y,rfl,rfl,hH,hz,q⟩:=h
 cases rx
 obtain ⟨u,rfl,ru⟩:=rv.one
 obtain ⟨z,its,n,r,hl,e⟩:=I.lstM hH
 refine call_meets F.slot_list_append ⟨_,e,rfl⟩ F.entry_list_append (F.args_list_append_2 _ _) (PySem.list_append l its.toArray n u (by rw [List.size_toArray]; omega)) ⟨e,?_⟩
 refine ⟨.non,_,I.lset (its':=its ++ [u]) hH e (by simp) (r.append (.cons ru .nil)) ?_,rfl,q⟩
 rw [List.length_append,List.length_singleton]
 omega
def rExtend:V->List V->Hp->VK->Prop:=fun x vs H Q=>∃ l b xs zs,x=.ref l/\vs=[.ref b]/\H l=some (.lst xs)/\H b=some (.lst zs)/\xs.length + zs.length <= sizeLine/\Q .non (upd H l (.lst (xs ++ zs)))
theorem mt_extend:MtM X "list.extend" rExtend:=by
 intro pins s σ H x vs v us Q I rx rv h
 obtain ⟨l,b,xs,zs,rfl,rfl,hH,hB,hz,q⟩:=h
 cases rx
 obtain ⟨u,rfl,ru⟩:=rv.one
 cases ru
 obtain ⟨z,its,n,r,hl,e⟩:=I.lstM hH
 obtain ⟨z2,its2,n2,r2,hl2,e2⟩:=I.lstM hB
 have hsz:its.toArray.size + its2.toArray.size <= sizeLine:=by rw [List.size_toArray,List.size_toArray]; omega
 have hlong:¬ (!its.toArray.isEmpty && Builtin.List.listTooLong (its.toArray.size + its2.toArray.size))=true:=by
  rw [notLongL hsz,Bool.and_false]
  exact Bool.false_ne_true
 refine call_meets F.slot_list_extend ⟨_,e,rfl⟩ F.entry_list_extend (F.args_list_extend_2 _ _)
  (AutoSeq1.list_extend_list_list_0 l its.toArray n b its2.toArray n2 hlong (by rw [List.size_toArray]; omega) (by omega)) ⟨e,e2,?_⟩
 refine ⟨.non,_,I.lset (its':=its ++ its2) hH e (by simp) (r.append r2) ?_,rfl,q⟩
 rw [List.length_append]
 omega
def rPop:V->List V->Hp->VK->Prop:=fun x vs H Q=>∃ l xs y,x=.ref l/\vs=[]/\H l=some (.lst xs)/\xs[xs.length - 1]? = some y/\Q y (upd H l (.lst xs.dropLast))
theorem mt_pop:MtM X "list.pop" rPop:=by
 intro pins s σ H x vs v us Q I rx rv h
 obtain ⟨l,xs,y,rfl,rfl,hH,hy,q⟩:=h
 cases rx
 have hus:=rv.zero
 subst hus
 obtain ⟨z,its,n,r,hl,e⟩:=I.lstM hH
 obtain ⟨u,hu,ru⟩:=r.get hy
 have hy':its.toArray[its.toArray.size - 1]? = some u:=by
  show its.toArray[its.length - 1]? = some u
  rw [<- Array.getElem?_toList,<- hl]
  exact hu
 refine call_meets F.slot_list_pop ⟨_,e,rfl⟩ F.entry_list_pop (F.args_list_pop_1 _) (MeetsSeq.list_pop_last l its.toArray n u hy' (by rw [List.size_toArray]; omega)) ⟨e,?_⟩
 refine ⟨y,_,I.lset (its':=its.dropLast) hH e ?_ r.dropLast ?_,ru,q⟩
 ·show its.toArray.eraseIdxIfInBounds (its.toArray.size - 1)=its.dropLast.toArray
  rw [List.size_toArray,List.eraseIdxIfInBounds_toArray,erase_last]
 ·rw [List.length_dropLast]
  omega
def rPopAt:V->List V->Hp->VK->Prop:=fun x vs H Q=>∃ l xs i k y,x=.ref l/\vs=[.int i]/\H l=some (.lst xs)/\-(2 ^ 63) <= i/\i < 2 ^ 63/\seqIndex? i xs.length=some k/\xs[k]? = some y/\Q y (upd H l (.lst (xs.eraseIdx k)))
theorem mt_popAt:MtM X "list.pop" rPopAt:=by
 intro pins s σ H x vs v us Q I rx rv h
 obtain ⟨l,xs,i,k,y,rfl,rfl,hH,h1,h2,hk,hy,q⟩:=h
 cases rx
 obtain ⟨u,rfl,ru⟩:=rv.one
 obtain ⟨t,rfl⟩:=ru
 obtain ⟨z,its,n,r,hl,e⟩:=I.lstM hH
 obtain ⟨w,hw,rw'⟩:=r.get hy
 refine call_meets F.slot_list_pop ⟨_,e,rfl⟩ F.entry_list_pop (F.args_list_pop_2 _ _)
  (MeetsSeq.list_pop_at l its.toArray n i t k w (fitsIndex_both h1 h2) (by rw [List.size_toArray,<- hl]; exact hk) (by rw [<- Array.getElem?_toList]; exact hw) (by rw [List.size_toArray]; omega)) ⟨e,?_⟩
 refine ⟨y,_,I.lset (its':=its.eraseIdx k) hH e ?_ (r.eraseIdx k) ?_,rw',q⟩
 ·show its.toArray.eraseIdxIfInBounds k=(its.eraseIdx k).toArray
  rw [List.eraseIdxIfInBounds_toArray]
 ·have:=len_erase xs k
  omega
def rClear:V->List V->Hp->VK->Prop:=fun x vs H Q=>∃ l xs,x=.ref l/\vs=[]/\H l=some (.lst xs)/\Q .non (upd H l (.lst []))
theorem mt_clear:MtM X "list.clear" rClear:=by
 intro pins s σ H x vs v us Q I rx rv h
 obtain ⟨l,xs,rfl,rfl,hH,q⟩:=h
 cases rx
 have hus:=rv.zero
 subst hus
 obtain ⟨z,its,n,r,hl,e⟩:=I.lstM hH
 refine call_meets F.slot_list_clear ⟨_,e,rfl⟩ F.entry_list_clear (F.args_list_clear_1 _) (AutoSeq1.list_clear_list_0 l its.toArray n (by rw [List.size_toArray]; omega)) ⟨e,?_⟩
 exact ⟨.non,_,I.lset (its':=[]) (ys:=[]) hH e rfl .nil (Nat.zero_le _),rfl,q⟩
def rCat:R2:=fun x y H Q=>∃ l b xs zs,x=.ref l/\y=.ref b/\H l=some (.lst xs)/\H b=some (.lst zs)/\xs.length + zs.length <= sizeLine/\∀ p,H p=none->Q (.ref p) (upd H p (.lst (xs ++ zs)))
theorem op_cat:OpR X (binaryOp .Add) rCat:=by
 intro pins s σ H x y v u Q I rx ry h
 obtain ⟨l,b,xs,zs,rfl,rfl,hH,hB,hz,q⟩:=h
 cases rx
 cases ry
 obtain ⟨z,its,n,r,hl,e⟩:=I.lstM hH
 obtain ⟨z2,its2,n2,r2,hl2,e2⟩:=I.lstM hB
 refine PySem.P.add_list e e2 ?_ (by rw [List.size_toArray,List.size_toArray]; omega)
 have ea:its.toArray ++ its2.toArray=(its ++ its2).toArray:=by simp
 rw [ea]
 exact ⟨.ref _,_,I.lnew (t':=s.toks) (r.append r2) (by rw [List.length_append]; omega),rfl,q _ I.fresh⟩
end
section
variable {prog:Program} {w:World} {A:Around} {E:Value->Shared->Prop} {s:Shared}
end
section
variable {X:Cx}
end
end L2
namespace L2
open PySem PySem.Spec PyProof.Rows
section
variable {κ:Type} [DecidableEq κ]
def valV (kvs:List (κ × V)) (k:κ):Option V:=(kvs.find? fun kv=>decide (kv.1=k)).map (·.2)
def putK (kvs:List (κ × V)) (k:κ) (v:V):List (κ × V) :=
 if (kvs.any fun kv=>decide (kv.1=k))=true then kvs.map (fun kv=>if kv.1=k then (kv.1,v) else kv) else kvs ++ [(k,v)]
theorem valV_pos {p:κ × V} {r:List (κ × V)} {k:κ} (e:p.1=k):valV (p::r) k=some p.2:=by simp [valV,List.find?_cons,e]
theorem valV_neg {p:κ × V} {r:List (κ × V)} {k:κ} (e:¬ p.1=k):valV (p::r) k=valV r k:=by simp [valV,List.find?_cons,e]
theorem valV_any (k:κ):∀ kvs:List (κ × V),(kvs.any fun kv=>decide (kv.1=k))=(valV kvs k).isSome
 | []=>rfl
 | p::r=>by
  rw [List.any_cons]
  by_cases e:p.1=k
  ·simp only [valV_pos e,decide_eq_true e,Bool.true_or,Option.isSome_some]
  ·rw [valV_neg e,decide_eq_false e,Bool.false_or]; exact valV_any k r
theorem length_putK (kvs:List (κ × V)) (k:κ) (v:V):(putK kvs k v).length <= kvs.length + 1:=by
 unfold putK
 split
 ·rw [List.length_map]; omega
 ·rw [List.length_append,List.length_cons,List.length_nil]; omega
theorem putK_new {kvs:List (κ × V)} {k:κ} (v:V) (h:valV kvs k=none):putK kvs k v=kvs ++ [(k,v)]:=by
 unfold putK
 rw [valV_any,h]
 exact if_neg (by decide)
theorem RelO.isSome_eq {o:Option V} {u:Option Value} (r:RelO o u):o.isSome=u.isSome:=by
 cases o with
 | none=>cases u with
  | none=>rfl
  | some _=>exact (show False from r).elim
 | some _=>cases u with
  | none=>exact (show False from r).elim
  | some _=>rfl
theorem KV.val {kvs:List (κ × V)} {vs:List (κ × Value)} (r:KV kvs vs) (k:κ):RelO (valV kvs k) (valueAt vs k):=by
 unfold KV at r
 induction r with
 | nil=>exact True.intro
 | @cons p q ps qs h t ih =>
  obtain ⟨h1,h2⟩:=h
  by_cases e:p.1=k
  ·have e':q.1=k:=h1.symm.trans e
   have b:valueAt (q::qs) k=some q.2:=by simp [valueAt,List.find?_cons,e']
   rw [valV_pos e,b]; exact h2
  ·have e':¬ q.1=k:=fun z=>e (h1.trans z)
   have b:valueAt (q::qs) k=valueAt qs k:=by simp [valueAt,List.find?_cons,e']
   rw [valV_neg e,b]; exact ih
theorem KV.any {kvs:List (κ × V)} {vs:List (κ × Value)} (r:KV kvs vs) (k:κ):(kvs.any fun kv=>decide (kv.1=k))=vs.any fun kv=>decide (kv.1=k):=by
 unfold KV at r
 induction r with
 | nil=>rfl
 | cons h t ih=>rw [List.any_cons,List.any_cons,ih,h.1]
theorem KV.repl {kvs:List (κ × V)} {vs:List (κ × Value)} (r:KV kvs vs) (k:κ) {y:V} {u:Value} (ry:RelV y u) :
  KV (kvs.map fun kv=>if kv.1=k then (kv.1,y) else kv) (vs.map fun kv=>if kv.1=k then (kv.1,u) else kv):=by
 unfold KV at r ⊢
 induction r with
 | nil=>exact .nil
 | @cons p q ps qs h t ih =>
  rw [List.map_cons,List.map_cons]
  refine .cons ?_ ih
  obtain ⟨h1,h2⟩:=h
  by_cases e:p.1=k
  ·rw [if_pos e,if_pos (h1.symm.trans e)]; exact ⟨h1,ry⟩
  ·rw [if_neg e,if_neg (fun z=>e (h1.trans z))]; exact ⟨h1,h2⟩
theorem KV.put {kvs:List (κ × V)} {vs:List (κ × Value)} (r:KV kvs vs) (k:κ) {y:V} {u:Value} (ry:RelV y u):KV (putK kvs k y) (stored vs k u):=by
 unfold putK stored
 rw [r.any k]
 by_cases e:(vs.any fun kv=>decide (kv.1=k))=true
 ·rw [if_pos e,if_pos e]; exact r.repl k ry
 ·rw [if_neg e,if_neg e]; exact Paired.snoc r ⟨rfl,ry⟩
theorem KV.keys {kvs:List (κ × V)} {vs:List (κ × Value)} (r:KV kvs vs):kvs.map (·.1)=vs.map (·.1):=by
 unfold KV at r
 induction r with
 | nil=>rfl
 | cons h t ih=>rw [List.map_cons,List.map_cons,ih,h.1]
theorem KV.length {kvs:List (κ × V)} {vs:List (κ × Value)} (r:KV kvs vs):kvs.length=vs.length:=Paired.length r
end
theorem kV_is {P:Program} {w:World} {k:Key} {u:Value} (r:RelV (kV k) u):(mixKind P w).is k u=true:=by
 cases k with
 | inl i=>obtain ⟨t,e⟩:=(show ∃ t,u=Value.int i t from r); subst e; exact mixKind_int P w i t
 | inr x=>obtain ⟨t,e⟩:=(show ∃ t,u=Value.str x t from r); subst e; exact mixKind_str P w x t
theorem items_are {P:Program} {w:World}:∀ {ks:List Key} {us:List Value},Vals (ks.map kV) us->ItemsAre (mixKind P w) ks us
 | [],_,r=>by rw [List.map_nil] at r; cases r; exact .nil
 | k::ks,_,r=>by
  rw [List.map_cons] at r
  cases r with
  | cons h t=>exact .cons (kV_is h) (items_are t)
abbrev KT (H:Hp):List (List Key × V)->List (List Key × Addr × Value)->Prop:=Paired fun p q=>p.1=q.1/\H q.2.1=some (.tup (p.1.map kV))/\RelV p.2 q.2.2
theorem KT.val {H:Hp} {kvs:List (List Key × V)} {xs:List (List Key × Addr × Value)} (r:KT H kvs xs) (k:List Key):RelO (valV kvs k) ((atKey xs k).map (·.2)):=by
 induction r with
 | nil=>exact True.intro
 | @cons p q ps qs h t ih =>
  obtain ⟨h1,_,h2⟩:=h
  by_cases e:p.1=k
  ·have e':q.1=k:=h1.symm.trans e
   have b:atKey (q::qs) k=some q.2:=by simp [atKey,List.find?_cons,e']
   rw [valV_pos e,b]; exact h2
  ·have e':¬ q.1=k:=fun z=>e (h1.trans z)
   have b:atKey (q::qs) k=atKey qs k:=by simp [atKey,List.find?_cons,e']
   rw [valV_neg e,b]; exact ih
theorem KT.repl {H:Hp} {kvs:List (List Key × V)} {xs:List (List Key × Addr × Value)} (r:KT H kvs xs) (k:List Key) {y:V} {u:Value} (ry:RelV y u) :
  KT H (kvs.map fun kv=>if kv.1=k then (kv.1,y) else kv) (xs.map (putAt k u)):=by
 induction r with
 | nil=>exact .nil
 | @cons p q ps qs h t ih =>
  rw [List.map_cons,List.map_cons]
  refine .cons ?_ ih
  obtain ⟨h1,h2,h3⟩:=h
  unfold putAt
  by_cases e:p.1=k
  ·rw [if_pos e,if_pos (h1.symm.trans e)]; exact ⟨h1,h2,ry⟩
  ·rw [if_neg e,if_neg (fun z=>e (h1.trans z))]; exact ⟨h1,h2,h3⟩
theorem KT.put {H:Hp} {kvs:List (List Key × V)} {xs:List (List Key × Addr × Value)} (r:KT H kvs xs) (k:List Key) {b:Addr} {y:V} {u:Value} (hb:H b=some (.tup (k.map kV))) (ry:RelV y u) :
  KT H (putK kvs k y) (storedH xs k b u):=by
 have e:(kvs.any fun kv=>decide (kv.1=k))=(atKey xs k).isSome:=by
  rw [valV_any,(r.val k).isSome_eq,Option.isSome_map]
 unfold putK storedH
 rw [e]
 by_cases q:(atKey xs k).isSome=true
 ·rw [if_pos q,if_pos q]; exact r.repl k ry
 ·rw [if_neg q,if_neg q]; exact Paired.snoc r ⟨rfl,hb,ry⟩
theorem KT.keeps {H H':Hp} {kvs:List (List Key × V)} {xs:List (List Key × Addr × Value)} (r:KT H kvs xs) (ht:∀ b ys,H b=some (.tup ys)->H' b=some (.tup ys)):KT H' kvs xs :=
 Paired.mapP r fun _ _ z=>⟨z.1,ht _ _ z.2.1,z.2.2⟩
section
variable {P:Program} {w:World} {H:Hp} {h:Heap} {a:Addr}
theorem rd_of {u:HO} (ok:HOk P w H h) (e:Rd H a u):ObjOk P w H h a u:=e.ok ok
theorem dk_rd {kvs:List (Key × V)} (ok:HOk P w H h) (e:Rd H a (.dK kvs)):kvs.length <= sizeLine/\(a == sysModules)=false/\∃ vs,KV kvs vs/\h.DictOf (mixKind P w) a vs :=
 show ObjOk P w H h a (.dK kvs) from rd_of ok e
theorem dk_of {kvs:List (Key × V)} (ok:HOk P w H h) (e:H a=some (.dK kvs)):kvs.length <= sizeLine/\(a == sysModules)=false/\∃ vs,KV kvs vs/\h.DictOf (mixKind P w) a vs:=dk_rd ok (.inl e)
theorem key_of {ks:List Key} (ok:HOk P w H h) (e:H a=some (.tup (ks.map kV))):(tupleKind (mixKind P w)).is h ks a:=by
 obtain ⟨_,its,r,o,h1,h2,n,h3⟩:=(show ObjOk P w H h a (.tup (ks.map kV)) from ok a _ e)
 exact ⟨o,its.toArray,n,h1,h2,h3,by simpa using items_are r⟩
theorem dt_rd {kvs:List (List Key × V)} (ok:HOk P w H h) (e:Rd H a (.dT kvs)):kvs.length <= sizeLine/\(a == sysModules)=false /\
  ∃ xs,KT H kvs xs/\h.DictOfH (tupleKind (mixKind P w)) a xs:=by
 obtain ⟨z,y,xs,r,o,es,ep,h1,h2,h3,h4,h5⟩:=(show ObjOk P w H h a (.dT kvs) from rd_of ok e)
 refine ⟨z,y,xs,r,o,es,ep,h1,h2,h3,h4,fun x hx=>?_,h5⟩
 have all:∀ {l:List (List Key × V)} {m:List (List Key × Addr × Value)},KT H l m->∀ x ∈ m,(tupleKind (mixKind P w)).is h x.1 x.2.1:=by
  intro l m q
  induction q with
  | nil=>intro x hx; exact nomatch hx
  | @cons p q ps qs hq t ih =>
   intro x hx
   rcases List.mem_cons.mp hx with e | hx
   ·subst e
    exact key_of ok (by rw [<- hq.1]; exact hq.2.1)
   ·exact ih x hx
 exact all r x hx
theorem dt_of {kvs:List (List Key × V)} (ok:HOk P w H h) (e:H a=some (.dT kvs)):kvs.length <= sizeLine/\(a == sysModules)=false /\
  ∃ xs,KT H kvs xs/\h.DictOfH (tupleKind (mixKind P w)) a xs:=dt_rd ok (.inl e)
end
def DGet (H:Hp) (a:Addr) (y:V) (r:Option V):Prop :=
 (∃ kvs k,Rd H a (.dK kvs)/\y=kV k/\r=valV kvs k)\/∃ kvs k b,Rd H a (.dT kvs)/\y=.ref b/\H b=some (.tup (k.map kV))/\r=valV kvs k
def DPut (H:Hp) (a:Addr) (y v:V) (H':Hp):Prop :=
 (∃ kvs k,H a=some (.dK kvs)/\y=kV k/\kvs.length < sizeLine/\H'=upd H a (.dK (putK kvs k v))) \/
 ∃ kvs k b,H a=some (.dT kvs)/\y=.ref b/\H b=some (.tup (k.map kV))/\kvs.length < sizeLine/\H'=upd H a (.dT (putK kvs k v))
theorem DGet.k {H:Hp} {a:Addr} {kvs:List (Key × V)} {k:Key} (e:H a=some (.dK kvs)):DGet H a (kV k) (valV kvs k):=.inl ⟨kvs,k,.inl e,rfl,rfl⟩
theorem DPut.k {H:Hp} {a:Addr} {kvs:List (Key × V)} {k:Key} {v:V} (e:H a=some (.dK kvs)) (hl:kvs.length < sizeLine):DPut H a (kV k) v (upd H a (.dK (putK kvs k v))):=.inl ⟨kvs,k,e,rfl,hl,rfl⟩
section
variable {X:Cx} {pins:List (Addr × Obj)} {σ:St} {H:Hp} {s:Shared} {a:Addr} {y v:V} {u r:Value} {o:Option V} {A:Around} {E:Value->Shared->Prop}
theorem Inv.big (I:Inv X pins σ H s):sysModules < s.heap.objs.size:=by
 have h:mainGlobals < s.heap.objs.size:=(I.mod.glob.keeps I.bk).lt
 exact Nat.lt_trans (by decide) h
theorem d_notIn {Q:Value->Shared->Prop} (hu:A.units + 1 < cLine) (I:Inv X pins σ H s) (g:DGet H a y o) (ry:RelV y u) (h:∀ s',Inv X pins σ H s'->Q (.bool (!o.isSome)) s') :
  wpAny (model X.prog X.w) A (compareOp .NotIn u (.ref a)) Q E s:=by
 rcases g with ⟨kvs,k,e,ey,l⟩ | ⟨kvs,k,b,e,ey,eb,l⟩
 ·subst ey
  obtain ⟨z,hd,vs,rel,dd⟩:=dk_rd I.hok e
  refine wpAny_notIn_of (kV_is ry) hd dd.mapOf ?_
  rw [<- (rel.val k).isSome_eq,<- l]
  exact h _ (I.tok _)
 ·subst ey
  cases (show u=Value.ref b from ry)
  obtain ⟨z,hd,xs,rel,dd⟩:=dt_rd I.hok e
  refine wpAny_notIn_heap (tupleKind_room_in1 hu) (key_of I.hok eb) hd dd ?_
  have q:=(rel.val k).isSome_eq
  rw [Option.isSome_map] at q
  rw [<- q,<- l]
  exact h _ (I.tok _)
theorem d_write {h':Heap} {t':Nat} {ob:HO} (I:Inv X pins σ H s) (mu:Mut (H a)) (hs:Heap.SameBut a s.heap h') (he:∃ q,h'.get? a=some q) (new:ObjOk X.prog X.w (upd H a ob) h' a ob) :
  Inv X pins σ (upd H a ob) { s with heap:=h',toks:=t' } :=
 I.write (x:=a) (e:=a) mu (.inl rfl) (fun b q hb z=>(hs.2 b hb).trans z) he new
theorem dk_new {P:Program} {w:World} {H':Hp} {h':Heap} {kvs:List (Key × V)} {vs:List (Key × Value)} (z:kvs.length <= sizeLine) (hd:(a == sysModules)=false) (rel:KV kvs vs) (dd:h'.DictOf (mixKind P w) a vs) :
  ObjOk P w H' h' a (.dK kvs):=⟨z,hd,vs,rel,dd⟩
theorem d_setItem {H':Hp} {Q:Unit->Shared->Prop} (hu:A.units + 1 < cLine) (I:Inv X pins σ H s) (g:DPut H a y v H') (ry:RelV y u) (rv:RelV v r) (h:∀ s',Inv X pins σ H' s'->Q () s') :
  wpAny (model X.prog X.w) A (setItem (.ref a) u r) Q E s:=by
 rcases g with ⟨kvs,k,e,ey,l,eH⟩ | ⟨kvs,k,b,e,ey,eb,l,eH⟩
 ·subst ey eH
  obtain ⟨z,hd,vs,rel,dd⟩:=dk_of I.hok e
  have hz:vs.length <= sizeLine:=by rw [<- rel.length]; exact z
  have hl:(putK kvs k v).length <= sizeLine:=by have:=length_putK kvs k v; omega
  refine wpAny_setItem_pairs (hsz:=hz) (kV_is ry) dd fun h' dd' hs=>h _ ?_
  have he:∃ q,h'.get? a=some q:=let ⟨q,_,_,hq,_⟩:=dd'; ⟨q,hq⟩
  exact d_write I (by rw [e]; exact True.intro) hs he (dk_new hl hd (rel.put k rv) dd')
 ·subst ey eH
  cases (show u=Value.ref b from ry)
  obtain ⟨z,hd,xs,rel,dd⟩:=dt_of I.hok e
  have hz:xs.length <= sizeLine:=by rw [<- Paired.length rel]; exact z
  have hl:(putK kvs k v).length <= sizeLine:=by have:=length_putK kvs k v; omega
  refine wpAny_setItem_heap (hsz:=hz) (tupleKind_room_in1 hu) (key_of I.hok eb) dd fun h' dd' hs=>h _ ?_
  obtain ⟨q,es,ep,hq,h2,h3,h4,_,h5⟩:=dd'
  refine d_write I (by rw [e]; exact True.intro) hs ⟨q,hq⟩ ⟨hl,hd,_,(rel.put k eb rv).keeps fun c ys ec=>?_,q,es,ep,hq,h2,h3,h4,h5⟩
  rw [upd_ne (ne_of ec e (fun z=>nomatch z))]
  exact ec
end
section
variable {X:Cx} {pins:List (Addr × Obj)} {σ:St} {H:Hp} {s:Shared} {a:Addr} {kvs:List (Key × V)} {k:Key} {u:Value} {A:Around} {E:Value->Shared->Prop}
end
def tDNotIn (ty td:TE):TE:=fun σ H Q=>ty σ H fun y H1=>td σ H1 fun x H2=>∃ a o,x=.ref a/\DGet H2 a y o/\Q (.bl (!o.isSome)) H2
def sDPut (td ty tv:TE):TS:=fun D σ H=>tv σ H fun v H1=>td σ H1 fun x H2=>ty σ H2 fun y H3=>∃ a H4,x=.ref a/\DPut H3 a y v H4/\D.nx σ H4
section
variable {X:Cx} {o i e value:Expr} {pos pos' tpos:Pos} {td ty tv:TE}
theorem pc_dnotin (hu:X.A.units + 1 < cLine) (hi:PE X i ty) (ho:PE X o td):PC X .NotIn i o (tDNotIn ty td):=by
 intro pins s σ H Q I h
 refine thn (hi pins s σ H _ I h) fun iv s1 ⟨y,H1,I1,ry,q1⟩=>thn (ho pins s1 σ H1 _ I1 q1) fun u s2 ⟨x,H2,I2,rx,a,ov,ex,g,q2⟩=>?_
 subst ex
 obtain rfl:u=Value.ref a:=rx
 exact d_notIn hu I2 g ry fun s3 I3=>⟨.bl (!ov.isSome),H2,I3,rfl,q2⟩
theorem ps_dput (hu:X.A.units + 1 < cLine) (ho:PE X o td) (hi:PE X i ty) (hv:PE X value tv) (hs:swapsWith value (some (.Subscript o i pos')) pos.line X.env=pure false) :
  PS X (.Assign [.Subscript o i pos'] value pos) (sDPut td ty tv):=by
 intro pins s σ H D I h
 refine wpAny_Assign_Subscript (thn (hv pins s σ H _ I h) fun r s1 ⟨v,H1,I1,rv,q1⟩=>thn (ho pins s1 σ H1 _ I1 q1) fun u s2 ⟨x,H2,I2,rx,q2⟩=>thn (hi pins s2 σ H2 _ I2 q2) fun iv s3 ⟨y,H3,I3,ry,a,H4,ex,g,q3⟩=>?_) hs
 subst ex
 obtain rfl:u=Value.ref a:=rx
 exact d_setItem hu I3 g ry rv fun s4 I4=>⟨σ,H4,I4,q3⟩
end
theorem dk_empty {P:Program} {w:World} {H:Hp} (h:Heap) (hb:sysModules < h.objs.size):ObjOk P w H (h.push { cls:=.type "dict",data:=.dict #[] }) h.objs.size (.dK []) :=
 ⟨Nat.zero_le _,beq_eq_false_iff_ne.mpr (Ne.symm (Nat.ne_of_lt hb)),[],.nil,Heap.DictOf.new h⟩
section
variable {X:Cx} {pos:Pos}
end
def tPairs:List (TE × TE)->St->Hp->(List (V × V)->Hp->Prop)->Prop
 | [],_,H,Q=>Q [] H
 | (tk,tv)::r,σ,H,Q=>tk σ H fun x H1=>tv σ H1 fun y H2=>tPairs r σ H2 fun ps H3=>Q ((x,y)::ps) H3
abbrev VV:List (V × V)->List (Value × Value)->Prop:=Paired fun p q=>RelV p.1 q.1/\RelV p.2 q.2
def PPs (X:Cx) (pos:Pos) (keys:List (Option Expr)) (values:List Expr) (trs:List (TE × TE)):Prop :=
 ∀ (pins:List (Addr × Obj)) (s:Shared) (σ:St) (H:Hp) (Q:List (V × V)->Hp->Prop),Inv X pins σ H s->tPairs trs σ H Q ->
  wpAny (model X.prog X.w) X.A (evalPairs (pairTrees keys values X.env pos)) (fun vs s'=>∃ ps H',Inv X pins σ H' s'/\VV ps vs/\Q ps H') X.xe s
theorem pps_nil {X:Cx} {pos:Pos}:PPs X pos [] [] []:=fun pins s σ H Q I h=>pairTrees_nil_walk ⟨[],H,I,.nil,h⟩
theorem pps_cons {X:Cx} {pos:Pos} {k v:Expr} {ks:List (Option Expr)} {vs:List Expr} {tk tv:TE} {trs:List (TE × TE)} (hk:PE X k tk) (hv:PE X v tv) (hr:PPs X pos ks vs trs) :
  PPs X pos (some k::ks) (v::vs) ((tk,tv)::trs):=fun pins s σ H Q I h =>
 pairTrees_cons_walk (thn (hk pins s σ H _ I h) fun u s1 ⟨x,H1,I1,rx,q1⟩=>thn (hv pins s1 σ H1 _ I1 q1) fun w2 s2 ⟨y,H2,I2,ry,q2⟩ =>
  thn (hr pins s2 σ H2 _ I2 q2) fun ws s3 ⟨ps,H3,I3,rel,q3⟩=>⟨(x,y)::ps,H3,I3,.cons ⟨rx,ry⟩ rel,q3⟩)
def mergeK (kvs more:List (Key × V)):List (Key × V):=more.foldl (fun acc kv=>putK acc kv.1 kv.2) kvs
theorem KV.merge:∀ {more:List (Key × V)} {rs:List (Key × Value)} {kvs:List (Key × V)} {vs:List (Key × Value)},KV more rs->KV kvs vs->KV (mergeK kvs more) (merged vs rs):=by
 intro more rs kvs vs r
 unfold KV at r
 induction r generalizing kvs vs with
 | nil=>intro q; exact q
 | @cons p q ps qs h t ih =>
  intro r0
  have e:KV (putK kvs p.1 p.2) (stored vs q.1 q.2):=by
   have:=r0.put p.1 h.2
   rw [<- h.1]; exact this
  exact ih e
theorem length_mergeK:∀ (more kvs:List (Key × V)),(mergeK kvs more).length <= kvs.length + more.length
 | [],kvs=>by show kvs.length <= kvs.length + 0; omega
 | p::r,kvs=>by
  have h1:=length_mergeK r (putK kvs p.1 p.2)
  have h2:=length_putK kvs p.1 p.2
  show (mergeK (putK kvs p.1 p.2) r).length <= _
  rw [List.length_cons]; omega
theorem carries_of {P:Program} {w:World}:∀ {kvs:List (Key × V)} {ws:List (Value × Value)},VV (kvs.map fun kv=>(kV kv.1,kv.2)) ws->∃ rs,Carries (mixKind P w) ws rs/\KV kvs rs
 | [],_,r=>by rw [List.map_nil] at r; cases r; exact ⟨[],True.intro,.nil⟩
 | p::kvs,_,r=>by
  rw [List.map_cons] at r
  cases r with
  | @cons a b as bs h t =>
   obtain ⟨rs,c,q⟩:=carries_of (P:=P) (w:=w) t
   obtain ⟨b1,b2⟩:=b
   exact ⟨(p.1,b2)::rs,⟨kV_is h.1,rfl,c⟩,.cons ⟨rfl,h.2⟩ q⟩
def tDisp (trs:List (TE × TE)):TE:=fun σ H Q=>∀ p,H p=none->tPairs trs σ (upd H p (.dK [])) fun ps H2=>H2 p=some (.dK [])/\∃ kvs:List (Key × V),ps=kvs.map (fun kv=>(kV kv.1,kv.2))/\kvs.length <= 15/\Q (.ref p) (upd H2 p (.dK (mergeK [] kvs)))
theorem pe_disp {X:Cx} {pos:Pos} {keys:List (Option Expr)} {values:List Expr} {trs:List (TE × TE)} (h:PPs X pos keys values trs) (hall:keys.all (·.isSome)=true) (hl:keys.length=values.length) (h0:keys ≠ [])
  (h15:keys.length <= 15):PE X (.Dict keys values pos) (tDisp trs):=by
 intro pins s σ H Q I q
 have hn:=I.hok.fresh (Nat.le_refl s.heap.objs.size)
 have I1:=I.laid (a:=s.heap.objs.size) (o:=.dK []) (h':=s.heap.push { cls:=.type "dict",data:=.dict #[] }) (t':=s.toks) (fun _ _ q=>Heap.get?_push_of_some _ q) (Nat.le_refl _) (dk_empty s.heap I.big)
 refine wpAny_Dict_walk (knd:=mixKind X.prog X.w) hall hl h0 h15 (thn (h pins _ σ _ _ I1 (q _ hn)) fun ws s2 ⟨ps,H2,I2,rel,e,kvs,ep,lk,q2⟩=>?_)
 subst ep
 obtain ⟨rs,c,rk⟩:=carries_of (P:=X.prog) (w:=X.w) rel
 obtain ⟨z,hd,vs0,r0,dd⟩:=dk_of I2.hok e
 cases r0
 refine ⟨rs,c,dd,fun h' dd' hs=>⟨.ref s.heap.objs.size,_,?_,rfl,q2⟩⟩
 have hz:(mergeK [] kvs).length <= sizeLine:=by
  have h1:=length_mergeK kvs []
  rw [List.length_nil] at h1
  rw [sizeLine_eq]; omega
 have he:∃ q,h'.get? s.heap.objs.size=some q:=let ⟨q,_,_,hq,_⟩:=dd'; ⟨q,hq⟩
 exact d_write I2 (by rw [e]; exact True.intro) hs he (dk_new hz hd (rk.merge .nil) dd')
section
variable {X:Cx} {pins:List (Addr × Obj)} {σ:St} {H:Hp} {s:Shared} {a:Addr} {y d:V} {u r:Value} {o:Option V} {A:Around} {E:Value->Shared->Prop}
end
section
variable {X:Cx} {o e f:Expr} {apos cpos:Pos} {td ty tx:TE}
end
section
variable {X:Cx} {pins:List (Addr × Obj)} {σ:St} {H:Hp} {s:Shared} {a:Addr} {kvs:List (Key × V)} {A:Around} {E:Value->Shared->Prop}
end
section
variable {X:Cx} {pins:List (Addr × Obj)} {σ:St} {H:Hp} {s:Shared} {a:Addr} {y:V} {u:Value} {A:Around} {E:Value->Shared->Prop}
end
end L2
namespace Att
open PySem PySem.W PySem.Calls PyProof.Rows
theorem ints_of_wellAll {P:Params} {h:Heap}:∀ (ns:List Int) (vs:List Value),WellAll P h vs (ns.map WData.int)->IntsAre vs ns:=by
 intro ns
 induction ns with
 | nil =>
  intro vs w
  rw [List.map_nil] at w
  cases w
  exact .nil
 | cons n ns ih =>
  intro vs w
  rw [List.map_cons] at w
  cases w with
  | cons a b =>
   cases a
   exact .cons _ _ (ih _ b)
theorem script_of {l:OpenLaw} {n:Nat} (hn:l.most=some n) {P:Params} {h:Heap} {args:List WData} {vals:List Value}
  (hpre:l.row.toRowW.claim.pre args=true) (hwl:WellAll P h vals args) :
  ∃ a vs ns,vals=[Value.ref a]/\args=[WData.list (ns.map WData.int)]/\h.get? a=some { cls:=.type "list",data:=.seq vs.toArray }/\IntsAre vs ns/\ns.length <= n:=by
 have hsh:WShape.hasAll [] args [.list .int]=true:=(pre_splitW hpre).1
 have hc:l.pre.holds [] { args:=args }=true:=(pre_splitW hpre).2
 obtain ⟨d,r,rfl,h1,h2⟩:=hasAllW_cons hsh
 obtain rfl:=hasAllW_nil h2
 obtain ⟨xs,rfl,h3⟩:=hasW_list h1
 obtain ⟨ns,rfl⟩:=items_int h3
 have hlen:ns.length <= n:=by
  unfold OpenLaw.pre at hc
  have h4:(WTm.not (.lt (.lit (.int (n:Int))) (.len (.arg 0)))).holds [] { args:=[.list (ns.map .int)] }=true:=by
   have h4:=(holds_andW hc).1
   rw [hn] at h4
   exact h4
  have h5:=condW_of h4 (w_not (w_lt w_lit (w_len_list (w_arg rfl))))
  rw [List.length_map] at h5
  refine Nat.le_of_not_lt fun q=>?_
  have q':(n:Int) < ((ns.length:Nat):Int):=by omega
  first
   | (rw [decide_eq_true q'] at h5; exact absurd h5 (by decide))
   | (simp at h5; omega)
 cases hwl with
 | cons w1 w2 =>
  cases w2
  cases w1 with
  | list ho hall=>exact ⟨_,_,ns,rfl,rfl,ho,ints_of_wellAll ns _ hall,hlen⟩
theorem post_true (l:OpenLaw) (args:List WData):l.row.toRowW.claim.post args (.bool true) args=true :=
 postW_of (r:=l.row.toRowW) (X:=(true == true))
  (show WShape.has [] (.bool true) .bool=true by first | rfl | decide | simp [WShape.has,WShape.arms,WShape.armsAll])
  (show (WTm.eq .res (.lit (.bool true))).value [] { args:=args,res:=some (.bool true),after:=args }=some (.bool (true == true)) from w_eq_bool (w_res rfl) w_lit) rfl
theorem attach_call {l:OpenLaw} {n:Nat} {q:Program} {loose:List Str} {XP:(Str->Option Value)->Heap->Prop} {YP:World->Heap->Prop} {d:DefRec}
  (hn:l.most=some n) (hdf:d.params.defaults=[])
  (call:∀ (w:World) (s₀ s₁:Shared) (mg mb:Str->Option Value) (fa:Addr) (o:Obj) (pm cd doc:Value) (a:Addr) (vs:List Value) (ns:List Int),
   Ground q loose [] XP w s₀ mg mb s₁.heap->YP w s₁.heap ->
   s₁.heap.get? fa=some o->o.data=.func (docDef d.name d.params d.body d.scope pm cd doc)->s₁.heap.CodeRec cd d.name->mg d.name=some (.ref fa) ->
   s₁.heap.get? a=some { cls:=.type "list",data:=.seq vs.toArray }->IntsAre vs ns->ns.length <= n->s₁.gens=#[] ->
   codeAny (model l.prog w) callerA (.call (.ref fa) ⟨[.ref a],[]⟩) (fun r s'=>r=.ok (.ret (.bool true))/\OldK s₁.heap s'.heap/\s'.os=s₁.os/\AllBare s'.gens) s₁) :
  WalkO q loose XP YP l.row.toRowW d [] (fun f vs=>PySem.call f vs):=by
 intro w s₀ s₁ mg mb G Y fa o pm cd doc dV kV ho hd hcd hD hmg hg args vals as hpre hlay hrd hwl hlo
 obtain rfl:dV=.none:=Dflts.none hD hdf
 obtain rfl:kV=.none:=Dflts.noKw hD
 obtain ⟨a,vs,ns,rfl,rfl,hobj,hints,hlen⟩:=script_of hn hpre hwl
 refine enter_call (codeAny_mono (call w s₀ s₁ mg mb fa o pm cd doc a vs ns G Y ho (fd_plain hd) hcd hmg hobj hints hlen hg) fun r s' hq=>?_)
 obtain ⟨rfl,h2,h3,h4⟩:=hq
 exact ⟨.inl ⟨.bool true,.bool true,[],rfl,fun _=>rfl,.bool true,post_true l _,fun _=>⟨List.Pairwise.nil,fun _ hm=>(nomatch hm)⟩⟩,h2,h3,h4⟩
section
variable {prog:Program} {w:World} {A:Around} {E:Value->Shared->Prop} {s:Shared} {K:Frag}
end
end Att
namespace L2
open PySem PySem.Spec PyProof.Rows
theorem vals_ints:∀ {vs:List Value} {ns:List Int},IntsAre vs ns->Vals (ns.map V.int) vs
 | _,_,.nil=>.nil
 | _,_,.cons n t h=>.cons ⟨t,rfl⟩ (vals_ints h)
end L2
namespace L2
open PySem PySem.Spec PyProof.Rows
end L2
namespace L2
open PySem PySem.Spec PyProof.Rows
abbrev CX0:CXT:=fun _ _ _ _ _ _=>False
abbrev E0:XK:=fun _ _ _=>False
theorem pass0 {X:Cx}:Passes CX0 X E0:=fun _ _ _ _ _ _ _ h=>h.elim
structure Fun (K:PySem.W.Frag) (x qual:Str) (st:Stmt) (f:Addr) (fd:FuncData):Prop where
 ex:∃ (oc:Value) (od:Option Addr) (kV doc pm:Value) (an:Option Addr) (cdv ct:Value) (osl:Array (Option Value)),
  fd=PySem.W.fnOf x qual (defArgs st) (defBody st) (defScope st) .none kV doc pm an cdv ct/\K.lookup f=some ⟨oc,od,.func fd,osl⟩/\PySem.W.codeIn K cdv qual=true
 kp:PySem.W.keepIn K (.ref f)=true
section
variable {P:Program} {w:World} {K:PySem.W.Frag} {mg:Str->Option Value} {base:Heap}
theorem Fun.ok {x qual:Str} {st:Stmt} {f:Addr} {fd:FuncData} {N ps:List Str} {k:Nat} {sp:Sp} (F:Fun K x qual st f fd) (S:FnScope N ps (defScope st)) (len:∀ vs H Q E,sp vs H Q E->vs.length=ps.length)
  (hbody:∀ (cdv:Value) (A:Around) (outer:List Env) (s:Shared) (H:Hp) (vs:List V) (Q:VK) (E:XK),Room k (A.deeper (envOfC qual (defScope st) s.heap.objs.size f cdv))->sp vs H Q E ->
   ∃ t,PSs (cxOf CX0 P w K mg base N qual (defScope st) f cdv A outer s H E).nox (defBody st) t/\t { nx:=fun _ H'=>Q .non H',rt:=Q } (start N vs) H):FnOk P w K mg base CX0 (k + 1) f fd ps sp:=by
 obtain ⟨oc,od,kV,doc,pm,an,cdv,ct,osl,rfl,lk,hcd⟩:=F.ex
 refine fn_of lk hcd S len fun A outer s H vs Q E hr hsp=>?_
 obtain ⟨t,h,q⟩:=hbody cdv A outer s H vs Q E hr hsp
 exact ⟨t,h.nox,q⟩
theorem Fun.binds {x qual:Str} {st:Stmt} {f:Addr} {fd:FuncData} {ps:List Str} (F:Fun K x qual st f fd)
  (h:∀ (kV doc pm:Value) (an:Option Addr) (cdv ct:Value) (us:List Value),us.length=ps.length->bindArgs (PySem.W.fnOf x qual (defArgs st) (defBody st) (defScope st) .none kV doc pm an cdv ct) ⟨us,[]⟩=pure (ps.zip us)):Binds K fd ps []:=by
 obtain ⟨oc,od,kV,doc,pm,an,cdv,ct,osl,rfl,lk,hcd⟩:=F.ex
 exact .all (h kV doc pm an cdv ct)
theorem fun_mk {x qual:Str} {st:Stmt} {f:Addr} {oc:Value} {od an:Option Addr} {osl:Array (Option Value)} {kV doc pm cdv ct:Value} (l:K.lookup f=some ⟨oc,od,.func (PySem.W.fnOf x qual (defArgs st) (defBody st) (defScope st) .none kV doc pm an cdv ct),osl⟩)
  (c:PySem.W.codeIn K cdv qual=true) (k:PySem.W.keepIn K (.ref f)=true):Fun K x qual st f (PySem.W.fnOf x qual (defArgs st) (defBody st) (defScope st) .none kV doc pm an cdv ct):=⟨⟨oc,od,kV,doc,pm,an,cdv,ct,osl,rfl,l,c⟩,k⟩
end
theorem hu_of {A:Around} {k:Nat} (hr:Room k A):A.units + 1 < cLine:=Nat.lt_of_le_of_lt (Nat.add_le_add_left (by decide:1 <= 64) _) hr.units
section
variable {X:Cx}
theorem pv (i:Nat) {x:Str} {pos:Pos} (hN:X.N[i]? = some x:=by rfl) (hv:Vis X.env.scope x:=by first | exact Or.inl rfl | exact Or.inr (Or.inl rfl) | exact Or.inr (Or.inr rfl)) (hd:(x == ("__debug__":Str))=false:=by decide)
  (hcd:(x == ("__classdict__":Str))=false:=by decide):PE X (.Name x pos) (tVar i):=pe_var hN hv hd hcd
end
theorem iteF {A B:Prop} (h:B):if false=true then A else B:=by
 rw [if_neg Bool.false_ne_true]
 exact h
theorem iteT {A B:Prop} (h:A):if true=true then A else B:=by
 rw [if_pos rfl]
 exact h
theorem ite2 {c A B:Prop} [Decidable c] (h1:c->A) (h2:¬ c->B):if c then A else B:=by
 by_cases h:c
 ·rw [if_pos h]
  exact h1 h
 ·rw [if_neg h]
  exact h2 h
theorem iteNS {c A B:Prop} [Decidable c] (hc:c) (h:B):if (!decide c)=true then A else B:=by
 rw [decide_eq_true hc]
 exact iteF h
def Same (H H':Hp):Prop:=∀ b o,H b=some o->H' b=some o
theorem Same.refl (H:Hp):Same H H:=fun _ _ h=>h
theorem Same.trans {H H1 H2:Hp} (a:Same H H1) (b:Same H1 H2):Same H H2:=fun c o h=>b c o (a c o h)
theorem Same.free {H H':Hp} (e:Same H H') {l:Addr} (h:H' l=Option.none):H l=Option.none:=by
 cases q:H l with
 | none=>rfl
 | some o =>
  rw [e l o q] at h
  cases h
theorem Same.seq {K:PySem.W.Frag} {H H':Hp} {a:Addr} {xs:List V} (e:Same H H') (h:SqL K H a xs):SqL K H' a xs:=by
 rcases h with (h | ⟨o,h⟩) | h
 ·exact .inl (.inl (e _ _ h))
 ·exact .inl (.inr ⟨o,e _ _ h⟩)
 ·exact .inr h
end L2
namespace L2
open PySem PySem.Spec PyProof.Rows
section
variable {X:Cx}
end
section
variable {κ:Type} [DecidableEq κ]
end
end L2
namespace Bw
def bit (ws:List Nat) (i j:Nat):Bool:=(ws.getD i 0).testBit j
structure Web (ws:List Nat):Prop where
 pos:0 < ws.length
 le:ws.length <= 10
 lt:∀ i,ws.getD i 0 < 2 ^ ws.length
 irr:∀ i,bit ws i i=false
 sym:∀ i j,bit ws i j=bit ws j i
theorem bit_out {ws:List Nat} (h:∀ i,ws.getD i 0 < 2 ^ ws.length) {i j:Nat} (hj:ws.length <= j):bit ws i j=false :=
 Nat.testBit_lt_two_pow (Nat.lt_of_lt_of_le (h i) (Nat.pow_le_pow_right (by decide) hj))
theorem Web.inr {ws:List Nat} (W:Web ws) {i j:Nat} (h:bit ws i j=true):j < ws.length:=by
 rcases Nat.lt_or_ge j ws.length with h' | h'
 ·exact h'
 ·rw [bit_out W.lt h'] at h; cases h
theorem getD_set (ws:List Nat) (a i x:Nat) (ha:a < ws.length):(ws.set a x).getD i 0=if i=a then x else ws.getD i 0:=by
 simp only [List.getD_eq_getElem?_getD,List.getElem?_set]
 by_cases h:i=a
 ·subst h; simp [ha]
 ·have h':¬ a=i:=fun e=>h e.symm
  simp [h,h']
theorem testBit_pow (b j:Nat):(2 ^ b).testBit j=decide (b=j):=by
 rw [Nat.testBit_two_pow]
def tie (ws:List Nat) (a b:Nat):List Nat :=
 (ws.set a (ws.getD a 0 ^^^ 2 ^ b)).set b ((ws.set a (ws.getD a 0 ^^^ 2 ^ b)).getD b 0 ^^^ 2 ^ a)
theorem tie_length (ws:List Nat) (a b:Nat):(tie ws a b).length=ws.length:=by simp [tie]
theorem bit_tie {ws:List Nat} {a b:Nat} (ha:a < ws.length) (hb:b < ws.length) (i j:Nat) :
  bit (tie ws a b) i j=(bit ws i j ^^ ((decide (i=a) && decide (j=b)) ^^ (decide (i=b) && decide (j=a)))):=by
 unfold bit tie
 rw [getD_set _ _ _ _ (by simpa using hb),getD_set _ _ _ _ ha,getD_set _ _ _ _ ha]
 have e1:decide (b=j)=decide (j=b):=by simp only [eq_comm]
 have e2:decide (a=j)=decide (j=a):=by simp only [eq_comm]
 by_cases h1:i=b
 ·by_cases h2:b=a
  ·subst h1; subst h2
   simp [Nat.testBit_xor,testBit_pow,e1]
  ·subst h1
   simp [h2,Nat.testBit_xor,testBit_pow,e2]
 ·by_cases h2:i=a
  ·subst h2
   simp [h1,Nat.testBit_xor,testBit_pow,e1]
  ·simp [h1,h2]
theorem tie_lt {ws:List Nat} {a b:Nat} (h:∀ i,ws.getD i 0 < 2 ^ ws.length) (ha:a < ws.length) (hb:b < ws.length):∀ i,(tie ws a b).getD i 0 < 2 ^ (tie ws a b).length:=by
 intro i
 rw [tie_length]
 have pa:2 ^ a < 2 ^ ws.length:=Nat.pow_lt_pow_right (by decide) ha
 have pb:2 ^ b < 2 ^ ws.length:=Nat.pow_lt_pow_right (by decide) hb
 unfold tie
 rw [getD_set _ _ _ _ (by simpa using hb),getD_set _ _ _ _ ha,getD_set _ _ _ _ ha]
 split
 ·split
  ·exact Nat.xor_lt_two_pow (Nat.xor_lt_two_pow (h _) pb) pa
  ·exact Nat.xor_lt_two_pow (h _) pa
 ·split
  ·exact Nat.xor_lt_two_pow (h _) pb
  ·exact h i
theorem Web.tie {ws:List Nat} (W:Web ws) {a b:Nat} (ha:a < ws.length) (hb:b < ws.length):Web (tie ws a b) where
 pos:=by rw [tie_length]; exact W.pos
 le:=by rw [tie_length]; exact W.le
 lt:=tie_lt W.lt ha hb
 irr:=fun i=>by
  rw [bit_tie ha hb,W.irr]
  by_cases h1:i=a <;> by_cases h2:i=b <;> simp [h1,h2]
 sym:=fun i j=>by
  rw [bit_tie ha hb,bit_tie ha hb,W.sym i j]
  congr 1
  generalize decide (i=a)=p
  generalize decide (i=b)=q
  generalize decide (j=a)=r
  generalize decide (j=b)=t
  cases p <;> cases q <;> cases r <;> cases t <;> rfl
theorem getD_replicate (n i:Nat):(List.replicate n 0).getD i 0=0:=by
 simp only [List.getD_eq_getElem?_getD,List.getElem?_replicate]
 split <;> rfl
theorem web_zero {n:Nat} (h1:0 < n) (h2:n <= 10):Web (List.replicate n 0) where
 pos:=by simpa using h1
 le:=by simpa using h2
 lt:=fun i=>by rw [getD_replicate]; exact Nat.pow_pos (by decide)
 irr:=fun i=>by unfold bit; rw [getD_replicate]; exact Nat.zero_testBit i
 sym:=fun i j=>by unfold bit; rw [getD_replicate,getD_replicate,Nat.zero_testBit,Nat.zero_testBit]
theorem or_split (a b:Nat):(a ||| b)=(a ^^^ b) + (a &&& b):=by
 induction a using Nat.strongRecOn generalizing b with
 | ind a ih =>
  by_cases h:a=0
  ·subst h; simp
  ·have h1:=ih (a / 2) (by omega) (b / 2)
   have e1:=Nat.div_add_mod (a ||| b) 2
   have e2:=Nat.div_add_mod (a ^^^ b) 2
   have e3:=Nat.div_add_mod (a &&& b) 2
   have d1:(a ||| b) / 2=a / 2 ||| b / 2:=Nat.or_div_two
   have d2:(a ^^^ b) / 2=a / 2 ^^^ b / 2:=Nat.xor_div_two
   have d3:(a &&& b) / 2=a / 2 &&& b / 2:=Nat.and_div_two
   have t1:((a ||| b) % 2=1) ↔ (a % 2=1\/b % 2=1):=by
    have t:=Nat.testBit_or a b 0
    simp only [Nat.testBit_zero] at t
    rw [<- decide_eq_true_iff (p:=(a ||| b) % 2=1),t,Bool.or_eq_true,decide_eq_true_iff,decide_eq_true_iff]
   have t2:((a &&& b) % 2=1) ↔ (a % 2=1/\b % 2=1):=by
    have t:=Nat.testBit_and a b 0
    simp only [Nat.testBit_zero] at t
    rw [<- decide_eq_true_iff (p:=(a &&& b) % 2=1),t,Bool.and_eq_true,decide_eq_true_iff,decide_eq_true_iff]
   have t3:((a ^^^ b) % 2=1) ↔ ¬ (a % 2=1 ↔ b % 2=1):=by
    have t:=Nat.testBit_xor a b 0
    simp only [Nat.testBit_zero] at t
    rw [<- decide_eq_true_iff (p:=(a ^^^ b) % 2=1),t]
    by_cases p:a % 2=1 <;> by_cases q:b % 2=1 <;> simp [p,q]
   rw [d1] at e1
   rw [d2] at e2
   rw [d3] at e3
   revert e1 e2 e3 t1 t2 t3
   generalize (a ||| b)=x
   generalize (a ^^^ b)=y
   generalize (a &&& b)=z
   intro e1 e2 e3 t1 t2 t3
   rw [h1] at e1
   by_cases p:a % 2=1 <;> by_cases q:b % 2=1 <;> simp only [p,q] at t1 t2 t3 <;> simp at t1 t2 t3 <;> omega
def sumB (P:Nat->Bool):Nat->Nat
 | 0=>0
 | n + 1=>sumB P n + (if P n then 2 ^ n else 0)
theorem sumB_lt (P:Nat->Bool):∀ n,sumB P n < 2 ^ n
 | 0=>by simp [sumB]
 | n + 1=>by
  have:=sumB_lt P n
  rw [sumB,Nat.pow_succ]
  split <;> omega
theorem testBit_sumB (P:Nat->Bool):∀ n j,(sumB P n).testBit j=(decide (j < n) && P j)
 | 0,j=>by simp [sumB]
 | n + 1,j=>by
  have hl:=sumB_lt P n
  rw [sumB]
  cases hp:P n with
  | false =>
   rw [if_neg (by decide),Nat.add_zero,testBit_sumB P n j]
   by_cases h:j=n
   ·subst h; simp [hp]
   ·have:decide (j < n + 1)=decide (j < n):=by
     by_cases h2:j < n
     ·simp [h2]; omega
     ·simp [h2]; omega
    rw [this]
  | true =>
   rw [if_pos rfl,Nat.add_comm]
   by_cases h:j=n
   ·subst h
    rw [Nat.testBit_two_pow_add_eq,testBit_sumB P j j]
    simp [hp]
   ·rcases Nat.lt_or_ge j n with h2 | h2
    ·rw [Nat.testBit_two_pow_add_gt h2,testBit_sumB P n j]
     have:decide (j < n + 1)=true:=by simp; omega
     rw [this]; simp [h2]
    ·have h3:n < j:=by omega
     rw [Nat.testBit_lt_two_pow]
     ·have:decide (j < n + 1)=false:=by simp; omega
      rw [this]; rfl
     ·have:2 ^ (n + 1) <= 2 ^ j:=Nat.pow_le_pow_right (by decide) (by omega)
      rw [Nat.pow_succ] at this
      omega
theorem sumB_or (P:Nat->Bool) (n:Nat):sumB P n ||| 2 ^ n=sumB P n + 2 ^ n:=by
 apply Nat.eq_of_testBit_eq
 intro j
 have hl:=sumB_lt P n
 rw [Nat.testBit_or,testBit_pow,Nat.add_comm]
 by_cases h:j=n
 ·subst h
  rw [Nat.testBit_two_pow_add_eq,testBit_sumB]
  simp
 ·have e:decide (n=j)=false:=by simp; omega
  rw [e,Bool.or_false]
  rcases Nat.lt_or_ge j n with h2 | h2
  ·rw [Nat.testBit_two_pow_add_gt h2]
  ·rw [Nat.testBit_lt_two_pow,Nat.testBit_lt_two_pow]
   ·have:2 ^ (n + 1) <= 2 ^ j:=Nat.pow_le_pow_right (by decide) (by omega)
    rw [Nat.pow_succ] at this
    omega
   ·exact Nat.lt_of_lt_of_le hl (Nat.pow_le_pow_right (by decide) h2)
theorem sumB_step (P:Nat->Bool) (n:Nat):sumB P (n + 1)=if P n then sumB P n ||| 2 ^ n else sumB P n:=by
 rw [sumB]
 split
 ·rw [sumB_or]
 ·rfl
def turnedM (ws:List Nat):List Nat:=(List.range ws.length).map fun i=>(2 ^ ws.length - 1) ^^^ ws.getD i 0 ^^^ 2 ^ i
def dueM (ws:List Nat):List Nat:=(List.range ws.length).map fun i=>sumB (fun j=>decide (j ≠ i) && !bit ws i j) ws.length
theorem getD_map_range (f:Nat->Nat) (n i:Nat):((List.range n).map f).getD i 0=if i < n then f i else 0:=by
 simp only [List.getD_eq_getElem?_getD,List.getElem?_map]
 by_cases h:i < n
 ·simp [h]
 ·rw [List.getElem?_eq_none (by simpa using h)]
  simp [h]
theorem testBit_ones (n j:Nat):(2 ^ n - 1).testBit j=decide (j < n):=by
 rw [Nat.testBit_two_pow_sub_one]
theorem turned_bit {ws:List Nat} (W:Web ws) {i:Nat} (hi:i < ws.length) (j:Nat) :
  ((2 ^ ws.length - 1) ^^^ ws.getD i 0 ^^^ 2 ^ i).testBit j=(decide (j < ws.length) && (decide (j ≠ i) && !bit ws i j)):=by
 rw [Nat.testBit_xor,Nat.testBit_xor,testBit_pow,testBit_ones]
 show (decide (j < ws.length) ^^ bit ws i j ^^ decide (i=j))=_
 by_cases h:j < ws.length
 ·by_cases h2:j=i
  ·subst h2; rw [W.irr]; simp [h]
  ·have h3:¬ i=j:=fun e=>h2 e.symm
   cases hb:bit ws i j <;> simp [h,h2,h3]
 ·rw [bit_out W.lt (by omega)]
  have h3:¬ i=j:=by omega
  simp [h,h3]
theorem turned_due {ws:List Nat} (W:Web ws):turnedM ws=dueM ws:=by
 unfold turnedM dueM
 apply List.map_congr_left
 intro i hi
 apply Nat.eq_of_testBit_eq
 intro j
 rw [turned_bit W (List.mem_range.mp hi),testBit_sumB]
theorem turned_length (ws:List Nat):(turnedM ws).length=ws.length:=by simp [turnedM]
theorem bit_turned {ws:List Nat} (W:Web ws) (i j:Nat) :
  bit (turnedM ws) i j=(decide (i < ws.length) && (decide (j < ws.length) && (decide (j ≠ i) && !bit ws i j))):=by
 unfold bit turnedM
 rw [getD_map_range]
 by_cases hi:i < ws.length
 ·rw [if_pos hi,turned_bit W hi]
  simp [hi,bit]
 ·rw [if_neg hi]
  simp [hi]
theorem Web.turned {ws:List Nat} (W:Web ws):Web (turnedM ws) where
 pos:=by rw [turned_length]; exact W.pos
 le:=by rw [turned_length]; exact W.le
 lt:=fun i=>by
  rw [turned_length,turned_due W]
  unfold dueM
  rw [getD_map_range]
  split
  ·exact sumB_lt _ _
  ·exact Nat.pow_pos (by decide)
 irr:=fun i=>by rw [bit_turned W]; simp
 sym:=fun i j=>by
  rw [bit_turned W,bit_turned W,W.sym i j]
  by_cases h1:i < ws.length <;> by_cases h2:j < ws.length <;> by_cases h3:i=j <;> simp [h1,h2,h3,eq_comm]
def amongM (ws pts:List Nat):List Nat:=pts.map fun p=>sumB (fun k=>bit ws p (pts.getD k 0)) pts.length
inductive Conn (ws:List Nat) (s:Nat):Nat->Prop
 | refl:Conn ws s s
 | step {a b:Nat}:Conn ws s a->bit ws a b=true->Conn ws s b
theorem Conn.trans {ws:List Nat} {a b c:Nat} (h:Conn ws a b) (k:Conn ws b c):Conn ws a c:=by
 induction k with
 | refl=>exact h
 | step _ e ih=>exact .step ih e
theorem Conn.symm {ws:List Nat} (W:Web ws) {a b:Nat} (h:Conn ws a b):Conn ws b a:=by
 induction h with
 | refl=>exact .refl
 | step _ e ih=>exact (Conn.step .refl (by rw [W.sym]; exact e)).trans ih
theorem Conn.lt {ws:List Nat} (W:Web ws) {a b:Nat} (ha:a < ws.length) (h:Conn ws a b):b < ws.length:=by
 cases h with
 | refl=>exact ha
 | step _ e=>exact W.inr e
open Classical in
noncomputable def comp (ws:List Nat) (s:Nat):List Nat:=(List.range ws.length).filter fun b=>decide (Conn ws s b)
theorem mem_comp {ws:List Nat} (W:Web ws) {s b:Nat} (hs:s < ws.length):b ∈ comp ws s ↔ Conn ws s b:=by
 unfold comp
 rw [List.mem_filter]
 constructor
 ·rintro ⟨_,h⟩
  exact @of_decide_eq_true _ (Classical.propDecidable _) h
 ·intro h
  exact ⟨List.mem_range.mpr (h.lt W hs),@decide_eq_true _ (Classical.propDecidable _) h⟩
theorem comp_sorted (ws:List Nat) (s:Nat):(comp ws s).Pairwise (· < ·):=List.Pairwise.filter _ List.pairwise_lt_range
theorem comp_lt {ws:List Nat} {s b:Nat} (h:b ∈ comp ws s):b < ws.length:=List.mem_range.mp (List.mem_filter.mp h).1
structure Hang (ws:List Nat) (s:Nat) (reached waiting:List Nat):Prop where
 st:s ∈ reached
 nd:reached.Nodup
 sub:∀ p ∈ waiting,p ∈ reached
 con:∀ p ∈ reached,Conn ws s p
 clo:∀ p ∈ reached,p ∈ waiting\/∀ q,bit ws p q=true->q ∈ reached
theorem hang_start (ws:List Nat) (s:Nat):Hang ws s [s] [s] where
 st:=List.mem_singleton.mpr rfl
 nd:=(by simp)
 sub:=fun _ h=>h
 con:=fun p h=>by rw [List.mem_singleton.mp h]; exact .refl
 clo:=fun p h=>.inl h
structure HangIn (ws:List Nat) (s p j:Nat) (reached waiting:List Nat):Prop where
 st:s ∈ reached
 nd:reached.Nodup
 sub:∀ p ∈ waiting,p ∈ reached
 con:∀ p ∈ reached,Conn ws s p
 clo:∀ q ∈ reached,q ∈ waiting\/q=p\/∀ z,bit ws q z=true->z ∈ reached
 at':p ∈ reached
 part:∀ q,q < j->bit ws p q=true->q ∈ reached
theorem Hang.pop {ws:List Nat} {s p:Nat} {reached waiting:List Nat} (h:Hang ws s reached (waiting ++ [p])):HangIn ws s p 0 reached waiting where
 st:=h.st
 nd:=h.nd
 sub:=fun q hq=>h.sub q (List.mem_append_left _ hq)
 con:=h.con
 clo:=fun q hq=>by
  rcases h.clo q hq with z | z
  ·rcases List.mem_append.mp z with z | z
   ·exact .inl z
   ·exact .inr (.inl (List.mem_singleton.mp z))
  ·exact .inr (.inr z)
 at':=h.sub p (List.mem_append_right _ (List.mem_singleton.mpr rfl))
 part:=fun q hq=>absurd hq (Nat.not_lt_zero _)
theorem HangIn.skip {ws:List Nat} {s p j:Nat} {reached waiting:List Nat} (h:HangIn ws s p j reached waiting) (hj:bit ws p j=true->j ∈ reached):HangIn ws s p (j + 1) reached waiting where
 st:=h.st
 nd:=h.nd
 sub:=h.sub
 con:=h.con
 clo:=h.clo
 at':=h.at'
 part:=fun q hq hb=>by
  by_cases e:q=j
  ·subst e; exact hj hb
  ·exact h.part q (by omega) hb
theorem HangIn.add {ws:List Nat} {s p j:Nat} {reached waiting:List Nat} (h:HangIn ws s p j reached waiting) (hb:bit ws p j=true) (hn:j ∉ reached):HangIn ws s p (j + 1) (reached ++ [j]) (waiting ++ [j]) where
 st:=List.mem_append_left _ h.st
 nd:=by
  rw [List.nodup_append]
  exact ⟨h.nd,(by simp),fun a ha b hb' e=>hn (by rw [List.mem_singleton.mp hb'] at e; rw [<- e]; exact ha)⟩
 sub:=fun q hq=>by
  rcases List.mem_append.mp hq with z | z
  ·exact List.mem_append_left _ (h.sub q z)
  ·exact List.mem_append_right _ z
 con:=fun q hq=>by
  rcases List.mem_append.mp hq with z | z
  ·exact h.con q z
  ·rw [List.mem_singleton.mp z]; exact .step (h.con p h.at') hb
 clo:=fun q hq=>by
  rcases List.mem_append.mp hq with z | z
  ·rcases h.clo q z with y | y | y
   ·exact .inl (List.mem_append_left _ y)
   ·exact .inr (.inl y)
   ·exact .inr (.inr fun x hx=>List.mem_append_left _ (y x hx))
  ·exact .inl (List.mem_append_right _ z)
 at':=List.mem_append_left _ h.at'
 part:=fun q hq hb'=>by
  by_cases e:q=j
  ·subst e; exact List.mem_append_right _ (List.mem_singleton.mpr rfl)
  ·exact List.mem_append_left _ (h.part q (by omega) hb')
theorem HangIn.done {ws:List Nat} (W:Web ws) {s p:Nat} {reached waiting:List Nat} (h:HangIn ws s p ws.length reached waiting):Hang ws s reached waiting where
 st:=h.st
 nd:=h.nd
 sub:=h.sub
 con:=h.con
 clo:=fun q hq=>by
  rcases h.clo q hq with y | y | y
  ·exact .inl y
  ·subst y; exact .inr fun z hz=>h.part z (W.inr hz) hz
  ·exact .inr y
theorem Hang.lt {ws:List Nat} (W:Web ws) {s:Nat} {reached waiting:List Nat} (hs:s < ws.length) (h:Hang ws s reached waiting):∀ p ∈ reached,p < ws.length:=fun p hp=>(h.con p hp).lt W hs
theorem HangIn.lt {ws:List Nat} (W:Web ws) {s p j:Nat} {reached waiting:List Nat} (hs:s < ws.length) (h:HangIn ws s p j reached waiting):∀ p ∈ reached,p < ws.length:=fun p hp=>(h.con p hp).lt W hs
theorem nodup_length:∀ {n:Nat} {l:List Nat},l.Nodup->(∀ p ∈ l,p < n)->l.length <= n
 | 0,[],_,_=>Nat.le_refl _
 | 0,a::_,_,h=>absurd (h a (.head _)) (Nat.not_lt_zero _)
 | n + 1,l,nd,h=>by
  by_cases hm:n ∈ l
  ·have h1:=nodup_length (n:=n) (nd.erase n) fun p hp=>by
    have:=(nd.mem_erase_iff).mp hp
    have:=h p this.2
    omega
   rw [List.length_erase_of_mem hm] at h1
   omega
  ·have h1:=nodup_length (n:=n) nd fun p hp=>by
    have:=h p hp
    have:p ≠ n:=fun e=>hm (e ▸ hp)
    omega
   omega
theorem Hang.end {ws:List Nat} (W:Web ws) {s:Nat} {reached:List Nat} (hs:s < ws.length) (h:Hang ws s reached []):(comp ws s).Perm reached:=by
 refine (List.perm_ext_iff_of_nodup ((comp_sorted ws s).imp fun e=>Nat.ne_of_lt e) h.nd).mpr fun x=>?_
 rw [mem_comp W hs]
 constructor
 ·intro c
  induction c with
  | refl=>exact h.st
  | step _ e ih =>
   rcases h.clo _ ih with z | z
   ·cases z
   ·exact z _ e
 ·exact h.con x
def headed (ws:List Nat) (p:Nat):Prop:=(comp ws p).head? = some p
theorem headed_iff {ws:List Nat} (W:Web ws) {p:Nat} (hp:p < ws.length):headed ws p ↔ ∀ q,Conn ws p q->p <= q:=by
 unfold headed
 have srt:=comp_sorted ws p
 have hm:p ∈ comp ws p:=(mem_comp W hp).mpr .refl
 have hq:∀ q,q ∈ comp ws p ↔ Conn ws p q:=fun q=>mem_comp W hp
 revert srt hm hq
 generalize comp ws p=l
 intro srt hm hq
 cases l with
 | nil=>cases hm
 | cons b r =>
  rw [List.pairwise_cons] at srt
  simp only [List.head?_cons,Option.some.injEq]
  constructor
  ·rintro rfl q c
   rcases List.mem_cons.mp ((hq q).mpr c) with e | z
   ·omega
   ·have:=srt.1 q z; omega
  ·intro h
   have h1:=h b ((hq b).mp (.head _))
   rcases List.mem_cons.mp hm with e | z
   ·exact e.symm
   ·have:=srt.1 p z; omega
noncomputable instance (ws:List Nat) (p:Nat):Decidable (headed ws p):=by unfold headed; infer_instance
noncomputable def partsM (ws:List Nat):List (List Nat):=((List.range ws.length).filter fun p=>decide (headed ws p)).map (comp ws)
end Bw
namespace Bw
def Row4 (adj:Nat->Nat->Bool) (a b c d:Nat):Prop :=
 adj a b=true/\adj b c=true/\adj c d=true/\adj a c=false/\adj a d=false/\adj b d=false
def NoRow (adj:Nat->Nat->Bool) (S:List Nat):Prop:=∀ a ∈ S,∀ b ∈ S,∀ c ∈ S,∀ d ∈ S,a ≠ c->a ≠ d->b ≠ d->¬ Row4 adj a b c d
def co (adj:Nat->Nat->Bool) (x y:Nat):Bool:=!adj x y && decide (x ≠ y)
structure Sym (adj:Nat->Nat->Bool):Prop where
 sym:∀ x y,adj x y=adj y x
 irr:∀ x,adj x x=false
theorem Sym.co {adj:Nat->Nat->Bool} (A:Sym adj):Sym (co adj) where
 sym:=fun x y=>by
  unfold Bw.co
  rw [A.sym x y]
  by_cases h:x=y
  ·subst h; rfl
  ·have h':¬ y=x:=fun z=>h z.symm
   simp [h,h']
 irr:=fun x=>by simp [Bw.co]
theorem co_ne {adj:Nat->Nat->Bool} {x y:Nat} (h:x ≠ y):co adj x y = !adj x y:=by simp [co,h]
theorem adj_ne {adj:Nat->Nat->Bool} (A:Sym adj) {x y:Nat} (h:adj x y=true):x ≠ y:=fun z=>by
 rw [z,A.irr] at h
 cases h
theorem NoRow.co {adj:Nat->Nat->Bool} (A:Sym adj) {S:List Nat} (N:NoRow adj S):NoRow (co adj) S:=by
 intro a ha b hb c hc d hd n1 n2 n3 ⟨h1,h2,h3,h4,h5,h6⟩
 have ab:=adj_ne A.co h1
 have bc:=adj_ne A.co h2
 have cd:=adj_ne A.co h3
 rw [co_ne ab] at h1
 rw [co_ne bc] at h2
 rw [co_ne cd] at h3
 rw [co_ne n1] at h4
 rw [co_ne n2] at h5
 rw [co_ne n3] at h6
 refine N b hb d hd a ha c hc (Ne.symm ab) bc (Ne.symm cd) ⟨?_,?_,?_,?_,?_,?_⟩
 ·simpa using h6
 ·rw [A.sym]; simpa using h5
 ·simpa using h4
 ·rw [A.sym]; simpa using h1
 ·simpa using h2
 ·rw [A.sym]; simpa using h3
theorem NoRow.mono {adj:Nat->Nat->Bool} {S T:List Nat} (N:NoRow adj S) (h:∀ x ∈ T,x ∈ S):NoRow adj T :=
 fun a ha b hb c hc d hd=>N a (h a ha) b (h b hb) c (h c hc) d (h d hd)
def Split (adj:Nat->Nat->Bool) (S:List Nat):Prop:=∃ f:Nat->Bool,(∃ x ∈ S,f x=true)/\(∃ y ∈ S,f y=false)/\∀ x ∈ S,∀ y ∈ S,f x=true->f y=false->adj x y=false
theorem split_step {adj:Nat->Nat->Bool} (A:Sym adj) {v:Nat} {S:List Nat} (hv:v ∉ S) (N:NoRow adj (v::S)) (h:Split adj S):Split adj (v::S)\/Split (co adj) (v::S):=by
 obtain ⟨f,⟨x0,hx0,fx0⟩,⟨y0,hy0,fy0⟩,hf⟩:=h
 have nev:∀ z ∈ S,z ≠ v:=fun z hz e=>hv (e ▸ hz)
 by_cases hall:∀ z ∈ S,adj v z=true
 ·
  refine .inr ⟨fun z=>decide (z=v),⟨v,.head _,by simp⟩,⟨x0,.tail _ hx0,by simpa using nev x0 hx0⟩,?_⟩
  intro x hx y hy hfx hfy
  have ex:x=v:=by simpa using hfx
  have ey:y ≠ v:=by simpa using hfy
  subst ex
  rcases List.mem_cons.mp hy with e | hy
  ·exact absurd e ey
  ·rw [co_ne (Ne.symm ey),hall y hy]; rfl
 ·
  have:∃ z ∈ S,adj v z=false:=by
   refine Classical.byContradiction fun hn=>hall fun z hz=>?_
   cases q:adj v z with
   | true=>rfl
   | false=>exact absurd ⟨z,hz,q⟩ hn
  obtain ⟨z0,hz0,az0⟩:=this
  have side:∀ g:Nat->Bool,(∀ x ∈ S,∀ y ∈ S,g x=true->g y=false->adj x y=false)->g z0=true->(∃ w ∈ S,g w=false)->Split adj (v::S):=by
   intro g hg gz0 ⟨w0,hw0,gw0⟩
   by_cases hz:∃ z ∈ S,g z=false/\adj v z=true
   ·obtain ⟨z,hz,gz,avz⟩:=hz
    refine ⟨fun x=>g x && (!adj v x && decide (x ≠ v)),⟨z0,.tail _ hz0,by simp [gz0,az0,nev z0 hz0]⟩,⟨v,.head _,by simp⟩,?_⟩
    intro x hx y hy hfx hfy
    simp only [Bool.and_eq_true,Bool.not_eq_true',decide_eq_true_eq] at hfx
    obtain ⟨gx,avx,nx⟩:=hfx
    have hx':x ∈ S:=(List.mem_cons.mp hx).resolve_left nx
    rcases List.mem_cons.mp hy with e | hy
    ·subst e; rw [A.sym]; exact avx
    ·have ny:=nev y hy
     cases gy:g y with
     | false=>exact hg x hx' y hy gx gy
     | true =>
      have avy:adj v y=true:=by
       dsimp only at hfy
       rw [gy] at hfy
       simp only [Bool.true_and,Bool.and_eq_false_iff,Bool.not_eq_false',decide_eq_false_iff_not,Decidable.not_not] at hfy
       rcases hfy with h | h
       ·exact h
       ·exact absurd h ny
      cases q:adj x y with
      | false=>rfl
      | true =>
       exfalso
       have xz:=hg x hx' z hz gx gz
       have yz:=hg y hy z hz gy gz
       have n1:x ≠ z:=fun e=>by rw [e,gz] at gx; cases gx
       have n2:y ≠ z:=fun e=>by rw [e,gz] at gy; cases gy
       exact N x (.tail _ hx') y (.tail _ hy) v (.head _) z (.tail _ hz) nx n1 n2 ⟨q,by rw [A.sym]; exact avy,avz,by rw [A.sym]; exact avx,xz,yz⟩
   ·
    refine ⟨fun x=>g x || decide (x=v),⟨v,.head _,by simp⟩,⟨w0,.tail _ hw0,by simp [gw0,nev w0 hw0]⟩,?_⟩
    intro x hx y hy hfx hfy
    simp only [Bool.or_eq_false_iff,decide_eq_false_iff_not] at hfy
    obtain ⟨gy,ny⟩:=hfy
    have hy':y ∈ S:=(List.mem_cons.mp hy).resolve_left ny
    rcases List.mem_cons.mp hx with e | hx'
    ·subst e
     cases q:adj x y with
     | false=>rfl
     | true=>exact absurd ⟨y,hy',gy,q⟩ hz
    ·have nx:=nev x hx'
     have gx:g x=true:=by simpa [nx] using hfx
     exact hg x hx' y hy' gx gy
  cases q:f z0 with
  | true=>exact .inl (side f hf q ⟨y0,hy0,fy0⟩)
  | false=>exact .inl (side (fun x=>!f x) (fun x hx y hy gx gy=>by rw [A.sym]; exact hf y hy x hx (by simpa using gy) (by simpa using gx)) (by simp [q]) ⟨x0,hx0,by simp [fx0]⟩)
theorem co_co {adj:Nat->Nat->Bool} (A:Sym adj):co (co adj)=adj:=by
 funext x y
 by_cases h:x=y
 ·subst h; rw [A.irr]; simp [co]
 ·rw [co_ne h,co_ne h,Bool.not_not]
theorem plain_split {adj:Nat->Nat->Bool} (A:Sym adj):∀ (S:List Nat),S.Nodup->2 <= S.length->NoRow adj S->Split adj S\/Split (co adj) S
 | [],_,h,_=>by simp at h
 | [_],_,h,_=>by simp at h
 | [v,w],nd,_,_=>by
  have hvw:v ≠ w:=by
   rw [List.nodup_cons] at nd
   exact fun e=>nd.1 (by rw [e]; exact .head _)
  have nwv:¬ w=v:=fun z=>hvw z.symm
  have two:∀ ad:Nat->Nat->Bool,Sym ad->ad v w=false->Split ad [v,w]:=fun ad B h=>by
   refine ⟨fun x=>decide (x=v),⟨v,.head _,by simp⟩,⟨w,.tail _ (.head _),by simp [nwv]⟩,?_⟩
   intro x hx y hy fx fy
   have ex:x=v:=by simpa using fx
   have ey:y ≠ v:=by simpa using fy
   have ey':y=w:=by
    rcases List.mem_cons.mp hy with e | hy
    ·exact absurd e ey
    ·simpa using hy
   rw [ex,ey']; exact h
  cases q:adj v w with
  | false=>exact .inl (two adj A q)
  | true=>exact .inr (two (co adj) A.co (by rw [co_ne hvw,q]; rfl))
 | v::w::x::S,nd,_,N=>by
  rw [List.nodup_cons] at nd
  rcases plain_split A (w::x::S) nd.2 (by simp) (N.mono fun y hy=>.tail _ hy) with h | h
  ·exact split_step A nd.1 N h
  ·have:=split_step A.co nd.1 (N.co A) h
   rw [co_co A] at this
   exact this.symm
end Bw
namespace Bw
theorem Web.adj {ws:List Nat} (W:Web ws):Sym (bit ws):=⟨W.sym,W.irr⟩
def goesM (ws row:List Nat) (p:Nat):Bool:=decide (row.filter (fun o=>bit ws p o)=row.drop (row.length - 1))
def longerM (ws:List Nat) (rows:List (List Nat)):List (List Nat):=rows.flatMap fun row=>((List.range ws.length).filter (goesM ws row)).map fun p=>row ++ [p]
def stepsM (ws:List Nat):Nat->List (List Nat)
 | 0=>[[]]
 | k + 1=>longerM ws (stepsM ws k)
theorem mem_longer {ws:List Nat} {rows:List (List Nat)} {r:List Nat}:r ∈ longerM ws rows ↔ ∃ row ∈ rows,∃ p,p < ws.length/\goesM ws row p=true/\r=row ++ [p]:=by
 unfold longerM
 rw [List.mem_flatMap]
 constructor
 ·rintro ⟨row,h1,h2⟩
  obtain ⟨p,h3,rfl⟩:=List.mem_map.mp h2
  obtain ⟨h4,h5⟩:=List.mem_filter.mp h3
  exact ⟨row,h1,p,List.mem_range.mp h4,h5,rfl⟩
 ·rintro ⟨row,h1,p,h2,h3,rfl⟩
  exact ⟨row,h1,List.mem_map.mpr ⟨p,List.mem_filter.mpr ⟨List.mem_range.mpr h2,h3⟩,rfl⟩⟩
theorem longer_len (ws:List Nat):∀ rows:List (List Nat),(longerM ws rows).length <= ws.length * rows.length
 | []=>by simp [longerM]
 | row::rows=>by
  have ih:=longer_len ws rows
  have e:longerM ws (row::rows)=(((List.range ws.length).filter (goesM ws row)).map fun p=>row ++ [p]) ++ longerM ws rows:=by
   unfold longerM
   rw [List.flatMap_cons]
  rw [e,List.length_append,List.length_map,List.length_cons,Nat.mul_succ]
  have:=List.length_filter_le (goesM ws row) (List.range ws.length)
  rw [List.length_range] at this
  omega
theorem steps_len {ws:List Nat} (h:ws.length <= 10):∀ k,(stepsM ws k).length <= 10 ^ k
 | 0=>by simp [stepsM]
 | k + 1=>by
  have ih:=steps_len h k
  have:=longer_len ws (stepsM ws k)
  show (longerM ws (stepsM ws k)).length <= _
  have h2:ws.length * (stepsM ws k).length <= 10 * 10 ^ k:=Nat.mul_le_mul h ih
  rw [Nat.pow_succ]
  omega
theorem steps_row {ws:List Nat}:∀ k r,r ∈ stepsM ws k->r.length=k/\∀ p ∈ r,p < ws.length
 | 0,r,h=>by
  have e:r=[]:=by simpa [stepsM] using h
  subst e
  exact ⟨rfl,fun p hp=>by cases hp⟩
 | k + 1,r,h=>by
  obtain ⟨row,h1,p,h2,h3,rfl⟩:=mem_longer.mp h
  obtain ⟨h4,h5⟩:=steps_row k row h1
  refine ⟨by rw [List.length_append,h4]; rfl,fun q hq=>?_⟩
  rcases List.mem_append.mp hq with z | z
  ·exact h5 q z
  ·rw [List.mem_singleton.mp z]; exact h2
def FourM (ws:List Nat) (a b c d:Nat):Prop:=a < ws.length/\b < ws.length/\c < ws.length/\d < ws.length/\a ≠ c/\a ≠ d/\b ≠ d/\Row4 (bit ws) a b c d
theorem goes_0 (ws:List Nat) (p:Nat):goesM ws [] p=true:=by simp [goesM]
theorem goes_1 (ws:List Nat) (a p:Nat):goesM ws [a] p=bit ws p a:=by
 unfold goesM
 cases h:bit ws p a <;> simp [h]
theorem goes_2 (ws:List Nat) {a b p:Nat} (h:a ≠ b):goesM ws [a,b] p=(!bit ws p a && bit ws p b):=by
 unfold goesM
 cases h1:bit ws p a <;> cases h2:bit ws p b <;> simp [h1,h2,h]
theorem goes_3 (ws:List Nat) {a b c p:Nat} (hb:b ≠ c):goesM ws [a,b,c] p=(!bit ws p a && !bit ws p b && bit ws p c):=by
 unfold goesM
 cases h1:bit ws p a <;> cases h2:bit ws p b <;> cases h3:bit ws p c <;> simp [h1,h2,h3,hb]
 all_goals (intro z; rw [z] at h1; rw [h1] at h3; cases h3)
theorem mem_steps4 {ws:List Nat} (W:Web ws) {r:List Nat}:r ∈ stepsM ws 4 ↔ ∃ a b c d,r=[a,b,c,d]/\FourM ws a b c d:=by
 constructor
 ·intro h
  obtain ⟨r3,h3,d,hd,gd,rfl⟩:=mem_longer.mp h
  obtain ⟨r2,h2,c,hc,gc,rfl⟩:=mem_longer.mp h3
  obtain ⟨r1,h1,b,hb,gb,rfl⟩:=mem_longer.mp h2
  obtain ⟨r0,h0,a,ha,ga,rfl⟩:=mem_longer.mp h1
  have e:r0=[]:=by simpa [stepsM] using h0
  subst e
  simp only [List.nil_append,List.cons_append] at gb gc gd ⊢
  rw [goes_1] at gb
  have nab:a ≠ b:=fun z=>by rw [z,W.irr] at gb; cases gb
  rw [goes_2 ws nab,Bool.and_eq_true,Bool.not_eq_true'] at gc
  have nbc:b ≠ c:=fun z=>by
   have:=gc.2
   rw [z,W.irr] at this; cases this
  rw [goes_3 ws nbc,Bool.and_eq_true,Bool.and_eq_true,Bool.not_eq_true',Bool.not_eq_true'] at gd
  obtain ⟨⟨g1,g2⟩,g3⟩:=gd
  refine ⟨a,b,c,d,rfl,ha,hb,hc,hd,fun z=>?_,fun z=>?_,fun z=>?_,?_⟩
  ·rw [z,g3] at g1; cases g1
  ·subst z
   rw [W.sym,gc.1] at g3; cases g3
  ·subst z
   rw [gb] at g1; cases g1
  ·refine ⟨?_,?_,?_,?_,?_,?_⟩
   ·rw [W.sym]; exact gb
   ·rw [W.sym]; exact gc.2
   ·rw [W.sym]; exact g3
   ·rw [W.sym]; exact gc.1
   ·rw [W.sym]; exact g1
   ·rw [W.sym]; exact g2
 ·rintro ⟨a,b,c,d,rfl,ha,hb,hc,hd,n1,n2,n3,h1,h2,h3,h4,h5,h6⟩
  have nab:a ≠ b:=fun z=>by rw [z,W.irr] at h1; cases h1
  have nbc:b ≠ c:=fun z=>by rw [z,W.irr] at h2; cases h2
  refine mem_longer.mpr ⟨[a,b,c],mem_longer.mpr ⟨[a,b],mem_longer.mpr ⟨[a],mem_longer.mpr ⟨[],by simp [stepsM],a,ha,goes_0 ws a,rfl⟩,b,hb,?_,rfl⟩,c,hc,?_,rfl⟩,d,hd,?_,rfl⟩
  ·rw [goes_1,W.sym]; exact h1
  ·rw [goes_2 ws nab,W.sym c a,W.sym c b,h4,h2]; rfl
  ·rw [goes_3 ws nbc,W.sym d a,W.sym d b,W.sym d c,h5,h6,h3]; rfl
theorem noRow_iff {ws:List Nat} (W:Web ws):stepsM ws 4=[] ↔ NoRow (bit ws) (List.range ws.length):=by
 constructor
 ·intro h a ha b hb c hc d hd n1 n2 n3 r
  have:[a,b,c,d] ∈ stepsM ws 4:=(mem_steps4 W).mpr ⟨a,b,c,d,rfl,List.mem_range.mp ha,List.mem_range.mp hb,List.mem_range.mp hc,List.mem_range.mp hd,n1,n2,n3,r⟩
  rw [h] at this
  cases this
 ·intro N
  cases q:stepsM ws 4 with
  | nil=>rfl
  | cons r t =>
   exfalso
   obtain ⟨a,b,c,d,_,ha,hb,hc,hd,n1,n2,n3,h⟩:=(mem_steps4 W).mp (by rw [q]; exact .head _:r ∈ stepsM ws 4)
   exact N a (List.mem_range.mpr ha) b (List.mem_range.mpr hb) c (List.mem_range.mpr hc) d (List.mem_range.mpr hd) n1 n2 n3 h
theorem among_length (ws pts:List Nat):(amongM ws pts).length=pts.length:=by simp [amongM]
theorem getD_mem {l:List Nat} {i:Nat} (h:i < l.length):l.getD i 0 ∈ l:=by
 rw [List.getD_eq_getElem?_getD,List.getElem?_eq_getElem h]
 exact List.getElem_mem h
theorem getD_inj {l:List Nat} (nd:l.Nodup) {i j:Nat} (hi:i < l.length) (hj:j < l.length) (h:l.getD i 0=l.getD j 0):i=j:=by
 rw [List.getD_eq_getElem?_getD,List.getD_eq_getElem?_getD,List.getElem?_eq_getElem hi,List.getElem?_eq_getElem hj] at h
 exact (List.getElem_inj nd).mp h
theorem bit_among {ws pts:List Nat} (i j:Nat):bit (amongM ws pts) i j=(decide (i < pts.length) && decide (j < pts.length) && bit ws (pts.getD i 0) (pts.getD j 0)):=by
 unfold bit amongM
 by_cases hi:i < pts.length
 ·have e:((pts.map fun p=>sumB (fun k=>(ws.getD p 0).testBit (pts.getD k 0)) pts.length).getD i 0)=sumB (fun k=>(ws.getD (pts.getD i 0) 0).testBit (pts.getD k 0)) pts.length:=by
   rw [List.getD_eq_getElem?_getD,List.getElem?_map,List.getElem?_eq_getElem hi,List.getD_eq_getElem?_getD (l:=pts) (i:=i),List.getElem?_eq_getElem hi]
   rfl
  have e':=e
  unfold bit at *
  rw [e',testBit_sumB,decide_eq_true hi,Bool.true_and]
 ·have e:((pts.map fun p=>sumB (fun k=>(ws.getD p 0).testBit (pts.getD k 0)) pts.length).getD i 0)=0:=by
   rw [List.getD_eq_getElem?_getD,List.getElem?_eq_none (by rw [List.length_map]; omega)]
   rfl
  unfold bit at *
  rw [e,decide_eq_false hi]
  simp
theorem web_among {ws pts:List Nat} (W:Web ws) (hne:pts ≠ []) (hnd:pts.Nodup) (hlt:∀ p ∈ pts,p < ws.length):Web (amongM ws pts) where
 pos:=by rw [among_length]; exact List.length_pos_iff.mpr hne
 le:=by rw [among_length]; exact Nat.le_trans (nodup_length hnd hlt) W.le
 lt:=fun i=>by
  rw [among_length]
  unfold amongM
  by_cases hi:i < pts.length
  ·rw [List.getD_eq_getElem?_getD,List.getElem?_map,List.getElem?_eq_getElem hi]
   exact sumB_lt _ _
  ·rw [List.getD_eq_getElem?_getD,List.getElem?_eq_none (by rw [List.length_map]; omega)]
   exact Nat.pow_pos (by decide)
 sym:=fun i j=>by
  rw [bit_among,bit_among,W.sym (pts.getD i 0),Bool.and_comm (decide (i < pts.length))]
 irr:=fun i=>by rw [bit_among,W.irr,Bool.and_false]
theorem noRow_among {ws pts:List Nat} (hnd:pts.Nodup) (N:NoRow (bit ws) pts):NoRow (bit (amongM ws pts)) (List.range pts.length):=by
 intro a ha b hb c hc d hd n1 n2 n3 ⟨h1,h2,h3,h4,h5,h6⟩
 have ha:=List.mem_range.mp ha
 have hb:=List.mem_range.mp hb
 have hc:=List.mem_range.mp hc
 have hd:=List.mem_range.mp hd
 rw [bit_among] at h1 h2 h3 h4 h5 h6
 simp only [ha,hb,hc,hd,decide_true,Bool.true_and] at h1 h2 h3 h4 h5 h6
 exact N _ (getD_mem ha) _ (getD_mem hb) _ (getD_mem hc) _ (getD_mem hd) (fun z=>n1 (getD_inj hnd ha hc z)) (fun z=>n2 (getD_inj hnd ha hd z)) (fun z=>n3 (getD_inj hnd hb hd z)) ⟨h1,h2,h3,h4,h5,h6⟩
theorem mem_parts {ws:List Nat} {g:List Nat}:g ∈ partsM ws ↔ ∃ p,p < ws.length/\headed ws p/\g=comp ws p:=by
 unfold partsM
 rw [List.mem_map]
 constructor
 ·rintro ⟨p,h,rfl⟩
  obtain ⟨h1,h2⟩:=List.mem_filter.mp h
  exact ⟨p,List.mem_range.mp h1,of_decide_eq_true h2,rfl⟩
 ·rintro ⟨p,h1,h2,rfl⟩
  exact ⟨p,List.mem_filter.mpr ⟨List.mem_range.mpr h1,decide_eq_true h2⟩,rfl⟩
theorem parts_sorted {ws g:List Nat} (h:g ∈ partsM ws):g.Pairwise (· < ·):=by
 obtain ⟨p,_,_,rfl⟩:=mem_parts.mp h
 exact comp_sorted ws p
theorem parts_ne0 {ws g:List Nat} (W:Web ws) (h:g ∈ partsM ws):g ≠ []:=by
 obtain ⟨p,hp,_,rfl⟩:=mem_parts.mp h
 intro z
 have:=(mem_comp W hp).mpr (Conn.refl (ws:=ws) (s:=p))
 rw [z] at this
 cases this
theorem parts_lt {ws g:List Nat} (h:g ∈ partsM ws):∀ x ∈ g,x < ws.length:=by
 obtain ⟨p,hp,_,rfl⟩:=mem_parts.mp h
 exact fun x hx=>comp_lt hx
theorem headed_eq {ws:List Nat} (W:Web ws) {p q:Nat} (hp:p < ws.length) (hq:q < ws.length) (h1:headed ws p) (h2:headed ws q) (c:Conn ws p q):p=q:=by
 have a:=(headed_iff W hp).mp h1 q c
 have b:=(headed_iff W hq).mp h2 p (c.symm W)
 omega
theorem heads_nodup (ws:List Nat):((List.range ws.length).filter fun p=>decide (headed ws p)).Nodup:=List.Pairwise.filter _ List.nodup_range
theorem exists_least {P:Nat->Prop}:∀ (n:Nat),P n->∃ m,P m/\∀ k,P k->m <= k:=by
 intro n
 induction n using Nat.strongRecOn with
 | ind n ih =>
  intro hn
  by_cases h:∃ m,m < n/\P m
  ·obtain ⟨m,hm,pm⟩:=h
   exact ih m hm pm
  ·exact ⟨n,hn,fun k hk=>Nat.le_of_not_lt fun z=>h ⟨k,z,hk⟩⟩
theorem has_head {ws:List Nat} (W:Web ws) {x:Nat} (hx:x < ws.length):∃ p,p < ws.length/\headed ws p/\Conn ws p x:=by
 obtain ⟨m,hm,hl⟩:=exists_least (P:=fun y=>Conn ws x y) x .refl
 have hml:=hm.lt W hx
 exact ⟨m,hml,(headed_iff W hml).mpr fun q c=>hl q (hm.trans c),hm.symm W⟩
theorem parts_perm {ws:List Nat} (W:Web ws):(partsM ws).flatten.Perm (List.range ws.length):=by
 rw [List.perm_ext_iff_of_nodup ?_ List.nodup_range]
 ·intro x
  rw [List.mem_flatten,List.mem_range]
  constructor
  ·rintro ⟨g,hg,hx⟩
   exact parts_lt hg x hx
  ·intro hx
   obtain ⟨p,hp,hh,c⟩:=has_head W hx
   exact ⟨comp ws p,mem_parts.mpr ⟨p,hp,hh,rfl⟩,(mem_comp W hp).mpr c⟩
 ·rw [List.nodup_iff_pairwise_ne,List.pairwise_flatten]
  refine ⟨fun g hg=>(parts_sorted hg).imp fun h=>Nat.ne_of_lt h,?_⟩
  unfold partsM
  rw [List.pairwise_map]
  have nd:=heads_nodup ws
  have hm:∀ p ∈ (List.range ws.length).filter fun p=>decide (headed ws p),p < ws.length/\headed ws p:=fun p hp=>by
   obtain ⟨h1,h2⟩:=List.mem_filter.mp hp
   exact ⟨List.mem_range.mp h1,of_decide_eq_true h2⟩
  rw [List.nodup_iff_pairwise_ne] at nd
  refine List.Pairwise.imp_of_mem ?_ nd
  intro p q hp hq hpq x hx1 y hx2 exy
  subst exy
  obtain ⟨p1,p2⟩:=hm p hp
  obtain ⟨q1,q2⟩:=hm q hq
  have c1:=(mem_comp W p1).mp hx1
  have c2:=(mem_comp W q1).mp hx2
  exact hpq (headed_eq W p1 q1 p2 q2 (c1.trans (c2.symm W)))
theorem parts_split {ws:List Nat} (W:Web ws) (h:Split (bit ws) (List.range ws.length)):2 <= (partsM ws).length:=by
 obtain ⟨f,⟨x,hx,fx⟩,⟨y,hy,fy⟩,hf⟩:=h
 have hx:=List.mem_range.mp hx
 have hy:=List.mem_range.mp hy
 have stay:∀ {a b:Nat},a < ws.length->Conn ws a b->f a=f b:=by
  intro a b ha c
  induction c with
  | refl=>rfl
  | @step c d hc e ih =>
   rw [ih]
   have hcl:=hc.lt W ha
   have hdl:=W.inr e
   cases h1:f c <;> cases h2:f d
   ·rfl
   ·have:=hf d (List.mem_range.mpr hdl) c (List.mem_range.mpr hcl) h2 h1
    rw [W.sym,e] at this; cases this
   ·have:=hf c (List.mem_range.mpr hcl) d (List.mem_range.mpr hdl) h1 h2
    rw [e] at this; cases this
   ·rfl
 obtain ⟨p,hp,hhp,cp⟩:=has_head W hx
 obtain ⟨q,hq,hhq,cq⟩:=has_head W hy
 have npq:p ≠ q:=fun z=>by
  have a:=stay hp cp
  have b:=stay hq cq
  rw [z,b,fy] at a
  rw [<- a] at fx; cases fx
 have hl:((List.range ws.length).filter fun p=>decide (headed ws p)).length=(partsM ws).length:=by unfold partsM; rw [List.length_map]
 rw [<- hl]
 have mp:p ∈ (List.range ws.length).filter fun p=>decide (headed ws p):=List.mem_filter.mpr ⟨List.mem_range.mpr hp,decide_eq_true hhp⟩
 have mq:q ∈ (List.range ws.length).filter fun p=>decide (headed ws p):=List.mem_filter.mpr ⟨List.mem_range.mpr hq,decide_eq_true hhq⟩
 revert mp mq
 generalize (List.range ws.length).filter (fun p=>decide (headed ws p))=l
 intro mp mq
 match l,mp,mq with
 | [a],mp,mq=>exact absurd ((List.mem_singleton.mp mp).trans (List.mem_singleton.mp mq).symm) npq
 | _::_::_,_,_=>simp
theorem flatten_ge {α:Type}:∀ {L:List (List α)},(∀ g ∈ L,g ≠ [])->L.length <= L.flatten.length
 | [],_=>Nat.le_refl _
 | g::L,h=>by
  have ih:=flatten_ge fun x hx=>h x (.tail _ hx)
  rw [List.flatten_cons,List.length_append,List.length_cons]
  have:=List.length_pos_iff.mpr (h g (.head _))
  omega
theorem flatten_part {α:Type}:∀ {L:List (List α)},(∀ g ∈ L,g ≠ [])->∀ g ∈ L,g.length + L.length <= L.flatten.length + 1
 | g'::L,h,g,hg=>by
  rw [List.flatten_cons,List.length_append,List.length_cons]
  rcases List.mem_cons.mp hg with e | z
  ·subst e
   have:=flatten_ge fun x hx=>h x (.tail _ hx)
   omega
  ·have:=flatten_part (fun x hx=>h x (.tail _ hx)) g z
   have:=List.length_pos_iff.mpr (h g' (.head _))
   omega
theorem parts_small {ws g:List Nat} (W:Web ws) (h2:2 <= (partsM ws).length) (h:g ∈ partsM ws):g.length < ws.length:=by
 have h1:=flatten_part (fun g hg=>parts_ne0 W hg) g h
 have h3:=(parts_perm W).length_eq
 rw [List.length_range] at h3
 omega
theorem parts_len {ws:List Nat} (W:Web ws):(partsM ws).length <= ws.length:=by
 have h1:=flatten_ge fun g hg=>parts_ne0 W (g:=g) hg
 have h3:=(parts_perm W).length_eq
 rw [List.length_range] at h3
 omega
theorem co_turned {ws:List Nat} (W:Web ws) {x y:Nat} (hx:x < ws.length) (hy:y < ws.length):co (bit ws) x y=bit (turnedM ws) x y:=by
 rw [bit_turned W]
 unfold co
 by_cases h:x=y
 ·simp [h,W.irr]
 ·have h':¬ y=x:=fun z=>h z.symm
  simp [h,h',hx,hy]
theorem plain_parts {ws:List Nat} (W:Web ws) (h2:2 <= ws.length) (N:NoRow (bit ws) (List.range ws.length)):2 <= (partsM ws).length\/2 <= (partsM (turnedM ws)).length:=by
 rcases plain_split W.adj (List.range ws.length) List.nodup_range (by simpa using h2) N with h | h
 ·exact .inl (parts_split W h)
 ·right
  refine parts_split W.turned ?_
  obtain ⟨f,hx,hy,hf⟩:=h
  rw [turned_length]
  refine ⟨f,hx,hy,fun a ha b hb fa fb=>?_⟩
  rw [<- co_turned W (List.mem_range.mp ha) (List.mem_range.mp hb)]
  exact hf a ha b hb fa fb
end Bw
namespace Bw
inductive Tr where
 | pt (n:Nat)
 | doing (ac:Bool) (ts:List Tr)
mutual
def Tr.pts:Tr->List Nat
 | .pt n=>[n]
 | .doing _ ts=>ptsL ts
def ptsL:List Tr->List Nat
 | []=>[]
 | t::ts=>t.pts ++ ptsL ts
end
theorem ptsL_app:∀ (a b:List Tr),ptsL (a ++ b)=ptsL a ++ ptsL b
 | [],_=>rfl
 | t::a,b=>by
  show t.pts ++ ptsL (a ++ b)=(t.pts ++ ptsL a) ++ ptsL b
  rw [ptsL_app a b,List.append_assoc]
theorem ptsL_take {ts:List Tr} {i:Nat} {tr:Tr} (h:ts[i]? = some tr):ptsL (ts.take (i + 1))=ptsL (ts.take i) ++ tr.pts:=by
 rw [List.take_add_one,h,ptsL_app]
 show ptsL (ts.take i) ++ (tr.pts ++ [])=_
 rw [List.append_nil]
theorem ptsL_le (ts:List Tr) (i:Nat):(ptsL (ts.take i)).length <= (ptsL ts).length:=by
 have h:=ptsL_app (ts.take i) (ts.drop i)
 rw [List.take_append_drop] at h
 rw [h,List.length_append]
 omega
theorem ptsL_mem {ts:List Tr} {i:Nat} {tr:Tr} (h:ts[i]? = some tr):tr.pts.length <= (ptsL ts).length:=by
 have h1:=ptsL_take h
 have h2:=ptsL_le ts (i + 1)
 rw [h1,List.length_append] at h2
 omega
theorem ptsL_map {α:Type} (t:α->Tr):∀ l:List α,ptsL (l.map t)=(l.map fun g=>(t g).pts).flatten
 | []=>rfl
 | g::l=>by
  show (t g).pts ++ ptsL (l.map t)=_
  rw [ptsL_map t l]
  rfl
def atM (pts g:List Nat):List Nat:=g.map fun i=>pts.getD i 0
noncomputable def groupsM (ws pts:List Nat):Bool × List (List Nat):=if 1 < (partsM (amongM ws pts)).length then (false,partsM (amongM ws pts)) else (true,partsM (turnedM (amongM ws pts)))
noncomputable def treeM:Nat->List Nat->List Nat->Tr
 | 0,_,pts=>.pt (pts.getD 0 0)
 | f + 1,ws,pts=>if pts.length=1 then .pt (pts.getD 0 0) else .doing (groupsM ws pts).1 ((groupsM ws pts).2.map fun g=>treeM f ws (atM pts g))
structure GoodP (ws pts:List Nat):Prop where
 ne:pts ≠ []
 srt:pts.Pairwise (· < ·)
 lt:∀ p ∈ pts,p < ws.length
 no:NoRow (bit ws) pts
theorem GoodP.nd {ws pts:List Nat} (G:GoodP ws pts):pts.Nodup:=G.srt.imp fun h=>Nat.ne_of_lt h
theorem GoodP.len {ws pts:List Nat} (W:Web ws) (G:GoodP ws pts):pts.length <= 10:=Nat.le_trans (nodup_length G.nd G.lt) W.le
theorem GoodP.web {ws pts:List Nat} (W:Web ws) (G:GoodP ws pts):Web (amongM ws pts):=web_among W G.ne G.nd G.lt
theorem goodP_all {ws:List Nat} (W:Web ws) (N:NoRow (bit ws) (List.range ws.length)):GoodP ws (List.range ws.length) where
 ne:=fun z=>by
  have:=W.pos
  have e:=congrArg List.length z
  rw [List.length_range,List.length_nil] at e
  omega
 srt:=List.pairwise_lt_range
 lt:=fun p hp=>List.mem_range.mp hp
 no:=N
structure Groups (pts:List Nat) (gs:List (List Nat)):Prop where
 two:2 <= gs.length
 many:gs.length <= pts.length
 perm:gs.flatten.Perm (List.range pts.length)
 ne:∀ g ∈ gs,g ≠ []
 srt:∀ g ∈ gs,g.Pairwise (· < ·)
 lt:∀ g ∈ gs,∀ i ∈ g,i < pts.length
 small:∀ g ∈ gs,g.length < pts.length
theorem groups_parts {ws pts:List Nat} (W:Web ws) (hl:ws.length=pts.length) (h2:2 <= (partsM ws).length):Groups pts (partsM ws) where
 two:=h2
 many:=by rw [<- hl]; exact parts_len W
 perm:=by rw [<- hl]; exact parts_perm W
 ne:=fun g hg=>parts_ne0 W hg
 srt:=fun g hg=>parts_sorted hg
 lt:=fun g hg i hi=>by rw [<- hl]; exact parts_lt hg i hi
 small:=fun g hg=>by rw [<- hl]; exact parts_small W h2 hg
theorem GoodP.groups {ws pts:List Nat} (W:Web ws) (G:GoodP ws pts) (h1:pts.length ≠ 1):Groups pts (groupsM ws pts).2:=by
 have WA:=G.web W
 have hl:=among_length ws pts
 have h0:=List.length_pos_iff.mpr G.ne
 unfold groupsM
 split
 ·rename_i h
  exact groups_parts WA hl h
 ·rename_i h
  have N:=noRow_among G.nd G.no
  rw [<- hl] at N
  rcases plain_parts WA (by omega) N with z | z
  ·omega
  ·exact groups_parts WA.turned (by rw [turned_length]; exact hl) z
theorem getD_lt {l:List Nat} (s:l.Pairwise (· < ·)) {i j:Nat} (hij:i < j) (hj:j < l.length):l.getD i 0 < l.getD j 0:=by
 rw [List.getD_eq_getElem?_getD,List.getD_eq_getElem?_getD,List.getElem?_eq_getElem hj,List.getElem?_eq_getElem (Nat.lt_trans hij hj)]
 exact List.pairwise_iff_getElem.mp s i j _ hj hij
theorem GoodP.sub {ws pts g:List Nat} (G:GoodP ws pts) (hn:g ≠ []) (hs:g.Pairwise (· < ·)) (hl:∀ i ∈ g,i < pts.length):GoodP ws (atM pts g) where
 ne:=fun z=>hn (List.map_eq_nil_iff.mp z)
 srt:=by
  unfold atM
  rw [List.pairwise_map]
  exact List.Pairwise.imp_of_mem (fun ha hb h=>getD_lt G.srt h (hl _ hb)) hs
 lt:=fun p hp=>by
  obtain ⟨i,hi,rfl⟩:=List.mem_map.mp hp
  exact G.lt _ (getD_mem (hl i hi))
 no:=G.no.mono fun p hp=>by
  obtain ⟨i,hi,rfl⟩:=List.mem_map.mp hp
  exact getD_mem (hl i hi)
theorem atM_range (pts:List Nat):atM pts (List.range pts.length)=pts:=by
 unfold atM
 apply List.ext_getElem?
 intro i
 rw [List.getElem?_map]
 by_cases hi:i < pts.length
 ·rw [List.getElem?_range hi,Option.map_some,List.getD_eq_getElem?_getD,List.getElem?_eq_getElem hi]
  rfl
 ·rw [List.getElem?_eq_none (by simpa using hi),List.getElem?_eq_none (by omega)]
  rfl
theorem flatten_perm {α β:Type} {f g:α->List β}:∀ {l:List α},(∀ x ∈ l,(f x).Perm (g x))->(l.map f).flatten.Perm (l.map g).flatten
 | [],_=>.nil
 | x::l,h=>by
  rw [List.map_cons,List.map_cons,List.flatten_cons,List.flatten_cons]
  exact (h x (.head _)).append (flatten_perm fun y hy=>h y (.tail _ hy))
theorem flatten_atM (pts:List Nat) (gs:List (List Nat)):(gs.map (atM pts)).flatten=atM pts gs.flatten:=by
 unfold atM
 rw [List.map_flatten]
theorem tree_perm {ws:List Nat} (W:Web ws):∀ (f:Nat) {pts:List Nat},GoodP ws pts->pts.length <= f->(treeM f ws pts).pts.Perm pts
 | 0,pts,G,h=>absurd (List.length_pos_iff.mpr G.ne) (by omega)
 | f + 1,pts,G,h=>by
  unfold treeM
  split
  ·rename_i h1
   match pts,h1 with
   | [p],_=>exact .refl _
  ·rename_i h1
   have gr:=G.groups W h1
   show (ptsL _).Perm _
   rw [ptsL_map]
   refine (flatten_perm (g:=atM pts) fun g hg=>tree_perm W f (G.sub (gr.ne g hg) (gr.srt g hg) (gr.lt g hg)) ?_).trans ?_
   ·have:=gr.small g hg
    unfold atM
    rw [List.length_map]
    omega
   ·rw [flatten_atM]
    have:=gr.perm.map fun i=>pts.getD i 0
    have e:=atM_range pts
    unfold atM at e ⊢
    rw [e] at this
    exact this
theorem groups_pts {ws:List Nat} (W:Web ws) {f:Nat} {pts:List Nat} (G:GoodP ws pts) (h:pts.length <= f + 1) (h1:pts.length ≠ 1):(ptsL ((groupsM ws pts).2.map fun g=>treeM f ws (atM pts g))).Perm pts:=by
 have:=tree_perm W (f + 1) G h
 unfold treeM at this
 rw [if_neg h1] at this
 exact this
end Bw
namespace Bw
theorem add_or:∀ (a b:Nat),a &&& b=0->a + b=a ||| b:=by
 intro a
 induction a using Nat.strongRecOn with
 | ind a ih =>
  intro b h
  by_cases h0:a=0
  ·subst h0; simp
  ·have d1:(a ||| b) / 2=a / 2 ||| b / 2:=Nat.or_div_two
   have d3:(a &&& b) / 2=a / 2 &&& b / 2:=Nat.and_div_two
   have t1:((a ||| b) % 2=1) ↔ (a % 2=1\/b % 2=1):=by
    have t:=Nat.testBit_or a b 0
    simp only [Nat.testBit_zero] at t
    rw [<- decide_eq_true_iff (p:=(a ||| b) % 2=1),t,Bool.or_eq_true,decide_eq_true_iff,decide_eq_true_iff]
   have t2:((a &&& b) % 2=1) ↔ (a % 2=1/\b % 2=1):=by
    have t:=Nat.testBit_and a b 0
    simp only [Nat.testBit_zero] at t
    rw [<- decide_eq_true_iff (p:=(a &&& b) % 2=1),t,Bool.and_eq_true,decide_eq_true_iff,decide_eq_true_iff]
   rw [h] at d3 t2
   have q:=ih (a / 2) (by omega) (b / 2) d3.symm
   rw [<- d1] at q
   revert t1 q
   generalize (a ||| b)=x
   intro t1 q
   omega
theorem ptsL_sub {ts:List Tr} {t:Tr} (h:t ∈ ts):∀ p ∈ t.pts,p ∈ ptsL ts:=by
 induction ts with
 | nil=>cases h
 | cons a ts ih =>
  intro p hp
  show p ∈ a.pts ++ ptsL ts
  rw [List.mem_append]
  rcases List.mem_cons.mp h with e | z
  ·subst e; exact .inl hp
  ·exact .inr (ih z p hp)
theorem ptsL_nd {ts:List Tr} (nd:(ptsL ts).Nodup):∀ t ∈ ts,t.pts.Nodup:=by
 induction ts with
 | nil=>exact fun t h=>by cases h
 | cons a ts ih =>
  have e:ptsL (a::ts)=a.pts ++ ptsL ts:=rfl
  rw [e,List.nodup_append] at nd
  intro t h
  rcases List.mem_cons.mp h with e | z
  ·subst e; exact nd.1
  ·exact ih nd.2.1 t z
theorem any_congr_mem {α:Type} {p q:α->Bool}:∀ {l:List α},(∀ x ∈ l,p x=q x)->l.any p=l.any q
 | [],_=>rfl
 | a::l,h=>by rw [List.any_cons,List.any_cons,h a (.head _),any_congr_mem fun x hx=>h x (.tail _ hx)]
theorem mem_ptsL:∀ {ts:List Tr} {p:Nat},p ∈ ptsL ts ↔ ∃ t ∈ ts,p ∈ t.pts
 | [],p=>by simp [ptsL]
 | t::ts,p=>by
  show p ∈ t.pts ++ ptsL ts ↔ _
  rw [List.mem_append,mem_ptsL (ts:=ts)]
  constructor
  ·rintro (h | ⟨u,h1,h2⟩)
   ·exact ⟨t,.head _,h⟩
   ·exact ⟨u,.tail _ h1,h2⟩
  ·rintro ⟨u,h1,h2⟩
   rcases List.mem_cons.mp h1 with e | z
   ·subst e; exact .inl h2
   ·exact .inr ⟨u,z,h2⟩
theorem bit_zero (n i j:Nat):bit (List.replicate n 0) i j=false:=by
 unfold bit
 rw [getD_replicate,Nat.zero_testBit]
end Bw
namespace Bw
def joinC (c:Nat):List (List Nat)->List Nat
 | []=>[]
 | [x]=>x
 | x::y::r=>x ++ c::joinC c (y::r)
def sgnC (ac:Bool):Nat:=if ac then 42 else 43
def brkC (x:List Nat):List Nat:=40::(x ++ [41])
theorem joinC_len (c:Nat):∀ l:List (List Nat),(joinC c l).length <= (l.map (·.length)).sum + l.length - 1
 | []=>by simp [joinC]
 | [x]=>by simp [joinC]
 | x::y::r=>by
  have ih:=joinC_len c (y::r)
  have e:(joinC c (x::y::r)).length=x.length + ((joinC c (y::r)).length + 1):=by
   show (x ++ c::joinC c (y::r)).length=_
   rw [List.length_append,List.length_cons]
  rw [e,List.map_cons,List.sum_cons,List.length_cons]
  simp only [List.length_cons] at ih ⊢
  omega
def leC (a b:List Nat):Bool:=!decide (b < a)
theorem leC_trans (a b c:List Nat) (h1:leC a b=true) (h2:leC b c=true):leC a c=true:=by
 unfold leC at *
 simp only [Bool.not_eq_true',decide_eq_false_iff_not,List.not_lt] at *
 exact List.le_trans h1 h2
theorem leC_total (a b:List Nat):(leC a b || leC b a)=true:=by
 unfold leC
 by_cases h:b < a
 ·have:=List.lt_asymm h
  simp [this]
 ·simp [h]
theorem leC_anti {a b:List Nat} (h1:leC a b=true) (h2:leC b a=true):a=b:=by
 unfold leC at *
 simp only [Bool.not_eq_true',decide_eq_false_iff_not,List.not_lt] at *
 exact List.le_antisymm h1 h2
def sortC (l:List (List Nat)):List (List Nat):=l.mergeSort leC
theorem sortC_perm (l:List (List Nat)):(sortC l).Perm l:=List.mergeSort_perm l leC
theorem sortC_pw (l:List (List Nat)):(sortC l).Pairwise fun a b=>leC a b=true:=List.pairwise_mergeSort leC_trans leC_total l
theorem sortC_uniq {l z:List (List Nat)} (p:z.Perm l) (s:z.Pairwise fun a b=>leC a b=true):z=sortC l :=
 List.Perm.eq_of_pairwise (le:=fun a b=>leC a b=true) (fun _ _ _ _ h1 h2=>leC_anti h1 h2) s (sortC_pw l) (p.trans (sortC_perm l).symm)
theorem sortC_of_perm {a b:List (List Nat)} (p:a.Perm b):sortC a=sortC b:=sortC_uniq ((sortC_perm a).trans p) (sortC_pw a)
theorem sortC_sum (l:List (List Nat)):((sortC l).map (·.length)).sum=(l.map (·.length)).sum:=((sortC_perm l).map _).sum_nat
theorem sortC_len (l:List (List Nat)):(sortC l).length=l.length:=(sortC_perm l).length_eq
mutual
def Tr.shape:Tr->List Nat
 | .pt _=>[111]
 | .doing ac ts=>brkC (joinC (sgnC ac) (sortC (shapeL ts)))
def shapeL:List Tr->List (List Nat)
 | []=>[]
 | t::ts=>t.shape::shapeL ts
end
theorem shapeL_map:∀ ts:List Tr,shapeL ts=ts.map Tr.shape
 | []=>rfl
 | t::ts=>by
  show t.shape::shapeL ts=_
  rw [shapeL_map ts]
  rfl
mutual
def Tr.two:Tr->Prop
 | .pt n=>n < 10
 | .doing _ ts=>2 <= ts.length/\twoL ts
def twoL:List Tr->Prop
 | []=>True
 | t::ts=>t.two/\twoL ts
end
mutual
theorem shape_len:∀ t:Tr,t.two->t.shape.length + 3 <= 4 * t.pts.length
 | .pt n,_=>Nat.le_refl _
 | .doing ac ts,h=>by
  have h':2 <= ts.length/\twoL ts:=h
  have ih:=shapeL_len ts h'.2
  show (brkC (joinC (sgnC ac) (sortC (shapeL ts)))).length + 3 <= 4 * (ptsL ts).length
  have hj:=joinC_len (sgnC ac) (sortC (shapeL ts))
  have hl:(shapeL ts).length=ts.length:=by rw [shapeL_map,List.length_map]
  rw [sortC_sum,sortC_len] at hj
  unfold brkC
  rw [List.length_cons,List.length_append,List.length_singleton]
  omega
theorem shapeL_len:∀ ts:List Tr,twoL ts->((shapeL ts).map (·.length)).sum + 3 * ts.length <= 4 * (ptsL ts).length
 | [],_=>Nat.le_refl _
 | t::ts,h=>by
  have h':t.two/\twoL ts:=h
  have a:=shape_len t h'.1
  have b:=shapeL_len ts h'.2
  show ((t.shape::shapeL ts).map (·.length)).sum + 3 * (t::ts).length <= 4 * (t.pts ++ ptsL ts).length
  rw [List.map_cons,List.sum_cons,List.length_cons,List.length_append]
  omega
end
theorem sgn_cases (ac:Bool):sgnC ac=43\/sgnC ac=42:=by cases ac <;> simp [sgnC]
end Bw
namespace Bw
mutual
def Tr.tells (adj:Nat->Nat->Bool):Tr->Prop
 | .pt _=>True
 | .doing ac ts=>tellsL adj ac ts
def tellsL (adj:Nat->Nat->Bool) (ac:Bool):List Tr->Prop
 | []=>True
 | t::ts=>t.tells adj/\(∀ p ∈ t.pts,∀ q ∈ ptsL ts,adj p q=ac)/\tellsL adj ac ts
end
theorem parts_pair {ws:List Nat} (W:Web ws):(partsM ws).Pairwise fun g g'=>∀ i ∈ g,∀ j ∈ g',i ≠ j/\bit ws i j=false:=by
 unfold partsM
 rw [List.pairwise_map]
 refine List.Pairwise.imp_of_mem (fun {p q} hp hq hne i hi j hj=>?_) (heads_nodup ws)
 obtain ⟨hp1,hp2⟩:=List.mem_filter.mp hp
 obtain ⟨hq1,hq2⟩:=List.mem_filter.mp hq
 have lp:=List.mem_range.mp hp1
 have lq:=List.mem_range.mp hq1
 have ci:=(mem_comp W lp).mp hi
 have cj:=(mem_comp W lq).mp hj
 have no:¬ Conn ws i j:=fun c=>hne (headed_eq W lp lq (of_decide_eq_true hp2) (of_decide_eq_true hq2) ((ci.trans c).trans (cj.symm W)))
 refine ⟨fun e=>no (e ▸ .refl),?_⟩
 cases hb:bit ws i j with
 | false=>rfl
 | true=>exact absurd (Conn.step .refl hb) no
theorem groups_pair {ws pts:List Nat} (W:Web ws) (G:GoodP ws pts):(groupsM ws pts).2.Pairwise fun g g'=>∀ p ∈ atM pts g,∀ q ∈ atM pts g',bit ws p q=(groupsM ws pts).1:=by
 have WA:=G.web W
 have hl:=among_length ws pts
 unfold groupsM
 split
 ·refine List.Pairwise.imp_of_mem (fun {g g'} hg hg' h p hp q hq=>?_) (parts_pair WA)
  obtain ⟨i,hi,rfl⟩:=List.mem_map.mp hp
  obtain ⟨j,hj,rfl⟩:=List.mem_map.mp hq
  have li:=parts_lt hg i hi
  have lj:=parts_lt hg' j hj
  have:=(h i hi j hj).2
  rw [bit_among,decide_eq_true (by omega),decide_eq_true (by omega)] at this
  simpa using this
 ·refine List.Pairwise.imp_of_mem (fun {g g'} hg hg' h p hp q hq=>?_) (parts_pair WA.turned)
  obtain ⟨i,hi,rfl⟩:=List.mem_map.mp hp
  obtain ⟨j,hj,rfl⟩:=List.mem_map.mp hq
  have li:=parts_lt hg i hi
  have lj:=parts_lt hg' j hj
  rw [turned_length,hl] at li lj
  obtain ⟨hne,hb⟩:=h i hi j hj
  have hne':j ≠ i:=fun e=>hne e.symm
  rw [bit_turned WA,bit_among,hl,decide_eq_true li,decide_eq_true lj,decide_eq_true hne'] at hb
  simpa using hb
theorem tellsL_map {adj:Nat->Nat->Bool} {ac:Bool} {f:List Nat->Tr} {h:List Nat->List Nat}:∀ {gs:List (List Nat)},(∀ g ∈ gs,(f g).tells adj)->(∀ g ∈ gs,∀ p,p ∈ (f g).pts->p ∈ h g) ->
  gs.Pairwise (fun g g'=>∀ p ∈ h g,∀ q ∈ h g',adj p q=ac)->tellsL adj ac (gs.map f)
 | [],_,_,_=>trivial
 | g::gs,h1,h2,h3=>by
  rw [List.pairwise_cons] at h3
  refine ⟨h1 g (.head _),fun p hp q hq=>?_,tellsL_map (fun x hx=>h1 x (.tail _ hx)) (fun x hx=>h2 x (.tail _ hx)) h3.2⟩
  obtain ⟨t,ht,hq'⟩:=mem_ptsL.mp hq
  obtain ⟨g',hg',rfl⟩:=List.mem_map.mp ht
  exact h3.1 g' hg' p (h2 g (.head _) p hp) q (h2 g' (.tail _ hg') q hq')
theorem tree_tells {ws:List Nat} (W:Web ws):∀ (f:Nat) {pts:List Nat},GoodP ws pts->pts.length <= f->(treeM f ws pts).tells (bit ws)
 | 0,pts,G,h=>absurd (List.length_pos_iff.mpr G.ne) (by omega)
 | f + 1,pts,G,h=>by
  unfold treeM
  split
  ·trivial
  ·rename_i h1
   have gr:=G.groups W h1
   have sub:∀ g ∈ (groupsM ws pts).2,GoodP ws (atM pts g)/\(atM pts g).length <= f:=fun g hg=>⟨G.sub (gr.ne g hg) (gr.srt g hg) (gr.lt g hg),by
    have:=gr.small g hg
    unfold atM
    rw [List.length_map]
    omega⟩
   show tellsL _ _ _
   exact tellsL_map (h:=atM pts) (fun g hg=>tree_tells W f (sub g hg).1 (sub g hg).2) (fun g hg p hp=>(tree_perm W f (sub g hg).1 (sub g hg).2).mem_iff.mp hp) (groups_pair W G)
theorem lt_bit {m k j:Nat} (h:m < 2 ^ k) (hj:m.testBit j=true):j < k:=by
 refine Nat.lt_of_not_le fun z=>?_
 rw [Nat.testBit_lt_two_pow (Nat.lt_of_lt_of_le h (Nat.pow_le_pow_right (by decide) z))] at hj
 cases hj
def fourB (ws r:List Nat):Bool:=decide (r.length=4) && (decide r.Nodup && (List.range 4).all fun k=>(List.range k).all fun i=>bit ws (r.getD i 0) (r.getD k 0) == decide (k - i=1))
theorem four_of {ws:List Nat} (W:Web ws) {a b c d:Nat} (h:FourM ws a b c d):fourB ws [a,b,c,d]=true:=by
 obtain ⟨_,_,_,_,ac,ad,bd,r1,r2,r3,r4,r5,r6⟩:=h
 have ne:∀ x y,bit ws x y=true->x ≠ y:=fun x y h e=>by
  rw [e,W.irr] at h
  cases h
 have ab:=ne a b r1
 have bc:=ne b c r2
 have cd:=ne c d r3
 unfold fourB
 have nd:[a,b,c,d].Nodup:=by simp [ab,ac,ad,bc,bd,cd]
 rw [decide_eq_true nd]
 simp [List.range_succ,r1,r2,r3,r4,r5,r6]
def barN (ws:List Nat) (a b c:Nat):Bool:=bit ws a b && ((bit ws b c && !bit ws a c) && (List.range ws.length).any fun d=>bit ws c d && !bit ws b d && !bit ws a d)
def barB (ws:List Nat):Bool:=(List.range ws.length).any fun a=>(List.range ws.length).any fun b=>(List.range ws.length).any fun c=>barN ws a b c
theorem bar_iff {ws:List Nat} (W:Web ws):barB ws=true ↔ stepsM ws 4 ≠ []:=by
 unfold barB
 constructor
 ·intro h
  simp only [List.any_eq_true] at h
  obtain ⟨a,ha,b,hb,c,hc,h⟩:=h
  unfold barN at h
  simp only [Bool.and_eq_true,List.any_eq_true,Bool.not_eq_true'] at h
  obtain ⟨h1,⟨h2,h3⟩,d,hd,⟨h4,h5⟩,h6⟩:=h
  have ac:a ≠ c:=fun e=>by
   subst e
   rw [h4] at h6
   cases h6
  have ad:a ≠ d:=fun e=>by
   subst e
   rw [W.sym,h3] at h4
   cases h4
  have bd:b ≠ d:=fun e=>by
   subst e
   rw [h1] at h6
   cases h6
  have hm:[a,b,c,d] ∈ stepsM ws 4:=(mem_steps4 W).mpr ⟨a,b,c,d,rfl,List.mem_range.mp ha,List.mem_range.mp hb,List.mem_range.mp hc,List.mem_range.mp hd,ac,ad,bd,h1,h2,h4,h3,h6,h5⟩
  intro z
  rw [z] at hm
  cases hm
 ·intro h
  obtain ⟨r,hr⟩:=List.exists_mem_of_ne_nil _ h
  obtain ⟨a,b,c,d,_,ha,hb,hc,hd,_,_,_,r1,r2,r3,r4,r5,r6⟩:=(mem_steps4 W).mp hr
  simp only [List.any_eq_true]
  refine ⟨a,List.mem_range.mpr ha,b,List.mem_range.mpr hb,c,List.mem_range.mpr hc,?_⟩
  unfold barN
  simp only [Bool.and_eq_true,List.any_eq_true,Bool.not_eq_true']
  exact ⟨r1,⟨r2,r4⟩,d,List.mem_range.mpr hd,⟨r3,r6⟩,r5⟩
theorem bar_row {ws:List Nat} (W:Web ws) (h:barB ws=true):∃ r rest,stepsM ws 4=r::rest:=by
 have:=(bar_iff W).mp h
 cases q:stepsM ws 4 with
 | nil=>exact absurd q this
 | cons r rest=>exact ⟨r,rest,rfl⟩
theorem bar_no {ws:List Nat} (W:Web ws) (h:barB ws=false):NoRow (bit ws) (List.range ws.length):=by
 refine (noRow_iff W).mp ?_
 cases q:stepsM ws 4 with
 | nil=>rfl
 | cons r rest =>
  have:=(bar_iff W).mpr (by rw [q]; exact fun z=>nomatch z)
  rw [h] at this
  cases this
theorem steps_four {ws:List Nat} (W:Web ws) {r:List Nat} {rest:List (List Nat)} (h:stepsM ws 4=r::rest):fourB ws r=true/\(∀ p ∈ r,p < ws.length)/\r.length=4:=by
 have hm:r ∈ stepsM ws 4:=by rw [h]; exact .head _
 obtain ⟨a,b,c,d,rfl,f⟩:=(mem_steps4 W).mp hm
 refine ⟨four_of W f,fun p hp=>?_,rfl⟩
 obtain ⟨ha,hb,hc,hd,_⟩:=f
 simp only [List.mem_cons,List.not_mem_nil,or_false] at hp
 rcases hp with e | e | e | e <;> subst e <;> assumption
def andNot (x y:Nat):Nat:=x &&& (x ^^^ y)
theorem andNot_bit (x y j:Nat):(andNot x y).testBit j=(x.testBit j && !y.testBit j):=by
 unfold andNot
 rw [Nat.testBit_and,Nat.testBit_xor]
 cases x.testBit j <;> cases y.testBit j <;> rfl
theorem pos_any {x n:Nat} (h:x < 2 ^ n):decide (0 < x)=(List.range n).any fun d=>x.testBit d:=by
 rw [Bool.eq_iff_iff,decide_eq_true_iff,List.any_eq_true]
 constructor
 ·intro hx
  obtain ⟨i,hi⟩:=Nat.exists_testBit_of_ne_zero (Nat.ne_of_gt hx)
  exact ⟨i,List.mem_range.mpr (lt_bit h hi),hi⟩
 ·rintro ⟨i,_,hi⟩
  refine Nat.pos_of_ne_zero fun z=>?_
  rw [z,Nat.zero_testBit] at hi
  cases hi
end Bw
namespace Bw
theorem tellsL_apart {adj:Nat->Nat->Bool} (sy:∀ x y,adj x y=adj y x) {ac:Bool}:∀ {ts:List Tr},tellsL adj ac ts->∀ {t:Tr},t ∈ ts->∀ {p q:Nat},p ∈ t.pts->q ∈ ptsL ts->q ∉ t.pts->adj p q=ac
 | a::ts,h,t,ht,p,q,hp,hq,hn=>by
  obtain ⟨h1,h2,h3⟩:=(show a.tells adj/\(∀ p ∈ a.pts,∀ q ∈ ptsL ts,adj p q=ac)/\tellsL adj ac ts from h)
  have hq':q ∈ a.pts ++ ptsL ts:=hq
  rcases List.mem_cons.mp ht with e | z
  ·subst e
   rcases List.mem_append.mp hq' with w | w
   ·exact absurd w hn
   ·exact h2 p hp q w
  ·rcases List.mem_append.mp hq' with w | w
   ·rw [sy]
    exact h2 q w p (ptsL_sub z p hp)
   ·exact tellsL_apart sy h3 z hp w hn
theorem ptsL_flat2:∀ ts:List Tr,ptsL ts=(ts.map Tr.pts).flatten
 | []=>rfl
 | t::ts=>by
  show t.pts ++ ptsL ts=_
  rw [ptsL_flat2 ts,List.map_cons,List.flatten_cons]
theorem ptsL_perm2 {ts us:List Tr} (h:ts.Perm us):(ptsL ts).Perm (ptsL us):=by
 rw [ptsL_flat2,ptsL_flat2]
 exact (h.map _).flatten
def Tr.isD (ac:Bool):Tr->Bool
 | .pt _=>false
 | .doing a _=>decide (a=ac)
mutual
def Tr.inO:Tr->Nat->Prop
 | .pt n,p=>n=p
 | .doing ac ts,p=>2 <= ts.length/\inOL ac ts [] p
def inOL (ac:Bool):List Tr->List Nat->Nat->Prop
 | [],_,_=>True
 | t::ts,bs,p=>∃ q,t.inO q/\t.isD ac=false/\(∀ b ∈ bs,b < q)/\(bs=[]->q=p)/\inOL ac ts (bs ++ [q]) p
end
theorem no_split_comp {ws:List Nat} (W:Web ws) {p:Nat} (hp:p < ws.length) (f:Nat->Bool) (h1:∃ x ∈ comp ws p,f x=true) (h2:∃ y ∈ comp ws p,f y=false) (h3:∀ x ∈ comp ws p,∀ y ∈ comp ws p,f x=true->f y=false->bit ws x y=false):False:=by
 obtain ⟨x,hx,fx⟩:=h1
 obtain ⟨y,hy,fy⟩:=h2
 have cx:=(mem_comp W hp).mp hx
 have cy:=(mem_comp W hp).mp hy
 have cxy:Conn ws x y:=(cx.symm W).trans cy
 have key:∀ z,Conn ws x z->z ∈ comp ws p/\f z=true:=by
  intro z hz
  induction hz with
  | refl=>exact ⟨hx,fx⟩
  | step c hb ih =>
   rename_i u v
   have hv:v ∈ comp ws p:=(mem_comp W hp).mpr (cx.trans (Conn.step c hb))
   refine ⟨hv,?_⟩
   cases q:f v with
   | true=>rfl
   | false =>
    rw [h3 u ih.1 v hv ih.2 q] at hb
    cases hb
 have:=(key y cxy).2
 rw [fy] at this
 cases this
theorem split_parts {ws:List Nat} (W:Web ws) (h:2 <= (partsM ws).length):Split (bit ws) (List.range ws.length):=by
 match q:partsM ws with
 | []=>rw [q] at h; exact absurd h (by decide)
 | [g]=>rw [q] at h; exact absurd h (by simp)
 | g::g'::r =>
  have hg:g ∈ partsM ws:=by rw [q]; exact .head _
  have hg':g' ∈ partsM ws:=by rw [q]; exact .tail _ (.head _)
  have pp:=parts_pair W
  rw [q,List.pairwise_cons] at pp
  obtain ⟨x,hx⟩:=List.exists_mem_of_ne_nil _ (parts_ne0 W hg)
  obtain ⟨y,hy⟩:=List.exists_mem_of_ne_nil _ (parts_ne0 W hg')
  obtain ⟨p,hp,_,rfl⟩:=mem_parts.mp hg
  refine ⟨fun z=>decide (z ∈ comp ws p),⟨x,List.mem_range.mpr (parts_lt hg x hx),decide_eq_true hx⟩,⟨y,List.mem_range.mpr (parts_lt hg' y hy),decide_eq_false fun z=>(pp.1 g' (.head _) y z y hy).1 rfl⟩,fun a ha b hb fa fb=>?_⟩
  have ha':=of_decide_eq_true fa
  have hb':=of_decide_eq_false fb
  cases e:bit ws a b with
  | false=>rfl
  | true=>exact absurd ((mem_comp W hp).mpr (((mem_comp W hp).mp ha').trans (Conn.step .refl e))) hb'
theorem bit_sub {ws pts g:List Nat} (hl:∀ i ∈ g,i < pts.length) {i j:Nat} (hi:i < g.length) (hj:j < g.length):bit (amongM ws (atM pts g)) i j=bit (amongM ws pts) (g.getD i 0) (g.getD j 0):=by
 have e:∀ k,k < g.length->(atM pts g).getD k 0=pts.getD (g.getD k 0) 0:=fun k hk=>by
  unfold atM
  have eg:g.getD k 0=g[k]:=by rw [List.getD_eq_getElem?_getD,List.getElem?_eq_getElem hk]; rfl
  rw [eg,List.getD_eq_getElem?_getD,List.getElem?_map,List.getElem?_eq_getElem hk]
  rfl
 have hlen:(atM pts g).length=g.length:=by unfold atM; rw [List.length_map]
 rw [bit_among,bit_among,hlen,decide_eq_true hi,decide_eq_true hj,decide_eq_true (hl _ (getD_mem hi)),decide_eq_true (hl _ (getD_mem hj)),e i hi,e j hj]
theorem groups_turn {ws pts g:List Nat} (W:Web ws) (G:GoodP ws pts) (h1:pts.length ≠ 1) (hg:g ∈ (groupsM ws pts).2) (h2:(atM pts g).length ≠ 1):(groupsM ws (atM pts g)).1 = !(groupsM ws pts).1:=by
 have WA:=G.web W
 have gr:=G.groups W h1
 have G2:=G.sub (gr.ne g hg) (gr.srt g hg) (gr.lt g hg)
 have WB:=G2.web W
 have hlen:(atM pts g).length=g.length:=by unfold atM; rw [List.length_map]
 have hal:=among_length ws (atM pts g)
 have hgd:∀ x ∈ g,∃ i,i < g.length/\g.getD i 0=x:=fun x hx=>by
  obtain ⟨i,hi,e⟩:=List.mem_iff_getElem.mp hx
  exact ⟨i,hi,by rw [List.getD_eq_getElem?_getD,List.getElem?_eq_getElem hi]; exact e⟩
 have gnd:g.Nodup:=(gr.srt g hg).imp fun h=>Nat.ne_of_lt h
 have idx:∀ i,i < g.length->∃ f':Nat->Nat,∀ k,k < g.length->f' (g.getD k 0)=k:=fun i _=>⟨fun x=>g.idxOf x,fun k hk=>by
  rw [List.getD_eq_getElem?_getD,List.getElem?_eq_getElem hk]
  exact gnd.idxOf_getElem k hk⟩
 have h0:0 < g.length:=List.length_pos_iff.mpr (gr.ne g hg)
 obtain ⟨ix,hix⟩:=idx 0 h0
 unfold groupsM at hg ⊢
 by_cases ha:1 < (partsM (amongM ws pts)).length
 ·rw [if_pos ha] at hg ⊢
  have hb:¬ 1 < (partsM (amongM ws (atM pts g))).length:=fun hb=>by
   obtain ⟨f,⟨x,hx,fx⟩,⟨y,hy,fy⟩,hf⟩:=split_parts WB hb
   rw [hal,hlen] at hx hy hf
   obtain ⟨p,hp,_,rfl⟩:=mem_parts.mp hg
   refine no_split_comp WA hp (fun z=>f (ix z)) ⟨(comp (amongM ws pts) p).getD x 0,getD_mem (List.mem_range.mp hx),by rw [hix x (List.mem_range.mp hx)]; exact fx⟩ ⟨(comp (amongM ws pts) p).getD y 0,getD_mem (List.mem_range.mp hy),by rw [hix y (List.mem_range.mp hy)]; exact fy⟩ fun a ha' b hb' fa fb=>?_
   obtain ⟨i,hi,rfl⟩:=hgd a ha'
   obtain ⟨j,hj,rfl⟩:=hgd b hb'
   rw [hix i hi] at fa
   rw [hix j hj] at fb
   rw [<- bit_sub (gr.lt _ (by unfold groupsM; rw [if_pos ha]; exact hg)) hi hj]
   exact hf i (List.mem_range.mpr hi) j (List.mem_range.mpr hj) fa fb
  rw [if_neg hb]
  rfl
 ·rw [if_neg ha] at hg ⊢
  have hgl:∀ i ∈ g,i < pts.length:=gr.lt g (by unfold groupsM; rw [if_neg ha]; exact hg)
  by_cases hb:1 < (partsM (amongM ws (atM pts g))).length
  ·rw [if_pos hb]
   rfl
  ·exfalso
   have NB:=noRow_among G2.nd G2.no
   rw [<- hal] at NB
   have h2':2 <= (amongM ws (atM pts g)).length:=by rw [hal]; rw [hlen] at h2 ⊢; omega
   have hs:2 <= (partsM (turnedM (amongM ws (atM pts g)))).length:=by
    rcases plain_parts WB h2' NB with z | z
    ·omega
    ·exact z
   obtain ⟨f,⟨x,hx,fx⟩,⟨y,hy,fy⟩,hf⟩:=split_parts WB.turned hs
   rw [turned_length,hal,hlen] at hx hy hf
   obtain ⟨p,hp,_,rfl⟩:=mem_parts.mp hg
   refine no_split_comp WA.turned hp (fun z=>f (ix z)) ⟨(comp (turnedM (amongM ws pts)) p).getD x 0,getD_mem (List.mem_range.mp hx),by rw [hix x (List.mem_range.mp hx)]; exact fx⟩ ⟨(comp (turnedM (amongM ws pts)) p).getD y 0,getD_mem (List.mem_range.mp hy),by rw [hix y (List.mem_range.mp hy)]; exact fy⟩ fun a ha' b hb' fa fb=>?_
   obtain ⟨i,hi,rfl⟩:=hgd a ha'
   obtain ⟨j,hj,rfl⟩:=hgd b hb'
   rw [hix i hi] at fa
   rw [hix j hj] at fb
   have hfij:=hf i (List.mem_range.mpr hi) j (List.mem_range.mpr hj) fa fb
   have hne:i ≠ j:=fun z=>by
    rw [z,fb] at fa
    cases fa
   have hgne:(comp (turnedM (amongM ws pts)) p).getD j 0 ≠ (comp (turnedM (amongM ws pts)) p).getD i 0:=fun z=>hne (getD_inj gnd hi hj z.symm)
   rw [bit_turned WB,bit_sub hgl hi hj,hal,hlen,decide_eq_true hi,decide_eq_true hj,decide_eq_true (Ne.symm hne)] at hfij
   rw [bit_turned WA,decide_eq_true hgne]
   simp only [Bool.true_and] at hfij ⊢
   rw [hfij]
   simp
theorem parts_heads {ws:List Nat} (W:Web ws):(partsM ws).Pairwise (fun g g'=>g.getD 0 0 < g'.getD 0 0)/\∀ g r,partsM ws=g::r->g.getD 0 0=0:=by
 have hd:∀ p,headed ws p->(comp ws p).getD 0 0=p:=fun p h=>by
  unfold headed at h
  cases q:comp ws p with
  | nil=>rw [q] at h; cases h
  | cons a r =>
   rw [q] at h
   exact Option.some.inj h
 refine ⟨?_,fun g r e=>?_⟩
 ·unfold partsM
  rw [List.pairwise_map]
  refine List.Pairwise.imp_of_mem (fun {p q} hp hq h=>?_) (List.Pairwise.filter _ List.pairwise_lt_range)
  rw [hd p (of_decide_eq_true (List.mem_filter.mp hp).2),hd q (of_decide_eq_true (List.mem_filter.mp hq).2)]
  exact h
 ·have h0:headed ws 0:=(headed_iff W W.pos).mpr fun q _=>Nat.zero_le q
  unfold partsM at e
  have hl:(List.range ws.length).filter (fun p=>decide (headed ws p))=0::((List.range ws.length).tail.filter fun p=>decide (headed ws p)):=by
   obtain ⟨n,hn⟩:∃ n,ws.length=n + 1:=⟨ws.length - 1,by have:=W.pos; omega⟩
   rw [hn,List.range_succ_eq_map,List.filter_cons,if_pos (decide_eq_true h0)]
   rfl
  rw [hl,List.map_cons] at e
  have:=(List.cons.inj e).1
  rw [<- this]
  exact hd 0 h0
theorem inOL_map {ac:Bool} {f:List Nat->Tr} {h:List Nat->Nat} {p:Nat}:∀ {gs:List (List Nat)} {bs:List Nat},(∀ g ∈ gs,(f g).inO (h g))->(∀ g ∈ gs,(f g).isD ac=false)->gs.Pairwise (fun g g'=>h g < h g')->(∀ b ∈ bs,∀ g ∈ gs,b < h g)->(bs=[]->∀ g r,gs=g::r->h g=p)->inOL ac (gs.map f) bs p
 | [],_,_,_,_,_,_=>trivial
 | g::gs,bs,h1,h2,h3,h4,h5=>by
  rw [List.pairwise_cons] at h3
  refine ⟨h g,h1 g (.head _),h2 g (.head _),fun b hb=>h4 b hb g (.head _),fun e=>h5 e g gs rfl,inOL_map (fun x hx=>h1 x (.tail _ hx)) (fun x hx=>h2 x (.tail _ hx)) h3.2 (fun b hb x hx=>?_) fun e=>absurd e (by simp)⟩
  rcases List.mem_append.mp hb with z | z
  ·exact h4 b z x (.tail _ hx)
  ·rw [List.mem_singleton.mp z]
   exact h3.1 x hx
theorem tree_inO {ws:List Nat} (W:Web ws):∀ (f:Nat) {pts:List Nat},GoodP ws pts->pts.length <= f->(treeM f ws pts).inO (pts.getD 0 0)
 | 0,pts,G,h=>absurd (List.length_pos_iff.mpr G.ne) (by omega)
 | f + 1,pts,G,h=>by
  by_cases h1:pts.length=1
  ·unfold treeM
   rw [if_pos h1]
   rfl
  ·have gr:=G.groups W h1
   have WA:=G.web W
   have hal:=among_length ws pts
   have sub:∀ g ∈ (groupsM ws pts).2,GoodP ws (atM pts g)/\(atM pts g).length <= f:=fun g hg=>⟨G.sub (gr.ne g hg) (gr.srt g hg) (gr.lt g hg),by
    have:=gr.small g hg
    unfold atM
    rw [List.length_map]
    omega⟩
   have hat:∀ g ∈ (groupsM ws pts).2,(atM pts g).getD 0 0=pts.getD (g.getD 0 0) 0:=fun g hg=>by
    have:=List.length_pos_iff.mpr (gr.ne g hg)
    unfold atM
    have eg:g.getD 0 0=g[0]:=by rw [List.getD_eq_getElem?_getD,List.getElem?_eq_getElem this]; rfl
    rw [eg,List.getD_eq_getElem?_getD,List.getElem?_map,List.getElem?_eq_getElem this]
    rfl
   have hh:(groupsM ws pts).2.Pairwise (fun g g'=>g.getD 0 0 < g'.getD 0 0)/\∀ g r,(groupsM ws pts).2=g::r->g.getD 0 0=0:=by
    unfold groupsM
    split
    ·exact parts_heads WA
    ·exact parts_heads WA.turned
   have e:treeM (f + 1) ws pts=.doing (groupsM ws pts).1 ((groupsM ws pts).2.map fun g=>treeM f ws (atM pts g)):=by
    conv=>lhs; unfold treeM
    rw [if_neg h1]
   rw [e]
   refine ⟨by rw [List.length_map]; exact gr.two,inOL_map (h:=fun g=>(atM pts g).getD 0 0) (fun g hg=>tree_inO W f (sub g hg).1 (sub g hg).2) (fun g hg=>?_) ?_ (fun b hb=>by cases hb) fun _ g r eg=>?_⟩
   ·by_cases h2:(atM pts g).length=1
    ·match f with
     | 0=>rfl
     | f' + 1 =>
      unfold treeM
      rw [if_pos h2]
      rfl
    ·match f with
     | 0=>rfl
     | f' + 1 =>
      unfold treeM
      rw [if_neg h2]
      show decide ((groupsM ws (atM pts g)).1=(groupsM ws pts).1)=false
      rw [groups_turn W G h1 hg h2]
      cases (groupsM ws pts).1 <;> rfl
   ·refine List.Pairwise.imp_of_mem (fun {g g'} hg hg' hlt=>?_) hh.1
    show (atM pts g).getD 0 0 < (atM pts g').getD 0 0
    rw [hat g hg,hat g' hg']
    exact getD_lt G.srt hlt (gr.lt g' hg' _ (getD_mem (List.length_pos_iff.mpr (gr.ne g' hg'))))
   ·show (atM pts g).getD 0 0=pts.getD 0 0
    rw [hat g (by rw [eg]; exact .head _),hh.2 g r eg]
end Bw
namespace Bw
mutual
def Tr.can:Tr->Prop
 | .pt _=>True
 | .doing ac ts=>2 <= ts.length/\canL ac ts
def canL (ac:Bool):List Tr->Prop
 | []=>True
 | t::ts=>(t.can/\t.isD ac=false)/\canL ac ts
end
theorem canL_iff {ac:Bool}:∀ {ts:List Tr},canL ac ts ↔ ∀ t ∈ ts,t.can/\t.isD ac=false
 | []=>by
  constructor
  ·intro _ t h
   cases h
  ·intro _
   trivial
 | a::ts=>by
  constructor
  ·intro h t ht
   obtain ⟨h1,h2⟩:=(show (a.can/\a.isD ac=false)/\canL ac ts from h)
   cases ht with
   | head=>exact h1
   | tail _ ht=>exact canL_iff.mp h2 t ht
  ·intro h
   exact ⟨h a (.head _),canL_iff.mpr fun t ht=>h t (.tail _ ht)⟩
mutual
theorem inO_can:∀ (t:Tr) (p:Nat),t.inO p->t.can
 | .pt _,_,_=>trivial
 | .doing ac ts,p,h=>by
  obtain ⟨h1,h2⟩:=(show 2 <= ts.length/\inOL ac ts [] p from h)
  exact ⟨h1,inOL_can ac ts [] p h2⟩
theorem inOL_can (ac:Bool):∀ (ts:List Tr) (bs:List Nat) (p:Nat),inOL ac ts bs p->canL ac ts
 | [],_,_,_=>trivial
 | t::ts,bs,p,h=>by
  obtain ⟨q,h1,h2,_,_,h5⟩:=(show ∃ q,t.inO q/\t.isD ac=false/\(∀ b ∈ bs,b < q)/\(bs=[]->q=p)/\inOL ac ts (bs ++ [q]) p from h)
  exact ⟨⟨inO_can t q h1,h2⟩,inOL_can ac ts _ p h5⟩
end
theorem can_ne:∀ (t:Tr),t.can->t.pts ≠ []
 | .pt n,_=>fun z=>nomatch z
 | .doing ac [],h=>by
  have h1:2 <= ([]:List Tr).length:=h.1
  exact absurd h1 (by decide)
 | .doing ac (a::ts),h=>by
  have h2:canL ac (a::ts):=h.2
  have:=can_ne a h2.1.1
  intro z
  have z':a.pts ++ ptsL ts=[]:=z
  exact this (List.append_eq_nil_iff.mp z').1
theorem share_eq:∀ {ts:List Tr},(ptsL ts).Nodup->∀ {t u:Tr} {p:Nat},t ∈ ts->u ∈ ts->p ∈ t.pts->p ∈ u.pts->t=u
 | a::ts,nd,t,u,p,ht,hu,h1,h2=>by
  have nd':(a.pts ++ ptsL ts).Nodup:=nd
  obtain ⟨n1,n2,n3⟩:=List.nodup_append.mp nd'
  rcases List.mem_cons.mp ht with e | z
  ·rcases List.mem_cons.mp hu with e' | z'
   ·rw [e,e']
   ·subst e
    exact absurd rfl (n3 p h1 p (ptsL_sub z' p h2))
  ·rcases List.mem_cons.mp hu with e' | z'
   ·subst e'
    exact absurd rfl (n3 p h2 p (ptsL_sub z p h1))
   ·exact share_eq n2 z z' h1 h2
theorem trees_nd {ac:Bool}:∀ {ts:List Tr},(ptsL ts).Nodup->canL ac ts->ts.Nodup
 | [],_,_=>List.nodup_nil
 | a::ts,nd,c=>by
  have nd':(a.pts ++ ptsL ts).Nodup:=nd
  obtain ⟨n1,n2,n3⟩:=List.nodup_append.mp nd'
  obtain ⟨c1,c2⟩:=(show (a.can/\a.isD ac=false)/\canL ac ts from c)
  refine List.nodup_cons.mpr ⟨fun h=>?_,trees_nd n2 c2⟩
  obtain ⟨p,hp⟩:=List.exists_mem_of_ne_nil _ (can_ne a c1.1)
  exact absurd rfl (n3 p hp p (ptsL_sub h p hp))
theorem other_pt {ac:Bool} {ts:List Tr} (h2:2 <= ts.length) (c:canL ac ts) (nd:(ptsL ts).Nodup) {t:Tr} (ht:t ∈ ts):∃ r ∈ ptsL ts,r ∉ t.pts:=by
 match ts,h2 with
 | a::b::r,_ =>
  obtain ⟨ca,cb,_⟩:=(show (a.can/\a.isD ac=false)/\(b.can/\b.isD ac=false)/\canL ac r from c)
  obtain ⟨x,hx⟩:=List.exists_mem_of_ne_nil _ (can_ne a ca.1)
  obtain ⟨y,hy⟩:=List.exists_mem_of_ne_nil _ (can_ne b cb.1)
  by_cases z:x ∈ t.pts
  ·have e:=share_eq nd ht (.head _) z hx
   subst e
   refine ⟨y,ptsL_sub (.tail _ (.head _)) y hy,fun w=>?_⟩
   have nd':(t.pts ++ ptsL (b::r)).Nodup:=nd
   obtain ⟨_,_,n3⟩:=List.nodup_append.mp nd'
   exact absurd rfl (n3 y w y (ptsL_sub (.head _) y hy))
  ·exact ⟨x,ptsL_sub (.head _) x hx,z⟩
def near (adj:Nat->Nat->Bool) (b:Bool) (pts:List Nat) (p q:Nat):Prop:=adj p q=b\/∃ r ∈ pts,r ≠ p/\r ≠ q/\adj p r=b/\adj r q=b
section
variable {adj:Nat->Nat->Bool} (sy:∀ x y,adj x y=adj y x)
include sy
theorem near_all {ac:Bool} {ts:List Tr} (h2:2 <= ts.length) (c:canL ac ts) (nd:(ptsL ts).Nodup) (h:tellsL adj ac ts) {p q:Nat} (hp:p ∈ ptsL ts) (hq:q ∈ ptsL ts):near adj ac (ptsL ts) p q:=by
 obtain ⟨t,ht,hpt⟩:=mem_ptsL.mp hp
 by_cases z:q ∈ t.pts
 ·obtain ⟨r,hr,hn⟩:=other_pt h2 c nd ht
  refine .inr ⟨r,hr,fun e=>hn (e ▸ hpt),fun e=>hn (e ▸ z),tellsL_apart sy h ht hpt hr hn,?_⟩
  rw [sy]
  exact tellsL_apart sy h ht z hr hn
 ·exact .inl (tellsL_apart sy h ht hpt hq z)
theorem tells_of:∀ {ts:List Tr} {ac:Bool},tellsL adj ac ts->∀ t ∈ ts,t.tells adj
 | a::ts,ac,h,t,ht=>by
  obtain ⟨h1,_,h3⟩:=(show a.tells adj/\(∀ p ∈ a.pts,∀ q ∈ ptsL ts,adj p q=ac)/\tellsL adj ac ts from h)
  cases ht with
  | head=>exact h1
  | tail _ ht=>exact tells_of h3 t ht
theorem near_in {ac:Bool} {ts:List Tr} (c:canL ac ts) (nd:(ptsL ts).Nodup) (h:tellsL adj ac ts) {t:Tr} (ht:t ∈ ts) {p q:Nat} (hp:p ∈ t.pts) (hq:q ∈ t.pts) (hne:p ≠ q):near adj (!ac) t.pts p q:=by
 have ht':=tells_of sy h t ht
 have hc:=canL_iff.mp c t ht
 have ndt:=ptsL_nd nd t ht
 cases t with
 | pt n=>exact absurd ((List.mem_singleton.mp hp).trans (List.mem_singleton.mp hq).symm) hne
 | doing b us =>
  have e:b = !ac:=by
   have:=hc.2
   unfold Tr.isD at this
   cases b <;> cases ac <;> simp_all
  subst e
  exact near_all sy hc.1.1 hc.1.2 ndt ht' hp hq
theorem near_mono {b:Bool} {l m:List Nat} (hs:∀ x ∈ l,x ∈ m) {p q:Nat} (h:near adj b l p q):near adj b m p q:=by
 rcases h with h | ⟨r,hr,h⟩
 ·exact .inl h
 ·exact .inr ⟨r,hs r hr,h⟩
theorem near_iff {ac:Bool} {ts:List Tr} (c:canL ac ts) (nd:(ptsL ts).Nodup) (h:tellsL adj ac ts) {t:Tr} (ht:t ∈ ts) {p q:Nat} (hp:p ∈ t.pts) (hq:q ∈ ptsL ts) (hne:p ≠ q):q ∈ t.pts ↔ near adj (!ac) (ptsL ts) p q:=by
 constructor
 ·intro z
  exact near_mono sy (ptsL_sub ht) (near_in sy c nd h ht hp z hne)
 ·intro z
  apply Classical.byContradiction
  intro hn
  rcases z with z | ⟨r,hr,_,_,z1,z2⟩
  ·rw [tellsL_apart sy h ht hp hq hn] at z
   cases ac <;> cases z
  ·by_cases w:r ∈ t.pts
   ·rw [tellsL_apart sy h ht w hq hn] at z2
    cases ac <;> cases z2
   ·rw [tellsL_apart sy h ht hp hr w] at z1
    cases ac <;> cases z1
end
theorem match_perm {α β γ:Type} {F:α->β->Prop} {u:α->γ} {v:β->γ}:∀ {l₁:List α} {l₂:List β},l₁.Nodup->l₂.Nodup->(∀ a ∈ l₁,∃ b ∈ l₂,F a b)->(∀ b ∈ l₂,∃ a ∈ l₁,F a b) ->
  (∀ a ∈ l₁,∀ b ∈ l₂,∀ b' ∈ l₂,F a b->F a b'->b=b')->(∀ a ∈ l₁,∀ a' ∈ l₁,∀ b ∈ l₂,F a b->F a' b->a=a')->(∀ a ∈ l₁,∀ b ∈ l₂,F a b->u a=v b)->(l₁.map u).Perm (l₂.map v)
 | [],l₂,_,_,_,h2,_,_,_=>by
  match l₂,h2 with
  | [],_=>exact .nil
  | b::l₂,h2 =>
   obtain ⟨a,ha,_⟩:=h2 b (.head _)
   cases ha
 | a::l₁,l₂,n1,n2,h1,h2,hf,hi,huv=>by
  obtain ⟨b,hb,hab⟩:=h1 a (.head _)
  obtain ⟨x,y,rfl⟩:=List.append_of_mem hb
  obtain ⟨na,n1'⟩:=List.nodup_cons.mp n1
  have pb:(x ++ b::y).Perm (b::(x ++ y)):=List.perm_middle
  obtain ⟨nb,n2'⟩:=List.nodup_cons.mp (pb.nodup_iff.mp n2)
  have sub:∀ z ∈ x ++ y,z ∈ x ++ b::y:=fun z hz=>pb.mem_iff.mpr (.tail _ hz)
  have ih:(l₁.map u).Perm ((x ++ y).map v):=match_perm n1' n2'
   (fun a' ha'=>by
    obtain ⟨b',hb',hab'⟩:=h1 a' (.tail _ ha')
    rcases List.mem_cons.mp (pb.mem_iff.mp hb') with e | z
    ·subst e
     have:=hi a (.head _) a' (.tail _ ha') b' hb hab hab'
     subst this
     exact absurd ha' na
    ·exact ⟨b',z,hab'⟩)
   (fun b' hb'=>by
    obtain ⟨a',ha',hab'⟩:=h2 b' (sub b' hb')
    rcases List.mem_cons.mp ha' with e | z
    ·subst e
     have:=hf a' (.head _) b hb b' (sub b' hb') hab hab'
     subst this
     exact absurd hb' nb
    ·exact ⟨a',z,hab'⟩)
   (fun a' ha' b' hb' b'' hb''=>hf a' (.tail _ ha') b' (sub b' hb') b'' (sub b'' hb''))
   (fun a' ha' a'' ha'' b' hb'=>hi a' (.tail _ ha') a'' (.tail _ ha'') b' (sub b' hb'))
   (fun a' ha' b' hb'=>huv a' (.tail _ ha') b' (sub b' hb'))
  rw [List.map_cons,huv a (.head _) b hb hab]
  exact ((ih.cons (v b)).trans ((pb.map v).symm))
theorem perm_nd {α:Type}:∀ {l₁ l₂:List α},l₁.Nodup->l₂.Nodup->(∀ a,a ∈ l₁ ↔ a ∈ l₂)->l₁.Perm l₂:=fun {l₁ l₂} n1 n2 h=>by
 have:=match_perm (F:=fun a b=>a=b) (u:=fun a:α=>a) (v:=fun a:α=>a) n1 n2 (fun a ha=>⟨a,(h a).mp ha,rfl⟩) (fun b hb=>⟨b,(h b).mpr hb,rfl⟩)
  (fun a _ b _ b' _ h1 h2=>h1.symm.trans h2) (fun a _ a' _ b _ h1 h2=>h1.trans h2.symm) (fun a _ b _ h=>h)
 simpa using this
theorem can_len {ac:Bool} {ts:List Tr} (h2:2 <= ts.length) (c:canL ac ts) (nd:(ptsL ts).Nodup) {t:Tr} (ht:t ∈ ts):t.pts.length < (ptsL ts).length:=by
 obtain ⟨r,hr,hn⟩:=other_pt h2 c nd ht
 obtain ⟨x,y,e⟩:=List.append_of_mem ht
 rw [e,ptsL_app,List.length_append]
 show _ < _ + (t.pts ++ ptsL y).length
 rw [List.length_append]
 rw [e,ptsL_app] at hr
 have hr':r ∈ ptsL x ++ (t.pts ++ ptsL y):=hr
 rcases List.mem_append.mp hr' with z | z
 ·have:=List.length_pos_of_mem z
  omega
 ·rcases List.mem_append.mp z with z | z
  ·exact absurd z hn
  ·have:=List.length_pos_of_mem z
   omega
theorem inj_of {f:Nat->Nat}:∀ {l:List Nat},(l.map f).Nodup->∀ p ∈ l,∀ q ∈ l,f p=f q->p=q
 | a::l,nd,p,hp,q,hq,e=>by
  rw [List.map_cons] at nd
  obtain ⟨n1,n2⟩:=List.nodup_cons.mp nd
  rcases List.mem_cons.mp hp with e1 | h1
  ·rcases List.mem_cons.mp hq with e2 | h2
   ·rw [e1,e2]
   ·subst e1
    exact absurd (List.mem_map.mpr ⟨q,h2,e.symm⟩) n1
  ·rcases List.mem_cons.mp hq with e2 | h2
   ·subst e2
    exact absurd (List.mem_map.mpr ⟨p,h1,e⟩) n1
   ·exact inj_of n2 p h1 q h2 e
theorem nodup_map_of {f:Nat->Nat}:∀ {l:List Nat},(∀ p ∈ l,∀ q ∈ l,f p=f q->p=q)->l.Nodup->(l.map f).Nodup
 | [],_,_=>List.nodup_nil
 | a::l,h,nd=>by
  obtain ⟨n1,n2⟩:=List.nodup_cons.mp nd
  rw [List.map_cons]
  refine List.nodup_cons.mpr ⟨fun z=>?_,nodup_map_of (fun p hp q hq=>h p (.tail _ hp) q (.tail _ hq)) n2⟩
  obtain ⟨b,hb,e⟩:=List.mem_map.mp z
  have:=h b (.tail _ hb) a (.head _) e
  subst this
  exact n1 hb
theorem shape_iso {adj adj':Nat->Nat->Bool} (sy:∀ x y,adj x y=adj y x) (sy':∀ x y,adj' x y=adj' y x):∀ (n:Nat) (t u:Tr),t.pts.length <= n->t.can->u.can->t.tells adj->u.tells adj'->t.pts.Nodup->u.pts.Nodup ->
  ∀ (f:Nat->Nat),(t.pts.map f).Perm u.pts->(∀ p ∈ t.pts,∀ q ∈ t.pts,p ≠ q->adj p q=adj' (f p) (f q))->t.shape=u.shape:=by
 intro n
 induction n with
 | zero =>
  intro t u hn ct
  have:=List.length_pos_iff.mpr (can_ne t ct)
  omega
 | succ n ih =>
  intro t u hn ct cu ht hu ndt ndu f hp ha
  have hlen:t.pts.length=u.pts.length:=by rw [<- hp.length_eq,List.length_map]
  have hmem:∀ p,p ∈ t.pts->f p ∈ u.pts:=fun p h=>hp.mem_iff.mp (List.mem_map.mpr ⟨p,h,rfl⟩)
  have hinv:∀ q,q ∈ u.pts->∃ p ∈ t.pts,f p=q:=fun q h=>by
   obtain ⟨p,h1,h2⟩:=List.mem_map.mp (hp.mem_iff.mpr h)
   exact ⟨p,h1,h2⟩
  have hinj:∀ p ∈ t.pts,∀ q ∈ t.pts,f p=f q->p=q:=inj_of (hp.nodup_iff.mpr ndu)
  have hnear:∀ {b:Bool} {p q:Nat},p ∈ t.pts->q ∈ t.pts->p ≠ q->(near adj b t.pts p q ↔ near adj' b u.pts (f p) (f q)):=by
   intro b p q h1 h2 hne
   constructor
   ·rintro (h | ⟨r,hr,n1,n2,a1,a2⟩)
    ·exact .inl (by rw [<- ha p h1 q h2 hne]; exact h)
    ·exact .inr ⟨f r,hmem r hr,fun e=>n1 (hinj r hr p h1 e),fun e=>n2 (hinj r hr q h2 e),by rw [<- ha p h1 r hr (Ne.symm n1)]; exact a1,by rw [<- ha r hr q h2 n2]; exact a2⟩
   ·rintro (h | ⟨r',hr',n1,n2,a1,a2⟩)
    ·exact .inl (by rw [ha p h1 q h2 hne]; exact h)
    ·obtain ⟨r,hr,rfl⟩:=hinv r' hr'
     have m1:r ≠ p:=fun e=>n1 (by rw [e])
     have m2:r ≠ q:=fun e=>n2 (by rw [e])
     exact .inr ⟨r,hr,m1,m2,by rw [ha p h1 r hr (Ne.symm m1)]; exact a1,by rw [ha r hr q h2 m2]; exact a2⟩
  cases t with
  | pt a =>
   cases u with
   | pt b=>rfl
   | doing bc us =>
    have h2:2 <= us.length:=cu.1
    have l1:(ptsL us).length=1:=hlen.symm
    match us,h2,cu.2 with
    | c::d::r,_,cc =>
     have:=can_len (t:=c) (by simp) cc ndu (.head _)
     have:=List.length_pos_iff.mpr (can_ne c cc.1.1)
     omega
  | doing ac ts =>
   have h2:2 <= ts.length:=ct.1
   have cts:canL ac ts:=ct.2
   have hts:tellsL adj ac ts:=ht
   have ndts:(ptsL ts).Nodup:=ndt
   cases u with
   | pt b =>
    have l1:(ptsL ts).length=1:=hlen
    match ts,h2,cts with
    | c::d::r,_,cc =>
     have:=can_len (t:=c) (by simp) cc ndt (.head _)
     have:=List.length_pos_iff.mpr (can_ne c cc.1.1)
     omega
   | doing bc us =>
    have h2':2 <= us.length:=cu.1
    have cus:canL bc us:=cu.2
    have hus:tellsL adj' bc us:=hu
    have ndus:(ptsL us).Nodup:=ndu
    have ebc:bc=ac:=by
     apply Classical.byContradiction
     intro hne
     have e:bc = !ac:=by cases bc <;> cases ac <;> simp_all
     subst e
     obtain ⟨a,ha1⟩:=List.exists_mem_of_ne_nil ts (by intro z; rw [z] at h2; exact absurd h2 (by decide))
     obtain ⟨x,hx⟩:=List.exists_mem_of_ne_nil _ (can_ne a (canL_iff.mp cts a ha1).1)
     obtain ⟨y,hy,hny⟩:=other_pt h2 cts ndts ha1
     have hxt:x ∈ ptsL ts:=ptsL_sub ha1 x hx
     have hxy:x ≠ y:=fun e=>hny (e ▸ hx)
     have n1:=near_all sy' h2' cus ndus hus (hmem x hxt) (hmem y hy)
     exact hny ((near_iff sy cts ndts hts ha1 hx hy hxy).mpr ((hnear hxt hy hxy).mpr n1))
    subst ebc
    have go:∀ c ∈ ts,∀ d ∈ us,(∃ p ∈ c.pts,f p ∈ d.pts)->∀ q ∈ ptsL ts,(q ∈ c.pts ↔ f q ∈ d.pts):=by
     rintro c hc d hd ⟨p,hpc,hpd⟩ q hq
     by_cases e:p=q
     ·subst e
      exact ⟨fun _=>hpd,fun _=>hpc⟩
     ·have hpt:p ∈ ptsL ts:=ptsL_sub hc p hpc
      have k1:=near_iff sy cts ndts hts hc hpc hq e
      have k2:=near_iff sy' cus ndus hus hd hpd (hmem q hq) (fun z=>e (hinj p hpt q hq z))
      rw [k1,k2]
      exact hnear hpt hq e
    have key:(ts.map Tr.shape).Perm (us.map Tr.shape):=by
     refine match_perm (F:=fun c d=>∃ p ∈ c.pts,f p ∈ d.pts) (trees_nd ndts cts) (trees_nd ndus cus) ?_ ?_ ?_ ?_ ?_
     ·intro c hc
      obtain ⟨x,hx⟩:=List.exists_mem_of_ne_nil _ (can_ne c (canL_iff.mp cts c hc).1)
      obtain ⟨d,hd,hxd⟩:=mem_ptsL.mp (hmem x (ptsL_sub hc x hx))
      exact ⟨d,hd,x,hx,hxd⟩
     ·intro d hd
      obtain ⟨y,hy⟩:=List.exists_mem_of_ne_nil _ (can_ne d (canL_iff.mp cus d hd).1)
      obtain ⟨x,hx,rfl⟩:=hinv y (ptsL_sub hd y hy)
      obtain ⟨c,hc,hxc⟩:=mem_ptsL.mp hx
      exact ⟨c,hc,x,hxc,hy⟩
     ·rintro c hc d hd d' hd' ⟨p,hp1,hp2⟩ k
      exact share_eq ndus hd hd' hp2 ((go c hc d' hd' k p (ptsL_sub hc p hp1)).mp hp1)
     ·rintro c hc c' hc' d hd ⟨p,hp1,hp2⟩ k
      exact share_eq ndts hc hc' hp1 ((go c' hc' d hd k p (ptsL_sub hc p hp1)).mpr hp2)
     ·intro c hc d hd k
      have gk:=go c hc d hd k
      have sub:=ptsL_sub hc
      have pm:(c.pts.map f).Perm d.pts:=by
       refine perm_nd ?_ (ptsL_nd ndus d hd) fun y=>⟨fun h=>?_,fun h=>?_⟩
       ·refine nodup_map_of (fun x hx y hy e=>hinj x (sub x hx) y (sub y hy) e) (ptsL_nd ndts c hc)
       ·obtain ⟨x,hx,rfl⟩:=List.mem_map.mp h
        exact (gk x (sub x hx)).mp hx
       ·obtain ⟨x,hx,rfl⟩:=hinv y (ptsL_sub hd y h)
        exact List.mem_map.mpr ⟨x,(gk x hx).mpr h,rfl⟩
      have hl:=can_len h2 cts ndts hc
      have hn':(ptsL ts).length <= n + 1:=hn
      exact ih c d (by omega) (canL_iff.mp cts c hc).1 (canL_iff.mp cus d hd).1 (tells_of sy hts c hc) (tells_of sy' hus d hd) (ptsL_nd ndts c hc) (ptsL_nd ndus d hd) f pm fun p h1 q h2=>ha p (sub p h1) q (sub q h2)
    show brkC (joinC (sgnC bc) (sortC (shapeL ts)))=brkC (joinC (sgnC bc) (sortC (shapeL us)))
    rw [shapeL_map,shapeL_map,sortC_of_perm key]
inductive IsShp:List Nat->Prop where
 | o:IsShp [111]
 | brk (c:Nat) (l:List (List Nat)) (hc:c=43\/c=42) (h2:2 <= l.length) (h:∀ x ∈ l,IsShp x):IsShp (brkC (joinC c l))
mutual
theorem shape_is:∀ t:Tr,t.can->IsShp t.shape
 | .pt _,_=>.o
 | .doing ac ts,h=>by
  refine .brk _ _ (sgn_cases ac) (by rw [sortC_len,shapeL_map,List.length_map]; exact h.1) fun x hx=>?_
  exact shapeL_is ac ts h.2 x ((sortC_perm _).mem_iff.mp hx)
theorem shapeL_is (ac:Bool):∀ ts:List Tr,canL ac ts->∀ x ∈ shapeL ts,IsShp x
 | t::ts,h,x,hx=>by
  have h':(t.can/\t.isD ac=false)/\canL ac ts:=h
  have hx':x ∈ t.shape::shapeL ts:=hx
  rcases List.mem_cons.mp hx' with e | z
  ·rw [e]
   exact shape_is t h'.1.1
  ·exact shapeL_is ac ts h'.2 x z
end
def Alone (s:List Nat):Prop:=∀ s' r r',IsShp s'->s ++ r=s' ++ r'->s=s'/\r=r'
theorem join_one {c c':Nat} (hc:c=43\/c=42) (hc':c'=43\/c'=42):∀ (l l':List (List Nat)) (r r':List Nat),l ≠ []->l' ≠ []->(∀ x ∈ l,Alone x)->(∀ x ∈ l',IsShp x)->joinC c l ++ 41::r=joinC c' l' ++ 41::r'->l=l'/\r=r'/\(2 <= l.length->c=c')
 | [],_,_,_,h,_,_,_,_=>absurd rfl h
 | [x],[],_,_,_,h,_,_,_=>absurd rfl h
 | x::y::l,[],_,_,_,h,_,_,_=>absurd rfl h
 | [x],[x'],r,r',_,_,ha,hs,e=>by
  obtain ⟨e1,e2⟩:=ha x (.head _) x' _ _ (hs x' (.head _)) e
  rw [e1]
  exact ⟨rfl,(List.cons.inj e2).2,fun h=>absurd h (by simp)⟩
 | [x],x'::y'::l',r,r',_,_,ha,hs,e=>by
  have e':x ++ 41::r=x' ++ (c'::joinC c' (y'::l') ++ 41::r'):=by
   rw [<- List.append_assoc]
   exact e
  obtain ⟨_,e2⟩:=ha x (.head _) x' _ _ (hs x' (.head _)) e'
  have:=(List.cons.inj e2).1
  rcases hc' with h | h <;> omega
 | x::y::l,[x'],r,r',_,_,ha,hs,e=>by
  have e':x ++ (c::joinC c (y::l) ++ 41::r)=x' ++ 41::r':=by
   rw [<- List.append_assoc]
   exact e
  obtain ⟨_,e2⟩:=ha x (.head _) x' _ _ (hs x' (.head _)) e'
  have:=(List.cons.inj e2).1
  rcases hc with h | h <;> omega
 | x::y::l,x'::y'::l',r,r',_,_,ha,hs,e=>by
  have e':x ++ (c::joinC c (y::l) ++ 41::r)=x' ++ (c'::joinC c' (y'::l') ++ 41::r'):=by
   rw [<- List.append_assoc,<- List.append_assoc]
   exact e
  obtain ⟨e1,e2⟩:=ha x (.head _) x' _ _ (hs x' (.head _)) e'
  obtain ⟨e3,e4⟩:=List.cons.inj e2
  obtain ⟨k1,k2,_⟩:=join_one hc hc' (y::l) (y'::l') r r' (by simp) (by simp) (fun z hz=>ha z (.tail _ hz)) (fun z hz=>hs z (.tail _ hz)) e4
  rw [e1,k1]
  exact ⟨rfl,k2,fun _=>e3⟩
theorem shp_alone {s:List Nat} (h:IsShp s):Alone s:=by
 induction h with
 | o =>
  intro s' r r' h' e
  cases h' with
  | o=>exact ⟨rfl,by simpa using e⟩
  | brk c l hc h2 h =>
   have:=(List.cons.inj e).1
   omega
 | brk c l hc h2 h ih =>
  intro s' r r' h' e
  cases h' with
  | o =>
   have:=(List.cons.inj e).1
   omega
  | brk c' l' hc' h2' hl' =>
   have e1:40::(joinC c l ++ [41]) ++ r=40::(joinC c' l' ++ [41]) ++ r':=e
   have e2:joinC c l ++ 41::r=joinC c' l' ++ 41::r':=by
    have:=(List.cons.inj e1).2
    simpa [List.append_assoc] using this
   obtain ⟨k1,k2,k3⟩:=join_one hc hc' l l' r r' (by intro z; rw [z] at h2; exact absurd h2 (by decide)) (by intro z; rw [z] at h2'; exact absurd h2' (by decide)) ih hl' e2
   exact ⟨by rw [k1,k3 h2],k2⟩
theorem shape_inj {ac bc:Bool} {ts us:List Tr} (ct:(Tr.doing ac ts).can) (cu:(Tr.doing bc us).can) (e:(Tr.doing ac ts).shape=(Tr.doing bc us).shape):ac=bc/\sortC (shapeL ts)=sortC (shapeL us):=by
 have h1:∀ x ∈ sortC (shapeL ts),IsShp x:=fun x hx=>shapeL_is ac ts ct.2 x ((sortC_perm _).mem_iff.mp hx)
 have h2:∀ x ∈ sortC (shapeL us),IsShp x:=fun x hx=>shapeL_is bc us cu.2 x ((sortC_perm _).mem_iff.mp hx)
 have l1:2 <= (sortC (shapeL ts)).length:=by rw [sortC_len,shapeL_map,List.length_map]; exact ct.1
 have l2:2 <= (sortC (shapeL us)).length:=by rw [sortC_len,shapeL_map,List.length_map]; exact cu.1
 have e1:joinC (sgnC ac) (sortC (shapeL ts)) ++ 41::[]=joinC (sgnC bc) (sortC (shapeL us)) ++ 41::[]:=(List.cons.inj e).2
 obtain ⟨k1,_,k3⟩:=join_one (sgn_cases ac) (sgn_cases bc) _ _ [] [] (by intro z; rw [z] at l1; exact absurd l1 (by decide)) (by intro z; rw [z] at l2; exact absurd l2 (by decide)) (fun x hx=>shp_alone (h1 x hx)) h2 e1
 refine ⟨?_,k1⟩
 have:=k3 l1
 cases ac <;> cases bc <;> simp [sgnC] at this ⊢
theorem shape_pt {n:Nat} {u:Tr} (cu:u.can) (e:(Tr.pt n).shape=u.shape):∃ m,u=.pt m:=by
 cases u with
 | pt m=>exact ⟨m,rfl⟩
 | doing bc us =>
  have e':[111]=40::(joinC (sgnC bc) (sortC (shapeL us)) ++ [41]):=e
  have:=(List.cons.inj e').1
  omega
inductive By:Tr->List Nat->Prop where
 | pt (n:Nat):By (.pt n) [n]
 | doing (ac:Bool) (ts us:List Tr) (ls:List (List Nat)) (hp:us.Perm ts) (hs:us.Pairwise fun a b=>leC a.shape b.shape=true) (hl:ls.length=us.length) (h:∀ (i:Nat) (u:Tr) (l:List Nat),us[i]? = some u->ls[i]? = some l->By u l):By (.doing ac ts) ls.flatten
theorem ptsL_perm {ts us:List Tr} (h:ts.Perm us):(ptsL ts).Perm (ptsL us):=ptsL_perm2 h
theorem flat_perm:∀ {us:List Tr} {ls:List (List Nat)},ls.length=us.length->(∀ (i:Nat) (u:Tr) (l:List Nat),us[i]? = some u->ls[i]? = some l->l.Perm u.pts)->ls.flatten.Perm (ptsL us)
 | [],[],_,_=>.nil
 | u::us,l::ls,hl,h=>by
  rw [List.flatten_cons]
  exact (h 0 u l rfl rfl).append (flat_perm (Nat.succ.inj hl) fun i u' l' h1 h2=>h (i + 1) u' l' h1 h2)
theorem By.perm {t:Tr} {l:List Nat} (h:By t l):l.Perm t.pts:=by
 induction h with
 | pt n=>exact .refl _
 | doing ac ts us ls hp hs hl h ih=>exact (flat_perm hl ih).trans (ptsL_perm hp)
theorem zip_flat:∀ {ls ms:List (List Nat)},ls.length=ms.length->(∀ (i:Nat) (l m:List Nat),ls[i]? = some l->ms[i]? = some m->l.length=m.length)->∀ x,x ∈ ls.flatten.zip ms.flatten->∃ (i:Nat) (l m:List Nat),ls[i]? = some l/\ms[i]? = some m/\x ∈ l.zip m
 | [],[],_,_,x,hx=>by cases hx
 | l::ls,m::ms,hl,h,x,hx=>by
  rw [List.flatten_cons,List.flatten_cons,List.zip_append (h 0 l m rfl rfl)] at hx
  rcases List.mem_append.mp hx with z | z
  ·exact ⟨0,l,m,rfl,rfl,z⟩
  ·obtain ⟨i,l',m',h1,h2,h3⟩:=zip_flat (Nat.succ.inj hl) (fun i l' m' h1 h2=>h (i + 1) l' m' h1 h2) x z
   exact ⟨i + 1,l',m',h1,h2,h3⟩
theorem nodup_apart {ts:List Tr} (nd:(ptsL ts).Nodup) {i j:Nat} {t u:Tr} (hi:ts[i]? = some t) (hj:ts[j]? = some u) (hij:i ≠ j) {p:Nat} (hp:p ∈ t.pts) (hq:p ∈ u.pts):False:=by
 induction ts generalizing i j with
 | nil=>simp at hi
 | cons a ts ih =>
  have nd':(a.pts ++ ptsL ts).Nodup:=nd
  obtain ⟨n1,n2,n3⟩:=List.nodup_append.mp nd'
  cases i with
  | zero =>
   cases j with
   | zero=>exact hij rfl
   | succ j =>
    have e:a=t:=Option.some.inj hi
    subst e
    exact n3 p hp p (ptsL_sub (List.mem_of_getElem? (show ts[j]? = some u from hj)) p hq) rfl
  | succ i =>
   cases j with
   | zero =>
    have e:a=u:=Option.some.inj hj
    subst e
    exact n3 p hq p (ptsL_sub (List.mem_of_getElem? (show ts[i]? = some t from hi)) p hp) rfl
   | succ j=>exact ih n2 (show ts[i]? = some t from hi) (show ts[j]? = some u from hj) (fun e=>hij (by rw [e]))
theorem tellsL_ptwise {adj:Nat->Nat->Bool} (sy:∀ x y,adj x y=adj y x) {ac:Bool} {ts us:List Tr} (h:tellsL adj ac ts) (nd:(ptsL ts).Nodup) (hp:us.Perm ts) {i j:Nat} {t u:Tr} (hi:us[i]? = some t) (hj:us[j]? = some u) (hij:i ≠ j) {p q:Nat} (h1:p ∈ t.pts) (h2:q ∈ u.pts):adj p q=ac:=by
 have ndu:(ptsL us).Nodup:=(ptsL_perm hp).nodup_iff.mpr nd
 have ht:t ∈ ts:=hp.mem_iff.mp (List.mem_of_getElem? hi)
 have hu:u ∈ ts:=hp.mem_iff.mp (List.mem_of_getElem? hj)
 exact tellsL_apart sy h ht h1 (ptsL_sub hu q h2) fun z=>nodup_apart ndu hi hj hij z h2
theorem by_map {adj adj':Nat->Nat->Bool} (sy:∀ x y,adj x y=adj y x) (sy':∀ x y,adj' x y=adj' y x) {t:Tr} {l:List Nat} (h:By t l):∀ {u:Tr} {m:List Nat},By u m->t.can->u.can->t.tells adj->u.tells adj'->t.pts.Nodup->u.pts.Nodup->t.shape=u.shape ->
  l.length=m.length/\∀ x ∈ l.zip m,∀ y ∈ l.zip m,x.1 ≠ y.1->adj x.1 y.1=adj' x.2 y.2:=by
 induction h with
 | pt n =>
  intro u m hu ct cu _ _ _ _ e
  obtain ⟨k,rfl⟩:=shape_pt cu e
  cases hu
  refine ⟨rfl,fun x hx y hy hne=>?_⟩
  have e1:x=(n,k):=List.mem_singleton.mp hx
  have e2:y=(n,k):=List.mem_singleton.mp hy
  rw [e1,e2] at hne
  exact absurd rfl hne
 | doing ac ts us ls hp hs hl h ih =>
  intro u m hu ct cu ht hu' ndt ndu e
  cases hu with
  | pt k =>
   obtain ⟨_,z⟩:=shape_pt ct e.symm
   cases z
  | doing bc ts' us' ms hp' hs' hl' h' =>
   obtain ⟨eb,es⟩:=shape_inj ct cu e
   subst eb
   have ndt':(ptsL ts).Nodup:=ndt
   have ndu':(ptsL ts').Nodup:=ndu
   have q1:us.map Tr.shape=sortC (shapeL ts):=sortC_uniq (by rw [shapeL_map]; exact hp.map _) (List.pairwise_map.mpr hs)
   have q2:us'.map Tr.shape=sortC (shapeL ts'):=sortC_uniq (by rw [shapeL_map]; exact hp'.map _) (List.pairwise_map.mpr hs')
   have q3:us.map Tr.shape=us'.map Tr.shape:=by rw [q1,q2,es]
   have ul:us.length=us'.length:=by
    have:=congrArg List.length q3
    rwa [List.length_map,List.length_map] at this
   have each:∀ (i:Nat) (l m:List Nat),ls[i]? = some l->ms[i]? = some m->∃ t t',us[i]? = some t/\us'[i]? = some t'/\l.length=m.length/\∀ x ∈ l.zip m,∀ y ∈ l.zip m,x.1 ≠ y.1->adj x.1 y.1=adj' x.2 y.2:=by
    intro i l m h1 h2
    have hi:i < us.length:=by rw [<- hl]; exact (List.getElem?_eq_some_iff.mp h1).1
    have hi':i < us'.length:=by rw [<- ul]; exact hi
    have g1:=List.getElem?_eq_getElem hi
    have g2:=List.getElem?_eq_getElem hi'
    have se:(us[i]).shape=(us'[i]).shape:=by
     have:=congrArg (fun l=>l[i]?) q3
     simp only [List.getElem?_map,g1,g2,Option.map_some] at this
     exact Option.some.inj this
    have m1:us[i] ∈ ts:=hp.mem_iff.mp (List.getElem_mem hi)
    have m2:us'[i] ∈ ts':=hp'.mem_iff.mp (List.getElem_mem hi')
    obtain ⟨k1,k2⟩:=ih i _ l g1 h1 (h' i _ m g2 h2) (canL_iff.mp ct.2 _ m1).1 (canL_iff.mp cu.2 _ m2).1 (tells_of sy ht _ m1) (tells_of sy' hu' _ m2) (ptsL_nd ndt' _ m1) (ptsL_nd ndu' _ m2) se
    exact ⟨_,_,g1,g2,k1,k2⟩
   have hlen:ls.length=ms.length:=by rw [hl,hl',ul]
   have eqs:∀ (i:Nat) (l m:List Nat),ls[i]? = some l->ms[i]? = some m->l.length=m.length:=fun i l m h1 h2=>by
    obtain ⟨_,_,_,_,k,_⟩:=each i l m h1 h2
    exact k
   refine ⟨?_,?_⟩
   ·rw [List.length_flatten,List.length_flatten]
    congr 1
    apply List.ext_getElem?
    intro i
    rw [List.getElem?_map,List.getElem?_map]
    by_cases hi:i < ls.length
    ·have hi':i < ms.length:=by rw [<- hlen]; exact hi
     rw [List.getElem?_eq_getElem hi,List.getElem?_eq_getElem hi',Option.map_some,Option.map_some,eqs i _ _ (List.getElem?_eq_getElem hi) (List.getElem?_eq_getElem hi')]
    ·rw [List.getElem?_eq_none (by omega),List.getElem?_eq_none (by omega)]
   ·intro x hx y hy hne
    obtain ⟨i,l,m,a1,a2,a3⟩:=zip_flat hlen eqs x hx
    obtain ⟨j,l',m',b1,b2,b3⟩:=zip_flat hlen eqs y hy
    obtain ⟨t,t',g1,g2,_,g4⟩:=each i l m a1 a2
    obtain ⟨v,v',c1,c2,_,_⟩:=each j l' m' b1 b2
    by_cases hij:i=j
    ·subst hij
     rw [a1] at b1
     rw [a2] at b2
     cases b1
     cases b2
     exact g4 x a3 y b3 hne
    ·have p1:=(h i t l g1 a1).perm
     have p2:=(h' i t' m g2 a2).perm
     have p3:=(h j v l' c1 b1).perm
     have p4:=(h' j v' m' c2 b2).perm
     obtain ⟨x1,x2⟩:=x
     obtain ⟨y1,y2⟩:=y
     obtain ⟨z1,z2⟩:=List.of_mem_zip a3
     obtain ⟨z3,z4⟩:=List.of_mem_zip b3
     show adj x1 y1=adj' x2 y2
     rw [tellsL_ptwise sy ht ndt' hp g1 c1 hij (p1.mem_iff.mp z1) (p3.mem_iff.mp z3),tellsL_ptwise sy' hu' ndu' hp' g2 c2 hij (p2.mem_iff.mp z2) (p4.mem_iff.mp z4)]
end Bw
namespace Bw
noncomputable def treeW (ws:List Nat):Tr:=treeM 10 ws (List.range ws.length)
structure Plain (ws:List Nat):Prop where
 web:Web ws
 no:NoRow (bit ws) (List.range ws.length)
section
variable {ws:List Nat} (p:Plain ws)
include p
theorem Plain.good:GoodP ws (List.range ws.length):=goodP_all p.web p.no
theorem Plain.perm:(treeW ws).pts.Perm (List.range ws.length):=tree_perm p.web 10 p.good (by rw [List.length_range]; exact p.web.le)
theorem Plain.nd:(treeW ws).pts.Nodup:=p.perm.nodup_iff.mpr List.nodup_range
theorem Plain.can:(treeW ws).can:=inO_can _ _ (tree_inO p.web 10 p.good (by rw [List.length_range]; exact p.web.le))
theorem Plain.tells:(treeW ws).tells (bit ws):=tree_tells p.web 10 p.good (by rw [List.length_range]; exact p.web.le)
theorem Plain.len:(treeW ws).pts.length=ws.length:=by rw [p.perm.length_eq,List.length_range]
end
structure Mapped (ws us g:List Nat):Prop where
 len:g.length=ws.length
 perm:g.Perm (List.range us.length)
 ties:∀ i j,j < i->i < ws.length->bit ws i j=bit us (g.getD i 0) (g.getD j 0)
theorem map_range_getD (g:List Nat):(List.range g.length).map (fun i=>g.getD i 0)=g:=atM_range g
theorem Mapped.all {ws us g:List Nat} (W:Web ws) (U:Web us) (M:Mapped ws us g) {i j:Nat} (hi:i < ws.length) (hj:j < ws.length):bit ws i j=bit us (g.getD i 0) (g.getD j 0):=by
 rcases Nat.lt_trichotomy i j with h | h | h
 ·rw [W.sym,U.sym]
  exact M.ties j i h hj
 ·subst h
  rw [W.irr,U.irr]
 ·exact M.ties i j h hi
theorem Mapped.shape {ws us g:List Nat} (p:Plain ws) (q:Plain us) (M:Mapped ws us g):(treeW ws).shape=(treeW us).shape:=by
 refine shape_iso p.web.sym q.web.sym _ _ _ (Nat.le_refl _) p.can q.can p.tells q.tells p.nd q.nd (fun i=>g.getD i 0) ?_ ?_
 ·refine (p.perm.map _).trans ?_
  rw [<- M.len,map_range_getD]
  exact M.perm.trans q.perm.symm
 ·intro i hi j hj _
  exact M.all p.web q.web (List.mem_range.mp (p.perm.mem_iff.mp hi)) (List.mem_range.mp (p.perm.mem_iff.mp hj))
theorem Mapped.inv {ws us g:List Nat} (M:Mapped ws us g) {a:Nat} (ha:a < us.length):∃ i,i < ws.length/\g.getD i 0=a:=by
 have:=M.perm.mem_iff.mpr (List.mem_range.mpr ha)
 obtain ⟨i,hi,e⟩:=List.mem_iff_getElem.mp this
 refine ⟨i,by rw [<- M.len]; exact hi,?_⟩
 rw [List.getD_eq_getElem?_getD,List.getElem?_eq_getElem hi,e]
 rfl
theorem Mapped.noRow {ws us g:List Nat} (W:Web ws) (U:Web us) (M:Mapped ws us g) (h:NoRow (bit ws) (List.range ws.length)):NoRow (bit us) (List.range us.length):=by
 intro a ha b hb c hc d hd h1 h2 h3 r
 obtain ⟨a',ka,rfl⟩:=M.inv (List.mem_range.mp ha)
 obtain ⟨b',kb,rfl⟩:=M.inv (List.mem_range.mp hb)
 obtain ⟨c',kc,rfl⟩:=M.inv (List.mem_range.mp hc)
 obtain ⟨d',kd,rfl⟩:=M.inv (List.mem_range.mp hd)
 refine h a' (List.mem_range.mpr ka) b' (List.mem_range.mpr kb) c' (List.mem_range.mpr kc) d' (List.mem_range.mpr kd) (fun e=>h1 (by rw [e])) (fun e=>h2 (by rw [e])) (fun e=>h3 (by rw [e])) ?_
 unfold Row4 at r ⊢
 simpa only [M.all W U ka kb,M.all W U kb kc,M.all W U kc kd,M.all W U ka kc,M.all W U ka kd,M.all W U kb kd] using r
def putG:List (Nat × Nat)->List Nat->List Nat
 | [],g=>g
 | x::r,g=>putG r (g.set x.1 x.2)
theorem putG_snoc:∀ (l:List (Nat × Nat)) (x:Nat × Nat) (g:List Nat),putG (l ++ [x]) g=(putG l g).set x.1 x.2
 | [],_,_=>rfl
 | _::l,x,g=>putG_snoc l x _
theorem putG_len:∀ (l:List (Nat × Nat)) (g:List Nat),(putG l g).length=g.length
 | [],_=>rfl
 | x::l,g=>by
  show (putG l (g.set x.1 x.2)).length=_
  rw [putG_len l,List.length_set]
theorem putG_other:∀ (l:List (Nat × Nat)) (g:List Nat) (p:Nat),p ∉ l.map (·.1)->(putG l g).getD p 0=g.getD p 0
 | [],_,_,_=>rfl
 | x::l,g,p,h=>by
  rw [List.map_cons,List.mem_cons,not_or] at h
  show (putG l (g.set x.1 x.2)).getD p 0=_
  rw [putG_other l _ p h.2,List.getD_eq_getElem?_getD,List.getD_eq_getElem?_getD,List.getElem?_set_ne (Ne.symm h.1)]
theorem putG_at:∀ (l:List (Nat × Nat)) (g:List Nat),(l.map (·.1)).Nodup->(∀ x ∈ l,x.1 < g.length)->∀ x ∈ l,(putG l g).getD x.1 0=x.2
 | y::l,g,nd,hl,x,hx=>by
  rw [List.map_cons] at nd
  obtain ⟨n1,n2⟩:=List.nodup_cons.mp nd
  show (putG l (g.set y.1 y.2)).getD x.1 0=_
  rcases List.mem_cons.mp hx with e | z
  ·subst e
   rw [putG_other l _ _ n1,List.getD_eq_getElem?_getD,List.getElem?_set_self (hl x (.head _))]
   rfl
  ·exact putG_at l _ n2 (fun w hw=>by rw [List.length_set]; exact hl w (.tail _ hw)) x z
theorem found_mapped {ws us l m:List Nat} (p:Plain ws) (q:Plain us) (hl:By (treeW ws) l) (hm:By (treeW us) m) (e:(treeW ws).shape=(treeW us).shape):Mapped ws us (putG (l.zip m) (List.replicate ws.length 0)):=by
 obtain ⟨k1,k2⟩:=by_map p.web.sym q.web.sym hl hm p.can q.can p.tells q.tells p.nd q.nd e
 have pl:l.Perm (List.range ws.length):=hl.perm.trans p.perm
 have pm:m.Perm (List.range us.length):=hm.perm.trans q.perm
 have ndl:l.Nodup:=pl.nodup_iff.mpr List.nodup_range
 have z1:(l.zip m).map (·.1)=l:=List.map_fst_zip (by omega)
 have z2:(l.zip m).map (·.2)=m:=List.map_snd_zip (by omega)
 have at1:∀ x ∈ l.zip m,(putG (l.zip m) (List.replicate ws.length 0)).getD x.1 0=x.2:=putG_at _ _ (by rw [z1]; exact ndl) (fun x hx=>by
  rw [List.length_replicate]
  have:x.1 ∈ l:=by
   rw [<- z1]
   exact List.mem_map.mpr ⟨x,hx,rfl⟩
  exact List.mem_range.mp (pl.mem_iff.mp this))
 have hlen:(putG (l.zip m) (List.replicate ws.length 0)).length=ws.length:=by rw [putG_len,List.length_replicate]
 have pair:∀ i,i < ws.length->∃ x ∈ l.zip m,x.1=i:=fun i hi=>by
  have:i ∈ (l.zip m).map (·.1):=by
   rw [z1]
   exact pl.mem_iff.mpr (List.mem_range.mpr hi)
  obtain ⟨x,hx,e⟩:=List.mem_map.mp this
  exact ⟨x,hx,e⟩
 refine ⟨hlen,?_,?_⟩
 ·have h1:(l.map fun i=>(putG (l.zip m) (List.replicate ws.length 0)).getD i 0)=m:=by
   conv=>lhs; arg 2; rw [<- z1]
   rw [List.map_map]
   conv=>rhs; rw [<- z2]
   exact List.map_congr_left fun x hx=>at1 x hx
  have h2:=map_range_getD (putG (l.zip m) (List.replicate ws.length 0))
  rw [hlen] at h2
  rw [<- h2]
  refine ((pl.symm).map _).trans ?_
  rw [h1]
  exact pm
 ·intro i j hji hi
  obtain ⟨x,hx,rfl⟩:=pair i hi
  obtain ⟨y,hy,rfl⟩:=pair j (by omega)
  rw [at1 x hx,at1 y hy]
  exact k2 x hx y hy (by omega)
def pStep (adj:Nat->Nat->Bool) (b:Bool) (left part:List Nat):List Nat:=part ++ left.filter fun o=>decide (o ∉ part) && part.any fun q=>adj o q == b
def pIt (adj:Nat->Nat->Bool) (b:Bool) (left:List Nat) (x:Nat):Nat->List Nat
 | 0=>[x]
 | k + 1=>pStep adj b left (pIt adj b left x k)
structure ClsT (adj:Nat->Nat->Bool) (b:Bool) (us:List Tr):Prop where
 nd:(ptsL us).Nodup
 ne:∀ u ∈ us,u.pts ≠ []
 cl:∀ u ∈ us,∀ p ∈ u.pts,∀ o ∈ ptsL us,o ≠ p->adj o p=b->o ∈ u.pts
 two:∀ u ∈ us,∀ p ∈ u.pts,∀ q ∈ u.pts,p ≠ q->adj q p=b\/∃ r ∈ u.pts,r ≠ p/\r ≠ q/\adj r p=b/\adj q r=b
section
variable {adj:Nat->Nat->Bool} {b:Bool}
theorem mem_pStep {left part:List Nat} {o:Nat}:o ∈ pStep adj b left part ↔ o ∈ part\/(o ∈ left/\o ∉ part/\∃ q ∈ part,adj o q=b):=by
 unfold pStep
 rw [List.mem_append,List.mem_filter,Bool.and_eq_true,decide_eq_true_eq,List.any_eq_true]
 simp only [beq_iff_eq]
theorem pIt_ok {C left:List Nat} {x:Nat} (ndl:left.Nodup) (hx:x ∈ C) (cl:∀ p ∈ C,∀ o ∈ left,o ≠ p->adj o p=b->o ∈ C):∀ k,(pIt adj b left x k).Nodup/\∀ p ∈ pIt adj b left x k,p ∈ C
 | 0=>⟨by simp [pIt],fun p hp=>by rw [List.mem_singleton.mp hp]; exact hx⟩
 | k + 1=>by
  obtain ⟨h1,h2⟩:=pIt_ok ndl hx cl k
  refine ⟨?_,fun p hp=>?_⟩
  ·show (pIt adj b left x k ++ left.filter _).Nodup
   refine List.nodup_append.mpr ⟨h1,ndl.filter _,fun a ha c hc e=>?_⟩
   subst e
   have:=(List.mem_filter.mp hc).2
   rw [Bool.and_eq_true,decide_eq_true_eq] at this
   exact this.1 ha
  ·rcases mem_pStep.mp hp with h | ⟨h3,h4,q,h5,h6⟩
   ·exact h2 p h
   ·exact cl q (h2 q h5) p h3 (fun e=>h4 (e ▸ h5)) h6
theorem pIt_mono {left:List Nat} {x:Nat} {p:Nat}:∀ {j k:Nat},j <= k->p ∈ pIt adj b left x j->p ∈ pIt adj b left x k:=by
 intro j k hjk h
 induction k with
 | zero =>
  have:j=0:=by omega
  subst this
  exact h
 | succ k ih =>
  by_cases e:j=k + 1
  ·subst e
   exact h
  ·exact mem_pStep.mpr (.inl (ih (by omega)))
theorem pIt_full {C left:List Nat} {x:Nat} (hC:∀ p ∈ C,p ∈ left) (hx:x ∈ C) (two:∀ q ∈ C,x ≠ q->adj q x=b\/∃ r ∈ C,r ≠ x/\r ≠ q/\adj r x=b/\adj q r=b) {k:Nat} (hk:2 <= k):∀ q ∈ C,q ∈ pIt adj b left x k:=by
 intro q hq
 have one:∀ r ∈ C,adj r x=b->r ∈ pIt adj b left x 1:=fun r hr h=>by
  refine mem_pStep.mpr ?_
  by_cases e:r ∈ pIt adj b left x 0
  ·exact .inl e
  ·exact .inr ⟨hC r hr,e,x,.head _,h⟩
 by_cases e:x=q
 ·subst e
  exact pIt_mono (Nat.zero_le k) (.head _)
 ·rcases two q hq e with h | ⟨r,hr,_,_,h1,h2⟩
  ·exact pIt_mono (by omega) (one q hq h)
  ·refine pIt_mono hk (mem_pStep.mpr ?_)
   by_cases z:q ∈ pIt adj b left x 1
   ·exact .inl z
   ·exact .inr ⟨hC q hq,z,r,one r hr h1,h2⟩
theorem part_one {us:List Tr} (c:ClsT adj b us) {x:Nat} {l:List Nat} (ndl:(x::l).Nodup) {vs:List Tr} (hv:∀ v ∈ vs,v ∈ us) (hp:(ptsL vs).Perm (x::l)) {k:Nat} (hk:2 <= k) :
  ∃ (y:Tr) (a z:List Tr),vs=a ++ y::z/\(pIt adj b (x::l) x k).Perm y.pts/\(ptsL (a ++ z)).Perm ((x::l).filter fun o=>decide (o ∉ pIt adj b (x::l) x k)):=by
 have hx:x ∈ ptsL vs:=hp.mem_iff.mpr (.head _)
 obtain ⟨y,hy,hxy⟩:=mem_ptsL.mp hx
 obtain ⟨a,z,rfl⟩:=List.append_of_mem hy
 have hyu:=hv y hy
 have sub:∀ p ∈ x::l,p ∈ ptsL us:=fun p h=>by
  obtain ⟨v,h1,h2⟩:=mem_ptsL.mp (hp.mem_iff.mpr h)
  exact ptsL_sub (hv v h1) p h2
 have yl:∀ p ∈ y.pts,p ∈ x::l:=fun p h=>hp.mem_iff.mp (ptsL_sub hy p h)
 have e:ptsL (a ++ y::z)=ptsL a ++ (y.pts ++ ptsL z):=by rw [ptsL_app]; rfl
 have pm:(ptsL (a ++ y::z)).Perm (y.pts ++ ptsL (a ++ z)):=by
  rw [e,ptsL_app,<- List.append_assoc,<- List.append_assoc]
  exact List.perm_append_comm.append_right _
 have ndv:(y.pts ++ ptsL (a ++ z)).Nodup:=pm.nodup_iff.mp (hp.nodup_iff.mpr ndl)
 obtain ⟨n1,n2,n3⟩:=List.nodup_append.mp ndv
 obtain ⟨k1,k2⟩:=pIt_ok (k:=k) ndl hxy (fun p h o ho hne he=>c.cl y hyu p h o (sub o ho) hne he)
 have k3:=pIt_full (k:=k) yl hxy (fun q hq hne=>c.two y hyu x hxy q hq hne) hk
 have pe:(pIt adj b (x::l) x k).Perm y.pts:=perm_nd k1 n1 fun p=>⟨k2 p,k3 p⟩
 refine ⟨y,a,z,rfl,pe,perm_nd n2 (ndl.filter _) fun p=>?_⟩
 rw [List.mem_filter,decide_eq_true_eq]
 constructor
 ·intro h
  refine ⟨hp.mem_iff.mp (pm.mem_iff.mpr (List.mem_append.mpr (.inr h))),fun w=>?_⟩
  exact n3 p (k2 p w) p h rfl
 ·rintro ⟨h1,h2⟩
  rcases List.mem_append.mp (pm.mem_iff.mp (hp.mem_iff.mpr h1)) with w | w
  ·exact absurd (k3 p w) h2
  ·exact w
end
theorem cls_trees {adj:Nat->Nat->Bool} (sy:∀ x y,adj x y=adj y x) {ac:Bool} {ts:List Tr} (c:canL ac ts) (nd:(ptsL ts).Nodup) (h:tellsL adj ac ts):ClsT adj (!ac) ts where
 nd:=nd
 ne:=fun u hu=>can_ne u (canL_iff.mp c u hu).1
 cl:=fun u hu p hp o ho hne he=>by
  refine (near_iff sy c nd h hu hp ho (Ne.symm hne)).mpr (.inl ?_)
  rw [sy]
  exact he
 two:=fun u hu p hp q hq hne=>by
  rcases near_in sy c nd h hu hp hq hne with z | ⟨r,hr,n1,n2,a1,a2⟩
  ·exact .inl (by rw [sy]; exact z)
  ·exact .inr ⟨r,hr,n1,n2,by rw [sy]; exact a1,by rw [sy]; exact a2⟩
theorem cls_whole {adj:Nat->Nat->Bool} (sy:∀ x y,adj x y=adj y x) {ac:Bool} {ts:List Tr} (h2:2 <= ts.length) (c:canL ac ts) (nd:(ptsL ts).Nodup) (h:tellsL adj ac ts):ClsT adj ac [.doing ac ts] where
 nd:=by
  show (ptsL ts ++ []).Nodup
  rw [List.append_nil]
  exact nd
 ne:=fun u hu=>by
  rw [List.mem_singleton.mp hu]
  exact can_ne _ ⟨h2,c⟩
 cl:=fun u hu p hp o ho hne he=>by
  have ho':o ∈ ptsL ts ++ []:=ho
  rw [List.append_nil] at ho'
  rw [List.mem_singleton.mp hu]
  exact ho'
 two:=fun u hu p hp q hq hne=>by
  rw [List.mem_singleton.mp hu] at hp hq ⊢
  rcases near_all sy h2 c nd h hp hq with z | ⟨r,hr,n1,n2,a1,a2⟩
  ·exact .inl (by rw [sy]; exact z)
  ·exact .inr ⟨r,hr,n1,n2,by rw [sy]; exact a1,by rw [sy]; exact a2⟩
theorem mapped_of {ws us g:List Nat} (W:Web ws) (hl:us.length=ws.length) (hg:g.Perm (List.range ws.length)) (h:∀ a c,bit us a c=true ↔ ∃ i j,i < ws.length/\j < ws.length/\g.getD i 0=a/\g.getD j 0=c/\bit ws i j=true):Web us/\Mapped ws us g:=by
 have gl:g.length=ws.length:=by rw [hg.length_eq,List.length_range]
 have gnd:g.Nodup:=hg.nodup_iff.mpr List.nodup_range
 have glt:∀ i,i < ws.length->g.getD i 0 < ws.length:=fun i hi=>by
  have hi':i < g.length:=by omega
  have:g.getD i 0 ∈ g:=by
   rw [List.getD_eq_getElem?_getD,List.getElem?_eq_getElem hi']
   exact List.getElem_mem hi'
  exact List.mem_range.mp (hg.mem_iff.mp this)
 have ginj:∀ i j,i < ws.length->j < ws.length->g.getD i 0=g.getD j 0->i=j:=by
  have nm:((List.range g.length).map fun i=>g.getD i 0).Nodup:=by rw [map_range_getD]; exact gnd
  intro i j hi hj e
  exact inj_of nm i (List.mem_range.mpr (by omega)) j (List.mem_range.mpr (by omega)) e
 have all:∀ i j,i < ws.length->j < ws.length->bit ws i j=bit us (g.getD i 0) (g.getD j 0):=fun i j hi hj=>by
  rw [Bool.eq_iff_iff,h]
  constructor
  ·intro z
   exact ⟨i,j,hi,hj,rfl,rfl,z⟩
  ·rintro ⟨i',j',hi',hj',e1,e2,z⟩
   rw [<- ginj i' i hi' hi e1,<- ginj j' j hj' hj e2]
   exact z
 refine ⟨⟨by rw [hl]; exact W.pos,by rw [hl]; exact W.le,fun i=>?_,fun i=>?_,fun i j=>?_⟩,⟨gl,by rw [hl]; exact hg,fun i j hji hi=>all i j hi (by omega)⟩⟩
 ·rw [hl]
  apply Nat.lt_pow_two_of_testBit
  intro j hj
  cases q:(us.getD i 0).testBit j with
  | false=>rfl
  | true =>
   obtain ⟨i',j',_,hj',_,e2,_⟩:=(h i j).mp q
   have:=glt j' hj'
   omega
 ·cases q:bit us i i with
  | false=>rfl
  | true =>
   obtain ⟨i',j',hi',hj',e1,e2,z⟩:=(h i i).mp q
   have:=ginj i' j' hi' hj' (e1.trans e2.symm)
   subst this
   rw [W.irr] at z
   cases z
 ·rw [Bool.eq_iff_iff,h,h]
  constructor
  ·rintro ⟨i',j',a1,a2,a3,a4,a5⟩
   exact ⟨j',i',a2,a1,a4,a3,by rw [W.sym]; exact a5⟩
  ·rintro ⟨i',j',a1,a2,a3,a4,a5⟩
   exact ⟨j',i',a2,a1,a4,a3,by rw [W.sym]; exact a5⟩
open Classical in
noncomputable def mapB (ws us g:List Nat):Bool:=decide (Mapped ws us g)
open Classical in
theorem mapB_no {ws us g:List Nat} (h:¬ Mapped ws us g):mapB ws us g=false:=by
 unfold mapB
 exact decide_eq_false h
open Classical in
theorem mapB_yes {ws us g:List Nat} (h:Mapped ws us g):mapB ws us g=true:=by
 unfold mapB
 exact decide_eq_true h
end Bw
set_option maxHeartbeats 4000000
namespace L2
open PySem PySem.Spec PyProof.Rows
def clOf (cells:List (Str × Addr)):List (Str × NameKind)->List (Str × Addr)->List (Str × Addr)
 | [],acc=>acc
 | (n,k)::r,acc=>if k == .free then clOf cells r ((n,(cells.lookup n).getD 0)::acc) else clOf cells r acc
theorem forIn_clOf {env:Env} (f:Str × NameKind->List (Str × Addr)->Sem (ForInStep (List (Str × Addr))))
  (hf:∀ n k cs,f (n,k) cs=if k == .free then (cellOf env n >>= fun a=>pure (.yield ((n,a)::cs))) else pure (.yield cs)) :
  ∀ (names:List (Str × NameKind)) (acc:List (Str × Addr)),(∀ y ∈ names,y.2=.free->∃ c,env.cells.lookup y.1=some c)->forIn names acc f=pure (clOf env.cells names acc)
 | [],acc,_=>rfl
 | (n,k)::r,acc,h=>by
  rw [List.forIn_cons,hf]
  unfold clOf
  by_cases hk:(k == NameKind.free)=true
  ·obtain ⟨c,hc⟩:=h (n,k) List.mem_cons_self (by simpa using hk)
   have e:cellOf env n=pure c:=by unfold cellOf; rw [hc]
   have hc':List.lookup n env.cells=some c:=hc
   rw [if_pos hk,if_pos hk,e,pure_bind,pure_bind,hc']
   exact forIn_clOf f hf r _ fun y hy=>h y (List.mem_cons_of_mem _ hy)
  ·rw [if_neg hk,if_neg hk,pure_bind]
   exact forIn_clOf f hf r _ fun y hy=>h y (List.mem_cons_of_mem _ hy)
theorem closure_eq {env:Env} {scope:Scope} (h:∀ y ∈ scope.names,y.2=.free->∃ c,env.cells.lookup y.1=some c):closureFor scope env=pure (clOf env.cells scope.names []):=by
 simp only [closureFor]
 rw [forIn_clOf (env:=env) _ (fun n k cs=>by cases hk:k == NameKind.free <;> simp [hk]) scope.names [] h]
 simp
theorem lookup_cons' {α:Type} (x n:Str) (v:α) (l:List (Str × α)):((n,v)::l).lookup x=if x=n then some v else l.lookup x:=by
 rw [List.lookup_cons]
 by_cases h:x=n
 ·subst h; simp
 ·have hb:(x == n)=false:=beq_eq_false_iff_ne.mpr h
  simp only [hb,h,if_false]
theorem clOf_look {cells:List (Str × Addr)}:∀ (names:List (Str × NameKind)) (acc:List (Str × Addr)),(∀ y ∈ names,y.2=.free->∃ c,cells.lookup y.1=some c) ->
  (∀ x c,acc.lookup x=some c->cells.lookup x=some c)->∀ x c,(clOf cells names acc).lookup x=some c->cells.lookup x=some c
 | [],acc,_,ha,x,c,h=>ha x c h
 | (n,k)::r,acc,hn,ha,x,c,h=>by
  unfold clOf at h
  by_cases hk:(k == NameKind.free)=true
  ·rw [if_pos hk] at h
   obtain ⟨d,hd⟩:=hn (n,k) List.mem_cons_self (by simpa using hk)
   refine clOf_look r _ (fun y hy=>hn y (List.mem_cons_of_mem _ hy)) (fun y e hy=>?_) x c h
   rw [lookup_cons'] at hy
   split at hy
   ·rename_i q
    subst q
    have hd':List.lookup y cells=some d:=hd
    rw [hd'] at hy ⊢
    exact hy
   ·exact ha y e hy
  ·rw [if_neg hk] at h
   exact clOf_look r acc (fun y hy=>hn y (List.mem_cons_of_mem _ hy)) ha x c h
theorem clOf_has {cells:List (Str × Addr)} {x:Str}:∀ (names:List (Str × NameKind)) (acc:List (Str × Addr)),((x,NameKind.free) ∈ names\/(acc.lookup x).isSome=true)->((clOf cells names acc).lookup x).isSome=true
 | [],acc,h=>by
  rcases h with h | h
  ·cases h
  ·exact h
 | (n,k)::r,acc,h=>by
  unfold clOf
  by_cases hk:(k == NameKind.free)=true
  ·rw [if_pos hk]
   refine clOf_has r _ ?_
   rw [lookup_cons']
   rcases h with h | h
   ·rcases List.mem_cons.mp h with e | h
    ·cases e; right; simp
    ·exact .inl h
   ·right
    split
    ·rfl
    ·exact h
  ·rw [if_neg hk]
   refine clOf_has r _ ?_
   rcases h with h | h
   ·rcases List.mem_cons.mp h with e | h
    ·cases e; simp at hk
    ·exact .inl h
   ·exact .inr h
theorem cellsFrom_append:∀ (names:List (Str × NameKind)) (n:Nat) (acc:List (Str × Addr)),cellsFrom n names acc=cellsFrom n names [] ++ acc
 | [],_,_=>rfl
 | (x,k)::r,n,acc=>by
  unfold cellsFrom
  split
  ·rw [cellsFrom_append r (n + 1) ((x,n)::acc),cellsFrom_append r (n + 1) [(x,n)]]
   simp
  ·exact cellsFrom_append r n acc
theorem cellsFrom_mem:∀ (names:List (Str × NameKind)) (n:Nat) (acc:List (Str × Addr)) (x:Str) (c:Addr),(x,c) ∈ cellsFrom n names acc->(x,c) ∈ acc\/((x,NameKind.cell) ∈ names/\n <= c)
 | [],_,_,_,_,h=>.inl h
 | (y,k)::r,n,acc,x,c,h=>by
  unfold cellsFrom at h
  by_cases hk:(k == NameKind.cell)=true
  ·rw [if_pos hk] at h
   have hk':k=.cell:=by simpa using hk
   rcases cellsFrom_mem r (n + 1) _ x c h with z | ⟨z,l⟩
   ·rcases List.mem_cons.mp z with e | z
    ·cases e; exact .inr ⟨by rw [hk']; exact List.mem_cons_self,Nat.le_refl _⟩
    ·exact .inl z
   ·exact .inr ⟨List.mem_cons_of_mem _ z,Nat.le_of_succ_le l⟩
  ·rw [if_neg hk] at h
   rcases cellsFrom_mem r n _ x c h with z | ⟨z,l⟩
   ·exact .inl z
   ·exact .inr ⟨List.mem_cons_of_mem _ z,l⟩
theorem relabel_look (sc:Scope) (env:Env) (x:Str):(relabel sc env).names.lookup x=(sc.names.lookup x).map fun k=>if (k == NameKind.free && env.scope.kind == .function && env.kindOf x == some .cell)=true then .cell else k:=by
 show (sc.names.map fun (n,k)=>if (k == NameKind.free && env.scope.kind == .function && env.kindOf n == some .cell) then (n,NameKind.cell) else (n,k)).lookup x=_
 induction sc.names with
 | nil=>rfl
 | cons p r ih =>
  obtain ⟨n,k⟩:=p
  have ec:(if (k == NameKind.free && env.scope.kind == .function && env.kindOf n == some .cell)=true then (n,NameKind.cell) else (n,k))=(n,if (k == NameKind.free && env.scope.kind == .function && env.kindOf n == some .cell)=true then NameKind.cell else k):=by
   split <;> rfl
  show ((if (k == NameKind.free && env.scope.kind == .function && env.kindOf n == some .cell)=true then (n,NameKind.cell) else (n,k))::r.map _).lookup x=_
  rw [ec,lookup_cons',lookup_cons']
  by_cases hx:x=n
  ·subst hx
   rw [if_pos rfl,if_pos rfl,Option.map_some]
  ·rw [if_neg hx,if_neg hx]
   exact ih
theorem newEnv_comp {M:Model} {A:Around} {E:Value->Shared->Prop} {s:Shared} {scope:Scope} {env:Env} {cl:List (Str × Addr)} {Q:Env->Shared->Prop}
  (h:Q { scope:=scope,locals:=s.heap.objs.size,globals:=env.globals,cells:=cellsFrom (s.heap.objs.size + 1) scope.names cl,qual:=env.qual,func:=none,code:=env.code,frame:=env.frame,builtins:=env.builtins }
   { s with heap:=pushCells (s.heap.push { cls:=.type "dict",data:=.dict #[] }) scope.names }) :
  wpAny M A (newFunctionEnv scope env.globals cl [] env.qual none .none (some env)) Q E s:=by
 simp only [newFunctionEnv,Option.isSome_some,if_true]
 refine wpAny_bind (wpAny_alloc ?_)
 refine wpAny_bind (wpAny_layCells _ (fun name kind cells=>by cases hkc:kind == NameKind.cell <;> simp [hkc]) _ _ _ _ ?_)
 rw [show ({ s with heap:=s.heap.push { cls:=.type "dict",data:=.dict #[] } }:Shared).heap.objs.size=s.heap.objs.size + 1 from Heap.size_push ..]
 exact wpAny_bind (wpAny_pure (wpAny_pure h))
section
variable {prog:Program} {w:World} {A:Around} {R:Result->Shared->Prop} {s:Shared}
theorem compLoop_own {elt target iter:Expr} {ifs:List Expr} {scope:Scope} {pos:Pos} {it acc:Value} {env:Env} (I:Nat->Shared->Prop)
  (turn:∀ n s,I n s->wpAny (model prog w) A (pyNext it) (fun r s₁=>match r with
   | none=>R (.ok .next) s₁
   | some v=>wpAny (model prog w) A (letOwnedTupleGo target it v) (fun _ s'=>wpAny (model prog w) A (assign target env v) (fun _ s₂ =>
     wpAny (model prog w) A (forIn ifs true fun c r=>if r=true then do let ok <- isTrue c env (eval c env); pure (ForInStep.yield ok) else pure (ForInStep.yield r)) (fun ok s₃ =>
      if ok=true then wpAny (model prog w) A (eval elt env) (fun x s₄ =>
       wpAny (model prog w) A (call (.builtin "list.append") [acc,x]) (fun _ s₅=>∃ m,m < n/\I m s₅) (fun _ _=>False) s₄) (fun _ _=>False) s₃
      else ∃ m,m < n/\I m s₃) (fun _ _=>False) s₂) (fun _ _=>False) s') (fun _ _=>False) s₁) (fun _ _=>False) s)
  (n:Nat) (h:I n s) :
  codeAny (model prog w) A (.compLoop (.ListComp elt [⟨target,iter,ifs,0⟩] scope pos) 0 it acc env) R s:=by
 refine codeAny_loop rfl I (fun n s hI=>?_) n h
 show wpAny _ A ((compTurn (.ListComp elt [⟨target,iter,ifs,0⟩] scope pos) 0 it acc env).onRaise (fun x=>do noteFrame x env; theTreesLotGoes x)) _ _ s
 refine wpAny_noted ?_
 rw [compTurn_list]
 refine wpAny_bind (wpAny_standAt (wpAny_bind (wpAny_mono (turn n s hI) (fun r s₁ h₁=>?_) fun _ _ h'=>h'.elim)))
 cases r with
 | none=>exact wpAny_pure h₁
 | some v =>
  refine wpAny_bind (wpAny_mono h₁ (fun _ s' h'=>?_) fun _ _ h'=>h'.elim)
  refine wpAny_bind (wpAny_mono h' (fun _ s₂ h₂=>wpAny_bind (wpAny_mono h₂ (fun ok s₃ h₃=>?_) fun _ _ h'=>h'.elim)) fun _ _ h'=>h'.elim)
  cases ok with
  | false=>exact wpAny_pure ⟨rfl,h₃⟩
  | true =>
   exact wpAny_bind (wpAny_bind (wpAny_mono h₃ (fun x s₄ h₄=>wpAny_bind (wpAny_mono h₄ (fun _ s₅ h₅=>wpAny_pure (wpAny_pure ⟨rfl,h₅⟩)) fun _ _ h'=>h'.elim)) fun _ _ h'=>h'.elim))
end
structure CScope (NX:List Str) (sx sc:Scope) (N':List Str) (ix:List Nat):Prop where
 kind:sc.kind=.function
 loc:∀ x ∈ sc.names,x.2=.local->sc.names.lookup x.1=some .local
 cel:∀ x ∈ sc.names,x.2=.cell->sc.names.lookup x.1=some .cell
 nd:N'.Nodup
 len:ix.length <= N'.length
 cap:∀ p ∈ ix.zip N',NX[p.1]? = some p.2/\sc.names.lookup p.2=some .free
 free:∀ y ∈ sc.names,y.2=.free->sx.names.lookup y.1=some .cell\/sx.names.lookup y.1=some .free
def blockSt (N':List Str) (ix:List Nat) (σ:St):St:=ix.map (fun j=>(σ[j]?).getD none) ++ List.replicate (N'.length - ix.length) none
def cxComp (X:Cx) (sc:Scope) (N':List Str) (fp:List Addr) (C:Addr) (s:Shared) (H:Hp):Cx :=
 { X with N:=N',s₀:=s,H₀:=H,env:=compEnvC sc (cellsFrom (C + 1) sc.names (clOf X.env.cells sc.names [])) C X.env,outer:=X.stack,ex:=fp,fn:=fun x=>sc.names.lookup x == some .cell,pn:=[],xe:=fun _ _=>False }
section
variable {X:Cx} {pins:List (Addr × Obj)} {σ:St} {H2:Hp} {s2:Shared} {sc:Scope} {N':List Str} {ix:List Nat} {fp:List Addr} {C:Addr}
theorem cap_at (S:CScope X.N X.env.scope sc N' ix) {i:Nat} {x:Str} {v:V} (e1:N'[i]? = some x) (e2:(blockSt N' ix σ)[i]? = some (some v)) :
  ∃ j:Nat,σ[j]? = some (some v)/\X.N[j]? = some x/\sc.names.lookup x=some .free:=by
 unfold blockSt at e2
 by_cases hi:i < ix.length
 ·rw [List.getElem?_append_left (by simpa using hi),List.getElem?_map,List.getElem?_eq_getElem hi] at e2
  have e3:(σ[ix[i]]?).getD none=some v:=Option.some.inj e2
  have hm:(ix[i],x) ∈ ix.zip N':=by
   rw [List.mem_iff_getElem?]
   refine ⟨i,?_⟩
   rw [List.getElem?_zip_eq_some]
   exact ⟨List.getElem?_eq_getElem hi,e1⟩
  obtain ⟨a,b⟩:=S.cap _ hm
  refine ⟨ix[i],?_,a,b⟩
  cases q:σ[ix[i]]? with
  | none=>rw [q] at e3; cases e3
  | some o=>rw [q] at e3; exact congrArg some e3
 ·rw [List.getElem?_append_right (by simpa using hi),List.getElem?_replicate] at e2
  split at e2 <;> cases e2
theorem free_has (I2:Inv X pins σ H2 s2) (S:CScope X.N X.env.scope sc N' ix):∀ y ∈ sc.names,y.2=.free->∃ c,X.env.cells.lookup y.1=some c:=fun y hy hf =>
 I2.ok.has y.1 (S.free y hy hf)
theorem cells_split (I2:Inv X pins σ H2 s2) (S:CScope X.N X.env.scope sc N' ix) {x:Str} {c:Addr} (h:(cellsFrom (C + 1) sc.names (clOf X.env.cells sc.names [])).lookup x=some c) :
  ((x,c) ∈ cellsFrom (C + 1) sc.names []/\C + 1 <= c)\/X.env.cells.lookup x=some c:=by
 rw [cellsFrom_append,List.lookup_append] at h
 cases q:(cellsFrom (C + 1) sc.names []).lookup x with
 | some d =>
  rw [q] at h
  have e:d=c:=Option.some.inj h
  subst e
  have hm:=PySem.mem_of_lookup q
  rcases cellsFrom_mem _ _ _ _ _ hm with z | z
  ·cases z
  ·exact .inl ⟨hm,z.2⟩
 | none =>
  rw [q] at h
  exact .inr (clOf_look sc.names [] (free_has I2 S) (fun x c h=>by cases h) x c h)
theorem cells_free (I2:Inv X pins σ H2 s2) (S:CScope X.N X.env.scope sc N' ix) {x:Str} {c:Addr} (hx:sc.names.lookup x=some .free) (hc:X.env.cells.lookup x=some c) :
  (cellsFrom (C + 1) sc.names (clOf X.env.cells sc.names [])).lookup x=some c:=by
 rw [cellsFrom_append,List.lookup_append]
 cases q:(cellsFrom (C + 1) sc.names []).lookup x with
 | some d =>
  rcases cellsFrom_mem _ _ _ _ _ (PySem.mem_of_lookup q) with z | z
  ·cases z
  ·have:=S.cel _ z.1 rfl
   rw [hx] at this
   cases this
 | none =>
  have h1:=clOf_has (cells:=X.env.cells) sc.names [] (.inl (PySem.mem_of_lookup hx))
  obtain ⟨d,hd⟩:=Option.isSome_iff_exists.mp h1
  have h2:=clOf_look sc.names [] (free_has I2 S) (fun x c h=>by cases h) x d hd
  rw [hc] at h2
  rw [hd,<- h2]
  rfl
theorem comp_loc (I2:Inv X pins σ H2 s2) (S:CScope X.N X.env.scope sc N' ix) {H':Hp} {h':Heap} (u:Un (frs X.stack) fp H2 H' s2.heap h') (hf:∀ b ∈ fp,FpOk X pins H2 b) {m:Str->Option Value} :
  ∀ (i:Nat) (x:Str) (v:V),N'[i]? = some x->(blockSt N' ix σ)[i]? = some (some v)->∃ u,RelV v u/\Look (compEnvC sc (cellsFrom (C + 1) sc.names (clOf X.env.cells sc.names [])) C X.env) h' m x u:=by
 intro i x v e1 e2
 obtain ⟨j,a1,a2,a3⟩:=cap_at (σ:=σ) S e1 e2
 have hk:X.env.scope.names.lookup x=some .cell\/X.env.scope.names.lookup x=some .free:=S.free _ (PySem.mem_of_lookup a3) rfl
 obtain ⟨m0,hn0,hl⟩:=I2.loc
 obtain ⟨u0,r,l⟩:=hl j x v a2 a1 (.inr hk)
 refine ⟨u0,r,.inr ⟨?_,?_⟩⟩
 ·show (relabel sc X.env).names.lookup x=some .cell\/(relabel sc X.env).names.lookup x=some .free
  rw [relabel_look,a3,Option.map_some]
  split
  ·exact .inl rfl
  ·exact .inr rfl
 ·rcases l with ⟨k,_⟩ | ⟨k,c,hc,o,ho,hd⟩
  ·have k':X.env.scope.names.lookup x=some .local:=k
   rcases hk with z | z <;> rw [z] at k' <;> cases k'
  ·refine ⟨c,cells_free I2 S a3 hc,?_⟩
   have nfp:c ∉ fp:=fun z=>(hf c z).2.2.2.2.1 x c hc rfl
   obtain ⟨sl,q⟩:=u.any ho (I2.freeC x c hc) nfp
   exact ⟨_,q,hd⟩
theorem blockSt_len (S:CScope X.N X.env.scope sc N' ix):(blockSt N' ix σ).length=N'.length:=by
 unfold blockSt
 have:=S.len
 rw [List.length_append,List.length_map,List.length_replicate]
 omega
theorem comp_reset (I2:Inv X pins σ H2 s2) (S:CScope X.N X.env.scope sc N' ix) (hf:∀ b ∈ fp,FpOk X pins H2 b) {pins':List (Addr × Obj)} {σ':St} {H':Hp} {s':Shared}
  (I':Inv (cxComp X sc N' fp C s2 H2) pins' σ' H' s'):Inv (cxComp X sc N' fp C s2 H2) pins' (blockSt N' ix σ) H' s' :=
 ⟨I'.ok,I'.os,I'.bare,I'.base,let ⟨m,hn,_⟩:=I'.loc; ⟨m,hn,fun i x v e1 e2 _=>comp_loc I2 S I'.base hf i x v e1 e2⟩,I'.cell,I'.free,I'.freeC,I'.pin,I'.hok,blockSt_len S⟩
theorem comp_start (I2:Inv X pins σ H2 s2) (S:CScope X.N X.env.scope sc N' ix) (hf:∀ b ∈ fp,FpOk X pins H2 b) (ho:∀ b ∈ fp,b < s2.heap.objs.size) :
  Inv (cxComp X sc N' fp (s2.heap.objs.size + 1) s2 H2) [(s2.heap.objs.size,{ cls:=.type "list",data:=.seq ([]:List Value).toArray })] (blockSt N' ix σ) H2
   { s2 with heap:=pushCells ((s2.heap.push { cls:=.type "list",data:=.seq ([]:List Value).toArray }).push { cls:=.type "dict",data:=.dict #[] }) sc.names }:=by
 have z1:(s2.heap.push { cls:=.type "list",data:=.seq ([]:List Value).toArray }).objs.size=s2.heap.objs.size + 1:=Heap.size_push ..
 have z2:((s2.heap.push { cls:=.type "list",data:=.seq ([]:List Value).toArray }).push { cls:=.type "dict",data:=.dict #[] }).objs.size=s2.heap.objs.size + 1 + 1:=by rw [Heap.size_push,z1]
 have keep:∀ b o,s2.heap.get? b=some o->(pushCells ((s2.heap.push { cls:=.type "list",data:=.seq ([]:List Value).toArray }).push { cls:=.type "dict",data:=.dict #[] }) sc.names).get? b=some o:=fun b o e =>
  pushCells_keeps _ _ b o (Heap.get?_push_of_some _ (Heap.get?_push_of_some _ e))
 have hD:(pushCells ((s2.heap.push { cls:=.type "list",data:=.seq ([]:List Value).toArray }).push { cls:=.type "dict",data:=.dict #[] }) sc.names).get? s2.heap.objs.size=some { cls:=.type "list",data:=.seq ([]:List Value).toArray } :=
  pushCells_keeps _ _ _ _ (Heap.get?_push_of_some _ (Heap.get?_push_size _ rfl))
 have ok:=cellsFrom_ok sc.names ((s2.heap.push { cls:=.type "list",data:=.seq ([]:List Value).toArray }).push { cls:=.type "dict",data:=.dict #[] }) (s2.heap.objs.size + 1 + 1) [] ⟨fun _ _ hm=>(nomatch hm),List.Pairwise.nil⟩ (by rw [z2]; exact Nat.le_refl _)
 rw [z2] at ok
 have ns:(pushCells ((s2.heap.push { cls:=.type "list",data:=.seq ([]:List Value).toArray }).push { cls:=.type "dict",data:=.dict #[] }) sc.names).Ns (s2.heap.objs.size + 1) (fun _=>none):=by
  have:=(Heap.Ns.new (s2.heap.push { cls:=.type "list",data:=.seq ([]:List Value).toArray }) (.type "dict")).keeps (pushCells_keeps sc.names _)
  rw [z1] at this
  exact this
 have lt:∀ x c,X.env.cells.lookup x=some c->c < s2.heap.objs.size:=fun x c e=>by
  obtain ⟨v,q⟩:=I2.cell x c e
  exact q.lt
 refine ⟨⟨I2.ok.mod,S.kind,I2.ok.glob,I2.ok.blt,Nat.le_succ _,fun x y c h1 h2=>?_,fun x hx=>?_,fun x c hx h=>?_,I2.ok.hd,I2.ok.frames,.inl rfl,fun b hb=>⟨?_,fun x c h z=>?_⟩,I2.bs,Nat.le_trans I2.ok.bsz I2.sz,fun b o e hb=>?_,fun b hb z=>?_,I2.stack,I2.stkFree⟩,
  rfl,I2.bare,Un.kept keep,⟨_,ns,fun i x v e1 e2 _=>comp_loc I2 S (Un.kept keep) hf i x v e1 e2⟩,fun x c h=>?_,I2.hok.fresh (Nat.le_succ _),fun x c h=>?_,fun p hp=>?_,I2.hok.kept keep,blockSt_len S⟩
 ·rcases cells_split I2 S h1 with ⟨m1,l1⟩ | e1 <;> rcases cells_split I2 S h2 with ⟨m2,l2⟩ | e2
  ·exact name_of_addr ok.apart m1 m2
  ·exact absurd (lt _ _ e2) (Nat.not_lt.mpr (Nat.le_trans (Nat.le_add_right _ 2) l1))
  ·exact absurd (lt _ _ e1) (Nat.not_lt.mpr (Nat.le_trans (Nat.le_add_right _ 2) l2))
  ·exact I2.ok.inj x y c e1 e2
 ·have hx':(relabel sc X.env).names.lookup x=some .cell\/(relabel sc X.env).names.lookup x=some .free:=hx
  rw [relabel_look] at hx'
  cases q:sc.names.lookup x with
  | none=>rw [q] at hx'; rcases hx' with z | z <;> cases z
  | some k =>
   rw [q,Option.map_some] at hx'
   by_cases hf':k=.free
   ·subst hf'
    obtain ⟨c,hc⟩:=free_has I2 S _ (PySem.mem_of_lookup q) rfl
    exact ⟨c,cells_free I2 S q hc⟩
   ·have hk:(k == NameKind.free && X.env.scope.kind == .function && X.env.kindOf x == some .cell)=false:=by
     have:(k == NameKind.free)=false:=by simpa using hf'
     rw [this]; rfl
    rw [hk] at hx'
    simp only [Bool.false_eq_true,if_false,Option.some.injEq] at hx'
    have hc:k=.cell:=by
     rcases hx' with z | z
     ·exact z
     ·exact absurd z hf'
    subst hc
    exact Option.isSome_iff_exists.mp (PySem.W.cellsFrom_some sc.names _ _ (.inl q))
 ·have hx2:(sc.names.lookup x == some NameKind.cell)=true:=hx
  have hx':sc.names.lookup x=some .cell:=by simpa using hx2
  rcases cells_split I2 S h with ⟨_,l⟩ | e
  ·exact Nat.le_trans (Nat.le_add_right _ 2) l
  ·exfalso
   have h1:((cellsFrom (s2.heap.objs.size + 1 + 1) sc.names []).lookup x).isSome=true:=PySem.W.cellsFrom_some sc.names _ _ (.inl hx')
   obtain ⟨d,hd⟩:=Option.isSome_iff_exists.mp h1
   have h2:(cellsFrom (s2.heap.objs.size + 1 + 1) sc.names (clOf X.env.cells sc.names [])).lookup x=some d:=by
    rw [cellsFrom_append,List.lookup_append,hd]; rfl
   have h3:(cellsFrom (s2.heap.objs.size + 1 + 1) sc.names (clOf X.env.cells sc.names [])).lookup x=some c:=h
   rw [h2] at h3
   cases h3
   rcases cellsFrom_mem _ _ _ _ _ (PySem.mem_of_lookup hd) with z | z
   ·cases z
   ·exact absurd (lt x _ e) (Nat.not_lt.mpr (Nat.le_trans (Nat.le_add_right _ 2) z.2))
 ·show b ≠ s2.heap.objs.size + 1
  exact Nat.ne_of_lt (Nat.lt_succ_of_lt (ho b hb))
 ·subst z
  rcases cells_split I2 S h with ⟨_,l⟩ | e
  ·exact absurd (ho _ hb) (Nat.not_lt.mpr (Nat.le_trans (Nat.le_add_right _ 2) l))
  ·exact (hf _ hb).2.2.2.2.1 x _ e rfl
 ·rcases (hf b hb).2.2.2.1 with z | z
  ·exact I2.ok.noex b o e z
  ·exact absurd (Nat.lt_of_lt_of_le (Heap.lt_size e) (Nat.le_trans I2.ok.bsz z)) (Nat.lt_irrefl _)
 ·rcases List.mem_cons.mp (I2.stkSub b z) with e | e
  ·exact (hf b hb).2.1 e
  ·exact (hf b hb).2.2.1 e
 ·rcases cells_split I2 S h with ⟨m1,l⟩ | e
  ·exact ⟨_,(ok.empty x c m1).1⟩
  ·obtain ⟨v,q⟩:=I2.cell x c e
   exact ⟨v,q.keeps keep⟩
 ·rcases cells_split I2 S h with ⟨m1,l⟩ | e
  ·exact I2.hok.fresh (Nat.le_trans (Nat.le_add_right _ 2) l)
  ·exact I2.freeC x c e
 ·have e:p=(s2.heap.objs.size,{ cls:=.type "list",data:=.seq ([]:List Value).toArray }):=by simpa [cxComp] using hp
  subst e
  refine ⟨hD,I2.hok.fresh (Nat.le_refl _),?_,fun z=>?_,fun v z=>by cases z⟩
  ·show s2.heap.objs.size ≠ s2.heap.objs.size + 1
   omega
  ·rcases List.mem_cons.mp (I2.stkSub _ z) with e | e
   ·have e':s2.heap.objs.size=X.env.locals:=e
    exact absurd I2.lt (by rw [<- e']; exact Nat.lt_irrefl _)
   ·exact I2.nofs (Nat.le_refl _) e
end
def PIf (X:Cx) (ifs:List Expr) (t:TT):Prop :=
 ∀ (pins:List (Addr × Obj)) (s:Shared) (σ:St) (H:Hp) (Q:Bool->Hp->Prop),Inv X pins σ H s->t σ H Q ->
  wpAny (model X.prog X.w) X.A (forIn ifs true fun c r=>if r=true then do let ok <- isTrue c X.env (eval c X.env); pure (ForInStep.yield ok) else pure (ForInStep.yield r)) (TP X pins σ Q) X.xe s
def tYes:TT:=fun _ H Q=>Q true H
theorem pif_nil {X:Cx}:PIf X [] tYes:=fun _ _ _ H _ I h=>wpAny_tests_nil ⟨H,I,h⟩
theorem pif_one {X:Cx} {c:Expr} {t:TT} (h:PT X c t):PIf X [c] t:=fun pins s σ H Q I hq=>wpAny_tests_one (h pins s σ H Q I hq)
def CDone (Q:VK) (H:Hp) (ys:List V):Prop:=∀ l,H l=none->Q (.ref l) (upd H l (.lst ys))
def tComp (N':List Str) (ix:List Nat) (wi:TI) (g:TG) (tt:TT) (te:TE):TE:=fun σ H Q=>wi σ H fun J H1=>∃ W:Nat->Nat->List V->Hp->Prop,(∃ m,W 0 m [] H1)/\∀ i m ys H,W i m ys H ->
 (J.stop i H/\CDone Q H ys) \/
 (J.go i H/\∀ x H',J.yld i H x H'->g x (blockSt N' ix σ) H' fun σ2 H2=>tt σ2 H2 fun b H3 =>
  if b=true then te σ2 H3 fun y H4=>ys.length < sizeLine/\∃ m',m' < m/\W (i + 1) m' (ys ++ [y]) H4 else ∃ m',m' < m/\W (i + 1) m' ys H3)
theorem HOk.adopt {P:Program} {w:World} {H:Hp} {h h':Heap} {a:Addr} {o:HO} (x:HOk P w H h) (hn:H a=none) (k:∀ b u,H b ≠ none->h.get? b=some u->h'.get? b=some u) (new:ObjOk P w (upd H a o) h' a o):HOk P w (upd H a o) h':=fun b u e=>by
 by_cases hb:b=a
 ·subst hb; rw [upd_same] at e; cases e; exact new
 ·rw [upd_ne hb] at e
  refine (x b u e).stay (fun c v hc q=>k c v ?_ q) (fun c q=>by rw [upd_ne (ne_of_none q hn)]; exact q) fun c xs q=>by rw [upd_ne (ne_of_none q hn)]; exact q
  rcases hc with rfl | hc
  ·rw [e]; exact fun z=>nomatch z
  ·rw [hc]; exact fun z=>nomatch z
section
variable {X:Cx} {pins:List (Addr × Obj)} {σ:St} {H:Hp} {s:Shared} {sc:Scope} {N':List Str} {ix:List Nat} {elt tg iter:Expr} {ifs:List Expr} {pos pos':Pos} {wi:TI} {g:TG} {tt:TT} {te:TE} {Q:VK}
theorem comp_core {use:Option (Value->Sem Unit)} {Qf:Value->Shared->Prop} (hc:X.calm=true) (hi:PI X tg iter wi) (S:CScope X.N X.env.scope sc N' ix)
  (hg:∀ fp C s H,PG (cxComp X sc N' fp C s H) tg g) (hif:∀ fp C s H,PIf (cxComp X sc N' fp C s H) ifs tt) (he:∀ fp C s H,PE (cxComp X sc N' fp C s H) elt te)
  (hs:∀ x,foldedSetIterable iter X.env x=pure x) (I:Inv X pins σ H s) (h:tComp N' ix wi g tt te σ H Q)
  (fin:∀ (D C:Addr) (s':Shared) (H':Hp) (m:Str->Option Value),Inv X pins σ H' s'->Q (.ref D) H'->s'.heap.Ns C m->FpOk X pins H' C->compPost (model X.prog X.w) X.A X.xe use Qf (.ref D) C (.ok .next) s') :
  wpAny (model X.prog X.w) X.A (comprehension (.ListComp elt [⟨tg,iter,ifs,0⟩] sc pos) sc X.env pos' (newList []) false (eval iter X.env) use) Qf X.xe s:=by
 refine wpAny_comprehension_free (use:=use) rfl hs (closure_eq (free_has I S)) S.kind S.loc ?_
 refine thn (hi pins s σ H _ I h) fun v s1 h1=>thn h1 fun itv s2 h2=>?_
 obtain ⟨it,fp,tn,J,H2,e,I2,T,st2,f2,W,⟨m0,w0⟩,turn⟩:=h2
 subst e
 have ho:∀ b ∈ fp,b < s2.heap.objs.size:=fun b hb=>by
  obtain ⟨o,e,_⟩:=T.obj _ _ st2 b hb
  exact Heap.lt_size e
 have z1:(s2.heap.push { cls:=.type "list",data:=.seq ([]:List Value).toArray }).objs.size=s2.heap.objs.size + 1:=Heap.size_push ..
 refine wpAny_newObj_type (newEnv_comp ?_)
 have I0:=comp_start I2 S f2 ho
 have st0:tn 0 (pushCells ((s2.heap.push { cls:=.type "list",data:=.seq ([]:List Value).toArray }).push { cls:=.type "dict",data:=.dict #[] }) sc.names) :=
  T.keep _ _ _ st2 fun b _ o e=>pushCells_keeps _ _ b o (Heap.get?_push_of_some _ (Heap.get?_push_of_some _ e))
 dsimp only
 rw [z1]
 generalize hs4:({ s2 with heap:=pushCells ((s2.heap.push { cls:=.type "list",data:=.seq ([]:List Value).toArray }).push { cls:=.type "dict",data:=.dict #[] }) sc.names }:Shared)=s4 at I0
 have st0':tn 0 s4.heap:=by rw [<- hs4]; exact st0
 have D_C:s2.heap.objs.size ≠ s2.heap.objs.size + 1:=by omega
 have D_cell:∀ x c,(cxComp X sc N' fp (s2.heap.objs.size + 1) s2 H2).env.cells.lookup x=some c->c ≠ s2.heap.objs.size:=fun x c e z=>by
  rcases cells_split I2 S e with ⟨_,l⟩ | e
  ·rw [z] at l
   exact absurd (Nat.le_of_succ_le l) (Nat.not_succ_le_self _)
  ·obtain ⟨v,q⟩:=I2.cell x c e
   have q':=q.lt
   rw [z] at q'
   exact absurd q' (Nat.lt_irrefl _)
 have fpB:∀ {H':Hp} {o:Obj},(∀ b ∈ fp,H' b=none)->∀ b ∈ fp,FpOk (cxComp X sc N' fp (s2.heap.objs.size + 1) s2 H2) [(s2.heap.objs.size,o)] H' b:=fun {H' o} hn b hb=>by
  refine ⟨hn b hb,?_,I0.ok.exfs b hb,.inl hb,fun x c e=>(I0.ok.exf b hb).2 x c e,fun p hp=>?_⟩
  ·exact (I0.ok.exf b hb).1
  ·have e:p=(s2.heap.objs.size,o):=by simpa [cxComp] using hp
   subst e
   exact (Nat.ne_of_lt (ho b hb)).symm
 have loop:codeAny (model X.prog X.w) X.A (.compLoop (.ListComp elt [⟨tg,iter,ifs,0⟩] sc pos) 0 (.ref it) (.ref s2.heap.objs.size) (cxComp X sc N' fp (s2.heap.objs.size + 1) s2 H2).env)
   (compPost (model X.prog X.w) X.A X.xe use Qf (.ref s2.heap.objs.size) (s2.heap.objs.size + 1)) s4:=by
  refine compLoop_own (fun n s'=>∃ i ys H' its nn,Inv (cxComp X sc N' fp (s2.heap.objs.size + 1) s2 H2) [(s2.heap.objs.size,{ cls:=.type "list",data:=.seq (its:List Value).toArray nn })] (blockSt N' ix σ) H' s'/\Vals ys its/\ys.length <= sizeLine/\tn i s'.heap/\(∀ b ∈ fp,H' b=none)/\W i n ys H')
   ?_ m0 ⟨0,[],H2,[],0,I0,.nil,Nat.zero_le _,st0',fun b hb=>(f2 b hb).1,w0⟩
  rintro n s3 ⟨i,ys,H3,its,nn,I3,rv,hz,st3,fr3,w3⟩
  rcases turn i n ys H3 w3 with ⟨stop,qn⟩ | ⟨go,step⟩
  ·refine thn (T.done (cxComp X sc N' fp (s2.heap.objs.size + 1) s2 H2) rfl rfl rfl hc i _ s3 _ H3 (fun _ _=>False) I3 (fpB fr3) st3 stop) fun r s5 ⟨hr,I5⟩=>?_
   subst hr
   obtain ⟨m,ns,_⟩:=I5.loc
   obtain ⟨eD,nD,_⟩:=I5.pin (s2.heap.objs.size,{ cls:=.type "list",data:=.seq its.toArray nn }) (by simp [cxComp])
   have eD':s5.heap.get? s2.heap.objs.size=some { cls:=.type "list",data:=.seq its.toArray nn }:=eD
   have nD':H3 s2.heap.objs.size=none:=nD
   have hok:HOk X.prog X.w (upd H3 s2.heap.objs.size (.lst ys)) s5.heap:=HOk.adopt I5.hok nD' (fun b u _ e=>e) ⟨hz,its,nn,rv,eD'⟩
   have uB:Un (frs X.stack) fp H2 H3 s2.heap s5.heap:=I5.base
   have nD2:H2 s2.heap.objs.size=none:=I2.hok.fresh (Nat.le_refl _)
   have uU:Un (frs X.stack) fp H2 (upd H3 s2.heap.objs.size (.lst ys)) s2.heap s5.heap :=
    ⟨uB.keep,uB.slot,fun b o e n hx=>by rw [upd_ne (Nat.ne_of_lt (Heap.lt_size e))]; exact uB.free b o e n hx,uB.there,
     fun b xs e=>by rw [upd_ne (ne_of_none e nD2)]; exact uB.tups b xs e,fun b o u e=>by rw [upd_ne (ne_of_none e nD2)]; exact uB.frzs b o u e,
     fun b ps e=>by rw [upd_ne (ne_of_none e nD2)]; exact uB.tbls b ps e⟩
   have IX:Inv X pins σ (upd H3 s2.heap.objs.size (.lst ys)) s5:=I2.call' (ch:=fp) I5.os uU hok I5.bare fun b hb=>⟨(f2 b hb).2.2.2.1,(f2 b hb).2.1,(f2 b hb).2.2.2.2.1,(f2 b hb).2.2.2.2.2⟩
   have hCn:H3 (s2.heap.objs.size + 1)=none:=I5.free
   refine fin s2.heap.objs.size (s2.heap.objs.size + 1) s5 _ m IX (qn _ nD') ns ?_
   refine ⟨by rw [upd_ne (Ne.symm D_C)]; exact hCn,?_,?_,.inr (Nat.le_trans I2.sz (Nat.le_succ _)),fun x c e z=>?_,fun p hp z=>?_⟩
   ·exact Nat.ne_of_gt (Nat.lt_succ_of_lt I2.lt)
   ·exact I2.nofs (Nat.le_succ _)
   ·obtain ⟨v,q⟩:=I2.cell x c e
    have q':=q.lt
    rw [z] at q'
    exact absurd q' (Nat.not_lt.mpr (Nat.le_succ _))
   ·have q':=Heap.lt_size (I2.pin p hp).1
    rw [z] at q'
    exact absurd q' (Nat.not_lt.mpr (Nat.le_succ _))
  ·refine thn (T.item (cxComp X sc N' fp (s2.heap.objs.size + 1) s2 H2) rfl rfl rfl hc i _ s3 _ H3 (fun _ _=>False) I3 (fpB fr3) st3 go) fun r s5 ⟨u,hr,h5⟩=>?_
   subst hr
   refine thn h5 fun _ s6 ⟨x,H6,I6,r6,y6,st6,fr6⟩=>?_
   have I6':=I6.pinned (fpB fr6) (T.obj _ _ st6)
   refine thn (hg fp _ s2 H2 _ s6 _ H6 x u _ I6' r6 (step x H6 y6)) fun _ s7 ⟨σ7,H7,I7,q7⟩=>?_
   refine thn (hif fp _ s2 H2 _ s7 σ7 H7 _ I7 q7) fun b s8 ⟨H8,I8,q8⟩=>?_
   have keepSt:∀ {σ9:St} {H9:Hp} {s9:Shared},Inv (cxComp X sc N' fp (s2.heap.objs.size + 1) s2 H2) ([(s2.heap.objs.size,{ cls:=.type "list",data:=.seq its.toArray nn })] ++ pinsAt fp s6.heap) σ9 H9 s9 ->
     tn (i + 1) s9.heap/\∀ b ∈ fp,H9 b=none:=fun {σ9 H9 s9} I9=>by
    refine ⟨T.keep _ _ _ st6 fun b hb o e=>(I9.pin (b,o) (List.mem_append_right _ (List.mem_append_right _ (mem_pinsAt hb e)))).1,fun b hb=>?_⟩
    obtain ⟨o,e,d⟩:=T.obj _ _ st6 b hb
    exact (I9.pin (b,o) (List.mem_append_right _ (List.mem_append_right _ (mem_pinsAt hb e)))).2.1
   cases b with
   | false =>
    rw [if_neg Bool.false_ne_true]
    obtain ⟨m',hm,w8⟩:∃ m',m' < n/\W (i + 1) m' ys H8:=q8
    obtain ⟨k1,k2⟩:=keepSt I8
    exact ⟨m',hm,i + 1,ys,H8,its,nn,comp_reset I2 S f2 I8.unpinned,rv,hz,k1,k2,w8⟩
   | true =>
    rw [if_pos rfl]
    refine thn (he fp _ s2 H2 _ s8 σ7 H8 _ I8 q8) fun y s9 ⟨yv,H9,I9,r9,hl9,m',hm,w9⟩=>?_
    obtain ⟨k1,k2⟩:=keepSt I9
    have I9u:=I9.unpinned
    obtain ⟨eD,nD,pD⟩:=I9u.pin (s2.heap.objs.size,{ cls:=.type "list",data:=.seq its.toArray nn }) (by simp [cxComp])
    have eD':s9.heap.get? s2.heap.objs.size=some { cls:=.type "list",data:=.seq its.toArray nn }:=eD
    have nD':H9 s2.heap.objs.size=none:=nD
    have hlen:=rv.length
    refine call_meets F.slot_list_append ⟨_,eD',rfl⟩ F.entry_list_append (F.args_list_append_2 _ _) (PySem.list_append s2.heap.objs.size its.toArray nn y (by rw [List.size_toArray]; omega)) ⟨eD',?_⟩
    have q:=PySem.IsL.update eD' (·.push y)
    have ep:its.toArray.push y=(its ++ [y]).toArray:=by simp
    rw [ep] at q
    have I10:Inv (cxComp X sc N' fp (s2.heap.objs.size + 1) s2 H2) [] σ7 H9 { s9 with heap:=s9.heap.update s2.heap.objs.size (Obj.mapSeq (·.push y)),toks:=s9.toks } :=
     (I9u.pins_of (pins':=[]) (fun p hp=>by cases hp)).turned (it:=s2.heap.objs.size) (fun b o hb e=>(Heap.get?_update_other s9.heap (Obj.mapSeq (·.push y)) (Ne.symm hb)).trans e) nD' D_C (.inr (Nat.le_refl _)) D_cell (fun p hp=>by simp [cxComp] at hp)
    have I11:Inv (cxComp X sc N' fp (s2.heap.objs.size + 1) s2 H2) [(s2.heap.objs.size,{ cls:=.type "list",data:=.seq (its ++ [y]).toArray (if (its ++ [y]).toArray.size == its.toArray.size then nn else nn + 1) })] σ7 H9 { s9 with heap:=s9.heap.update s2.heap.objs.size (Obj.mapSeq (·.push y)),toks:=s9.toks } :=
     I10.pins_of fun p hp=>by
      have e:=List.mem_singleton.mp hp
      subst e
      exact ⟨q,nD',D_C,pD.2.1,fun v z=>by cases z⟩
    refine ⟨m',hm,i + 1,ys ++ [yv],H9,its ++ [y],_,comp_reset I2 S f2 I11,rv.append (.cons r9 .nil),by rw [List.length_append,List.length_singleton]; omega,?_,k2,w9⟩
    exact T.keep _ _ _ k1 fun b hb o e=>(Heap.get?_update_other s9.heap (Obj.mapSeq (·.push y)) (Nat.ne_of_lt (ho b hb)).symm).trans e
 have start:codeAny (model X.prog X.w) X.A (.compStart (.ListComp elt [⟨tg,iter,ifs,0⟩] sc pos) 0 (.ref it) (.ref s2.heap.objs.size) (cxComp X sc N' fp (s2.heap.objs.size + 1) s2 H2).env)
   (compPost (model X.prog X.w) X.A X.xe use Qf (.ref s2.heap.objs.size) (s2.heap.objs.size + 1)) s4 :=
  codeAny_compStart_list loop (T.self X.A 0 s4 _ _ st0' loop)
 exact start
theorem pe_comp (hc:X.calm=true) (hi:PI X tg iter wi) (S:CScope X.N X.env.scope sc N' ix)
  (hg:∀ fp C s H,PG (cxComp X sc N' fp C s H) tg g) (hif:∀ fp C s H,PIf (cxComp X sc N' fp C s H) ifs tt) (he:∀ fp C s H,PE (cxComp X sc N' fp C s H) elt te)
  (hs:∀ x,foldedSetIterable iter X.env x=pure x:=by intro _; rfl) :
  PE X (.ListComp elt [⟨tg,iter,ifs,0⟩] sc pos) (tComp N' ix wi g tt te):=by
 intro pins s σ H Q I h
 rw [eval_ListComp]
 refine comp_core (use:=none) hc hi S hg hif he hs I h fun D C s' H' m I' q ns fc=>?_
 refine ⟨m,ns,fun h' hs'=>⟨.ref D,H',?_,rfl,q⟩⟩
 obtain ⟨c0,c1,c2,c3,c4,c5⟩:=fc
 exact I'.turned (t':=s'.toks) (it:=C) (fun b o hb e=>(hs'.2 b hb).trans e) c0 c1 c3 c4 c5
def nxSet (D:Ends) (σ:St) (i:Nat):VK:=fun v H1=>D.nx (σ.set i (some v)) H1
theorem ps_setComp {i:Nat} {x:Str} {px:Pos} {spos:Pos} (hN:X.N.Nodup) (hx:X.N[i]? = some x) (hxl:X.env.scope.names.lookup x=some .local) (hc:X.calm=true) (hi:PI X tg iter wi) (S:CScope X.N X.env.scope sc N' ix)
  (hg:∀ fp C s H,PG (cxComp X sc N' fp C s H) tg g) (hif:∀ fp C s H,PIf (cxComp X sc N' fp C s H) ifs tt) (he:∀ fp C s H,PE (cxComp X sc N' fp C s H) elt te)
  (hsw:swapsWith (.ListComp elt [⟨tg,iter,ifs,0⟩] sc pos) (some (.Name x px)) spos.line X.env=pure true:=by rfl)
  (hs:∀ x,foldedSetIterable iter X.env x=pure x:=by intro _; rfl) :
  PS X (.Assign [.Name x px] (.ListComp elt [⟨tg,iter,ifs,0⟩] sc pos) spos) (fun D σ H=>tComp N' ix wi g tt te σ H (nxSet D σ i)):=by
 intro pins s σ H D I h
 rw [exec_Assign_Name_used _ _ _ _ hsw]
 refine wpAny_bind (wpAny_standAt (wpAny_bind ?_))
 show wpAny _ X.A (do let _ <- comprehension (.ListComp elt [⟨tg,iter,ifs,0⟩] sc pos) sc X.env _ (newList []) false (eval iter X.env) (some (assign (.Name x px) X.env))) _ _ s
 refine wpAny_bind (thn (comp_core (use:=some (assign (.Name x px) X.env)) (Qf:=fun _ s'=>SP X pins D .next s') hc hi S hg hif he hs I h fun L C s' H' m I' q ns fc=>?_) fun _ s' hq=>wpAny_pure (wpAny_pure hq))
 obtain ⟨c0,c1,c2,c3,c4,c5⟩:=fc
 refine wpAny_assign_Name (store_ok2 I' hN hx (.inl hxl) (v:=.ref L) rfl (fun s3 I3 ⟨a,sb,ha⟩=>?_) (.inr hxl))
 have hCa:C ≠ a:=by
  rcases ha with e | e
  ·rw [e]; exact c1
  ·exact fun z=>c4 _ _ e z.symm
 refine ⟨m,ns.sameBut sb hCa,fun h' hs'=>⟨_,H',?_,q⟩⟩
 exact I3.turned (t':=s3.toks) (it:=C) (fun b o hb e=>(hs'.2 b hb).trans e) c0 c1 c3 c4 c5
end
def Pn (Pv:Nat->List V->Hp->Prop) (n i:Nat) (ys:List V) (H:Hp):Prop:=∃ m',m' < n - i/\(m'=n - (i + 1)/\i + 1 <= n/\ys.length <= i + 1/\Pv (i + 1) ys H)
theorem Pn.mk {Pv:Nat->List V->Hp->Prop} {n i:Nat} {ys:List V} {H:Hp} (hi:i < n) (hl:ys.length <= i + 1) (h:Pv (i + 1) ys H):Pn Pv n i ys H:=⟨n - (i + 1),by omega,rfl,hi,hl,h⟩
theorem Pn.snoc {Pv:Nat->List V->Hp->Prop} {n i:Nat} {ys:List V} {y:V} {H:Hp} (hi:i < n) (hl:ys.length <= i) (h:Pv (i + 1) (ys ++ [y]) H):Pn Pv n i (ys ++ [y]) H:=.mk hi (by rw [List.length_append,List.length_singleton]; omega) h
theorem comp_range {lo:Int} {n:Nat} {g:TG} {tt:TT} {te:TE} {σ0:St} {H:Hp} {Q:VK} (Pv:Nat->List V->Hp->Prop) (h0:Pv 0 [] H) (hn:n < sizeLine)
  (hs:∀ i ys H,i < n->Pv i ys H->ys.length <= i->ys.length < sizeLine->g (.int (lo + i)) σ0 H fun σ2 H2=>tt σ2 H2 fun b H3=>if b=true then te σ2 H3 fun y H4=>ys.length < sizeLine/\Pn Pv n i (ys ++ [y]) H4 else Pn Pv n i ys H3)
  (hd:∀ ys H,Pv n ys H->ys.length <= n->∀ l,H l=none->Q (.ref l) (upd H l (.lst ys))) :
  ∃ W:Nat->Nat->List V->Hp->Prop,(∃ m,W 0 m [] H)/\∀ i m ys H,W i m ys H ->
   ((Itr lo n).stop i H/\CDone Q H ys) \/
   ((Itr lo n).go i H/\∀ x H',(Itr lo n).yld i H x H'->g x σ0 H' fun σ2 H2=>tt σ2 H2 fun b H3 =>
    if b=true then te σ2 H3 fun y H4=>ys.length < sizeLine/\∃ m',m' < m/\W (i + 1) m' (ys ++ [y]) H4 else ∃ m',m' < m/\W (i + 1) m' ys H3):=by
 refine ⟨fun i m ys H=>m=n - i/\i <= n/\ys.length <= i/\Pv i ys H,⟨n,by simp,Nat.zero_le _,Nat.le_refl _,h0⟩,?_⟩
 rintro i m ys H ⟨rfl,hi,hl,p⟩
 by_cases hlt:i < n
 ·refine .inr ⟨hlt,fun x H' y=>?_⟩
  obtain ⟨e,y⟩:=y
  subst e y
  exact hs i ys _ hlt p hl (by omega)
 ·have e:i=n:=by omega
  subst e
  exact .inl ⟨Nat.le_refl _,hd ys H p hl⟩
theorem comp_list {K:PySem.W.Frag} {a:Addr} {xs:List V} {g:TG} {tt:TT} {te:TE} {σ0:St} {H:Hp} {Q:VK} (Pv:Nat->List V->Hp->Prop) (h0:Pv 0 [] H) (hn:xs.length < sizeLine) (hl:∀ i ys H,i <= xs.length->Pv i ys H->SqL K H a xs)
  (hs:∀ i x ys H,xs[i]? = some x->i < xs.length->Pv i ys H->ys.length <= i->ys.length < sizeLine->g x σ0 H fun σ2 H2=>tt σ2 H2 fun b H3=>if b=true then te σ2 H3 fun y H4=>ys.length < sizeLine/\Pn Pv xs.length i (ys ++ [y]) H4 else Pn Pv xs.length i ys H3)
  (hd:∀ ys H,Pv xs.length ys H->ys.length <= xs.length->∀ l,H l=none->Q (.ref l) (upd H l (.lst ys))) :
  ∃ W:Nat->Nat->List V->Hp->Prop,(∃ m,W 0 m [] H)/\∀ i m ys H,W i m ys H ->
   ((Itl K a).stop i H/\CDone Q H ys) \/
   ((Itl K a).go i H/\∀ x H',(Itl K a).yld i H x H'->g x σ0 H' fun σ2 H2=>tt σ2 H2 fun b H3 =>
    if b=true then te σ2 H3 fun y H4=>ys.length < sizeLine/\∃ m',m' < m/\W (i + 1) m' (ys ++ [y]) H4 else ∃ m',m' < m/\W (i + 1) m' ys H3):=by
 refine ⟨fun i m ys H=>m=xs.length - i/\i <= xs.length/\ys.length <= i/\Pv i ys H,⟨xs.length,by simp,Nat.zero_le _,Nat.le_refl _,h0⟩,?_⟩
 rintro i m ys H ⟨rfl,hi,hyl,p⟩
 have q:=hl i ys H hi p
 by_cases hlt:i < xs.length
 ·refine .inr ⟨⟨xs,xs[i],q,by simp [hlt]⟩,fun x H' y=>?_⟩
  obtain ⟨e,y⟩:=y
  subst e
  exact hs i x ys _ (y xs q) hlt p hyl (by omega)
 ·have e:i=xs.length:=by omega
  subst e
  exact .inl ⟨⟨xs,q,Nat.le_refl _⟩,hd ys H p hyl⟩
theorem wh {Pv:St->Hp->Prop} {μ:St->Hp->Nat} {m:Nat}:∀ σ' H',(Pv σ' H'/\μ σ' H' < m)->∃ m',m' < m/\(m'=μ σ' H'/\Pv σ' H'):=fun _ _ ⟨p,l⟩=>⟨_,l,rfl,p⟩
theorem while_of {c:TT} {tb:TS} {D:Ends} {σ:St} {H:Hp} (Pv:St->Hp->Prop) (μ:St->Hp->Nat) (h0:Pv σ H)
  (hs:∀ σ H,Pv σ H->c σ H fun b H1=>if b=true then ∃ N:St->Hp->Prop,(∀ σ' H',N σ' H'->∃ m',m' < μ σ H/\(m'=μ σ' H'/\Pv σ' H'))/\tb { D with nx:=N,ct:=N,bk:=D.nx } σ H1 else D.nx σ H1):tWhile c tb D σ H:=by
 refine ⟨fun m σ H=>m=μ σ H/\Pv σ H,⟨_,rfl,h0⟩,?_⟩
 rintro m σ H ⟨rfl,p⟩
 exact hs σ H p
end L2
namespace L2
open PySem PySem.Spec PyProof.Rows
def Ite (K:PySem.W.Frag) (a:Addr):It :=
 ⟨fun i H=>∃ xs x,SqL K H a xs/\xs[i]? = some x,fun i H v H'=>∃ t x,v=.ref t/\H t=none/\H'=upd H t (.tup [.int i,x])/\∀ xs,SqL K H a xs->xs[i]? = some x,fun i H=>∃ xs,SqL K H a xs/\xs.length <= i⟩
theorem turn_enum {P:Program} {w:World} {K:PySem.W.Frag} {es:List Expr} {k:Nat} {pos:Pos} (a e it:Addr) (hei:e ≠ it) :
  Turn P w K (.Tuple es k pos) (Ite K a) [e,it] e (fun i h=>(∃ old,IsEnum h e it i old)/\h.IsListIter it a i) where
 mem:=by simp
 obj:=fun i h st b hb=>by
  obtain ⟨⟨old,he⟩,o,ho,c,d⟩:=st
  rcases List.mem_cons.mp hb with z | hb
  ·subst z
   exact ⟨_,he,fun v z=>by cases z⟩
  ·have z:b=it:=by simpa using hb
   subst z
   exact ⟨o,ho,fun v z=>by rw [d] at z; cases z⟩
 keep:=fun i h h' st kp=>⟨let ⟨old,he⟩:=st.1; ⟨old,kp e (by simp) _ he⟩,st.2.at fun o z=>kp it (by simp) o z⟩
 item:=by
  intro X hP hw hK hc i pins s σ H E I hf st hg
  subst hP hw hK
  obtain ⟨xs,x,hq,hx⟩:=hg
  obtain ⟨its,rv,p,hz⟩:=I.list hq
  obtain ⟨u,hu,ru⟩:=rv.get hx
  obtain ⟨⟨old,he⟩,hit⟩:=st
  obtain ⟨e0,e1,e2,e3,e4,e5⟩:=hf e (by simp)
  obtain ⟨i0,i1,i2,i3,i4,i5⟩:=hf it (by simp)
  refine wpAny_pyNext_enum_item he hit p.isList (x:=u) (by simpa using hu) hei fun h' ho hit' hT hsz hk=>?_
  refine ⟨_,rfl,wpAny_letOwnedTupleGo_enum ho fun h2 he2 hs2=>?_⟩
  replace hs2:Heap.SameBut e h' h2:=hs2
  have hT0:H s.heap.objs.size=none:=I.hok.fresh (Nat.le_refl _)
  have eT:e ≠ s.heap.objs.size:=Nat.ne_of_lt (Heap.lt_size he)
  have iT:it ≠ s.heap.objs.size:=by
   obtain ⟨o,ho,_⟩:=hit
   exact Nat.ne_of_lt (Heap.lt_size ho)
  have kp:∀ b o,b ∉ [e,it]->s.heap.get? b=some o->h2.get? b=some o:=fun b o hb q=>by
   have nb:b ≠ e/\b ≠ it:=by simpa using hb
   exact (hs2.2 b nb.1).trans (hk b o nb.1 nb.2 q)
  have hT2:h2.get? s.heap.objs.size=some { cls:=.type "tuple",data:=.seq #[.int i s.toks,u] }:=(hs2.2 _ (Ne.symm eT)).trans hT
  refine ⟨.ref s.heap.objs.size,upd H s.heap.objs.size (.tup [.int i,x]),?_,rfl,⟨_,x,rfl,hT0,rfl,fun ys hy=>by rw [I.list_inj hy hq]; exact hx⟩,⟨⟨_,by simpa using he2⟩,hit'.at fun o z=>(hs2.2 it (Ne.symm hei)).trans z⟩,fun b hb=>?_⟩
  ·refine Inv.step (s:=s) (h':=h2) I (g':=s.gens) (d':=s.drawn) (t':=s.toks + 1) (ch:=[e,it]) (fun b hb=>?_) (fun b o _ _ hb q _=>kp b o hb q) (fun b o _ _ hb q _=>⟨o.slots,kp b o hb q⟩) (fun b o hb q n=>?_) (fun b o hb q=>⟨o,kp b o hb q⟩)
    (fun b ys q=>?_) (fun b o z q=>?_) (fun b ps q=>⟨#[],?_⟩) (fun m hm=>?_) ?_ I.bare
   ·rcases List.mem_cons.mp hb with z | hb
    ·subst z; exact ⟨e3,e1,e4,e5⟩
    ·have z:b=it:=by simpa using hb
     subst z; exact ⟨i3,i1,i4,i5⟩
   ·rw [upd_ne (Nat.ne_of_lt (Heap.lt_size q))]; exact n
   ·rw [upd_ne (ne_of_none q hT0)]; exact q
   ·rw [upd_ne (ne_of_none q hT0)]; exact q
   ·rw [upd_ne (ne_of_none q hT0),q]; simp
   ·obtain ⟨o,es',ep,q,r⟩:=hm
    exact ⟨o,es',ep,kp _ o (by simp only [List.mem_cons,List.not_mem_nil,or_false,not_or]; exact ⟨Ne.symm e1,Ne.symm i1⟩) q,r⟩
   ·refine HOk.adopt I.hok hT0 (fun b u hb q=>kp b u ?_ q) ⟨by simp only [List.length_cons,List.length_nil]; rw [sizeLine_eq]; decide,[.int i s.toks,u],.cons ⟨_,rfl⟩ (.cons ru .nil),?_⟩
    ·simp only [List.mem_cons,List.not_mem_nil,or_false,not_or]
     exact ⟨fun z=>hb (by rw [z]; exact e0),fun z=>hb (by rw [z]; exact i0)⟩
    ·exact ⟨_,hT2,rfl,_,rfl⟩
  ·rcases List.mem_cons.mp hb with z | hb
   ·subst z; rw [upd_ne eT]; exact e0
   ·have z:b=it:=by simpa using hb
    subst z; rw [upd_ne iT]; exact i0
 done:=by
  intro X hP hw hK hc i pins s σ H E I hf st hg
  subst hP hw hK
  obtain ⟨xs,hq,hx⟩:=hg
  obtain ⟨its,rv,p,hz⟩:=I.list hq
  obtain ⟨⟨old,he⟩,hit⟩:=st
  obtain ⟨f0,f1,f2,f3,f4,f5⟩:=hf it (by simp)
  have hl:=rv.length
  exact wpAny_pyNext_enum_end (I.ok.hd hc) he hit p.isList (by simp; omega) fun h' eb=>⟨rfl,I.turned (t':=s.toks) (fun b o hb e=>eb b o hb e) f0 f1 f3 f4 f5⟩
 self:=fun _ _ _ _ _ st h=>let ⟨_,he⟩:=st.1; wpAny_pyIter_enum he h
section
variable {X:Cx}
def iEnum (K:PySem.W.Frag) (tl:TA):TI:=fun σ H R=>tl σ H fun vs H1=>∃ a,vs=[.ref a]/\(∃ xs,SqL K H1 a xs)/\R (Ite K a) H1
theorem pi_enum {l:Expr} {tl:TA} {es:List Expr} {k:Nat} {tpos p pos:Pos} (hg:Gl X "enumerate") (hm:X.mg "enumerate"=none) (ha:PA X [l] tl) (hs:starEach [l] X.env=[(false,eval l X.env)]:=by rfl) :
  PI X (.Tuple es k tpos) (.Call (.Name "enumerate" p) [l] [] pos) (iEnum X.K tl):=by
 intro pins s σ H R I h
 refine Call_ (ld_blt I hg hm boot_enumerate (PyProof.Rows.callWith_type1 (thn (ha pos pins s σ H _ I h) fun us s1 ⟨vs,H1,I1,r1,q1⟩=>?_) hs rfl))
 obtain ⟨a,e,⟨xs,hq⟩,q⟩:=q1
 subst e
 obtain ⟨u,rfl,ru⟩:=vals1 r1
 cases ru
 obtain ⟨its,rv,pl,hz⟩:=I1.list hq
 refine call_enumerate_list pl.isList fun h' he hit hsz hk=>?_
 refine wpAny_pyIter_enum he ?_
 have I2:Inv X pins σ H1 { s1 with heap:=h',toks:=s1.toks }:=I1.kept (t':=s1.toks) hk
 refine ⟨s1.heap.objs.size + 1,[s1.heap.objs.size + 1,s1.heap.objs.size],_,_,H1,rfl,I2,turn_enum a _ _ (Nat.succ_ne_self _),⟨⟨_,he⟩,hit⟩,fun b hb=>?_,q⟩
 have hb':s1.heap.objs.size <= b:=by
  rcases List.mem_cons.mp hb with z | hb
  ·rw [z]; exact Nat.le_succ _
  ·have z:b=s1.heap.objs.size:=by simpa using hb
   rw [z]; exact Nat.le_refl _
 exact I1.fpOk hb' (I1.hok.fresh hb')
theorem for_enum {K:PySem.W.Frag} {a:Addr} {xs:List V} {g:TG} {tb:TS} {D:Ends} {σ:St} {H:Hp} (Pv:Nat->St->Hp->Prop) (h0:Pv 0 σ H) (hl:∀ i σ H,i <= xs.length->Pv i σ H->SqL K H a xs)
  (hs:∀ i x σ H t,xs[i]? = some x->Pv i σ H->H t=none->g (.ref t) σ (upd H t (.tup [.int i,x])) fun σ2 H2=>tb { D with nx:=Pv (i + 1),ct:=Pv (i + 1),bk:=D.nx } σ2 H2) (hd:∀ σ H,Pv xs.length σ H->D.nx σ H) :
  ∃ W:Nat->Nat->St->Hp->Prop,(∃ m,W 0 m σ H)/\∀ i m σ H,W i m σ H ->
   ((Ite K a).stop i H/\D.nx σ H)\/((Ite K a).go i H/\∃ N:St->Hp->Prop,(∀ σ' H',N σ' H'->∃ m',m' < m/\W (i + 1) m' σ' H')/\∀ x H',(Ite K a).yld i H x H'->g x σ H' fun σ2 H2=>tb { D with nx:=N,ct:=N,bk:=D.nx } σ2 H2):=by
 refine ⟨fun i m σ H=>m=xs.length - i/\i <= xs.length/\Pv i σ H,⟨xs.length,by simp,Nat.zero_le _,h0⟩,?_⟩
 rintro i m σ H ⟨rfl,hi,p⟩
 have q:=hl i σ H hi p
 by_cases hlt:i < xs.length
 ·refine .inr ⟨⟨xs,xs[i],q,by simp [hlt]⟩,Pv (i + 1),fun σ' H' p'=>⟨xs.length - (i + 1),by omega,rfl,hlt,p'⟩,fun x H' y=>?_⟩
  obtain ⟨t,z,e1,e2,e3,e4⟩:=y
  subst e1 e3
  exact hs i z σ _ t (e4 xs q) p e2
 ·have e:i=xs.length:=by omega
  subst e
  exact .inl ⟨⟨xs,q,Nat.le_refl _⟩,hd σ H p⟩
theorem comp_enum {K:PySem.W.Frag} {a:Addr} {xs:List V} {g:TG} {tt:TT} {te:TE} {σ0:St} {H:Hp} {Q:VK} (Pv:Nat->List V->Hp->Prop) (h0:Pv 0 [] H) (hn:xs.length < sizeLine) (hl:∀ i ys H,i <= xs.length->Pv i ys H->SqL K H a xs)
  (hs:∀ i x ys H t,xs[i]? = some x->i < xs.length->Pv i ys H->ys.length <= i->ys.length < sizeLine->H t=none->g (.ref t) σ0 (upd H t (.tup [.int i,x])) fun σ2 H2=>tt σ2 H2 fun b H3=>if b=true then te σ2 H3 fun y H4=>ys.length < sizeLine/\Pn Pv xs.length i (ys ++ [y]) H4 else Pn Pv xs.length i ys H3)
  (hd:∀ ys H,Pv xs.length ys H->ys.length <= xs.length->∀ l,H l=none->Q (.ref l) (upd H l (.lst ys))) :
  ∃ W:Nat->Nat->List V->Hp->Prop,(∃ m,W 0 m [] H)/\∀ i m ys H,W i m ys H ->
   ((Ite K a).stop i H/\CDone Q H ys) \/
   ((Ite K a).go i H/\∀ x H',(Ite K a).yld i H x H'->g x σ0 H' fun σ2 H2=>tt σ2 H2 fun b H3 =>
    if b=true then te σ2 H3 fun y H4=>ys.length < sizeLine/\∃ m',m' < m/\W (i + 1) m' (ys ++ [y]) H4 else ∃ m',m' < m/\W (i + 1) m' ys H3):=by
 refine ⟨fun i m ys H=>m=xs.length - i/\i <= xs.length/\ys.length <= i/\Pv i ys H,⟨xs.length,by simp,Nat.zero_le _,Nat.le_refl _,h0⟩,?_⟩
 rintro i m ys H ⟨rfl,hi,hyl,p⟩
 have q:=hl i ys H hi p
 by_cases hlt:i < xs.length
 ·refine .inr ⟨⟨xs,xs[i],q,by simp [hlt]⟩,fun x H' y=>?_⟩
  obtain ⟨t,z,e1,e2,e3,e4⟩:=y
  subst e1 e3
  exact hs i z ys _ t (e4 xs q) hlt p hyl (by omega) e2
 ·have e:i=xs.length:=by omega
  subst e
  exact .inl ⟨⟨xs,q,Nat.le_refl _⟩,hd ys H p hyl⟩
end
section
variable {X:Cx}
theorem ints_list {H:Hp} {s:Shared} {pins:List (Addr × Obj)} {σ:St} (I:Inv X pins σ H s) {p:Addr} {ns:List Int} (h:SqL X.K H p (ns.map V.int)):∃ its:List Value,IntsAre its ns/\s.heap.IsList p its.toArray:=by
 obtain ⟨its,rv,pl,_⟩:=I.list h
 exact ⟨its,intsAre_of rv,pl.isList⟩
def rEqL (K:PySem.W.Frag) (neg:Bool):R2:=fun x y H Q=>∃ (p q:Addr) (ns ms:List Int),x=.ref p/\y=.ref q/\SqL K H p (ns.map V.int)/\SqL K H q (ms.map V.int)/\Q (.bl (if neg then !decide (ns=ms) else decide (ns=ms))) H
theorem op_eqL (hu:X.A.units + 64 < cLine):OpR X (compareOp .Eq) (rEqL X.K false):=by
 intro pins s σ H x y v u Q I rx ry h
 obtain ⟨p,q,ns,ms,rfl,rfl,h1,h2,k⟩:=h
 cases rx; cases ry
 obtain ⟨its,i1,l1⟩:=ints_list I h1
 obtain ⟨jts,i2,l2⟩:=ints_list I h2
 exact PySem.W.ke_eq_ints l1 l2 i1 i2 hu ⟨.bl _,H,I,rfl,k⟩
theorem op_neL (hu:X.A.units + 64 < cLine):OpR X (compareOp .NotEq) (rEqL X.K true):=by
 intro pins s σ H x y v u Q I rx ry h
 obtain ⟨p,q,ns,ms,rfl,rfl,h1,h2,k⟩:=h
 cases rx; cases ry
 obtain ⟨its,i1,l1⟩:=ints_list I h1
 obtain ⟨jts,i2,l2⟩:=ints_list I h2
 exact PySem.W.ke_ne_ints l1 l2 i1 i2 hu ⟨.bl _,H,I,rfl,k⟩
def LL (K:PySem.W.Frag) (H:Hp) (p:Addr) (nss:List (List Int)):Prop:=∃ rs:List Addr,SqL K H p (rs.map V.ref)/\Paired (fun r ns=>SqL K H r (ns.map V.int)) rs nss
theorem reads_LL {H:Hp} {s:Shared} {pins:List (Addr × Obj)} {σ:St} (I:Inv X pins σ H s) {p:Addr} {nss:List (List Int)} (h:LL X.K H p nss) :
  ∃ as,Reads s.heap (.ref p) (.list (nss.map fun ns=>PyData.list (ns.map PyData.int))) as:=by
 obtain ⟨rs,h1,h2⟩:=h
 obtain ⟨its,rv,pl,_⟩:=I.list h1
 obtain ⟨o,n,e,c,d,q⟩:=pl
 have all:∀ {rs:List Addr} {nss:List (List Int)} {its:List Value},Paired (fun r ns=>SqL X.K H r (ns.map V.int)) rs nss->Vals (rs.map V.ref) its->∃ as,ReadsAll s.heap its (nss.map fun ns=>PyData.list (ns.map PyData.int)) as:=by
  intro rs nss its hp
  induction hp generalizing its with
  | nil=>intro r; cases r; exact ⟨_,ReadsAll.nil⟩
  | cons h _ ih =>
   intro r
   cases r with
   | cons r1 r2 =>
    cases r1
    obtain ⟨bs,q2⟩:=ih r2
    obtain ⟨jts,i1,l1⟩:=ints_list I h
    exact ⟨_,ReadsAll.cons (PySem.W.reads_of_ints l1 i1) q2⟩
 obtain ⟨as,q2⟩:=all h2 rv
 exact ⟨_,reads_list_at e c q (by simpa using q2)⟩
theorem shaped_LL (nss:List (List Int)):SeqAt.shaped (.list (nss.map fun ns=>PyData.list (ns.map PyData.int)))=true:=by
 have a1:∀ ns:List Int,PyData.canLayAll0 (ns.map PyData.int)=true:=PySem.W.ke_canLayAll0
 have a2:∀ ns:List Int,PyData.depthAll (ns.map PyData.int)=0:=PySem.W.ke_depthAll
 have b1:PyData.canLayAll0 (nss.map fun ns=>PyData.list (ns.map PyData.int))=true:=by
  induction nss with
  | nil=>rfl
  | cons ns r ih=>simp [PyData.canLayAll0,PyData.canLay0,a1,ih]
 have b2:PyData.depthAll (nss.map fun ns=>PyData.list (ns.map PyData.int)) <= 1:=by
  induction nss with
  | nil=>simp [PyData.depthAll]
  | cons ns r ih =>
   have ih':=ih (by simpa [PyData.canLayAll0,PyData.canLay0,a1] using b1)
   simp only [List.map_cons,PyData.depthAll,PyData.depth,a2]
   omega
 unfold SeqAt.shaped
 rw [Bool.and_eq_true]
 refine ⟨by simp only [PyData.canLay0]; exact b1,decide_eq_true ?_⟩
 simp only [PyData.depth]
 omega
theorem eqv_ints:∀ ns ms:List Int,PyData.eqvAll (ns.map PyData.int) (ms.map PyData.int)=decide (ns=ms)
 | [],[]=>by simp [PyData.eqvAll]
 | [],_::_=>by simp [PyData.eqvAll]
 | _::_,[]=>by simp [PyData.eqvAll]
 | a::r,b::t=>by
  simp only [List.map_cons,PyData.eqvAll,PyData.eqv,eqv_ints r t]
  by_cases h:a=b <;> by_cases h':r=t <;> simp [h,h']
theorem eqv_LL:∀ ns ms:List (List Int),PyData.eqvAll (ns.map fun ns=>PyData.list (ns.map PyData.int)) (ms.map fun ns=>PyData.list (ns.map PyData.int))=decide (ns=ms)
 | [],[]=>by simp [PyData.eqvAll]
 | [],_::_=>by simp [PyData.eqvAll]
 | _::_,[]=>by simp [PyData.eqvAll]
 | a::r,b::t=>by
  simp only [List.map_cons,PyData.eqvAll,PyData.eqv,eqv_LL r t,eqv_ints]
  by_cases h:a=b <;> by_cases h':r=t <;> simp [h,h']
def rNeLL (K:PySem.W.Frag):R2:=fun x y H Q=>∃ (p q:Addr) (ns ms:List (List Int)),x=.ref p/\y=.ref q/\LL K H p ns/\LL K H q ms/\Q (.bl (!decide (ns=ms))) H
theorem op_neLL (hu:X.A.units + 64 < cLine):OpR X (compareOp .NotEq) (rNeLL X.K):=by
 intro pins s σ H x y v u Q I rx ry h
 obtain ⟨p,q,ns,ms,rfl,rfl,h1,h2,k⟩:=h
 cases rx; cases ry
 obtain ⟨as,r1⟩:=reads_LL I h1
 obtain ⟨bs,r2⟩:=reads_LL I h2
 refine ne_dataH r1 r2 (shaped_LL _) (shaped_LL _) hu ⟨.bl _,H,I,rfl,?_⟩
 simp only [PyData.eqv]
 rw [eqv_LL]
 exact k
end
section
variable {X:Cx}
theorem any_getD:∀ bs:List Bool,(List.range bs.length).any (fun i=>bs.getD i false)=bs.any id
 | []=>rfl
 | b::r=>by
  rw [List.length_cons,List.range_succ_eq_map,List.any_cons,List.any_map,List.any_cons]
  have ih:=any_getD r
  have e:(List.range r.length).any ((fun i=>(b::r).getD i false) ∘ Nat.succ)=r.any id:=by
   rw [<- ih]
   rfl
  rw [e]
  rfl
theorem call_anyL (hc:X.calm=true):CallR X (.builtin "any") (fun xs H Q=>∃ (p:Addr) (bs:List Bool),xs=[.ref p]/\SqL X.K H p (bs.map V.bl)/\Q (.bl (bs.any id)) H):=by
 intro pins s σ H xs us Q I r h
 obtain ⟨p,bs,rfl,hq,q⟩:=h
 obtain ⟨u,rfl,rx⟩:=vals1 r
 cases rx
 obtain ⟨its,rv,pl,hz⟩:=I.list hq
 have hlen:=rv.length
 rw [List.length_map] at hlen
 have hplt:p < s.heap.objs.size:=by
  obtain ⟨o,n,e,_⟩:=pl
  exact Heap.lt_size e
 refine call_any_walk (wpAny_pyIter_list pl.isList ?_)
 have W:=Walks.list (prog:=X.prog) (w:=X.w) (A:=X.A.in1) (I.ok.hd hc) s.heap.objs.size p (Nat.ne_of_lt hplt) its.toArray
 refine ⟨s.heap.objs.size,_,_,_,_,_,fun i=>bs.getD i false,rfl,W,?_,?_,fun h' tk hk=>?_⟩
 ·exact ⟨⟨_,Heap.get?_push_size _ rfl,rfl,rfl⟩,pl.isList.at fun o e=>Heap.get?_push_of_some _ e⟩
 ·intro i v s' Q' E' hv hq'
  have hv':its[i]? = some v:=by simpa using hv
  have hb:∃ b,bs[i]? = some b/\v=.bool b:=by
   have hi:i < bs.length:=by rw [hlen]; exact (List.getElem?_eq_some_iff.mp hv').1
   obtain ⟨w',e1,e2⟩:=rv.get (x:=V.bl bs[i]) (i:=i) (by rw [List.getElem?_map,List.getElem?_eq_getElem hi]; rfl)
   rw [hv'] at e1
   cases e1
   exact ⟨bs[i],List.getElem?_eq_getElem hi,e2⟩
  obtain ⟨b,e1,rfl⟩:=hb
  refine wpAny_truthy_bool ?_
  have:bs.getD i false=b:=by rw [List.getD_eq_getElem?_getD,e1]; rfl
  have hq2:Q' (bs.getD i false) s':=hq'
  rw [this] at hq2
  exact hq2
 ·have e:(List.range its.toArray.size).any (fun i=>bs.getD i false)=bs.any id:=by
   rw [List.size_toArray,<- hlen]
   exact any_getD bs
  rw [e]
  refine ⟨.bl _,H,I.kept (t':=tk) fun b o e=>hk b o ?_ (Heap.get?_push_of_some _ e),rfl,q⟩
  intro z
  have z':b=s.heap.objs.size:=by simpa using z
  exact absurd (Heap.lt_size e) (by rw [z']; exact Nat.lt_irrefl _)
end
end L2
namespace L2
open PySem PySem.Spec PyProof.Rows
section
variable {X:Cx}
theorem call_isinst:CallR X (.builtin "isinstance") (fun xs H Q=>∃ x n t b,xs=[x,.ty n]/\TyOf X.K H x t/\PySem.W.kitOne X.K t (.type n)=some b/\Q (.bl b) H):=by
 intro pins s σ H xs us Q I r h
 obtain ⟨x,n,t,b,rfl,ty,e,q⟩:=h
 obtain ⟨u,w',rfl,rx,rw'⟩:=vals2 r
 cases rw'
 exact isinst_ok I rx ty e fun tk=>⟨.bl b,H,I.tok tk,rfl,q⟩
theorem call_list_rng (hc:X.calm=true):CallR X (.type "list") (fun xs H Q=>∃ (p:Addr) (lo hi:Int),xs=[.ref p]/\H p=some (.rng lo hi)/\-(2 ^ 62) <= lo/\lo < 2 ^ 62/\-(2 ^ 62) <= hi/\hi < 2 ^ 62/\(hi - lo).toNat <= 2 ^ 24 /\
  ∀ l,H l=none->Q (.ref l) (upd H l (.lst ((List.range (hi - lo).toNat).map fun i:Nat=>V.int (lo + (i:Int)))))):=by
 intro pins s σ H xs us Q I r h
 obtain ⟨p,lo,hi,rfl,hp,h1,h2,h3,h4,h5,q⟩:=h
 obtain ⟨u,rfl,rx⟩:=vals1 r
 cases rx
 obtain ⟨t1,t2,t3,e⟩:=I.hok p _ hp
 refine call_list_range (n:=(hi - lo).toNat) (I.ok.hd hc) (show IsRange s.heap p lo hi 1 t1 t2 t3 from e) (small_one h1 h2 h3 h4) (by rw [rangeSize_one]; split <;> omega) h5 fun h' tk acc c' hk hS hacc=>?_
 have hl:s.heap.objs.size <= s.heap.objs.size:=Nat.le_refl _
 refine ⟨.ref s.heap.objs.size,_,I.laid (t':=tk) (o:=.lst ((List.range (hi - lo).toNat).map fun i:Nat=>V.int (lo + (i:Int)))) hk hl ⟨?_,acc.toList,c',?_,by simpa using hS⟩,rfl,q _ (I.hok.fresh hl)⟩
 ·rw [List.length_map,List.length_range,sizeLine_eq]
  omega
 ·have key:∀ (n:Nat) (acc:List Value) (f:Nat->Int),acc.length=n->(∀ (j:Nat) (v:Value),acc[j]? = some v->∃ t,v=Value.int (f j) t)->Vals ((List.range n).map fun i=>V.int (f i)) acc:=by
   intro n
   induction n with
   | zero =>
    intro acc f hl _
    cases acc with
    | nil=>exact .nil
    | cons _ _=>cases hl
   | succ n ih =>
    intro acc f hl ha
    cases acc with
    | nil=>cases hl
    | cons v r =>
     rw [List.range_succ_eq_map,List.map_cons,List.map_map]
     refine .cons ?_ (ih r (fun i=>f (i + 1)) (by simpa using hl) fun j v' hj=>ha (j + 1) v' (by simpa using hj))
     exact ha 0 v rfl
  refine key _ _ (fun i=>lo + (i:Int)) (by rw [Array.length_toList]; exact hacc.1) fun j v hj=>?_
  obtain ⟨t,e⟩:=hacc.2 j v (by rw [<- Array.getElem?_toList]; exact hj)
  exact ⟨t,by rw [e,Int.mul_one]⟩
theorem call_range1:CallR X (.type "range") (fun xs H Q=>∃ j:Int,xs=[.int j]/\∀ p,H p=none->Q (.ref p) (upd H p (.rng 0 j))):=by
 intro pins s σ H xs us Q I r h
 obtain ⟨j,rfl,q⟩:=h
 obtain ⟨u,rfl,rx⟩:=vals1 r
 obtain ⟨t,rfl⟩:=rx
 refine call_range_1 ?_
 refine ⟨.ref s.heap.objs.size,_,I.laid (o:=.rng 0 j) (fun b o e=>Heap.get?_push_of_some _ e) (Nat.le_refl _) ⟨_,_,_,Heap.get?_push_size _ rfl⟩,rfl,q _ (I.hok.fresh (Nat.le_refl _))⟩
theorem call_setL (hc:X.calm=true):CallR X (.type "set") (fun xs H Q=>∃ (p:Addr) (ns:List Int),xs=[.ref p]/\SqL X.K H p (ns.map V.int)/\ns.length + 1 < scanBound/\∀ l,H l=none->Q (.ref l) (upd H l (.set (fun k=>(firstMet (fun i=>ns.getD i 0) ns.length).any (· == k)) (firstMet (fun i=>ns.getD i 0) ns.length).length))):=by
 intro pins s σ H xs us Q I r h
 obtain ⟨p,ns,rfl,hq,hb,q⟩:=h
 obtain ⟨u,rfl,rx⟩:=vals1 r
 cases rx
 obtain ⟨its,i1,l1⟩:=ints_list I hq
 have hl:its.length=ns.length:=i1.length
 refine call_set_list (ns:=ns) (I.ok.hd hc) l1 i1 (by rw [List.size_toArray,hl]; exact hb) fun h' tk hS hk=>?_
 have ez:its.toArray.size=ns.length:=by rw [List.size_toArray,hl]
 rw [ez] at hS
 exact ⟨.ref s.heap.objs.size,_,I.laid (t':=tk) (o:=.set _ _) (fun b o e=>hk b o (Heap.lt_size e) e) (Nat.le_refl _) hS,rfl,q _ (I.hok.fresh (Nat.le_refl _))⟩
theorem call_lenSet:CallR X (.builtin "len") (fun xs H Q=>∃ p S n,xs=[.ref p]/\H p=some (.set S n)/\Q (.int n) H):=by
 intro pins s σ H xs us Q I r h
 obtain ⟨p,S,n,rfl,hp,q⟩:=h
 obtain ⟨u,rfl,rx⟩:=vals1 r
 cases rx
 obtain ⟨o,es,ep,t,e,ex,d,_,_,hb,hf,hn⟩:=I.hok p _ hp
 subst hn
 refine call_len_set e ex d hf ?_ ⟨.int es.size,H,I.tok _,⟨_,rfl⟩,q⟩
 have h4:(es.size:Int) < 4096:=by unfold scanBound at hb; omega
 exact Int.lt_of_lt_of_le h4 (by decide)
theorem firstMet_nodup:∀ (ns:List Int),ns.Nodup->firstMet (fun i=>ns.getD i 0) ns.length=ns:=by
 intro ns nd
 have e:(List.range ns.length).map (fun i=>ns.getD i 0)=ns:=by
  apply List.ext_getElem?
  intro i
  rw [List.getElem?_map]
  by_cases hi:i < ns.length
  ·rw [List.getElem?_range hi,Option.map_some,List.getD_eq_getElem?_getD,List.getElem?_eq_getElem hi]
   rfl
  ·rw [List.getElem?_eq_none (by simpa using hi),List.getElem?_eq_none (by omega)]
   rfl
 unfold firstMet
 rw [e]
 have go:∀ (ns acc:List Int),(acc ++ ns).Nodup->ns.foldl step_dedup acc=acc ++ ns:=by
  intro ns
  induction ns with
  | nil=>intro acc _; simp
  | cons n r ih =>
   intro acc h
   have hn:acc.any (· == n)=false:=by
    rw [List.any_eq_false]
    intro x hx hb
    have hb':x=n:=by simpa using hb
    subst hb'
    rw [List.nodup_append] at h
    exact h.2.2 x hx x (.head _) rfl
   rw [List.foldl_cons]
   have e:step_dedup acc n=acc ++ [n]:=by
    unfold step_dedup
    rw [hn]
    rfl
   rw [e,ih _ (by simpa using h)]
   simp
 simpa using go ns [] (by simpa using nd)
theorem intsAre_keys {P:Program} {w:World}:∀ {ks:List Int} {acc:List Value},acc.length=ks.length->(∀ (j:Nat) (v:Value),acc[j]? = some v->∃ k,ks[j]? = some k/\∃ t,v=Value.int k t)->IntsAre acc ks
 | [],[],_,_=>.nil
 | [],_::_,h,_=>by cases h
 | _::_,[],h,_=>by cases h
 | k::ks,v::acc,h,ha=>by
  obtain ⟨k',e,t,rfl⟩:=ha 0 v rfl
  have e':k=k':=by simpa using e
  subst e'
  exact .cons _ t (intsAre_keys (P:=P) (w:=w) (by simpa using h) fun j u hj=>by simpa using ha (j + 1) u (by simpa using hj))
theorem call_sortedD (hc:X.calm=true):CallR X (.builtin "sorted") (fun xs H Q=>∃ (p:Addr) (kvs:List (Key × V)) (ks:List Int),xs=[.ref p]/\H p=some (.dK kvs)/\kvs.map (·.1)=ks.map Sum.inl/\ks.length < 64 /\
  ∀ (l:Addr) (zs:List Int),H l=none->zs.Perm ks->zs.Pairwise (· <= ·)->Q (.ref l) (upd H l (.lst (zs.map V.int)))):=by
 intro pins s σ H xs us Q I r h
 obtain ⟨p,kvs,ks,rfl,hp,hks,h64,q⟩:=h
 obtain ⟨u,rfl,rx⟩:=vals1 r
 cases rx
 obtain ⟨z,hd,vs,rel,dd⟩:=dk_of I.hok hp
 obtain ⟨ep,hat⟩:=dd.dictAt
 have hvl:vs.length=ks.length:=by
  have h1:=rel.length
  have h2:=congrArg List.length hks
  rw [List.length_map,List.length_map] at h2
  omega
 have hvk:vs.map (·.1)=ks.map Sum.inl:=by rw [<- rel.keys]; exact hks
 refine Calls.call_function_entry kind_sorted plain_sorted entry_sorted (args_sorted1 _) ?_
 unfold Builtin.«sorted»
 refine wpAny_bind (m:=checkCount "sorted" 1 1 _) (wpAny_pure ?_)
 refine wpAny_bind (PySem.W.kdu_collect (A:=X.A.in1) (PySem.W.kdl_dict (knd:=mixKind X.prog X.w) (kvs:=vs) (ep:=ep) hd) (I.ok.hd hc) hat (by rw [sizeLine_eq]; omega) fun h' tk acc hk hacc=>?_)
 have hal:acc.toList.length=vs.length:=by rw [Array.length_toList]; exact hacc.1
 have hI:IntsAre acc.toList ks:=intsAre_keys (P:=X.prog) (w:=X.w) (by rw [hal,hvl]) fun j v hj=>by
  obtain ⟨k,x,e1,e2⟩:=hacc.2 j v (by rw [<- Array.getElem?_toList]; exact hj)
  have e3:(ks.map (Sum.inl:Int->Key))[j]? = some k:=by
   rw [<- hvk,List.getElem?_map,e1]
   rfl
  rw [List.getElem?_map] at e3
  cases e4:ks[j]? with
  | none=>rw [e4] at e3; cases e3
  | some k' =>
   rw [e4] at e3
   have e5:Sum.inl k'=k:=Option.some.inj e3
   subst e5
   rw [mixKind_is] at e2
   rcases keyIs_shape e2 with ⟨i,t,a1,a2⟩ | ⟨i,t,a1,a2⟩
   ·cases a1
    exact ⟨k',rfl,t,a2⟩
   ·cases a1
 refine wpAny_bind (wpAny_newList ?_ (by rw [hal,hvl,sizeLine_eq]; omega))
 have hoL:(h'.push (seqObj "list" acc.toList.toArray 0)).get? h'.objs.size=some (seqObj "list" acc.toList.toArray 0):=Heap.get?_push_size _ rfl
 refine wpAny_bind (wpAny_holding (wpAny_call_entry slot_list_sort ⟨_,hoL,rfl⟩ entry_list_sort (list_sort_tree (s:={ s with heap:=h'.push (seqObj "list" acc.toList.toArray 0),toks:=tk }) hoL hI (by rw [hal,hvl]; exact h64) fun out ns' a1 a2 a3=>⟨_,rfl,?_⟩) (args_list_sort _)))
 refine wpAny_pure ⟨_,rfl,?_⟩
 obtain ⟨e',hfin⟩:=sortedHeap_at (h:=h'.push (seqObj "list" acc.toList.toArray 0)) (a:=h'.objs.size) (vs:=acc.toList) (n:=0) (out:=out) hoL
 have I':Inv X pins σ H { s with heap:=h',toks:=tk }:=I.kept hk
 have hfr:H h'.objs.size=none:=I'.hok.fresh (Nat.le_refl _)
 have hkp:∀ b o,h'.get? b=some o->(sortedHeap (h'.push (seqObj "list" acc.toList.toArray 0)) h'.objs.size acc.toList out).get? b=some o:=fun b o e=>by
  have hb:b < h'.objs.size:=Heap.lt_size e
  rw [sortedHeap_old (Nat.ne_of_lt hb) (by rw [size_push']; exact Nat.lt_succ_of_lt hb)]
  exact Heap.get?_push_of_some _ e
 have hlen:ns'.length=ks.length:=a2.length_eq
 have hv:Vals (ns'.map V.int) out.toList:=vals_ints a1
 exact ⟨.ref h'.objs.size,_,I'.laid (t':=tk) (o:=.lst (ns'.map V.int)) hkp (Nat.le_refl _) ⟨by rw [List.length_map,hlen,sizeLine_eq]; omega,out.toList,e',hv,by simpa using hfin⟩,rfl,q _ ns' hfr a2 a3⟩
end
end L2
namespace L2
open PySem PySem.Spec PyProof.Rows
def FnT (K:PySem.W.Frag) (mg:Str->Option Value) (x:Str) (st:Stmt) (ps:List Str):Prop:=∃ f fd,mg x=some (.ref f)/\Fun K x x st f fd/\Binds K fd ps []
def Cal (P:Program) (w:World) (K:PySem.W.Frag) (mg:Str->Option Value) (base:Heap) (k:Nat) (x:Str) (ps:List Str) (sp:Sp):Prop :=
 ∃ f fd,mg x=some (.ref f)/\PySem.W.keepIn K (.ref f)=true/\Binds K fd ps []/\FnOk P w K mg base CX0 k f fd ps sp
theorem FnT.cal {P:Program} {w:World} {K:PySem.W.Frag} {mg:Str->Option Value} {base:Heap} {x:Str} {st:Stmt} {N ps:List Str} {k:Nat} {sp:Sp} (F:FnT K mg x st ps) (S:FnScope N ps (defScope st)) (len:∀ vs H Q E,sp vs H Q E->vs.length=ps.length)
  (hbody:∀ (f:Addr) (cdv:Value) (A:Around) (outer:List Env) (s:Shared) (H:Hp) (vs:List V) (Q:VK) (E:XK),Room k (A.deeper (envOfC x (defScope st) s.heap.objs.size f cdv))->sp vs H Q E ->
   ∃ t,PSs (cxOf CX0 P w K mg base N x (defScope st) f cdv A outer s H E).nox (defBody st) t/\t { nx:=fun _ H'=>Q .non H',rt:=Q } (start N vs) H):Cal P w K mg base (k + 1) x ps sp:=by
 obtain ⟨f,fd,h1,h2,h3⟩:=F
 exact ⟨f,fd,h1,h2.kp,h3,h2.ok S len fun cdv A outer s H vs Q E=>hbody f cdv A outer s H vs Q E⟩
theorem Cal.mono {P:Program} {w:World} {K:PySem.W.Frag} {mg:Str->Option Value} {base:Heap} {j k:Nat} {x:Str} {ps:List Str} {sp:Sp} (C:Cal P w K mg base j x ps sp) (h:j <= k):Cal P w K mg base k x ps sp:=by
 obtain ⟨f,fd,h1,h2,h3,h4⟩:=C
 exact ⟨f,fd,h1,h2,h3,h4.mono h⟩
section
variable {X:Cx} {k:Nat} {x:Str} {ps:List Str} {sp:Sp} {e:Expr} {es:List Expr} {t:TA} {p pos:Pos}
theorem pe_cal (C:Cal X.prog X.w X.K X.mg X.base k x ps sp) (hr:Room k X.A) (hg:Gl X x) (ha:PA X (e::es) t) (hd:(x == ("__debug__":Str))=false:=by decide)
  (he:starEach (e::es) X.env=(false,eval e X.env)::starEach es X.env:=by rfl) (hpl:(backTo pos (starEach es X.env)).any (·.1)=false:=by rfl) :
  PE X (.Call (.Name x p) (e::es) [] pos) (tCall sp [] E0 t):=by
 obtain ⟨f,fd,h1,h2,h3,h4⟩:=C
 exact pe_call h4 hr hg h1 h2 h3 .nil pass0 ha (hdb:=hd) (he:=he) (hpl:=hpl)
end
end L2
namespace Bw
open PySem L2
def iv (ws:List Nat):List Int:=ws.map fun n:Nat=>(n:Int)
def vv (ws:List Nat):List V:=(iv ws).map V.int
theorem vv_len (ws:List Nat):(vv ws).length=ws.length:=by simp [vv,iv]
theorem iv_len (ws:List Nat):(iv ws).length=ws.length:=by simp [iv]
theorem vv_get {ws:List Nat} {i:Nat} (h:i < ws.length):(vv ws)[i]? = some (V.int ((ws.getD i 0:Nat):Int)):=by
 simp [vv,iv,List.getD_eq_getElem?_getD,List.getElem?_eq_getElem h]
theorem vv_at {ws:List Nat} {i:Nat} {x:V} (h:(vv ws)[i]? = some x):i < ws.length/\x=V.int ((ws.getD i 0:Nat):Int):=by
 have hi:i < ws.length:=by
  have:=(List.getElem?_eq_some_iff.mp h).1
  rwa [vv_len] at this
 rw [vv_get hi] at h
 exact ⟨hi,(Option.some.inj h).symm⟩
theorem vv_set (ws:List Nat) (i x:Nat):(vv ws).set i (V.int (x:Int))=vv (ws.set i x):=by
 simp [vv,iv,List.map_set]
theorem vv_snoc (ws:List Nat) (x:Nat):vv ws ++ [V.int (x:Int)]=vv (ws ++ [x]):=by simp [vv,iv]
theorem iv_inj {a b:List Nat} (h:iv a=iv b):a=b:=by
 have:(iv a).map Int.toNat=(iv b).map Int.toNat:=by rw [h]
 simpa [iv,Function.comp_def] using this
theorem bitAnd_nat (a b:Nat):Builtin.bitAnd (a:Int) (b:Int)=((a &&& b:Nat):Int):=by
 unfold Builtin.bitAnd
 have h1:decide (0 <= (a:Int))=true:=by simp
 have h2:decide (0 <= (b:Int))=true:=by simp
 rw [h1,h2]
 simp
theorem bitOr_nat (a b:Nat):Builtin.bitOr (a:Int) (b:Int)=((a ||| b:Nat):Int):=by
 unfold Builtin.bitOr Builtin.bitAnd Builtin.bitNot
 have h1:decide (0 <= -(a:Int) - 1)=false:=decide_eq_false (by omega)
 have h2:decide (0 <= -(b:Int) - 1)=false:=decide_eq_false (by omega)
 rw [h1,h2]
 have e1:(-(-(a:Int) - 1) - 1).toNat=a:=by omega
 have e2:(-(-(b:Int) - 1) - 1).toNat=b:=by omega
 simp only [e1,e2]
 omega
theorem bitXor_nat (a b:Nat):Builtin.bitXor (a:Int) (b:Int)=((a ^^^ b:Nat):Int):=by
 unfold Builtin.bitXor
 rw [bitOr_nat,bitAnd_nat]
 have:=or_split a b
 omega
theorem shr_bit (x k:Nat):decide (V.int (Builtin.bitAnd ((x:Int) / 2 ^ ((k:Int)).toNat) 1)=V.int 1)=x.testBit k:=by
 have e:((x:Int) / 2 ^ ((k:Int)).toNat)=((x / 2 ^ k:Nat):Int):=by
  rw [Int.toNat_natCast]
  push_cast
  rfl
 rw [e,show (1:Int)=((1:Nat):Int) from rfl,bitAnd_nat,Nat.and_one_is_mod]
 rw [Nat.testBit_eq_decide_div_mod_eq]
 rw [decide_eq_decide]
 simp only [V.int.injEq]
 omega
theorem shl_one (k:Nat):(1:Int) * 2 ^ ((k:Int)).toNat=((2 ^ k:Nat):Int):=by
 rw [Int.toNat_natCast,Int.one_mul]
 push_cast
 rfl
end Bw
namespace L2
open PySem PySem.Spec PyProof.Rows
def MOk (P:Program) (w:World) (K:PySem.W.Frag) (mg:Str->Option Value) (base:Heap) (A:Around) (C:Addr) (m:Str) (vs:List V) (H:Hp) (Q:VK):Prop :=
 Cls K C/\∃ f fd ps k sp,Meth K C m f/\FnOk P w K mg base CX0 k f fd ps sp/\Room k A/\Binds K fd ps []/\sp vs H Q E0
section
variable {X:Cx} {o e:Expr} {es:List Expr} {ta:TE} {t:TA} {m:Str} {apos pos:Pos}
def tMD0 (P:Program) (w:World) (K:PySem.W.Frag) (mg:Str->Option Value) (base:Heap) (A:Around) (m:Str) (ta:TE):TE:=fun σ H Q=>ta σ H fun x H1=>∃ a C dx fs,x=.ref a/\H1 a=some (.ins C dx fs)/\fs.lookup m=none/\MOk P w K mg base A C m [.ref a] H1 Q
theorem pe_md0 {pl:Sem Bool} (P:Program) (w:World) (K:PySem.W.Frag) (mg:Str->Option Value) (base:Heap) (A:Around) (he:PE X o ta)
  (e1:X.prog=P:=by rfl) (e2:X.w=w:=by rfl) (e3:X.K=K:=by rfl) (e4:X.mg=mg:=by rfl) (e5:X.base=base:=by rfl) (e6:X.A=A:=by rfl)
  (ht:eval (.Call (.Attribute o m apos) [] [] pos) X.env=(do
   let ov <- eval o X.env
   standAt apos.atName
   let (f,first) <- holding [ov] (getMethod ov m pl)
   callWith pos f first (backTo pos (starEach [] X.env)) (backToKw pos (keywordEach [] X.env))):=by rfl) :
  PE X (.Call (.Attribute o m apos) [] [] pos) (tMD0 P w K mg base A m ta):=by
 subst e1 e2 e3 e4 e5 e6
 intro pins s σ H Q I h
 refine PySem.W.methodCall_KW (pl:=pl) (thn (he pins s σ H _ I h) fun u s1 ⟨x,H1,I1,rx,a,C,dx,fs,ex,ea,l,c,f,fd,ps,k,sp,hm,F,hr,hb,q⟩=>?_) ht
 subst ex
 obtain rfl:u=Value.ref a:=rx
 refine getmeth_ok I1 ea c hm l ?_
 exact PySem.W.callWith_K0 (first:=[.ref a]) I1.kIn hm.kp (run_fn (us:=[.ref a]) (vs:=[.ref a]) F hr hb .nil pass0 I1 (.cons rfl .nil) q)
def tMD (P:Program) (w:World) (K:PySem.W.Frag) (mg:Str->Option Value) (base:Heap) (A:Around) (m:Str) (ta:TE) (t:TA):TE:=fun σ H Q=>ta σ H fun x H1=>∃ a C dx fs,x=.ref a/\H1 a=some (.ins C dx fs)/\fs.lookup m=none /\
 Cls K C/\∃ f fd ps k sp,Meth K C m f/\FnOk P w K mg base CX0 k f fd ps sp/\Room k A/\Binds K fd ps []/\t σ H1 fun vs H2=>sp (.ref a::vs) H2 Q E0
theorem pe_md {pl:Sem Bool} (P:Program) (w:World) (K:PySem.W.Frag) (mg:Str->Option Value) (base:Heap) (A:Around) (he:PE X o ta) (ha:PA X (e::es) t)
  (e1:X.prog=P:=by rfl) (e2:X.w=w:=by rfl) (e3:X.K=K:=by rfl) (e4:X.mg=mg:=by rfl) (e5:X.base=base:=by rfl) (e6:X.A=A:=by rfl)
  (hst:starEach (e::es) X.env=(false,eval e X.env)::starEach es X.env:=by rfl) (hpl:(backTo pos (starEach es X.env)).any (·.1)=false:=by rfl)
  (ht:eval (.Call (.Attribute o m apos) (e::es) [] pos) X.env=(do
   let ov <- eval o X.env
   standAt apos.atName
   let (f,first) <- holding [ov] (getMethod ov m pl)
   callWith pos f first (backTo pos (starEach (e::es) X.env)) (backToKw pos (keywordEach [] X.env))):=by rfl) :
  PE X (.Call (.Attribute o m apos) (e::es) [] pos) (tMD P w K mg base A m ta t):=by
 subst e1 e2 e3 e4 e5 e6
 intro pins s σ H Q I h
 refine PySem.W.methodCall_KW (pl:=pl) (thn (he pins s σ H _ I h) fun u s1 ⟨x,H1,I1,rx,a,C,dx,fs,ex,ea,l,c,f,fd,ps,k,sp,hm,F,hr,hb,q⟩=>?_) ht
 subst ex
 obtain rfl:u=Value.ref a:=rx
 refine getmeth_ok I1 ea c hm l ?_
 refine PySem.W.callWith_K (first:=[.ref a]) (h₀:=X.base) I.ok.mod.kin hm.kp (thn (ha pos pins s1 σ H1 _ I1 q) fun us s2 ⟨vs,H2,I2,r,q2⟩=>⟨I2.kIn,?_⟩) hst hpl
 exact run_fn (us:=.ref a::us) (vs:=.ref a::vs) F hr hb .nil pass0 I2 (.cons rfl r) (by simpa using q2)
end
section
variable {X:Cx}
def rIsC (K:PySem.W.Frag):List V->Hp->VK->Prop:=fun xs H Q=>∃ (x:V) (C:Addr) (t:Value) (b:Bool),xs=[x,.ref C]/\TyOf K H x t/\PySem.W.kitOne K t (.ref C)=some b/\Q (.bl b) H
theorem call_isC (K:PySem.W.Frag) (h:X.K=K:=by rfl):CallR X (.builtin "isinstance") (rIsC K):=by
 subst h
 intro pins s σ H xs us Q I r h
 obtain ⟨x,C,t,b,rfl,ty,e,q⟩:=h
 obtain ⟨u,w',rfl,rx,rw'⟩:=vals2 r
 cases rw'
 exact isinst_ok I rx ty e fun tk=>⟨.bl b,H,I.tok tk,rfl,q⟩
theorem strsAre_of:∀ {ys:List Str} {us:List Value},Vals (ys.map V.str) us->StrsAre us ys
 | [],_,h=>by cases h; exact .nil
 | _::_,_,.cons r t=>by
  obtain ⟨tk,rfl⟩:=r
  exact .cons _ tk (strsAre_of t)
theorem vals_strs:∀ {us:List Value} {ys:List Str},StrsAre us ys->Vals (ys.map V.str) us
 | _,_,.nil=>.nil
 | _,_,.cons _ t r=>.cons ⟨t,rfl⟩ (vals_strs r)
def rJoin (K:PySem.W.Frag):V->List V->Hp->VK->Prop:=fun x vs H Q=>∃ (z:Str) (l:Addr) (ys:List Str),x=.str z/\vs=[.ref l]/\SqL K H l (ys.map V.str)/\(ys.map (·.length)).sum + ys.length * z.length <= 16777216/\Q (.str (Txt.join z ys)) H
theorem mt_join (K:PySem.W.Frag) (h:X.K=K:=by rfl):MtR X "str.join" (rJoin K):=by
 subst h
 intro pins s σ H x vs v us Q I rx rv h
 obtain ⟨z,l,ys,rfl,rfl,hq,hz,q⟩:=h
 obtain ⟨t,rfl⟩:=rx
 obtain ⟨u,rfl,ru⟩:=rv.one
 cases ru
 obtain ⟨its,r,pl,_⟩:=I.list hq
 exact join_list pl.isList (strsAre_of r) hz fun t' k=>⟨.str _,H,I.tok k,⟨t',rfl⟩,q⟩
def tFs (a b:Str) (te:TE):TE:=fun σ H Q=>te σ H fun x H1=>∃ z,x=.str z/\a.length + z.length + b.length <= 1000000/\Q (.str (((Str.empty ++ a) ++ z) ++ b)) H1
theorem pe_fs {a b:Str} {k1 k2:Nat} {p1 p2 p3 pos:Pos} {e:Expr} {te:TE} (he:PE X e te) (ha:a.length <= 1000000):PE X (.JoinedStr [.Constant (.str a) k1 p1,.FormattedValue e (-1) none p2,.Constant (.str b) k2 p3] pos) (tFs a b te):=by
 intro pins s σ H Q I h
 have hz:sizeLine=16777216:=sizeLine_eq
 have h0:Str.empty.length=0:=rfl
 refine JoinedStr_many (joinParts_cons (Calls.Constant_str ⟨by rw [strLen_append,h0,hz]; omega,joinParts_cons (FormattedValue_plain (thn (he pins _ σ H _ (I.tok _) h) fun v s1 ⟨x,H1,I1,r1,z,ex,hl,q⟩=>?_))⟩))
 subst ex
 obtain ⟨t,rfl⟩:=r1
 refine formatField_str (fun t' tk=>⟨by rw [strLen_append,strLen_append,h0,hz]; omega,?_⟩) (by rw [hz]; omega)
 refine joinParts_cons (Calls.Constant_str ⟨by rw [strLen_append,strLen_append,strLen_append,h0,hz]; omega,?_⟩)
 exact joinParts_nil ⟨.str _,H1,(I1.tok _).tok _,⟨_,rfl⟩,q⟩ (by rw [strLen_append,strLen_append,strLen_append,h0,hz]; omega)
def rSortI (K:PySem.W.Frag):List V->Hp->VK->Prop:=fun xs H Q=>∃ (p:Addr) (ns:List Int),xs=[.ref p]/\SqL K H p (ns.map V.int)/\ns.length < 64/\∀ (l:Addr) (zs:List Int),H l=none->zs.Perm ns->zs.Pairwise (· <= ·)->Q (.ref l) (upd H l (.lst (zs.map V.int)))
theorem sorted_laid {h:Heap} {vs:List Value} {out:Array Value}:∃ e,(sortedAll h vs out).get? (h.objs.size + 1)=some { cls:=.type "list",data:=.seq out e }:=sortedAll_at h vs out
theorem call_sortI (K:PySem.W.Frag) (h:X.K=K:=by rfl):CallR X (.builtin "sorted") (rSortI K):=by
 subst h
 intro pins s σ H xs us Q I r h
 obtain ⟨p,ns,rfl,hq,h64,q⟩:=h
 obtain ⟨u,rfl,rx⟩:=vals1 r
 cases rx
 obtain ⟨its,i1,l1⟩:=ints_list I hq
 refine sorted_ints l1 i1 (by rw [i1.length]; exact h64) fun out ns' a1 a2 a3=>?_
 obtain ⟨e,he⟩:=sorted_laid (h:=s.heap) (vs:=its) (out:=out)
 have hf:H (s.heap.objs.size + 1)=none:=I.hok.fresh (Nat.le_succ _)
 exact ⟨.ref (s.heap.objs.size + 1),_,I.laid (t':=s.toks) (o:=.lst (ns'.map V.int)) (fun b o q=>sortedAll_old q) (Nat.le_succ _) ⟨by rw [List.length_map,a2.length_eq,sizeLine_eq]; omega,out.toList,e,vals_ints a1,by simpa using he⟩,rfl,q _ ns' hf a2 a3⟩
def rSortS (K:PySem.W.Frag):List V->Hp->VK->Prop:=fun xs H Q=>∃ (p:Addr) (ss:List Str),xs=[.ref p]/\SqL K H p (ss.map V.str)/\ss.length < 64/\∀ (l:Addr) (zs:List Str),H l=none->zs.Perm ss->sortedS zs=true->Q (.ref l) (upd H l (.lst (zs.map V.str)))
theorem call_sortS (K:PySem.W.Frag) (h:X.K=K:=by rfl):CallR X (.builtin "sorted") (rSortS K):=by
 subst h
 intro pins s σ H xs us Q I r h
 obtain ⟨p,ss,rfl,hq,h64,q⟩:=h
 obtain ⟨u,rfl,rx⟩:=vals1 r
 cases rx
 obtain ⟨its,rv,pl,_⟩:=I.list hq
 have i1:=strsAre_of rv
 have hl:=rv.length
 rw [List.length_map] at hl
 refine sorted_strs pl.isList i1 (by omega) fun out ns' a1 a2 a3=>?_
 obtain ⟨e,he⟩:=sorted_laid (h:=s.heap) (vs:=its) (out:=out)
 have hf:H (s.heap.objs.size + 1)=none:=I.hok.fresh (Nat.le_succ _)
 exact ⟨.ref (s.heap.objs.size + 1),_,I.laid (t':=s.toks) (o:=.lst (ns'.map V.str)) (fun b o q=>sortedAll_old q) (Nat.le_succ _) ⟨by rw [List.length_map,a2.length_eq,sizeLine_eq]; omega,out.toList,e,vals_strs a1,by simpa using he⟩,rfl,q _ ns' hf a2 a3⟩
end
end L2
namespace L2
open PySem PySem.Spec PyProof.Rows
section
variable {X:Cx}
theorem ix_listK (K:PySem.W.Frag) (h:X.K=K:=by rfl):IxR X (rIxL K):=by
 subst h
 exact ix_list
theorem sl_listK (K:PySem.W.Frag) (h:X.K=K:=by rfl):SlR X (rSlL K):=by
 subst h
 exact sl_list
theorem op_notInK (K:PySem.W.Frag) (h:X.K=K:=by rfl):OpR X (compareOp .NotIn) (rIn K true):=by
 subst h
 exact op_notIn_seq
def rAny (K:PySem.W.Frag):List V->Hp->VK->Prop:=fun xs H Q=>∃ (p:Addr) (bs:List Bool),xs=[.ref p]/\SqL K H p (bs.map V.bl)/\Q (.bl (bs.any id)) H
theorem call_anyK (K:PySem.W.Frag) (hc:X.calm=true) (h:X.K=K:=by rfl):CallR X (.builtin "any") (rAny K):=by
 subst h
 exact call_anyL hc
def rLen (K:PySem.W.Frag):List V->Hp->VK->Prop:=fun xs H Q=>∃ p ys,xs=[.ref p]/\(SqL K H p ys\/SqT K H p ys)/\Q (.int ys.length) H
theorem call_lenK (K:PySem.W.Frag) (h:X.K=K:=by rfl):CallR X (.builtin "len") (rLen K):=by
 subst h
 exact call_len_seq
theorem pi_listK (K:PySem.W.Frag) {tg l:Expr} {tl:TE} (hl:PE X l tl) (h:X.K=K:=by rfl):PI X tg l (iList K tl):=by
 subst h
 exact pi_list hl
theorem pi_tupK (K:PySem.W.Frag) {tg l:Expr} {tl:TE} (hl:PE X l tl) (h:X.K=K:=by rfl):PI X tg l (iTup K tl):=by
 subst h
 exact pi_tup hl
theorem pg_tupK (K:PySem.W.Frag) {es:List Expr} {k:Nat} {t:TGs} {n:Nat} {pos:Pos} (hc:X.calm=true) (h:PGs X es t)
  (hn:(assignEach es X.env).length=n:=by rfl) (hst:(assignEach es X.env).findIdx? (·.1)=none:=by rfl) (hK:X.K=K:=by rfl):PG X (.Tuple es k pos) (gTup K n t):=by
 subst hK
 exact pg_tup hc h hn hst
def rIsB (K:PySem.W.Frag):List V->Hp->VK->Prop:=fun xs H Q=>∃ x n t b,xs=[x,.ty n]/\TyOf K H x t/\PySem.W.kitOne K t (.type n)=some b/\Q (.bl b) H
theorem call_isinstK (K:PySem.W.Frag) (h:X.K=K:=by rfl):CallR X (.builtin "isinstance") (rIsB K):=by
 subst h
 exact call_isinst
theorem boolsAre_of:∀ {bs:List Bool} {us:List Value},Vals (bs.map V.bl) us->LSm.BoolsAre us bs
 | [],_,h=>by cases h; exact .nil
 | b::_,_,.cons r t=>by
  obtain rfl:=(show _=Value.bool b from r)
  exact .cons b (boolsAre_of t)
def rAll (K:PySem.W.Frag):List V->Hp->VK->Prop:=fun xs H Q=>∃ (p:Addr) (bs:List Bool),xs=[.ref p]/\SqL K H p (bs.map V.bl)/\Q (.bl (bs.all id)) H
theorem call_allK (K:PySem.W.Frag) (hc:X.calm=true) (h:X.K=K:=by rfl):CallR X (.builtin "all") (rAll K):=by
 subst h
 intro pins s σ H xs us Q I r h
 obtain ⟨p,bs,rfl,hq,q⟩:=h
 obtain ⟨u,rfl,rx⟩:=vals1 r
 cases rx
 obtain ⟨its,rv,pl,hz⟩:=I.list hq
 have hb:=boolsAre_of rv
 have hl:=pl.isList
 have hlt:p < s.heap.objs.size:=by obtain ⟨_,e,_⟩:=hl; exact Heap.lt_size e
 refine call_all_walk (wpAny_pyIter_list hl ?_)
 refine ⟨s.heap.objs.size,[s.heap.objs.size,p],[s.heap.objs.size],its.toArray.size,_,_,fun i=>(bs[i]?).getD true,rfl,Walks.list (A:=X.A.in1) (I.ok.hd hc) _ p (Nat.ne_of_lt hlt) its.toArray,
  ⟨⟨_,Heap.get?_push_size _ rfl,rfl,rfl⟩,hl.push _⟩,fun i v s' Q' E' hP hQ=>?_,fun h' tk hk=>?_⟩
 ·obtain ⟨b,e,rfl⟩:=hb.get i v (by simpa using hP)
  simp only [e,Option.getD_some] at hQ
  exact wpAny_truthy_bool hQ
 ·have e:((List.range its.toArray.size).all fun i=>(bs[i]?).getD true)=bs.all id:=by
   rw [List.size_toArray,hb.length]; exact LSm.range_all bs
  rw [e]
  exact ⟨.bl _,H,I.kept (t':=tk) (LSm.kept_iter hk),rfl,q⟩
end
def MethT (K:PySem.W.Frag) (C:Addr) (m qual:Str) (st:Stmt) (ps:List Str):Prop:=∃ f fd,Meth K C m f/\Fun K m qual st f fd/\Binds K fd ps []
def MakeT (K:PySem.W.Frag) (C:Addr) (qual:Str) (st:Stmt) (ps:List Str):Prop:=∃ f fd,Mk K C f/\Fun K "__init__" qual st f fd/\Binds K fd ps []
structure Own (K:PySem.W.Frag) (C:Addr):Prop where
 cl:Cls K C
 ha:PySem.W.findIn K (.ref C) "__class__"=some (some (.builtin "object.__class__"))
 hn:PySem.W.specialIn K (.builtin "object.__class__") "__get__"=some (some (.builtin "getset_descriptor.__get__"))
 htk:PySem.W.takesIn K (.builtin "object.__class__")=some true
 hm:PySem.W.mroIn K C (.type "object")=some true
theorem Own.ty {K:PySem.W.Frag} {C:Addr} (o:Own K C) {H:Hp} {a dx:Addr} {fs:List (Str × V)} (e:H a=some (.ins C dx fs)):TyOf K H (.ref a) (.ref C):=.ins e o.cl o.ha o.hn o.htk o.hm
def Mak (P:Program) (w:World) (K:PySem.W.Frag) (mg:Str->Option Value) (base:Heap) (k:Nat) (x:Str) (C:Addr) (ps:List Str) (sp:Sp):Prop :=
 ∃ f fd,mg x=some (.ref C)/\Mk K C f/\Binds K fd ps []/\FnOk P w K mg base CX0 k f fd ps sp
section
variable {X:Cx} {k:Nat} {x:Str} {C:Addr} {ps:List Str} {sp:Sp} {e:Expr} {es:List Expr} {t:TA} {p pos:Pos}
theorem pe_mk (M:Mak X.prog X.w X.K X.mg X.base k x C ps sp) (hr:Room (k + 1) X.A) (hg:Gl X x) (ha:PA X (e::es) t) (hd:(x == ("__debug__":Str))=false:=by decide)
  (he:starEach (e::es) X.env=(false,eval e X.env)::starEach es X.env:=by rfl) (hpl:(backTo pos (starEach es X.env)).any (·.1)=false:=by rfl) :
  PE X (.Call (.Name x p) (e::es) [] pos) (tMake C sp [] E0 t):=by
 obtain ⟨f,fd,h1,h2,h3,h4⟩:=M
 exact pe_make h2 h4 hr hg h1 h3 .nil pass0 ha (hdb:=hd) (he:=he) (hpl:=hpl)
end
theorem fnt_mk {K:PySem.W.Frag} {h:Heap} {mg:Str->Option Value} {x:Str} {st:Stmt} {ps:List Str} {f:Addr} {oc kV doc pm cdv ct:Value} {od an:Option Addr} {osl:Array (Option Value)} (X:K.In h) (G:h.Ns mainGlobals mg)
  (a:PySem.W.nsIn K mainGlobals x=some (some (.ref f)))
  (l:K.lookup f=some ⟨oc,od,.func (PySem.W.fnOf x x (defArgs st) (defBody st) (defScope st) .none kV doc pm an cdv ct),osl⟩) (c:PySem.W.codeIn K cdv x=true) (kp:PySem.W.keepIn K (.ref f)=true)
  (hb:∀ (kV doc pm:Value) (an:Option Addr) (cdv ct:Value) (us:List Value),us.length=ps.length->bindArgs (PySem.W.fnOf x x (defArgs st) (defBody st) (defScope st) .none kV doc pm an cdv ct) ⟨us,[]⟩=pure (ps.zip us)):FnT K mg x st ps :=
 ⟨f,_,PySem.W.mg_of X G a,fun_mk (st:=st) l c kp,(fun_mk (st:=st) l c kp).binds hb⟩
theorem metht_mk {K:PySem.W.Frag} {C:Addr} {m qual:Str} {st:Stmt} {ps:List Str} {f:Addr} {oc kV doc pm cdv ct:Value} {od an:Option Addr} {osl:Array (Option Value)}
  (a:PySem.W.findIn K (.ref C) m=some (some (.ref f))) (i:PySem.W.isFn K (.ref f)=true)
  (l:K.lookup f=some ⟨oc,od,.func (PySem.W.fnOf m qual (defArgs st) (defBody st) (defScope st) .none kV doc pm an cdv ct),osl⟩) (c:PySem.W.codeIn K cdv qual=true) (kp:PySem.W.keepIn K (.ref f)=true)
  (hb:∀ (kV doc pm:Value) (an:Option Addr) (cdv ct:Value) (us:List Value),us.length=ps.length->bindArgs (PySem.W.fnOf m qual (defArgs st) (defBody st) (defScope st) .none kV doc pm an cdv ct) ⟨us,[]⟩=pure (ps.zip us)):MethT K C m qual st ps :=
 ⟨f,_,⟨a,i,kp⟩,fun_mk (st:=st) l c kp,(fun_mk (st:=st) l c kp).binds hb⟩
theorem maket_mk {K:PySem.W.Frag} {C:Addr} {qual:Str} {st:Stmt} {ps:List Str} {f:Addr} {oc kV doc pm cdv ct:Value} {od an:Option Addr} {osl:Array (Option Value)}
  (mk:PySem.W.makesIn K C=true) (kc:PySem.W.keepIn K (.ref C)=true) (a:PySem.W.findIn K (.ref C) "__init__"=some (some (.ref f))) (i:PySem.W.isFn K (.ref f)=true)
  (l:K.lookup f=some ⟨oc,od,.func (PySem.W.fnOf "__init__" qual (defArgs st) (defBody st) (defScope st) .none kV doc pm an cdv ct),osl⟩) (c:PySem.W.codeIn K cdv qual=true) (kp:PySem.W.keepIn K (.ref f)=true)
  (hb:∀ (kV doc pm:Value) (an:Option Addr) (cdv ct:Value) (us:List Value),us.length=ps.length->bindArgs (PySem.W.fnOf "__init__" qual (defArgs st) (defBody st) (defScope st) .none kV doc pm an cdv ct) ⟨us,[]⟩=pure (ps.zip us)):MakeT K C qual st ps :=
 ⟨f,_,⟨mk,a,i,kc⟩,fun_mk (st:=st) l c kp,(fun_mk (st:=st) l c kp).binds hb⟩
theorem noattr_mk {K:PySem.W.Frag} {C:Addr} {f:Str} (a:PySem.W.findIn K (.ref C) f=some none):NoAttr K C f:=a
theorem own_mk {K:PySem.W.Frag} {C:Addr} (pg:PySem.W.plainGet K C Str.empty=true) (hd:PySem.W.hasDictIn K C=true) (po:PySem.W.plainOver K C=true)
  (sa:PySem.W.findIn K (.ref C) "__setattr__"=some (some (.builtin "object.__setattr__"))) (ha:PySem.W.findIn K (.ref C) "__class__"=some (some (.builtin "object.__class__")))
  (hn:PySem.W.specialIn K (.builtin "object.__class__") "__get__"=some (some (.builtin "getset_descriptor.__get__"))) (htk:PySem.W.takesIn K (.builtin "object.__class__")=some true)
  (hm:PySem.W.mroIn K C (.type "object")=some true):Own K C:=⟨⟨pg,hd,po,sa⟩,ha,hn,htk,hm⟩
end L2
namespace Bw
open PySem L2
theorem iteF' {c:Bool} {A B:Prop} (e:c=false) (h:B):if c=true then A else B:=by
 rw [e]
 exact iteF h
theorem iteT' {c:Bool} {A B:Prop} (e:c=true) (h:A):if c=true then A else B:=by
 rw [e]
 exact iteT h
theorem most_mk {mg:Str->Option Value} {x:Str} {v:Value} {n:Int} (h:mg x=some v) (e:∃ t,v=.int n t):∃ t,mg x=some (.int n t):=by
 obtain ⟨t,rfl⟩:=e
 exact ⟨t,h⟩
end Bw
namespace L2
open PySem PySem.Spec PyProof.Rows
theorem comp_tup {K:PySem.W.Frag} {a:Addr} {xs:List V} {g:TG} {tt:TT} {te:TE} {σ0:St} {H:Hp} {Q:VK} (Pv:Nat->List V->Hp->Prop) (h0:Pv 0 [] H) (hn:xs.length < sizeLine) (hl:∀ i ys H,i <= xs.length->Pv i ys H->SqT K H a xs)
  (hs:∀ i x ys H,xs[i]? = some x->i < xs.length->Pv i ys H->ys.length <= i->ys.length < sizeLine->g x σ0 H fun σ2 H2=>tt σ2 H2 fun b H3=>if b=true then te σ2 H3 fun y H4=>ys.length < sizeLine/\Pn Pv xs.length i (ys ++ [y]) H4 else Pn Pv xs.length i ys H3)
  (hd:∀ ys H,Pv xs.length ys H->ys.length <= xs.length->∀ l,H l=none->Q (.ref l) (upd H l (.lst ys))) :
  ∃ W:Nat->Nat->List V->Hp->Prop,(∃ m,W 0 m [] H)/\∀ i m ys H,W i m ys H ->
   ((Itt K a).stop i H/\CDone Q H ys) \/
   ((Itt K a).go i H/\∀ x H',(Itt K a).yld i H x H'->g x σ0 H' fun σ2 H2=>tt σ2 H2 fun b H3 =>
    if b=true then te σ2 H3 fun y H4=>ys.length < sizeLine/\∃ m',m' < m/\W (i + 1) m' (ys ++ [y]) H4 else ∃ m',m' < m/\W (i + 1) m' ys H3):=by
 refine ⟨fun i m ys H=>m=xs.length - i/\i <= xs.length/\ys.length <= i/\Pv i ys H,⟨xs.length,by simp,Nat.zero_le _,Nat.le_refl _,h0⟩,?_⟩
 rintro i m ys H ⟨rfl,hi,hyl,p⟩
 have q:=hl i ys H hi p
 by_cases hlt:i < xs.length
 ·refine .inr ⟨⟨xs,xs[i],q,by simp [hlt]⟩,fun x H' y=>?_⟩
  obtain ⟨e,y⟩:=y
  subst e
  exact hs i x ys _ (y xs q) hlt p hyl (by omega)
 ·have e:i=xs.length:=by omega
  subst e
  exact .inl ⟨⟨xs,q,Nat.le_refl _⟩,hd ys H p hyl⟩
def sx (l:List Nat):Str:=⟨l.toArray⟩
theorem sx_app (a b:List Nat):sx a ++ sx b=sx (a ++ b):=by
 show Str.append (sx a) (sx b)=_
 unfold Str.append sx
 simp
theorem sx_len (a:List Nat):(sx a).length=a.length:=by
 unfold Str.length sx
 simp
theorem glued_fold (g:Array Nat):∀ (l:List (List Nat)) (acc:List Nat),((l.map sx).foldl (fun acc p=>acc ++ g ++ p.cps) acc.toArray)=(acc ++ (l.map fun x=>g.toList ++ x).flatten).toArray
 | [],acc=>by simp
 | x::l,acc=>by
  have e:(acc.toArray ++ g ++ (sx x).cps)=(acc ++ (g.toList ++ x)).toArray:=by
   unfold sx
   apply Array.toList_inj.mp
   simp
  rw [List.map_cons,List.foldl_cons,e,glued_fold g l]
  simp
theorem joinC_flat (c:Nat):∀ (x:List Nat) (l:List (List Nat)),Bw.joinC c (x::l)=x ++ (l.map fun y=>[c] ++ y).flatten
 | x,[]=>by simp [Bw.joinC]
 | x,y::l=>by
  show x ++ c::Bw.joinC c (y::l)=_
  rw [joinC_flat c y l]
  simp
theorem join_sx (c:Nat) (l:List (List Nat)):Txt.join (sx [c]) (l.map sx)=sx (Bw.joinC c l):=by
 unfold Txt.join Builtin.Str.glued
 cases l with
 | nil=>rfl
 | cons x l =>
  rw [joinC_flat]
  show (⟨(l.map sx).foldl (fun acc p=>acc ++ (sx [c]).cps ++ p.cps) (sx x).cps⟩:Str)=_
  have e:=glued_fold (sx [c]).cps l x
  have e2:(sx x).cps=x.toArray:=rfl
  rw [e2,e]
  rfl
theorem sorted_pw:∀ (l:List (List Nat)),sortedS (l.map sx)=true->l.Pairwise fun a b=>Bw.leC a b=true:=by
 have ris:∀ (l:List (List Nat)) (p:List Nat),risingS (sx p) (l.map sx)=true->(p::l).Pairwise fun a b=>Bw.leC a b=true:=by
  intro l
  induction l with
  | nil=>exact fun p _=>List.pairwise_singleton _ _
  | cons x r ih =>
   intro p h
   have h':(!ltCps (sx x).cps.toList (sx p).cps.toList && risingS (sx x) (r.map sx))=true:=h
   rw [Bool.and_eq_true,ltCps_eq] at h'
   have h1:Bw.leC p x=true:=h'.1
   have h2:=ih x h'.2
   rw [List.pairwise_cons]
   refine ⟨fun y hy=>?_,h2⟩
   rcases List.mem_cons.mp hy with e | z
   ·rw [e]; exact h1
   ·exact Bw.leC_trans p x y h1 ((List.pairwise_cons.mp h2).1 y z)
 intro l h
 cases l with
 | nil=>exact .nil
 | cons x r=>exact ris r x h
theorem sort_sx {l:List (List Nat)} {zs:List Str} (p:zs.Perm (l.map sx)) (s:sortedS zs=true):zs=(Bw.sortC l).map sx:=by
 have e:∃ ws:List (List Nat),zs=ws.map sx:=by
  refine ⟨zs.map fun z=>z.cps.toList,?_⟩
  rw [List.map_map]
  conv=>lhs; rw [<- List.map_id zs]
  apply List.map_congr_left
  intro z _
  show z=sx z.cps.toList
  unfold sx
  simp
 obtain ⟨ws,rfl⟩:=e
 have p2:ws.Perm l:=by
  have:=p.map fun z=>z.cps.toList
  simpa [List.map_map,Function.comp_def,sx] using this
 rw [Bw.sortC_uniq p2 (sorted_pw ws s)]
section
variable {X:Cx}
end
end L2
namespace L2
open PySem PySem.Spec PyProof.Rows
section
variable {X:Cx}
end
end L2
namespace L2
open PySem PySem.Spec PyProof.Rows
section
variable {X:Cx}
end
end L2
namespace L2
open PySem PySem.Spec PyProof.Rows
section
variable {X:Cx}
end
end L2
namespace L2
open PySem PySem.Spec PyProof.Rows
section
variable {X:Cx}
end
end L2
namespace L2
open PySem
def Flight (h:Heap) (n:Nat) (a:Addr) (C:Value) (dx T:Option Addr):Prop :=
 ∃ vs sl,h.get? a=some ⟨C,dx,.fields vs,sl⟩/\n <= a/\1 < vs.size/\vs[2]? = some .none /\
  match T with
  | none=>vs[1]? = some .none
  | some t=>vs[1]? = some (.ref t)/\n <= t/\t ≠ a/\∃ ot ts,h.get? t=some ot/\ot.data=.fields ts/\ts[3]? = some .none
structure Flown (fs:List Addr) (a:Addr) (T:Option Addr) (h h':Heap):Prop where
 keep:∀ b o,b ∉ fs->b ≠ a->T ≠ some b->h.get? b=some o->h'.get? b=some o
 slot:∀ b o,b ≠ a->T ≠ some b->h.get? b=some o->∃ sl,h'.get? b=some { o with slots:=sl }
section
variable {M:Model} {A:Around} {E:Value->Shared->Prop} {s:Shared}
theorem entryX {base:Heap} {env:Env} {outer:List Env} {L a:Addr} {C:Value} {dx:Option Addr} {vs:Array Value} {sl:Array (Option Value)} {head:Value} {hadNext:Bool} {Q:Unit->Shared->Prop}
  (hA:A.frames=some (env::outer)) (FF:s.heap.FunFrames base (env::outer)) (hL:env.frame=some L) (ha:s.heap.get? a=some ⟨C,dx,.fields vs,sl⟩) (hv:1 < vs.size)
  (go:∀ h' t,s.heap.objs.size <= t->t ≠ a->h'.get? a=some ⟨C,dx,.fields (vs.setIfInBounds 1 (.ref t)),sl⟩->(∃ ot ts,h'.get? t=some ot/\ot.data=.fields ts/\ts[3]? = some .none) ->
   Flown ((env::outer).filterMap (·.frame)) a none s.heap h'->Q () { s with heap:=h' }) :
  wpAny M A (do let f <- frameOf env; let pl <- entryPlaceOf L hadNext; let b <- EntryCells.newEntry head f .none (rawInt L) .none pl; setField (.ref a) 1 b)
   (fun _ s'=>wpAny M A (setFlight (.ref a) none) Q E s') E s:=by
 have hna:a ∉ (env::outer).filterMap (·.frame):=fun hm=>by
  obtain ⟨_,o,ho,hno⟩:=FF.mem hm
  rw [ha] at ho
  cases ho
  exact hno vs rfl
 refine wpAny_bind (wpAny_frameOf_fun hA FF hL fun g hg=>?_)
 refine wpAny_bind (wpAny_entryPlaceOf fun pl hpl=>?_)
 unfold EntryCells.newEntry newFields
 refine wpAny_bind (wpAny_newObj_type ?_ (hpl.sizeOk5 _ _ _ _ _))
 have ga:g.get? a=some ⟨C,dx,.fields vs,sl⟩:=(hg.2.1 a hna).trans ha
 generalize hE:({ cls:=.type "traceback",dict:=none,data:=.fields ([head,.ref L,.none,rawInt L,.none] ++ (if pl.isEmpty then List.replicate 6 Value.none else pl)).toArray }:Obj)=eo
 have g1:(g.push eo).get? a=some ⟨C,dx,.fields vs,sl⟩:=Heap.get?_push_of_some eo ga
 refine wpAny_setField g1 rfl hv ?_
 have hta:g.objs.size ≠ a:=Nat.ne_of_gt (Heap.lt_size ga)
 have g2:((g.push eo).update a (Obj.mapFields (·.setIfInBounds 1 (Value.ref g.objs.size)))).get? a=some ⟨C,dx,.fields (vs.setIfInBounds 1 (.ref g.objs.size)),sl⟩ :=
  Heap.get?_update_self (Obj.mapFields (·.setIfInBounds 1 (Value.ref g.objs.size))) g1 rfl
 have g3:((g.push eo).update a (Obj.mapFields (·.setIfInBounds 1 (Value.ref g.objs.size)))).get? g.objs.size=some eo :=
  (Heap.get?_update_other (g.push eo) (Obj.mapFields (·.setIfInBounds 1 (Value.ref g.objs.size))) (Ne.symm hta)).trans (Heap.get?_push_size g (by subst hE; rfl))
 unfold setFlight
 refine wpAny_bind (wpAny_field g2 rfl (x:=.ref g.objs.size) (by simp [hv]) ?_)
 rw [if_pos (show (Value.ref g.objs.size != Value.none)=true from by simp)]
 have he:eo.data=.fields ([head,.ref L,.none,rawInt L,.none] ++ (if pl.isEmpty then List.replicate 6 Value.none else pl)).toArray:=by subst hE; rfl
 refine wpAny_setField g3 he (by simp only [List.size_toArray,List.length_append,List.length_cons,List.length_nil] <;> omega) (go _ g.objs.size (by rw [hg.1]; exact Nat.le_refl _) hta ?_ ?_ ⟨?_,?_⟩)
 ·rw [Heap.get?_update_other _ _ hta]
  exact g2
 ·refine ⟨_,_,Heap.get?_update_self _ g3 (Obj.isFreed_of_fields (Obj.data_mapFields he _)),Obj.data_mapFields he _,?_⟩
  first | (simp; done) | (rcases hpl with rfl | ⟨_,_,_,_,_,_,_,rfl⟩ <;> simp)
 ·intro b o hb hba _ q
  have q1:g.get? b=some o:=(hg.2.1 b hb).trans q
  rw [Heap.get?_update_other _ _ (Nat.ne_of_gt (Heap.lt_size q1)),Heap.get?_update_other _ _ (Ne.symm hba)]
  exact Heap.get?_push_of_some _ q1
 ·intro b o hba _ q
  obtain ⟨sl',q1⟩:=hg.2.2 b o q
  refine ⟨sl',?_⟩
  rw [Heap.get?_update_other _ _ (Nat.ne_of_gt (Heap.lt_size q1)),Heap.get?_update_other _ _ (Ne.symm hba)]
  exact Heap.get?_push_of_some _ q1
theorem fly {base:Heap} {env:Env} {outer:List Env} {L a:Addr} {C:Value} {dx T:Option Addr} {n:Nat} {Q:Unit->Shared->Prop}
  (hA:A.frames=some (env::outer)) (FF:s.heap.FunFrames base (env::outer)) (hL:env.frame=some L) (hn:n <= s.heap.objs.size) (hx:Flight s.heap n a C dx T)
  (go:∀ h' t,s.heap.objs.size <= t->Flight h' n a C dx (some t)->Flown ((env::outer).filterMap (·.frame)) a T s.heap h'->Q () { s with heap:=h' }) :
  wpAny M A (noteFrame (.ref a) env) (fun _ s'=>wpAny M A (setFlight (.ref a) none) Q E s') E s:=by
 obtain ⟨vs,sl,ha,hna,hv,h2,hT⟩:=hx
 have h2':∀ t:Addr,(vs.setIfInBounds 1 (.ref t))[2]? = some .none:=fun t=>by rw [Array.getElem?_setIfInBounds_ne (by decide)]; exact h2
 unfold noteFrame
 simp only [hL]
 cases T with
 | none =>
  refine wpAny_bind (wpAny_field ha rfl hT ?_)
  rw [if_neg (by decide)]
  refine entryX hA FF hL ha hv fun h' t ht hta e1 e2 fl=>?_
  exact go h' t ht ⟨_,_,e1,hna,by simpa using hv,h2' t,by simp [hv],Nat.le_trans hn ht,hta,e2⟩ fl
 | some t0 =>
  obtain ⟨h1,hnt,ht0,ot,ts,g1,g2,g3⟩:=hT
  refine wpAny_bind (wpAny_field ha rfl h1 ?_)
  rw [if_pos (show (Value.ref t0 != Value.none)=true from by simp)]
  refine wpAny_bind (wpAny_field g1 g2 g3 ?_)
  rw [if_neg (show ¬ ((Value.none == rawInt L)=true) from by simp [rawInt])]
  refine wpAny_bind (wpAny_setField g1 g2 (Array.getElem?_eq_some_iff.mp g3).1 ?_)
  have oth:∀ b,b ≠ t0->(s.heap.update t0 (Obj.mapFields (·.setIfInBounds 3 Value.none))).get? b=s.heap.get? b:=fun b hb=>Heap.get?_update_other _ _ (Ne.symm hb)
  have hsz:(s.heap.update t0 (Obj.mapFields (·.setIfInBounds 3 Value.none))).objs.size=s.heap.objs.size:=Heap.size_after_update ..
  refine entryX (s:={ s with heap:=s.heap.update t0 (Obj.mapFields (·.setIfInBounds 3 Value.none)) }) hA (FF.of_keeps fun b o hb hno=>⟨o,(oth b fun q=>?_).trans hb,rfl⟩) hL ((oth a (Ne.symm ht0)).trans ha) hv fun h' t ht hta e1 e2 fl=>?_
  ·subst q
   rw [g1] at hb
   cases hb
   exact hno ts g2
  ·have ht':s.heap.objs.size <= t:=by rw [<- hsz]; exact ht
   refine go h' t ht' ⟨_,_,e1,hna,by simpa using hv,h2' t,by simp [hv],Nat.le_trans hn ht',hta,e2⟩ ⟨fun b o hb hba hbt q=>?_,fun b o hba hbt q=>?_⟩
   ·exact fl.keep b o hb hba (fun z=>by cases z) ((oth b fun z=>hbt (by rw [z])).trans q)
   ·exact fl.slot b o hba (fun z=>by cases z) ((oth b fun z=>hbt (by rw [z])).trans q)
end
end L2
namespace L2
open PySem PySem.Calls PyProof.Rows PySem.Builtin PySem.Builtin.ObjectAttr
abbrev vMro:List Value:=[.type "ValueError",.type "Exception",.type "BaseException",.type "object"]
def xIn (K:PySem.W.Frag) (C:Addr):Bool:=match K.lookup C with
 | some ⟨.type "type",_,.cls cd,sl⟩=>(match cd.mro,sl.toList with
  | .ref D::bm,[_,_,_,_,some (.builtin n),_]=>D == C && n == "ValueError.__new__" && !cd.hasDel && cd.hasDict && PySem.W.tailIn K vMro bm
  | _,_=>false)
 | _=>false
theorem xcls {K:PySem.W.Frag} {h:Heap} {C:Addr} (X:K.In h) (q:xIn K C=true) :
  ∃ nm qn N bs bm sn sub ab col dd k0 k1 k2 k3 k5,h.get? C=some (excClassObj nm qn C N bs bm true sn sub ab col dd k0 k1 k2 k3 k5 "ValueError.__new__")/\OwnTail h vMro bm:=by
 unfold xIn at q
 split at q
 ·rename_i dd cd sl ho
  split at q
  ·rename_i D bm k0 k1 k2 k3 n k5 hm hs
   simp only [Bool.and_eq_true,beq_iff_eq,Bool.not_eq_true'] at q
   obtain ⟨⟨⟨⟨rfl,rfl⟩,hdel⟩,hdct⟩,ht⟩:=q
   obtain ⟨nm,bs,mro,ns,qn,hd,sn,sub,ab,col,del⟩:=cd
   dsimp only at hm hdel hdct
   subst hm hdel hdct
   obtain ⟨l⟩:=sl
   simp only at hs
   subst hs
   exact ⟨nm,qn,ns,bs,bm,sn,sub,ab,col,dd,k0,k1,k2,k3,k5,X _ _ ho,PySem.W.tail_of_in X ht⟩
  ·cases q
 ·cases q
abbrev xtup (l:List Value):Obj:={ cls:=.type "tuple",data:=.seq l.toArray }
abbrev xnew (C t:Addr):Obj:={ cls:=.ref C,data:=.fields #[.ref t,.none,.none,.none,.bool false,.none] }
section
variable {prog:Program} {w:World} {A:Around} {E:Value->Shared->Prop} {h:Heap} {g:Array GenState} {d:Drawn} {t:Nat} {os:OsState} {K:PySem.W.Frag} {C fI a t0:Addr} {dx:Option Addr} {sl:Array (Option Value)}
theorem xtype {rest:List Value} {Q:Fin->Shared->Prop} (X:K.In h) (hx:xIn K C=true) (hi:PySem.W.findIn K (.ref C) "__init__"=some (some (.ref fI))) (hf:PySem.W.typeIn K (.ref fI)=some (.type "function")) (hr:rest.length <= sizeLine)
  (go:wpAny (model prog w) A (call (.ref fI) (.ref (h.objs.size + 1)::rest)) (fun r s'=>r=.none/\Q (.done (.ret (.ref (h.objs.size + 1)))) s') E ⟨(h.push (xtup rest)).push (xnew C h.objs.size),g,d,t,os⟩) :
  wpAny (model prog w) A (Builtin.«type.__call__» ⟨.ref C::rest,[]⟩) Q E ⟨h,g,d,t,os⟩:=by
 obtain ⟨nm,qn,N,bs,bm,sn,sub,ab,col,dd,k0,k1,k2,k3,k5,hC,T⟩:=xcls X hx
 have Fv:=PySem.F.excBase_ValueError
 have hB:vMro.contains (.type "ValueError")=true:=by decide
 repeat (first | with_reducible refine wpAny_loadPart_at hC ?_ | with_reducible refine wpAny_madeBy_exc hC ?_ | wp_step)
 refine codeAny_call_builtin_code (Code.quiet_builtin _ Fv.quiet) (wpAny_check_new_subU Fv hB T hC ?_)
 refine codeAny_exc_new_subU Fv hB Fv T hC ?_ hr
 show wpAny _ _ _ _ _ _
 have kp:∀ b o,h.get? b=some o->((h.push (xtup rest)).push (xnew C h.objs.size)).get? b=some o:=fun b o e=>Heap.get?_push_of_some _ (Heap.get?_push_of_some _ e)
 have hC1:=kp _ _ hC
 have X1:K.In ((h.push (xtup rest)).push (xnew C h.objs.size)):=X.keeps kp
 have hg:((h.push (xtup rest)).push (xnew C h.objs.size)).get? (h.objs.size + 1)=some (xnew C h.objs.size):=by heap_get
 have hcC:(Value.ref C::bm).contains (.ref C)=true:=by simp
 unfold isInstance
 repeat (first | with_reducible refine wpAny_loadPart_at hg ?_ | (with_reducible refine wpAny_isSubtype_exc hC1 ?_; rw [hcC]) | wp_step)
 show wpAny _ _ (typeLookup (.ref C) _) _ _ _
 refine (PySem.W.looks_findIn X1 hi).at ?_
 refine wpAny_holding (wpAny_bind ((PySem.W.bind_fn X1 _ hf).at ?_))
 refine wpAny_bind (wpAny_mono go (fun r s' hr=>?_) fun _ _ z=>z)
 obtain ⟨rfl,q⟩:=hr
 wp_walk
 exact q
theorem xcall {rest:List Value} {Q:Value->Shared->Prop} (X:K.In h) (hx:xIn K C=true) (hi:PySem.W.findIn K (.ref C) "__init__"=some (some (.ref fI))) (hf:PySem.W.typeIn K (.ref fI)=some (.type "function")) (hr:rest.length <= sizeLine)
  (go:wpAny (model prog w) (A.under (.builtin "type.__call__" ⟨.ref C::rest,[]⟩)) (call (.ref fI) (.ref (h.objs.size + 1)::rest)) (fun r s'=>r=.none/\Q (.ref (h.objs.size + 1)) s') E ⟨(h.push (xtup rest)).push (xnew C h.objs.size),g,d,t,os⟩) :
  wpAny (model prog w) A (call (.ref C) rest) Q E ⟨h,g,d,t,os⟩:=by
 obtain ⟨nm,qn,N,bs,bm,sn,sub,ab,col,dd,k0,k1,k2,k3,k5,hC,T⟩:=xcls X hx
 have f1:=tc_lookup
 have f2:=tc_bind (.ref C)
 have hT:(⟨h,g,d,t,os⟩:Shared).TypeIs (.ref C) "type":=⟨_,hC,rfl⟩
 refine wpAny_call (codeAny_of_tree ?_)
 show wpAny _ _ (callAny (.ref C) _) _ _ _
 repeat (any_goals (first | assumption | with_reducible refine wpAny_loadPart_at hC ?_ | wp_step))
 refine ⟨rfl,?_⟩
 exact codeAny_call_builtin_at (Code.quiet_builtin _ (by decide +kernel)) entry_typeCall (wpAny_check_type_call_sub hC (xtype X hx hi hf hr go))
theorem xinit {v:Value} {Q:Value->Shared->Prop} (X:K.In h) (hx:xIn K C=true) (ha:h.get? a=some ⟨.ref C,dx,.fields #[.ref t0,.none,.none,.none,.bool false,.none],sl⟩)
  (go:∀ h',h'.get? a=some ⟨.ref C,dx,.fields #[.ref h.objs.size,.none,.none,.none,.bool false,.none],sl⟩->(∀ b o,b ≠ a->h.get? b=some o->h'.get? b=some o)->Q .none ⟨h',g,d,t,os⟩) :
  wpAny (model prog w) A (call (.builtin "ValueError.__init__") [.ref a,v]) Q E ⟨h,g,d,t,os⟩:=by
 obtain ⟨nm,qn,N,bs,bm,sn,sub,ab,col,dd,k0,k1,k2,k3,k5,hC,T⟩:=xcls X hx
 have Fv:=PySem.F.excBase_ValueError
 refine wpAny_call (codeAny_call_builtin Fv.init.plain Fv.initEntry (wpAny_check_init_subU Fv T hC ha rfl ?_))
 wp_walk
 refine go _ ?_ ?_
 ·rw [Heap.get?_update_self _ (Heap.get?_push_of_some _ ha) rfl]
  rfl
 ·intro b o hb e
  rw [Heap.get?_update_other _ _ (Ne.symm hb)]
  exact Heap.get?_push_of_some _ e
theorem refuse_tail {bmB tl:List Value} {self:Value} {what:Str} (T:OwnTail h bmB tl):refuseLoop self what tl=refuseLoop self what bmB:=by
 induction T with
 | base=>rfl
 | own _ _ _ _ ih=>rw [refuseLoop_ref,ih]
end
end L2
namespace L2
open PySem PySem.Calls PyProof.Rows PySem.Builtin PySem.Builtin.ObjectAttr
section
variable {prog:Program} {w:World} {A:Around} {E:Value->Shared->Prop} {h:Heap} {g:Array GenState} {d:Drawn} {t:Nat} {os:OsState} {K:PySem.W.Frag} {C fI a t0:Addr} {dx:Option Addr} {sl:Array (Option Value)}
theorem xstore {name:Str} {v:Value} {o:Obj} {Q:Unit->Shared->Prop} (X:K.In h) (hx:xIn K C=true) (hs:PySem.W.findIn K (.ref C) "__setattr__"=some (some (.builtin "object.__setattr__")))
  (hn:PySem.W.findIn K (.ref C) name=some none) (ha:h.get? a=some o) (hc:o.cls=.ref C) (hdn:o.dict=none) (hnc:PySem.W.notCls o=true)
  (go:∀ h' tk,h'.get? a=some { o with dict:=some h.objs.size }->h'.Ns1 h.objs.size (fun y=>if y=name then some v else none)->(∀ b u,b ≠ a->h.get? b=some u->h'.get? b=some u)->Q () ⟨h',g,d,tk,os⟩) :
  wpAny (model prog w) A (setAttr (.ref a) name v) Q E ⟨h,g,d,t,os⟩:=by
 have I:PySem.W.InstAt h a o C none:=⟨ha,hc,hnc,by rw [hdn]; trivial⟩
 refine PySem.W.set_plain X I hs ?_
 obtain ⟨nm,qn,N,bs,bm,sn,sub,ab,col,dd,k0,k1,k2,k3,k5,hC,T⟩:=xcls X hx
 have SF:=PySem.F.store_ValueError
 have sub1:PySem.W.Looks (model prog w) h (isInstance (.ref a) (.type "object")) true:=by
  refine I.type.andThen fun A Q E s k q=>?_
  obtain ⟨h1,g1,d1,t1,os1⟩:=s
  refine wpAny_isSubtype_exc (k _ _ hC) ?_
  rw [List.contains_cons,T.hasType (show vMro.contains (.type "object")=true by decide)]
  exact q
 refine codeAny_call_builtin SF.slot.plain SF.entry (@PySem.W.check_slot (model prog w) _ _ _ "object.__setattr__" "object" "__setattr__" (.ref a) _ [] _ SF.kind SF.split sub1 (SF.args (.ref a) _ v) ?_)
 have L0:=I.type (M:=model prog w)
 have L1:=PySem.W.looks_findIn (M:=model prog w) X hn
 have hp:=SF.passes (.ref a)
 unfold Builtin.«object.__setattr__»
 repeat (first | rw [refuse_eq] | (rw [refuseLoop_ref,refuse_tail T,hp]) | with_reducible refine PySem.W.Looks.at L0 ?_ | with_reducible refine wpAny_mroOf_exc hC ?_ | with_reducible refine PySem.W.Looks.at L1 ?_ | wp_step)
 obtain ⟨oc,odi,oda,osl⟩:=o
 dsimp only at hc hdn
 subst hc hdn
 have hx1:(h.push { cls:=.type "dict",data:=.dict #[] }).get? a=some ⟨.ref C,none,oda,osl⟩:=Heap.get?_push_of_some _ ha
 have hxs:a ≠ h.objs.size:=Nat.ne_of_lt (Heap.lt_size ha)
 dsimp only
 unfold classData
 refine wpAny_bind (wpAny_bind (wpAny_load hC (wpAny_pure ?_)))
 dsimp only
 rw [if_neg (by decide),if_neg (by simp [typeHasDict])]
 split
 ·cases hnc
 ·refine wpAny_bind (wpAny_alloc' ?_)
  refine wpAny_bind (wpAny_update' hx1 ?_)
  refine wpAny_pure ?_
  have hgd:((h.push { cls:=.type "dict",data:=.dict #[] }).update a fun o=>{ cls:=o.cls,dict:=some h.objs.size,data:=o.data,slots:=o.slots }).get? h.objs.size=some { cls:=.type "dict",data:=.dict #[] } :=
   (Heap.get?_update_ne _ _ _ _ hxs.symm).trans (Heap.get?_push_at rfl rfl)
  have hnd:((h.push { cls:=.type "dict",data:=.dict #[] }).update a fun o=>{ cls:=o.cls,dict:=some h.objs.size,data:=o.data,slots:=o.slots }).Ns h.objs.size (fun _=>none) :=
   ⟨_,#[],_,hgd,rfl,fun e he=>absurd he (by simp),fun _=>rfl⟩
  show wpAny _ _ (storeInDict h.objs.size (.str name _) name v) _ _ _
  unfold storeInDict newKeyGuard
  refine wpAny_bind (wpAny_pure (wpAny_bind (wpAny_nsSet1 (Heap.Ns1.of_empty hnd) fun h' hn' hs=>?_)))
  obtain ⟨oD,esD,epD,hoD,hdD,hcD⟩:=hn'.count (Within.cons name v Within.nil)
  refine wpAny_bind (wpAny_lookBehind hoD (by rw [hdD]; exact pastItsLine_dict (Nat.le_trans hcD (by rw [List.length_cons,List.length_nil,sizeLine_eq]; omega))) ?_)
  refine wpAny_pure (go h' _ ?_ hn' fun b u hb e=>?_)
  ·refine (hs.2 a hxs).trans (Heap.get?_update_self _ hx1 ?_)
   have hfr:=(Heap.get?_some_iff.mp ha).2
   cases oda <;> first | rfl | exact hfr
  ·exact (hs.2 b (Nat.ne_of_lt (Heap.lt_size e))).trans ((Heap.get?_update_ne _ _ _ _ hb).trans (Heap.get?_push_of_some _ e))
theorem xby {ox:Obj} {od:Option Obj} {name:Str} {tk:Tok} {fill expr:Bool} {Q:Value->Shared->Prop} {s:Shared} (X:K.In s.heap) (I:PySem.W.InstAt s.heap a ox C od)
  (hga:PySem.W.findIn K (.ref C) "__getattribute__"=some (some (.builtin "BaseException.__getattribute__"))) (hgn:PySem.W.findIn K (.ref C) "__getattr__"=some none) (hm:PySem.W.mroIn K C (.type "BaseException")=some true)
  (go:wpAny (model prog w) A.in1 (Builtin.«object.__getattribute__» ⟨[.ref a,.str name tk],[]⟩) (fun fin s'=>match fin with | .done (.ret v)=>wpAny (model prog w) A (handedOut v) Q E s' | _=>False) (fun _ _=>False) s) :
  wpAny (model prog w) A (getAttrBy (.ref a) (.str name tk) fill expr) Q E s:=by
 obtain ⟨h,g,d,t,os⟩:=s
 have L0:=I.type (M:=model prog w)
 have L1:=PySem.W.looks_findIn (M:=model prog w) X hga
 have L2:=PySem.W.looks_findIn (M:=model prog w) X hgn
 have L3:PySem.W.Looks (model prog w) h (isInstance (.ref a) (.type "BaseException")) true:=L0.andThen (PySem.W.looks_mroIn X hm)
 have FB:=PySem.F.attrBase_ValueError
 unfold getAttrBy
 refine wpAny_holding (wpAny_bind (L0.at (wpAny_bind (L1.at ?_))))
 have h0:(onTheHeap (Value.ref C) && Value.builtin "BaseException.__getattribute__" == Value.builtin "object.__getattribute__")=false:=by
  have:(Value.builtin "BaseException.__getattribute__" == Value.builtin "object.__getattribute__")=false:=by decide +kernel
  rw [this]; rfl
 dsimp only
 rw [h0,if_neg Bool.false_ne_true]
 unfold getAttrByItsOwn hookBefore
 rw [if_pos (show onTheHeap (Value.ref C)=true from rfl)]
 refine wpAny_bind (L2.at (wpAny_bind (wpAny_attempt (wpAny_holding ?_))))
 unfold callGetattribute
 rw [if_neg (by cases expr <;> decide)]
 unfold boundAndCalled
 rw [FB.ga.bind]
 refine wpAny_bind (wpAny_pure (wpAny_call (codeAny_call_builtin FB.ga.plain PySem.F.entry_bexc_ga (@PySem.W.check_slot (model prog w) _ _ _ "BaseException.__getattribute__" "BaseException" "__getattribute__" (.ref a) _ [] _ (by decide +kernel) (by decide +kernel) L3 (PySem.F.args_bexc_ga _ _) (wpAny_mono go (fun fin s' z=>?_) fun _ _ z=>z.elim)))))
 rcases fin with (_ | _ | _ | _) | _ <;> first | exact z | exact z.elim
theorem xentry_value {ox:Obj} {od:Option Obj} {name:Str} {tk:Tok} {v:Value} {Q:Fin->Shared->Prop} {s:Shared} (X:K.In s.heap) (I:PySem.W.InstAt s.heap a ox C od)
  (hf:PySem.W.findObj K C od name=some (.value v)) (hq:Q (.done (.ret v)) s):wpAny (model prog w) A (Builtin.«object.__getattribute__» ⟨[.ref a,.str name tk],[]⟩) Q E s:=by
 obtain ⟨h,g,d,t,os⟩:=s
 have L0:=I.type (M:=model prog w)
 have L1:=PySem.W.looks_find (M:=model prog w) X I hf
 unfold Builtin.«object.__getattribute__»
 repeat lk
 exact hq
theorem xentry_bind {ox:Obj} {od:Option Obj} {name:Str} {tk:Tok} {g a':Value} {P:Value->Shared->Prop} {s:Shared} (X:K.In s.heap) (I:PySem.W.InstAt s.heap a ox C od)
  (hf:PySem.W.findObj K C od name=some (.bind g a')) (hne:(Value.ref a == Value.none)=false)
  (go:wpAny (model prog w) A (call g [a',.ref a,.ref C]) P E s) :
  wpAny (model prog w) A (Builtin.«object.__getattribute__» ⟨[.ref a,.str name tk],[]⟩) (fun fin s'=>match fin with | .done (.ret v)=>P v s' | _=>False) E s:=by
 obtain ⟨h,gg,d,t,os⟩:=s
 have L0:=I.type (M:=model prog w)
 obtain ⟨r,er⟩:∃ r,r=Found.bind g a':=⟨_,rfl⟩
 rw [<- er] at hf
 have L1:=PySem.W.looks_find (M:=model prog w) X I hf
 unfold Builtin.«object.__getattribute__»
 repeat lk
 cases er
 show wpAny _ _ (holding [a'] (call g [a',.ref a,.ref C]) >>= ret) _ _ _
 exact wpAny_bind (wpAny_holding (wpAny_mono go (fun v s' z=>wpAny_pure z) fun _ _ z=>z))
theorem xget {ox:Obj} {od:Option Obj} {name:Str} {v:Value} {expr:Bool} {Q:Value->Shared->Prop} {s:Shared} (X:K.In s.heap) (I:PySem.W.InstAt s.heap a ox C od)
  (hga:PySem.W.findIn K (.ref C) "__getattribute__"=some (some (.builtin "BaseException.__getattribute__"))) (hgn:PySem.W.findIn K (.ref C) "__getattr__"=some none) (hm:PySem.W.mroIn K C (.type "BaseException")=some true)
  (hf:PySem.W.findObj K C od name=some (.value v)) (hh:PySem.W.handedIn v=true) (hq:Q v { s with toks:=s.toks + 1 }):wpAny (model prog w) A (getAttr (.ref a) name expr) Q E s:=by
 unfold getAttr
 refine wpAny_bind (wpAny_mkText (xby (s:={ s with toks:=s.toks + 1 }) X I hga hgn hm (xentry_value (s:={ s with toks:=s.toks + 1 }) X I hf ?_)))
 show wpAny _ _ (handedOut v) _ _ _
 rw [PySem.W.handedOut_of hh]
 exact wpAny_pure hq
theorem kitx_exc {ox od:Obj} (hga:PySem.W.findIn K (.ref C) "__getattribute__"=some (some (.builtin "BaseException.__getattribute__"))) (hgn:PySem.W.findIn K (.ref C) "__getattr__"=some none)
  (hm:PySem.W.mroIn K C (.type "BaseException")=some true) (hcl:(PySem.W.clsIn K C).isSome=true) (ha:PySem.W.findIn K (.ref C) "__class__"=some (some (.builtin "object.__class__")))
  (hn:PySem.W.specialIn K (.builtin "object.__class__") "__get__"=some (some (.builtin "getset_descriptor.__get__"))) (htk:PySem.W.takesIn K (.builtin "object.__class__")=some true) (hmo:PySem.W.mroIn K C (.type "object")=some true) :
  PySem.W.KitX K (.ref a) (.ref C) (fun h=>PySem.W.InstAt h a ox C (some od)) where
 ty:=fun _ _ _ I=>I.type
 it:=fun _ _ X _=>by
  unfold PySem.W.clsIn at hcl
  split at hcl
  ·rename_i c' d' cd' sl' ho
   intro A' Q' E' s' k q
   unfold isType loadHead
   exact wpAny_bind (wpAny_loadPart (k _ _ (X _ _ ho)) (wpAny_pure q))
  ·cases hcl
 ne:=fun h tp dd its n sl X htp=>by
  refine Bool.eq_false_iff.mpr fun q=>?_
  have e:C=tp:=Value.ref.inj (beq_iff_eq.mp q)
  subst e
  unfold PySem.W.clsIn at hcl
  split at hcl
  ·rename_i c' d' cd' sl' ho
   have z:=(X _ _ ho).symm.trans htp
   cases z
  ·cases hcl
 ca:=fun {prog w A E Q s} X I k=>by
  have hf:PySem.W.findObj K C (some od) "__class__"=some (.bind (.builtin "getset_descriptor.__get__") (.builtin "object.__class__")):=PySem.W.findObj_data hcl ha hn htk
  unfold getAttr? getAttrBy?
  refine wpAny_bind (wpAny_mkText (wpAny_bind (wpAny_attempt (xby (s:={ s with toks:=s.toks + 1 }) X I hga hgn hm (xentry_bind (s:={ s with toks:=s.toks + 1 }) X I hf rfl
   (wpAny_call (PySem.W.class_get (s:={ s with toks:=s.toks + 1 }) X I hmo (PySem.W.handed_on rfl (wpAny_pure k)))))))))
theorem xraise {M:Model} {env:Env} {x:Sem Value} {s:Shared} {Q:Flow->Shared->Prop} (hx:xIn K C=true) (hh:A.handled=none)
  (go:wpAny M A x (fun v s₁=>∃ a dx t sl,v=.ref a/\K.In s₁.heap/\s₁.heap.get? a=some ⟨.ref C,dx,.fields #[.ref t,.none,.none,.none,.bool false,.none],sl⟩/\E (.ref a) s₁) E s) :
  wpAny M A (raiseStmt env (some x) none) Q E s:=by
 unfold raiseStmt
 refine wpAny_bind (wpAny_mono go (fun v s₁ h₁=>?_) fun _ _ z=>z)
 obtain ⟨a,dx,t,sl,rfl,X,he,hE⟩:=h₁
 obtain ⟨nm,qn,N,bs,bm,sn,sub,ab,col,dd,k0,k1,k2,k3,k5,hC,T⟩:=xcls X hx
 obtain ⟨hp,g,d,tk,os⟩:=s₁
 have hcB:(Value.ref C::bm).contains (.type "BaseException")=true:=by rw [List.contains_cons,T.hasType (show vMro.contains (.type "BaseException")=true by decide),Bool.or_true]
 repeat (first | with_reducible refine wpAny_loadPart_at he ?_ | with_reducible refine wpAny_loadPart_at hC ?_ | (with_reducible refine wpAny_isSubtype_exc hC ?_; rw [hcB]) | wp_step)
 exact wpAny_raiseNew_none hh hE
theorem xmatch {M:Model} {D:Addr} {s:Shared} {Q:Bool->Shared->Prop} {vs:Array Value} (X:K.In s.heap) (ha:s.heap.get? a=some ⟨.ref C,dx,.fields vs,sl⟩)
  (h1:PySem.W.instIn K (.ref D) (.type "tuple")=some false) (h2:(PySem.W.clsIn K D).isSome=true) (h3:PySem.W.mroIn K D (.type "BaseException")=some true) (h4:PySem.W.mroIn K C (.ref D)=some true)
  (hq:Q true s):wpAny M A (excMatches (.ref a) (.ref D)) Q E s:=by
 obtain ⟨h,g,d,t,os⟩:=s
 have L1:=PySem.W.looks_instIn (M:=M) X h1
 have L2:PySem.W.Looks M h (isType (.ref D)) true:=by
  unfold PySem.W.clsIn at h2
  split at h2
  ·rename_i c' d' cd' sl' ho
   intro A' Q' E' s' k q
   unfold isType loadHead
   exact wpAny_bind (wpAny_loadPart (k _ _ (X _ _ ho)) (wpAny_pure q))
  ·cases h2
 have L3:=PySem.W.looks_mroIn (M:=M) X h3
 have L4:=PySem.W.looks_mroIn (M:=M) X h4
 have L5:PySem.W.Looks M h (typeOf (.ref a)) (.ref C):=(PySem.W.Looks.ld ha).andThen .now
 unfold excMatches isExcClass
 repeat lk
 exact hq
theorem next_end_h {it l:Addr} {i:Nat} {items:Array Value} {s:Shared} {e:Addr} {C:Value} {vs:Array Value} {Q:Option Value->Shared->Prop} (hh:A.handled=some (.ref e)) (he:s.heap.get? e=some ⟨C,dx,.fields vs,sl⟩) (h2:vs[2]? = some .none)
  (hit:s.heap.IsListIter it l i) (hne:e ≠ it) (hl:s.heap.IsList l items) (hx:items[i]? = none)
  (hQ:∀ h',Heap.ExtBut it s.heap h'->Q none { s with heap:=h' }):wpAny (model prog w) A (pyNext (.ref it)) Q E s:=by
 obtain ⟨o,ho,hc,hd⟩:=id hit
 obtain ⟨ol,hol,_,nl,hdl⟩:=hl
 unfold pyNext
 refine wpAny_bind (wpAny_attempt (wpAny_callSpecial?_slot (name:=Str.ofString "__next__") hit.typeIs slot_listiter_next (wpAny_call_entry slot_listiter_next hit.typeIs entry_listiter_next ?_ (args_listiter_next _))))
 show wpAny _ _ (field (.ref it) 0 >>= _) _ _ s
 refine wpAny_bind (wpAny_field ho hd (x:=.ref l) rfl ?_)
 show wpAny _ _ (if (Value.ref l == Value.none)=true then _ else _) _ _ s
 rw [if_neg (show ¬ ((Value.ref l == Value.none)=true) from Bool.false_ne_true)]
 show wpAny _ _ (field (.ref it) 1 >>= _) _ _ s
 refine wpAny_bind (wpAny_field ho hd (x:=.int i 0) rfl ?_)
 show wpAny _ _ (seqItems? (.ref l) >>= _) _ _ s
 refine wpAny_bind (wpAny_seqItems hol hdl ?_)
 simp only [Int.toNat_natCast,hx]
 refine wpAny_bind (wpAny_rule (wpAny_bind (wpAny_setField ho hd (by simp) ?_)))
 show wpAny _ _ (newExc (.type "StopIteration") [] >>= _) _ _ _
 refine wpAny_bind ?_
 simp only [newExc,newTuple]
 refine wpAny_bind (wpAny_newObj_type ?_ (by size_fits))
 refine wpAny_bind (m:=firstArgMember _ _) (wpAny_of_eq (a:=Value.none) (by first | rfl | (simp only [firstArgMember]; rfl)) ?_)
 refine wpAny_newObj_type ?_ (by size_fits)
 simp only [raiseNew]
 refine wpAny_bind (wpAny_handled ?_)
 rw [show A.in1.handled=some (.ref e) from hh]
 have sz:(s.heap.update it (Obj.mapFields fun x=>x.setIfInBounds 0 Value.none)).objs.size=s.heap.objs.size:=Heap.size_after_update ..
 have he1:(s.heap.update it (Obj.mapFields fun x=>x.setIfInBounds 0 Value.none)).get? e=some ⟨C,dx,.fields vs,sl⟩:=(Heap.get?_update_other _ _ (Ne.symm hne)).trans he
 have ext:Heap.ExtBut it s.heap (s.heap.update it (Obj.mapFields fun x=>x.setIfInBounds 0 Value.none)):=(Heap.SameBut.update ..).extBut
 generalize s.heap.update it (Obj.mapFields fun x=>x.setIfInBounds 0 Value.none)=h1 at *
 have nee:e ≠ (h1.push { cls:=Value.type "tuple",data:=Data.seq #[] }).objs.size:=Nat.ne_of_lt (Nat.lt_of_lt_of_le (Heap.lt_size he1) (by rw [Heap.size_push]; exact Nat.le_succ _))
 dsimp only
 rw [if_pos (by rw [bne_iff_ne]; exact fun z=>nee (Value.ref.inj z))]
 generalize hN:(h1.push { cls:=Value.type "tuple",data:=Data.seq #[] }).objs.size=N at *
 generalize hE:({ cls:=Value.type "StopIteration",data:=Data.fields (#[Value.ref h1.objs.size,Value.none,Value.none,Value.none,Value.bool false,Value.none] ++ ownMembersOf (Value.type "StopIteration") []) }:Obj)=so
 have he2:((h1.push { cls:=Value.type "tuple",data:=Data.seq #[] }).push so).get? e=some ⟨C,dx,.fields vs,sl⟩:=Heap.get?_push_of_some _ (Heap.get?_push_of_some _ he1)
 have hso:((h1.push { cls:=Value.type "tuple",data:=Data.seq #[] }).push so).get? N=some so:=by rw [<- hN]; exact Heap.get?_push_size _ (by rw [<- hE]; rfl)
 have hsd:so.data=.fields #[Value.ref h1.objs.size,Value.none,Value.none,Value.none,Value.bool false,Value.none]:=by rw [<- hE]; rfl
 have hent:entryFor table "proto.unchain"=some Builtin.«proto.unchain»:=entryFor_of_tree (by kernel_rfl)
 refine wpAny_bind (wpAny_holding (wpAny_runValue (codeAny_builtin hent ?_)))
 unfold Builtin.«proto.unchain»
 dsimp only
 refine wpAny_bind (wpAny_field he2 rfl h2 ?_)
 rw [if_pos (show (Value.none == Value.none)=true from rfl)]
 refine wpAny_pure ?_
 show wpAny _ _ (updateField N 2 (Value.ref e) >>= _) _ _ _
 refine wpAny_bind (wpAny_setField (i:=2) (x:=.ref e) hso hsd (by simp) (wpAny_throw ?_))
 refine wpAny_bind (wpAny_isInstance (T:="StopIteration") (b:=true) ⟨_,Heap.get?_update_self _ hso (Obj.isFreed_of_fields (Obj.data_mapFields hsd _)),by rw [Obj.cls_mapFields,<- hE]⟩ isSubtype_stop ?_)
 refine wpAny_pure (hQ _ fun b o' hb e'=>?_)
 have e1:=ext b o' hb e'
 rw [Heap.get?_update_other _ _ (show N ≠ b from fun z=>?_)]
 ·exact Heap.get?_push_of_some _ (Heap.get?_push_of_some _ e1)
 ·have l1:=Heap.lt_size e1
  rw [<- z,<- hN,Heap.size_push] at l1
  exact absurd l1 (Nat.not_lt.mpr (Nat.le_succ _))
end
end L2
namespace L2
open PySem PySem.Spec PyProof.Rows
def ExcO (a:Addr) (C:Value) (dx:Option Addr):HO:=.ext fun h=>∃ vs sl,h.get? a=some ⟨C,dx,.fields vs,sl⟩/\vs[2]? = some .none
def ExcN (a C:Addr) (dx:Option Addr):HO:=.ext fun h=>∃ t sl,h.get? a=some ⟨.ref C,dx,.fields #[.ref t,.none,.none,.none,.bool false,.none],sl⟩
section
variable {P:Program} {w:World} {H:Hp} {h:Heap} {a:Addr} {C:Value} {D:Addr} {dx:Option Addr} {vs:Array Value} {sl:Array (Option Value)}
theorem excO_ok (e:h.get? a=some ⟨C,dx,.fields vs,sl⟩) (hv:vs[2]? = some .none):ObjOk P w H h a (ExcO a C dx) :=
 ⟨⟨vs,sl,e,hv⟩,⟨_,e⟩,fun _ _ ⟨vs,sl,e,hv⟩ k=>⟨vs,sl,k _ e,hv⟩⟩
theorem excN_ok {t:Addr} (e:h.get? a=some ⟨.ref D,dx,.fields #[.ref t,.none,.none,.none,.bool false,.none],sl⟩):ObjOk P w H h a (ExcN a D dx) :=
 ⟨⟨t,sl,e⟩,⟨_,e⟩,fun _ _ ⟨t,sl,e⟩ k=>⟨t,sl,k _ e⟩⟩
theorem excO_get (hok:HOk P w H h) (e:H a=some (ExcO a C dx)):∃ vs sl,h.get? a=some ⟨C,dx,.fields vs,sl⟩/\vs[2]? = some .none :=
 (show ObjOk P w H h a (ExcO a C dx) from hok a _ e).1
theorem excN_get (hok:HOk P w H h) (e:H a=some (ExcN a D dx)):∃ t sl,h.get? a=some ⟨.ref D,dx,.fields #[.ref t,.none,.none,.none,.bool false,.none],sl⟩ :=
 (show ObjOk P w H h a (ExcN a D dx) from hok a _ e).1
theorem Flight.get {n:Nat} {T:Option Addr} (x:Flight h n a C dx T):∃ vs sl,h.get? a=some ⟨C,dx,.fields vs,sl⟩/\vs[2]? = some .none :=
 let ⟨vs,sl,e,_,_,hv,_⟩:=x; ⟨vs,sl,e,hv⟩
theorem Flight.le {n:Nat} {T:Option Addr} (x:Flight h n a C dx T):n <= h.objs.size :=
 let ⟨_,_,e,hn,_⟩:=x; Nat.le_trans hn (Nat.le_of_lt (Heap.lt_size e))
theorem Flight.mono {n m:Nat} {T:Option Addr} (x:Flight h n a C dx T) (hm:m <= n):Flight h m a C dx T:=by
 obtain ⟨vs,sl,e,hn,hv,h2,q⟩:=x
 refine ⟨vs,sl,e,Nat.le_trans hm hn,hv,h2,?_⟩
 cases T with
 | none=>exact q
 | some t=>exact ⟨q.1,Nat.le_trans hm q.2.1,q.2.2⟩
end
def CXe (P:Program) (w:World):CXT:=fun outer H s E e s'=>∃ a C dx T H',e=.ref a/\s'.os=s.os/\AllBare s'.gens/\Un (frs outer) [] H H' s.heap s'.heap/\HOk P w H' s'.heap /\
 Flight s'.heap s.heap.objs.size a C dx T/\H' a=some (ExcO a C dx)/\(∀ t,T=some t->H' t=none)/\E C dx H'
def Throws (X:Cx) (E:XK):Prop:=∀ (pins:List (Addr × Obj)) (σ:St) (H:Hp) (s:Shared) (n:Nat) (a:Addr) (C:Value) (dx T:Option Addr),Inv X pins σ H s->X.s₀.heap.objs.size <= n ->
 Flight s.heap n a C dx T->H a=some (ExcO a C dx)->(∀ t,T=some t->H t=none/\∀ p ∈ X.pn ++ pins,p.1 ≠ t)->E C dx H->X.xe (.ref a) s
theorem passes_of {X:Cx} {E:XK} (th:Throws X E):Passes (CXe X.prog X.w) X E:=by
 rintro pins σ H s e s' I ⟨a,C,dx,T,H',rfl,os,bare,un,hok,fl,at_,tr,q⟩
 refine th pins σ H' s' s.heap.objs.size a C dx T (I.call' (ch:=[]) os un hok bare fun b z=>absurd z (by simp)) I.sz fl at_ (fun t ht=>⟨tr t ht,fun p hp=>?_⟩) q
 subst ht
 obtain ⟨_,_,_,_,_,_,_,hnt,_⟩:=fl
 have:=Heap.lt_size (I.pin p hp).1
 exact Nat.ne_of_lt (Nat.lt_of_lt_of_le this hnt)
section
variable {X:Cx} {pins:List (Addr × Obj)} {σ:St} {H:Hp} {s:Shared} {h':Heap} {a:Addr} {C:Value} {dx T:Option Addr} {n t:Nat}
theorem Inv.flown (I:Inv X pins σ H s) (hn:X.s₀.heap.objs.size <= n) (fl:Flight s.heap n a C dx T) (at_:H a=some (ExcO a C dx)) (tr:∀ t,T=some t->H t=none/\∀ p ∈ X.pn ++ pins,p.1 ≠ t)
  (fl':Flight h' n a C dx (some t)) (fw:Flown (frs X.stack) a T s.heap h'):Inv X pins σ H { s with heap:=h' }:=by
 obtain ⟨va,sa,ea,hva⟩:=fl'.get
 have na:∀ b,H b=none->b ≠ a:=fun b z e=>by rw [e,at_] at z; cases z
 have un:Un (frs X.stack) T.toList H H s.heap h':=by
  refine ⟨fun b o e z hb hx=>fw.keep b o hb (na b z) (fun q=>hx (by simp [q])) e,fun b o e z hb hx=>fw.slot b o (na b z) (fun q=>hx (by simp [q])) e,fun _ _ _ z _=>z,fun b o e hx=>?_,fun _ _ z=>z,fun _ _ _ z=>z,fun b ps z=>⟨#[],by simpa using z⟩⟩
  by_cases hb:b=a
  ·rw [hb]; exact ⟨_,ea⟩
  ·obtain ⟨sl,q⟩:=fw.slot b o hb (fun q=>hx (by simp [q])) e
   exact ⟨_,q⟩
 refine I.call (g':=s.gens) (d':=s.drawn) (t':=s.toks) (ch:=T.toList) un (fun b u e=>?_) I.bare (fun b hb=>?_)
 ·by_cases hb:b=a
  ·subst hb
   rw [at_] at e
   cases e
   exact excO_ok ea hva
  ·refine (I.hok b u e).stay (fun c v hc q=>?_) (fun _ q=>q) fun _ _ q=>q
   have hc2:∃ z,H c=some z:=by
    rcases hc with rfl | hc
    ·exact ⟨u,e⟩
    ·exact ⟨_,hc⟩
   obtain ⟨z,hz⟩:=hc2
   refine fw.keep c v (fun hm=>?_) (fun ec=>?_) (fun et=>?_) q
   ·rw [I.stkFree c hm] at hz; cases hz
   ·rcases hc with rfl | hc
    ·exact hb ec
    ·rw [ec,at_] at hc; cases hc
   ·rw [(tr c et).1] at hz; cases hz
 ·have eb:T=some b:=by
   cases T with
   | none=>simp at hb
   | some t0=>simp at hb; rw [hb]
  subst eb
  obtain ⟨vs,sl,e0,hna,hv,h2,h1,hnt,hta,ot,ts,g1,g2,g3⟩:=fl
  refine ⟨.inr (Nat.le_trans hn hnt),fun z=>?_,fun x c hc z=>?_,(tr b rfl).2⟩
  ·obtain ⟨m,⟨o,es,ep,ho,hd,_⟩,_⟩:=I.loc
   rw [z,ho] at g1
   cases g1
   rw [hd] at g2
   cases g2
  ·obtain ⟨v,o,ho,hd⟩:=I.cell x c hc
   rw [z,g1] at ho
   cases ho
   rw [hd] at g2
   cases g2
end
theorem throws_def {P:Program} {w:World} {K:PySem.W.Frag} {mg:Str->Option Value} {base:Heap} {N:List Str} {qual:Str} {scope:Scope} {f:Addr} {cd:Value} {A:Around} {outer:List Env} {s₀:Shared} {H₀:Hp} {E:XK} :
  Throws (cxOf (CXe P w) P w K mg base N qual scope f cd A outer s₀ H₀ E) E:=by
 intro pins σ H s n a C dx T I hn fl at_ tr q
 show wpAny _ _ (leaving _ (.ref a)) _ _ s
 unfold leaving
 refine wpAny_bind (fly (base:=base) I.ok.frames I.stack rfl fl.le fl fun h' t ht fl' fw=>?_)
 have I':=I.flown hn fl at_ tr fl' fw
 exact ⟨a,C,dx,some t,H,rfl,I'.os,I'.bare,I'.base,I'.hok,fl'.mono hn,at_,fun t' e=>by cases e; exact I.hok.fresh ht,q⟩
end L2
namespace L2
open PySem PySem.Spec PyProof.Rows
structure XCls (K:PySem.W.Frag) (C:Addr):Prop where
 xin:xIn K C=true
 sa:PySem.W.findIn K (.ref C) "__setattr__"=some (some (.builtin "object.__setattr__"))
 ga:PySem.W.findIn K (.ref C) "__getattribute__"=some (some (.builtin "BaseException.__getattribute__"))
 gn:PySem.W.findIn K (.ref C) "__getattr__"=some none
 mb:PySem.W.mroIn K C (.type "BaseException")=some true
 mo:PySem.W.mroIn K C (.type "object")=some true
 cl:PySem.W.findIn K (.ref C) "__class__"=some (some (.builtin "object.__class__"))
 cg:PySem.W.specialIn K (.builtin "object.__class__") "__get__"=some (some (.builtin "getset_descriptor.__get__"))
 ct:PySem.W.takesIn K (.builtin "object.__class__")=some true
 cs:(PySem.W.clsIn K C).isSome=true
 hd:PySem.W.hasDictIn K C=true
def tRaise (C:Addr) (sp:Sp) (E:XK) (t:TA):TS:=fun _ σ H=>t σ H fun vs H1=>vs.length <= 100/\∀ a,H1 a=none ->
 sp (.ref a::vs) (upd H1 a (ExcN a C none)) (fun v H2=>v=.non/\∃ dx,H2 a=some (ExcN a C dx)/\E (.ref C) dx (upd H2 a (ExcO a (.ref C) dx))) E0
section
variable {X:Cx} {k:Nat} {f C:Addr} {fd:FuncData} {ps:List Str} {sp:Sp} {E:XK} {x:Str} {np cpos pos p apos pos':Pos} {e o value:Expr} {es:List Expr} {t:TA} {ta tv te:TE} {fl:Str}
theorem ps_raise1 (F:FnOk X.prog X.w X.K X.mg X.base CX0 k f fd ps sp) (hr:Room (k + 1) X.A) (hc:X.calm=true) (xc:XCls X.K C) (hi:PySem.W.findIn X.K (.ref C) "__init__"=some (some (.ref f))) (hfn:PySem.W.isFn X.K (.ref f)=true)
  (hk:PySem.W.keepIn X.K (.ref C)=true) (hb:Binds X.K fd ps []) (hg:Gl X x) (hm:X.mg x=some (.ref C)) (ha:PA X (e::es) t) (th:Throws X E)
  (hdb:(x == ("__debug__":Str))=false:=by decide) (he:starEach (e::es) X.env=(false,eval e X.env)::starEach es X.env:=by rfl) (hpl:(backTo cpos (starEach es X.env)).any (·.1)=false:=by rfl) :
  PS X (.Raise (some (.Call (.Name x np) (e::es) [] cpos)) none pos) (tRaise C sp E t):=by
 intro pins s σ H D I h
 rw [arm_exec_Raise]
 simp only [evalOpt,Option.map]
 refine wpAny_bind (wpAny_standAt (xraise (K:=X.K) (C:=C) xc.xin (I.ok.hd hc) (wpAny_bind (wpAny_mono ?_ (fun v s₃ h₃=>wpAny_bind (wpAny_standAt (wpAny_pure h₃))) fun _ _ z=>z))))
 refine wpAny_Call_Name_kw (ld_glob I hg hm ?_ hdb)
 refine PySem.W.callWith_K (h₀:=X.base) I.ok.mod.kin hk (thn (ha cpos pins s σ H _ I h) fun us s1 ⟨vs,H1,I1,r,hv,q⟩=>⟨I1.kIn,?_⟩) he hpl
 obtain ⟨h1,g1,d1,t1,os1⟩:=s1
 have hul:us.length <= 100:=by rw [<- r.length]; exact hv
 refine xcall I1.kIn xc.xin hi (beq_iff_eq.mp hfn) (by rw [sizeLine_eq]; show us.length <= _; omega) ?_
 have hget:((h1.push (xtup us)).push (xnew C h1.objs.size)).get? (h1.objs.size + 1)=some (xnew C h1.objs.size):=by heap_get
 have hq:=q (h1.objs.size + 1) (I1.hok.fresh (Nat.le_succ _))
 have I2:Inv X pins σ (upd H1 (h1.objs.size + 1) (ExcN (h1.objs.size + 1) C none)) ⟨(h1.push (xtup us)).push (xnew C h1.objs.size),g1,d1,t1,os1⟩ :=
  I1.laid (t':=t1) (fun b u e=>Heap.get?_push_of_some _ (Heap.get?_push_of_some _ e)) (Nat.le_succ _) (excN_ok hget)
 have r2:Vals (V.ref (h1.objs.size + 1)::vs) (Value.ref (h1.objs.size + 1)::us):=.cons rfl r
 have hl:(Value.ref (h1.objs.size + 1)::us ++ []).length=ps.length:=by
  have e:=r2.length
  rw [F.len _ _ _ _ hq] at e
  rw [List.append_nil]
  exact e.symm
 have hbb:=hb ⟨(h1.push (xtup us)).push (xnew C h1.objs.size),g1,d1,t1,os1⟩ (Value.ref (h1.objs.size + 1)::us) I2.kIn hl
 rw [List.append_nil] at hbb
 refine wpAny_call (codeAny_mono (F.run _ X.stack _ _ ⟨Value.ref (h1.objs.size + 1)::us,[]⟩ (Value.ref (h1.objs.size + 1)::us) _ _ E0 (hr.make C us []) (I2.env0.make C us []) hbb r2 hq) fun r s' hq'=>?_)
 cases r with
 | error e=>exact (show False from hq').elim
 | ok fl =>
  cases fl with
  | ret u =>
   obtain ⟨v,H',I3,rv,ev,dx,e3,q3⟩:=I2.after hq'
   subst ev
   obtain ⟨tt,sl,e4⟩:=excN_get I3.hok e3
   refine ⟨rv,_,dx,tt,sl,rfl,I3.kIn,e4,?_⟩
   have I4:Inv X pins σ (upd H' (h1.objs.size + 1) (ExcO (h1.objs.size + 1) (.ref C) dx)) s' :=
    I3.write (x:=h1.objs.size + 1) (e:=h1.objs.size + 1) (t':=s'.toks) (by rw [e3]; trivial) (.inl rfl) (fun b u _ z=>z) ⟨_,e4⟩ (excO_ok e4 rfl)
   exact th pins σ _ s' X.s₀.heap.objs.size (h1.objs.size + 1) (.ref C) dx none I4 (Nat.le_refl _) ⟨_,_,e4,Nat.le_trans I1.sz (Nat.le_succ _),by simp,rfl,rfl⟩ upd_same (fun t z=>by cases z) q3
  | next=>exact False.elim hq'
  | brk=>exact False.elim hq'
  | cont=>exact False.elim hq'
def tXInit (K:PySem.W.Frag) (t:TA):TE:=fun σ H Q=>t σ H fun vs H1=>∃ a C dx v,vs=[.ref a,v]/\xIn K C=true/\H1 a=some (ExcN a C dx)/\Q .non H1
theorem pe_xinit {pl:Sem Bool} {D:Addr} (hg:Gl X x) (hm:X.mg x=some (.ref D)) (ha:PA X (e::es) t) (hgg:PySem.W.specialIn X.K (.ref D) "__getattribute__"=some (some (.builtin "type.__getattribute__")))
  (hr:PySem.W.readsIn X.K D (.type "type")=true) (hf:PySem.W.findCls X.K (.ref D) (.type "type") "__init__"=some (.val (.builtin "ValueError.__init__"))) (K:PySem.W.Frag) (hK:X.K=K:=by rfl) (hdb:(x == ("__debug__":Str))=false:=by decide)
  (he:starEach (e::es) X.env=(false,eval e X.env)::starEach es X.env:=by rfl) (hpl:(backTo pos (starEach es X.env)).any (·.1)=false:=by rfl)
  (ht:eval (.Call (.Attribute (.Name x np) "__init__" apos) (e::es) [] pos) X.env=(do
   let ov <- eval (.Name x np) X.env
   standAt apos.atName
   let (f,first) <- holding [ov] (getMethod ov "__init__" pl)
   callWith pos f first (backTo pos (starEach (e::es) X.env)) (backToKw pos (keywordEach [] X.env))):=by rfl) :
  PE X (.Call (.Attribute (.Name x np) "__init__" apos) (e::es) [] pos) (tXInit K t):=by
 subst hK
 intro pins s σ H Q I h
 refine PySem.W.methodCall_KW (pl:=pl) (ld_glob I hg hm ?_ hdb) ht
 refine PySem.W.method_cls I.kIn hgg (PySem.W.cls_value I.kIn hr hf (by decide +kernel) ?_)
 refine PyProof.Rows.callWith_builtin1 (thn (ha pos pins { s with toks:=s.toks + 1 } σ H _ (I.tok _) h) fun us s1 ⟨vs,H1,I1,r1,a,C,dx,v,ev,hx,ea,q⟩=>?_) he hpl
 subst ev
 obtain ⟨u1,u2,rfl,ru,rv⟩:=vals2 r1
 cases ru
 obtain ⟨tt,sl,e4⟩:=excN_get I1.hok ea
 obtain ⟨h1,g1,d1,t1,os1⟩:=s1
 refine xinit I1.kIn hx e4 fun h' e5 kp=>⟨.non,H1,?_,rfl,q⟩
 have I2:Inv X pins σ (upd H1 a (ExcN a C dx)) ⟨h',g1,d1,t1,os1⟩:=I1.write (x:=a) (e:=a) (t':=t1) (by rw [ea]; trivial) (.inl rfl) (fun b u hb z=>kp b u hb z) ⟨_,e5⟩ (excN_ok e5)
 have e6:upd H1 a (ExcN a C dx)=H1:=by
  funext b
  by_cases hb:b=a
  ·rw [hb,upd_same,ea]
  ·rw [upd_ne hb]
 rw [e6] at I2
 exact I2
def sXFld (K:PySem.W.Frag) (ta tv:TE) (f:Str):TS:=fun D σ H=>tv σ H fun y H1=>ta σ H1 fun x H2=>∃ a C,x=.ref a/\H2 a=some (ExcN a C none)/\XCls K C/\PySem.W.findIn K (.ref C) f=some none /\
 ∀ dx,H2 dx=none->dx ≠ a->D.nx σ (upd (upd H2 a (ExcN a C (some dx))) dx (.xd [(f,y)]))
theorem ps_xfld (ha:PE X o ta) (hv:PE X value tv) (hs:swapsWith value (some (.Attribute o fl pos')) pos.line X.env=pure false) (K:PySem.W.Frag) (hK:X.K=K:=by rfl):PS X (.Assign [.Attribute o fl pos'] value pos) (sXFld K ta tv fl):=by
 subst hK
 intro pins s σ H D I h
 refine plainObj_wpAny_Assign_Attribute (thn (hv pins s σ H _ I h) fun u s1 ⟨y,H1,I1,ry,q⟩=>thn (ha pins s1 σ H1 _ I1 q) fun ov s2 ⟨x,H2,I2,rx,a,C,ex,ea,xc,hn,q2⟩=>?_) hs
 subst ex
 obtain rfl:ov=Value.ref a:=rx
 obtain ⟨tt,sl,e4⟩:=excN_get I2.hok ea
 obtain ⟨h1,g1,d1,t1,os1⟩:=s2
 refine xstore I2.kIn xc.xin xc.sa hn e4 rfl rfl rfl fun h' tk e5 ns kp=>⟨σ,_,?_,q2 h1.objs.size (I2.hok.fresh (Nat.le_refl _)) (Nat.ne_of_gt (Heap.lt_size e4))⟩
 have hna:h1.objs.size ≠ a:=Nat.ne_of_gt (Heap.lt_size e4)
 have hn0:H2 h1.objs.size=none:=I2.hok.fresh (Nat.le_refl _)
 have nd:∀ b ob,h1.get? b=some ob->b ≠ h1.objs.size:=fun b ob z=>Nat.ne_of_lt (Heap.lt_size z)
 refine I2.un (t':=tk) ⟨fun b o e n hb _=>kp b o (fun z=>by rw [z,ea] at n; cases n) e,fun b o e n hb _=>⟨o.slots,kp b o (fun z=>by rw [z,ea] at n; cases n) e⟩,fun b o e n _=>?_,fun b o e _=>?_,fun b xs z=>?_,fun b o' u z=>?_,fun b ps z=>?_⟩ fun b u z=>?_
 ·rw [upd_ne (nd b o e),upd_ne (fun z=>by rw [z,ea] at n; cases n)]; exact n
 ·by_cases hb:b=a
  ·rw [hb]; exact ⟨_,e5⟩
  ·exact ⟨o,kp b o hb e⟩
 ·rw [upd_ne (ne_of_none z hn0),upd_ne (ne_of z ea (by intro q; cases q))]; exact z
 ·rw [upd_ne (ne_of_none z hn0),upd_ne (ne_of z ea (by intro q; cases q))]; exact z
 ·refine ⟨#[],?_⟩
  rw [upd_ne (ne_of_none z hn0),upd_ne (ne_of z ea (by intro q; cases q))]; simpa using z
 ·by_cases hb:b=h1.objs.size
  ·subst hb
   rw [upd_same] at z
   cases z
   refine ⟨_,ns,fun g=>?_⟩
   by_cases hg:g=fl
   ·subst hg
    simp only [List.lookup,beq_self_eq_true,if_true]
    exact ry
   ·have hb':(g == fl)=false:=beq_eq_false_iff_ne.mpr hg
    simp only [List.lookup,hb',if_neg hg]
    trivial
  ·rw [upd_ne hb] at z
   by_cases hba:b=a
   ·subst hba
    rw [upd_same] at z
    cases z
    exact excN_ok e5
   ·rw [upd_ne hba] at z
    refine (I2.hok b u z).stay (fun c v hc q=>kp c v (fun ec=>?_) q) (fun c q=>?_) fun c xs q=>?_
    ·subst ec
     rcases hc with hc | hc
     ·exact hba hc.symm
     ·rw [ea] at hc; cases hc
    ·rw [upd_ne (ne_of_none q hn0),upd_ne (ne_of q ea (by intro q; cases q))]; exact q
    ·rw [upd_ne (ne_of_none q hn0),upd_ne (ne_of q ea (by intro q; cases q))]; exact q
def tXFld (K:PySem.W.Frag) (te:TE) (f:Str):TE:=fun σ H Q=>te σ H fun x H1=>∃ a C dx fs v,x=.ref a/\H1 a=some (ExcO a (.ref C) (some dx))/\H1 dx=some (.xd fs)/\XCls K C/\NoAttr K C f/\fs.lookup f=some v/\Q v H1
theorem exc_inst {H:Hp} {h:Heap} {P:Program} {w:World} {a C dx:Addr} {fs:List (Str × V)} (hok:HOk P w H h) (ea:H a=some (ExcO a (.ref C) (some dx))) (ed:H dx=some (.xd fs)) :
  ∃ (ox od:Obj) (mA:Str->Option Value),PySem.W.InstAt h a ox C (some od)/\(∀ name,PySem.W.lookIn name od=some (mA name))/\∀ f,RelO (fs.lookup f) (mA f):=by
 obtain ⟨vs,sl,e,_⟩:=excO_get hok ea
 obtain ⟨mA,ns,r⟩:=(show ObjOk P w H h dx (.xd fs) from hok dx _ ed)
 obtain ⟨od,ho,hl⟩:=lookIn_ns ns
 exact ⟨_,od,mA,⟨e,rfl,rfl,ho⟩,hl,r⟩
theorem pe_xfld (he:PE X e te) (hb:attributeBase e fl X.env (eval e X.env)=eval e X.env) (K:PySem.W.Frag) (hK:X.K=K:=by rfl):PE X (.Attribute e fl pos) (tXFld K te fl):=by
 subst hK
 intro pins s σ H Q I h
 refine attr_of hb (thn (he pins s σ H _ I h) fun u s1 ⟨x,H1,I1,rx,a,C,dx,fs,v,ex,ea,ed,xc,hn,l,q⟩=>?_)
 subst ex
 obtain rfl:u=Value.ref a:=rx
 obtain ⟨ox,od,mA,J,hl,r⟩:=exc_inst I1.hok ea ed
 obtain ⟨u,hu,ru⟩:=RelO.some_of (v:=v) (o:=mA fl) (by rw [<- l]; exact r fl)
 exact xget I1.kIn J xc.ga xc.gn xc.mb (PySem.W.findObj_own xc.hd hn rfl (by rw [hl,hu])) (handed_of ru) ⟨v,H1,I1.tok _,ru,q⟩
def rIsX (K:PySem.W.Frag):List V->Hp->VK->Prop:=fun xs H Q=>∃ (a C dx:Addr) (fs:List (Str × V)) (c:V) (u:Value) (b:Bool),xs=[.ref a,c]/\RelV c u/\(∀ u',RelV c u'->u'=u)/\H a=some (ExcO a (.ref C) (some dx))/\H dx=some (.xd fs)/\XCls K C/\PySem.W.kitOne K (.ref C) u=some b/\Q (.bl b) H
theorem call_isX (K:PySem.W.Frag) (h:X.K=K:=by rfl):CallR X (.builtin "isinstance") (rIsX K):=by
 subst h
 intro pins s σ H xs us Q I r h
 obtain ⟨a,C,dx,fs,c,u,b,rfl,_,hu,ea,ed,xc,e,q⟩:=h
 obtain ⟨u1,u2,rfl,r1,r2⟩:=vals2 r
 cases r1
 rw [hu u2 r2]
 obtain ⟨ox,od,mA,J,hl,rr⟩:=exc_inst I.hok ea ed
 exact PySem.W.kia_one (kitx_exc xc.ga xc.gn xc.mb xc.cs xc.cl xc.cg xc.ct xc.mo) I.kIn J e (fun z=>nomatch z) fun tk=>⟨.bl b,H,I.tok tk,rfl,q⟩
end
end L2
namespace L2
open PySem PySem.Spec PyProof.Rows
theorem walks_h {prog:Program} {w:World} {A:Around} {e:Addr} (hh:A.handled=some (.ref e)) (I ax:Addr) (hne:ax ≠ I) (hei:e ≠ I) (items:Array Value) :
  Walks prog w A I [I,ax,e] [I] items.size (fun i v=>items[i]? = some v) (fun i h=>h.IsListIter I ax i/\h.IsList ax items/\∃ C dx vs sl,h.get? e=some ⟨C,dx,.fields vs,sl⟩/\vs[2]? = some .none) where
 sub:=fun b hb=>by simp at hb; simp [hb]
 frame:=fun _ _ _ st hk=>⟨st.1.at fun o e=>hk I (by simp) o e,st.2.1.at fun o e=>hk ax (by simp) o e,let ⟨C,dx,vs,sl,q,z⟩:=st.2.2; ⟨C,dx,vs,sl,hk e (by simp) _ q,z⟩⟩
 item:=fun i s Q E hi st hQ=>by
  refine wpAny_pyNext_list_item st.1 st.2.1 (x:=items[i]) (by simp [hi]) fun h' hit' hs'=>?_
  refine hQ _ h' s.toks (by simp [hi]) ⟨hit',st.2.1.extBut hs'.extBut hne,?_⟩ fun b o hb e=>hs'.extBut b o (fun h=>hb (by simp [h])) e
  obtain ⟨C,dx,vs,sl,q,z⟩:=st.2.2
  exact ⟨C,dx,vs,sl,hs'.extBut e _ hei q,z⟩
 done:=fun s Q E st hQ=>by
  obtain ⟨C,dx,vs,sl,q,z⟩:=st.2.2
  exact next_end_h hh q z st.1 hei st.2.1 (by simp) fun h' he'=>hQ h' s.toks fun b o hb e=>he' b o (fun h=>hb (by simp [h])) e
 self:=fun _ _ _ _ st hQ=>wpAny_pyIter_listiter st.1 hQ
def rAnyX (K:PySem.W.Frag) (e:Addr):List V->Hp->VK->Prop:=fun xs H Q=>∃ (p:Addr) (bs:List Bool) (C:Value) (dx:Option Addr),xs=[.ref p]/\SqL K H p (bs.map V.bl)/\H e=some (ExcO e C dx)/\Q (.bl (bs.any id)) H
section
variable {X:Cx}
theorem call_anyX (K:PySem.W.Frag) {e:Addr} (hh:X.A.handled=some (.ref e)) (h:X.K=K:=by rfl):CallR X (.builtin "any") (rAnyX K e):=by
 subst h
 intro pins s σ H xs us Q I r h
 obtain ⟨p,bs,C,dx,rfl,hq,he,q⟩:=h
 obtain ⟨u,rfl,rx⟩:=vals1 r
 cases rx
 obtain ⟨its,rv,pl,hz⟩:=I.list hq
 obtain ⟨vs,sl,he1,he2⟩:=excO_get I.hok he
 have hlen:=rv.length
 rw [List.length_map] at hlen
 have hplt:p < s.heap.objs.size:=by
  obtain ⟨o,n,e,_⟩:=pl
  exact Heap.lt_size e
 refine call_any_walk (wpAny_pyIter_list pl.isList ?_)
 have W:=walks_h (prog:=X.prog) (w:=X.w) (A:=X.A.in1) hh s.heap.objs.size p (Nat.ne_of_lt hplt) (Nat.ne_of_lt (Heap.lt_size he1)) its.toArray
 refine ⟨s.heap.objs.size,_,_,_,_,_,fun i=>bs.getD i false,rfl,W,?_,?_,fun h' tk hk=>?_⟩
 ·exact ⟨⟨_,Heap.get?_push_size _ rfl,rfl,rfl⟩,pl.isList.at fun o e=>Heap.get?_push_of_some _ e,_,_,_,_,Heap.get?_push_of_some _ he1,he2⟩
 ·intro i v s' Q' E' hv hq'
  have hv':its[i]? = some v:=by simpa using hv
  have hb:∃ b,bs[i]? = some b/\v=.bool b:=by
   have hi:i < bs.length:=by rw [hlen]; exact (List.getElem?_eq_some_iff.mp hv').1
   obtain ⟨w',e1,e2⟩:=rv.get (x:=V.bl bs[i]) (i:=i) (by rw [List.getElem?_map,List.getElem?_eq_getElem hi]; rfl)
   rw [hv'] at e1
   cases e1
   exact ⟨bs[i],List.getElem?_eq_getElem hi,e2⟩
  obtain ⟨b,e1,rfl⟩:=hb
  refine wpAny_truthy_bool ?_
  have:bs.getD i false=b:=by rw [List.getD_eq_getElem?_getD,e1]; rfl
  have hq2:Q' (bs.getD i false) s':=hq'
  rw [this] at hq2
  exact hq2
 ·have e:(List.range its.toArray.size).any (fun i=>bs.getD i false)=bs.any id:=by
   rw [List.size_toArray,<- hlen]
   exact any_getD bs
  rw [e]
  refine ⟨.bl _,H,I.kept (t':=tk) fun b o e=>hk b o ?_ (Heap.get?_push_of_some _ e),rfl,q⟩
  intro z
  have z':b=s.heap.objs.size:=by simpa using z
  exact absurd (Heap.lt_size e) (by rw [z']; exact Nat.lt_irrefl _)
abbrev Cx.bear (X:Cx) (pn:List (Addr × Obj)) (W:Value->Shared->Prop):Cx:={ X with pn:=pn,xe:=W }
abbrev Cx.hand (X:Cx) (a:Addr):Cx:={ X with A:=X.A.mark (some (.ref a)),calm:=false,xe:=fun _ _=>False }
theorem Cx.Ok.bear (ok:X.Ok) (pn:List (Addr × Obj)) (W:Value->Shared->Prop):(X.bear pn W).Ok :=
 ⟨ok.mod,ok.kind,ok.glob,ok.blt,ok.above,ok.inj,ok.has,ok.cab,ok.hd,ok.frames,ok.stk,ok.exf,ok.bs,ok.bsz,ok.noex,ok.exfs,ok.funs,ok.frf⟩
theorem Cx.Ok.unbear {pn:List (Addr × Obj)} {W:Value->Shared->Prop} (ok:(X.bear pn W).Ok):X.Ok :=
 ⟨ok.mod,ok.kind,ok.glob,ok.blt,ok.above,ok.inj,ok.has,ok.cab,ok.hd,ok.frames,ok.stk,ok.exf,ok.bs,ok.bsz,ok.noex,ok.exfs,ok.funs,ok.frf⟩
theorem Cx.Ok.hand (ok:X.Ok) (a:Addr):(X.hand a).Ok :=
 ⟨ok.mod,ok.kind,ok.glob,ok.blt,ok.above,ok.inj,ok.has,ok.cab,(fun z=>nomatch z),ok.frames,ok.stk,ok.exf,ok.bs,ok.bsz,ok.noex,ok.exfs,ok.funs,ok.frf⟩
section
variable {pins:List (Addr × Obj)} {σ:St} {H:Hp} {s:Shared} {W:Value->Shared->Prop} {a:Addr}
theorem Inv.bear (I:Inv X pins σ H s) (W:Value->Shared->Prop):Inv (X.bear (X.pn ++ pins) W) [] σ H s :=
 ⟨I.ok.bear _ W,I.os,I.bare,I.base,I.loc,I.cell,I.free,I.freeC,fun p hp=>I.pin p (by simpa using hp),I.hok,I.len⟩
theorem Inv.unbear {ps:List (Addr × Obj)} (I:Inv (X.bear (X.pn ++ pins) W) ps σ H s):Inv X pins σ H s :=
 ⟨I.ok.unbear,I.os,I.bare,I.base,I.loc,I.cell,I.free,I.freeC,fun p hp=>I.pin p (List.mem_append_left _ hp),I.hok,I.len⟩
theorem Inv.hand (I:Inv X pins σ H s) (a:Addr):Inv (X.hand a) pins σ H s:=⟨I.ok.hand a,I.os,I.bare,I.base,I.loc,I.cell,I.free,I.freeC,I.pin,I.hok,I.len⟩
abbrev blank (N:List Str):St:=List.replicate N.length none
theorem Inv.blank (I:Inv X pins σ H s):Inv X pins (blank X.N) H s :=
 I.weak (by simp [L2.blank,I.len]) fun i v h=>by
  rw [L2.blank,List.getElem?_replicate] at h
  split at h <;> cases h
theorem Inv.relocal {h':Heap} {m':Str->Option Value} {t':Nat} (ok:X.Ok) (I:Inv X pins σ H s) (hn:h'.Ns X.env.locals m') (hs:Heap.SameBut X.env.locals s.heap h'):Inv X pins (L2.blank X.N) H { s with heap:=h',toks:=t' }:=by
 have kp:∀ b o,b ≠ X.env.locals->s.heap.get? b=some o->h'.get? b=some o:=fun b o hb e=>(hs.2 b hb).trans e
 have lt:∀ b o,X.s₀.heap.get? b=some o->b ≠ X.env.locals:=fun b o e=>Nat.ne_of_lt (Nat.lt_of_lt_of_le (Heap.lt_size e) ok.above)
 refine ⟨ok,I.os,I.bare,⟨fun b o e n hb hx=>kp b o (lt b o e) (I.base.keep b o e n hb hx),fun b o e n hb hx=>?_,I.base.free,fun b o e hx=>?_,I.base.tups,I.base.frzs,I.base.tbls⟩,⟨m',hn,fun i x v e1 e2 e3=>?_⟩,fun x c e=>?_,I.free,I.freeC,fun p hp=>?_,fun b u e=>?_,by simp [L2.blank]⟩
 ·obtain ⟨sl,e1⟩:=I.base.slot b o e n hb hx
  exact ⟨sl,kp b _ (lt b o e) e1⟩
 ·obtain ⟨o',e1⟩:=I.base.there b o e hx
  exact ⟨o',kp b _ (lt b o e) e1⟩
 ·rw [L2.blank,List.getElem?_replicate] at e2
  split at e2 <;> cases e2
 ·obtain ⟨v,o,ho,hd⟩:=I.cell x c e
  exact ⟨v,o,kp c o (I.cne x c e) ho,hd⟩
 ·obtain ⟨e,n,ne,nf,d⟩:=I.pin p hp
  exact ⟨kp p.1 p.2 ne e,n,ne,nf,d⟩
 ·refine (I.hok b u e).stay (fun c v hc q=>kp c v (fun ec=>?_) q) (fun _ q=>q) fun _ _ q=>q
  rcases hc with rfl | hc
  ·rw [ec,I.free] at e; cases e
  ·rw [ec,I.free] at hc; cases hc
end
structure Catch (K:PySem.W.Frag) (D:Addr):Prop where
 nt:PySem.W.instIn K (.ref D) (.type "tuple")=some false
 cs:(PySem.W.clsIn K D).isSome=true
 mb:PySem.W.mroIn K D (.type "BaseException")=some true
def tTryAs (K:PySem.W.Frag) (D:Addr) (N:List Str) (i:Nat) (tb:TS) (E:XK) (th:Addr->TS):TS:=fun W σ H=>tb W σ H /\
 ∀ a C dx H',E C dx H'->H' a=some (ExcO a C dx)->∃ B,C=.ref B/\PySem.W.mroIn K B (.ref D)=some true/\th a { nx:=fun _ _=>False,rt:=W.rt } ((blank N).set i (some (.ref a))) H'
theorem ps_try_as {body suite:List Stmt} {b₀:Stmt} {x n:Str} {np hp pos:Pos} {tb:TS} {th:Addr->TS} {E:XK} {D:Addr} {i:Nat} (N:List Str) (K:PySem.W.Frag) (hstk:X.stack=X.env::X.outer) (hfr:X.env.frame=some X.env.locals)
  (hb:∀ pn W,Throws (X.bear pn W) E->PSs (X.bear pn W) body tb) (hg:Gl X x) (hm:X.mg x=some (.ref D)) (cD:Catch X.K D) (hh:∀ a,PSs (X.hand a) (b₀::suite) (th a))
  (hN:X.N.Nodup) (hi:X.N[i]? = some n) (hloc:X.env.kindOf n=some .local) (eN:X.N=N:=by rfl) (eK:X.K=K:=by rfl) (hdb:(x == ("__debug__":Str))=false:=by decide) :
  PS X (.Try body [.ExceptHandler (some (.Name x np)) (some n) (b₀::suite) hp] [] [] pos) (tTryAs K D N i tb E th):=by
 subst eN eK
 intro pins s σ H DD I ⟨h1,h2⟩
 rw [arm_exec_Try]
 have hcls:(X.env.scope.kind == .class || (X.env.scope.kind == .module && X.env.locals != X.env.globals))=false:=by rw [I.ok.kind]; rfl
 refine wpAny_bind (wpAny_standAt (wpAny_tryStmt_except (wpAny_mono (hb (X.pn ++ pins) _ ?_ [] s σ H DD (I.bear _) h1) (fun f s₁ h₁=>?_) fun _ _ z=>z)))
 ·intro ps' σ' H' s' k a C dx T I' hk fl at_ tr q
  obtain ⟨B,rfl,hmro,hth⟩:=h2 a C dx H' q at_
  have J:Inv X pins (blank X.N) H' s':=(I'.unbear).blank
  refine fly (base:=X.base) (by rw [<- hstk]; exact J.ok.frames) (by rw [<- hstk]; exact J.stack) hfr fl.le fl fun h' t ht fl' fw=>?_
  have J1:Inv X pins (blank X.N) H' { s' with heap:=h' }:=J.flown hk fl at_ (fun t e=>⟨(tr t e).1,fun p hp=>(tr t e).2 p (List.mem_append_left _ hp)⟩) fl' (by rw [hstk]; exact fw)
  have ht0:H' t=none:=J.hok.fresh ht
  have tpin:∀ p ∈ X.pn ++ pins,p.1 ≠ t:=fun p hp=>Nat.ne_of_lt (Nat.lt_of_lt_of_le (Heap.lt_size (J.pin p hp).1) ht)
  obtain ⟨vs,sl,ea,ea2⟩:=excO_get J1.hok at_
  refine wpAny_handleBy_cons (codeAny_handlers_test ?_) (by intro q; cases q)
  refine ld_glob (X:=X.hand a) (J1.hand a) hg hm ?_ hdb
  refine xmatch J1.kIn ea cD.nt cD.cs cD.mb hmro ?_
  refine codeAny_handlers_suite_as ?_
  obtain ⟨ws,sw,ew,hna,hws,hw2,hw1,hnt,hta,ot,ts,g1,g2,g3⟩:=id fl'
  refine wpAny_setFlight_none (s:={ s' with heap:=h' }) ew rfl hw1 g1 g2 (Array.getElem?_eq_some_iff.mp g3).1 ?_
  have tL:t ≠ X.env.locals:=fun z=>by
   obtain ⟨m,⟨o,es,ep,ho,hd,_⟩,_⟩:=J1.loc
   rw [z] at g1
   have g1':=(show h'.get? X.env.locals=some o from ho).symm.trans g1
   cases g1'
   rw [hd] at g2
   cases g2
  have tC:∀ y c,X.env.cells.lookup y=some c->c ≠ t:=fun y c e z=>by
   obtain ⟨v,o,ho,hd⟩:=J1.cell y c e
   rw [z] at ho
   have g1':=(show h'.get? t=some o from ho).symm.trans g1
   cases g1'
   rw [hd] at g2
   cases g2
  have J2:Inv X pins (blank X.N) H' { s' with heap:=h'.update t (Obj.mapFields (·.setIfInBounds 3 .none)) } :=
   Inv.turned (s:={ s' with heap:=h' }) J1 (it:=t) (t':=s'.toks) (fun b o hb e=>(Heap.get?_update_other _ _ (Ne.symm hb)).trans e) ht0 tL (.inr (Nat.le_trans (Nat.le_trans hk (Nat.le_refl _)) hnt)) tC tpin
  refine store_ok J2 hN hi (.inl hloc) (v:=.ref a) (u:=.ref a) rfl (fun s3 J3=>?_) (.inr hloc)
  refine wpAny_mono (hh a pins s3 _ H' _ (J3.hand a) hth) (fun f s4 h4=>?_) fun _ _ z=>z.elim
  cases f with
  | next=>obtain ⟨_,_,_,z⟩:=h4; exact z.elim
  | brk=>obtain ⟨_,_,_,z⟩:=h4; exact z.elim
  | cont=>obtain ⟨_,_,_,z⟩:=h4; exact z.elim
  | ret u =>
   obtain ⟨v,σ4,H4,J4,rv,q4⟩:=h4
   obtain ⟨m,hn,_⟩:=J4.loc
   refine wpAny_nameGoes hloc hn hcls fun h5 m5 hn5 hs5=>?_
   have J4':Inv X pins σ4 H4 s4:=⟨I.ok,J4.os,J4.bare,J4.base,J4.loc,J4.cell,J4.free,J4.freeC,J4.pin,J4.hok,J4.len⟩
   exact ⟨v,_,H4,J4'.relocal I.ok hn5 hs5,rv,q4⟩
 ·have fin:SP X pins DD f s₁:=by
   cases f with
   | next=>obtain ⟨σ',H',I',q⟩:=h₁; exact ⟨σ',H',I'.unbear,q⟩
   | brk=>obtain ⟨σ',H',I',q⟩:=h₁; exact ⟨σ',H',I'.unbear,q⟩
   | cont=>obtain ⟨σ',H',I',q⟩:=h₁; exact ⟨σ',H',I'.unbear,q⟩
   | ret u=>obtain ⟨v,σ',H',I',r,q⟩:=h₁; exact ⟨v,σ',H',I'.unbear,r,q⟩
  cases f with
  | next =>
   obtain ⟨σ',H',I',q⟩:=fin
   exact wpAny_execs_nil ⟨σ',H',I',q⟩
  | brk=>exact fin
  | cont=>exact fin
  | ret u=>exact fin
end
end L2
namespace L2
open PySem PySem.Spec PyProof.Rows
def ExcT (K:PySem.W.Frag) (C:Addr) (qual:Str) (st:Stmt) (ps:List Str):Prop :=
 PySem.W.keepIn K (.ref C)=true/\∃ f fd,PySem.W.findIn K (.ref C) "__init__"=some (some (.ref f))/\PySem.W.isFn K (.ref f)=true/\Fun K "__init__" qual st f fd/\Binds K fd ps []
theorem exct_mk {K:PySem.W.Frag} {C:Addr} {qual:Str} {st:Stmt} {ps:List Str} {f:Addr} {oc kV doc pm cdv ct:Value} {od an:Option Addr} {osl:Array (Option Value)}
  (kc:PySem.W.keepIn K (.ref C)=true) (a:PySem.W.findIn K (.ref C) "__init__"=some (some (.ref f))) (i:PySem.W.isFn K (.ref f)=true)
  (l:K.lookup f=some ⟨oc,od,.func (PySem.W.fnOf "__init__" qual (defArgs st) (defBody st) (defScope st) .none kV doc pm an cdv ct),osl⟩) (c:PySem.W.codeIn K cdv qual=true) (kp:PySem.W.keepIn K (.ref f)=true)
  (hb:∀ (kV doc pm:Value) (an:Option Addr) (cdv ct:Value) (us:List Value),us.length=ps.length->bindArgs (PySem.W.fnOf "__init__" qual (defArgs st) (defBody st) (defScope st) .none kV doc pm an cdv ct) ⟨us,[]⟩=pure (ps.zip us)):ExcT K C qual st ps :=
 ⟨kc,f,_,a,i,fun_mk (st:=st) l c kp,(fun_mk (st:=st) l c kp).binds hb⟩
theorem xcls_mk {K:PySem.W.Frag} {C:Addr} (xi:xIn K C=true) (sa:PySem.W.findIn K (.ref C) "__setattr__"=some (some (.builtin "object.__setattr__"))) (ga:PySem.W.findIn K (.ref C) "__getattribute__"=some (some (.builtin "BaseException.__getattribute__")))
  (gn:PySem.W.findIn K (.ref C) "__getattr__"=some none) (mb:PySem.W.mroIn K C (.type "BaseException")=some true) (mo:PySem.W.mroIn K C (.type "object")=some true) (cl:PySem.W.findIn K (.ref C) "__class__"=some (some (.builtin "object.__class__")))
  (cg:PySem.W.specialIn K (.builtin "object.__class__") "__get__"=some (some (.builtin "getset_descriptor.__get__"))) (ct:PySem.W.takesIn K (.builtin "object.__class__")=some true) (cs:(PySem.W.clsIn K C).isSome=true) (hd:PySem.W.hasDictIn K C=true):XCls K C :=
 ⟨xi,sa,ga,gn,mb,mo,cl,cg,ct,cs,hd⟩
structure BaseI (K:PySem.W.Frag) (D:Addr):Prop where
 g:PySem.W.specialIn K (.ref D) "__getattribute__"=some (some (.builtin "type.__getattribute__"))
 r:PySem.W.readsIn K D (.type "type")=true
 f:PySem.W.findCls K (.ref D) (.type "type") "__init__"=some (.val (.builtin "ValueError.__init__"))
def Rais (P:Program) (w:World) (K:PySem.W.Frag) (mg:Str->Option Value) (base:Heap) (k:Nat) (x:Str) (C:Addr) (ps:List Str) (sp:Sp):Prop :=
 mg x=some (.ref C)/\XCls K C/\PySem.W.keepIn K (.ref C)=true/\∃ f fd,PySem.W.findIn K (.ref C) "__init__"=some (some (.ref f))/\PySem.W.isFn K (.ref f)=true/\Binds K fd ps []/\FnOk P w K mg base CX0 k f fd ps sp
def CalX (P:Program) (w:World) (K:PySem.W.Frag) (mg:Str->Option Value) (base:Heap) (k:Nat) (x:Str) (ps:List Str) (sp:Sp):Prop :=
 ∃ f fd,mg x=some (.ref f)/\PySem.W.keepIn K (.ref f)=true/\Binds K fd ps []/\FnOk P w K mg base (CXe P w) k f fd ps sp
theorem CalX.mono {P:Program} {w:World} {K:PySem.W.Frag} {mg:Str->Option Value} {base:Heap} {j k:Nat} {x:Str} {ps:List Str} {sp:Sp} (C:CalX P w K mg base j x ps sp) (h:j <= k):CalX P w K mg base k x ps sp:=by
 obtain ⟨f,fd,h1,h2,h3,h4⟩:=C
 exact ⟨f,fd,h1,h2,h3,h4.mono h⟩
theorem FnT.calX {P:Program} {w:World} {K:PySem.W.Frag} {mg:Str->Option Value} {base:Heap} {x:Str} {st:Stmt} {N ps:List Str} {k:Nat} {sp:Sp} (F:FnT K mg x st ps) (S:FnScope N ps (defScope st)) (len:∀ vs H Q E,sp vs H Q E->vs.length=ps.length)
  (hbody:∀ (f:Addr) (cdv:Value) (A:Around) (outer:List Env) (s:Shared) (H:Hp) (vs:List V) (Q:VK) (E:XK),Room k (A.deeper (envOfC x (defScope st) s.heap.objs.size f cdv))->sp vs H Q E ->
   ∃ t,PSs (cxOf (CXe P w) P w K mg base N x (defScope st) f cdv A outer s H E) (defBody st) t/\t { nx:=fun _ H'=>Q .non H',rt:=Q } (start N vs) H):CalX P w K mg base (k + 1) x ps sp:=by
 obtain ⟨f,fd,h1,h2,h3⟩:=F
 refine ⟨f,fd,h1,h2.kp,h3,?_⟩
 obtain ⟨oc,od,kV,doc,pm,an,cdv,ct,osl,rfl,lk,hcd⟩:=h2.ex
 exact fn_of lk hcd S len fun A outer s H vs Q E hr hsp=>hbody f cdv A outer s H vs Q E hr hsp
section
variable {X:Cx} {k:Nat} {x:Str} {C:Addr} {ps:List Str} {sp:Sp} {E:XK} {e:Expr} {es:List Expr} {t:TA} {te:TE} {p pos np cpos:Pos}
theorem pe_calX (C:CalX X.prog X.w X.K X.mg X.base k x ps sp) (hr:Room k X.A) (hg:Gl X x) (th:Throws X E) (ha:PA X (e::es) t) (hd:(x == ("__debug__":Str))=false:=by decide)
  (he:starEach (e::es) X.env=(false,eval e X.env)::starEach es X.env:=by rfl) (hpl:(backTo pos (starEach es X.env)).any (·.1)=false:=by rfl) :
  PE X (.Call (.Name x p) (e::es) [] pos) (tCall sp [] E t):=by
 obtain ⟨f,fd,h1,h2,h3,h4⟩:=C
 exact pe_call h4 hr hg h1 h2 h3 .nil (passes_of th) ha (hdb:=hd) (he:=he) (hpl:=hpl)
theorem ps_rais (R:Rais X.prog X.w X.K X.mg X.base k x C ps sp) (hr:Room (k + 1) X.A) (hc:X.calm=true) (hg:Gl X x) (th:Throws X E) (ha:PA X (e::es) t) (hdb:(x == ("__debug__":Str))=false:=by decide)
  (he:starEach (e::es) X.env=(false,eval e X.env)::starEach es X.env:=by rfl) (hpl:(backTo cpos (starEach es X.env)).any (·.1)=false:=by rfl) :
  PS X (.Raise (some (.Call (.Name x np) (e::es) [] cpos)) none pos) (tRaise C sp E t):=by
 obtain ⟨h1,h2,h3,f,fd,h4,h5,h6,h7⟩:=R
 exact ps_raise1 h7 hr hc h2 h4 h5 h3 h6 hg h1 ha th (hdb:=hdb) (he:=he) (hpl:=hpl)
end
end L2
namespace L2
open PySem
theorem catch_mk {K:PySem.W.Frag} {D:Addr} (a:PySem.W.instIn K (.ref D) (.type "tuple")=some false) (b:(PySem.W.clsIn K D).isSome=true) (c:PySem.W.mroIn K D (.type "BaseException")=some true):Catch K D:=⟨a,b,c⟩
theorem basei_mk {K:PySem.W.Frag} {D:Addr} (a:PySem.W.specialIn K (.ref D) "__getattribute__"=some (some (.builtin "type.__getattribute__"))) (b:PySem.W.readsIn K D (.type "type")=true)
  (c:PySem.W.findCls K (.ref D) (.type "type") "__init__"=some (.val (.builtin "ValueError.__init__"))):BaseI K D:=⟨a,b,c⟩
end L2
namespace L2
open PySem PySem.Spec PyProof.Rows PySem.SeqAt
section
variable {X:Cx}
def FnV (P:Program) (w:World) (K:PySem.W.Frag) (mg:Str->Option Value) (base:Heap) (k:Nat) (f:Addr) (ps:List Str) (sp:Sp):Prop :=
 ∃ fd,PySem.W.keepIn K (.ref f)=true/\Binds K fd ps []/\FnOk P w K mg base (CXe P w) k f fd ps sp
def tCallV (P:Program) (w:World) (K:PySem.W.Frag) (mg:Str->Option Value) (base:Heap) (k i:Nat) (E:XK) (t:TA):TE:=fun σ H Q=>∃ f ps sp,σ[i]? = some (some (.ref f))/\FnV P w K mg base k f ps sp/\t σ H fun vs H1=>sp (vs ++ []) H1 Q E
variable {k i:Nat} {x:Str} {E:XK} {e:Expr} {es:List Expr} {t:TA} {p pos:Pos}
theorem pe_calV (P:Program) (w:World) (K:PySem.W.Frag) (mg:Str->Option Value) (base:Heap) (hN:X.N[i]? = some x) (hv:Vis X.env.scope x) (hr:Room k X.A) (th:Throws X E) (ha:PA X (e::es) t)
  (e1:X.prog=P:=by rfl) (e2:X.w=w:=by rfl) (e3:X.K=K:=by rfl) (e4:X.mg=mg:=by rfl) (e5:X.base=base:=by rfl)
  (hd:(x == ("__debug__":Str))=false:=by decide) (hcd:(x == ("__classdict__":Str))=false:=by decide)
  (he:starEach (e::es) X.env=(false,eval e X.env)::starEach es X.env:=by rfl) (hpl:(backTo pos (starEach es X.env)).any (·.1)=false:=by rfl) :
  PE X (.Call (.Name x p) (e::es) [] pos) (tCallV P w K mg base k i E t):=by
 subst e1 e2 e3 e4 e5
 intro pins s σ H Q I h
 obtain ⟨f,ps,sp,hi,⟨fd,hk,hb,F⟩,h⟩:=h
 refine wpAny_Call_Name_kw (thn (pe_var hN hv hd hcd pins s σ H (fun v H1=>v=.ref f/\H1=H) I ⟨_,hi,rfl,rfl⟩) fun u s0 ⟨v,H0,I0,rv,ev,eH⟩=>?_)
 subst ev eH
 obtain rfl:u=Value.ref f:=rv
 refine PySem.W.callWith_K (h₀:=X.base) I.ok.mod.kin hk (thn (ha pos pins s0 σ _ _ I0 h) fun us s1 ⟨vs,H1,I1,r,q⟩=>⟨I1.kIn,?_⟩) he hpl
 exact run_fn F hr hb .nil (passes_of th) I1 r q
end
end L2
namespace L2
open PySem PySem.Spec PyProof.Rows
theorem throws_no {X:Cx}:Throws X E0:=fun _ _ _ _ _ _ _ _ _ _ _ _ _ _ q=>q.elim
theorem firstMet_all (val:Nat->Int):∀ i,(firstMet val i).length=i->∀ j k,j < k->k < i->val j ≠ val k
 | 0,_,j,k,_,h=>absurd h (by omega)
 | i + 1,h,j,k,hjk,hk=>by
  rw [firstMet_succ] at h
  unfold step_dedup at h
  have hle:=firstMet_length_le val i
  split at h
  ·omega
  ·rename_i hn
   rw [List.length_append,List.length_singleton] at h
   by_cases e:k=i
   ·subst e
    intro z
    apply hn
    rw [firstMet_any,List.any_eq_true]
    exact ⟨val j,List.mem_map.mpr ⟨j,List.mem_range.mpr hjk,rfl⟩,by simp [z]⟩
   ·exact firstMet_all val i (by omega) j k hjk (by omega)
theorem firstMet_lt {ns:List Int} (h:¬ ns.Nodup):(firstMet (fun i=>ns.getD i 0) ns.length).length < ns.length:=by
 have hle:=firstMet_length_le (fun i=>ns.getD i 0) ns.length
 refine Nat.lt_of_le_of_ne hle fun e=>h ?_
 have q:=firstMet_all (fun i=>ns.getD i 0) ns.length e
 rw [List.nodup_iff_pairwise_ne,List.pairwise_iff_getElem]
 intro i j hi hj hij
 have:=q i j hij hj
 simpa [List.getD_eq_getElem?_getD,List.getElem?_eq_getElem hi,List.getElem?_eq_getElem hj] using this
end L2
namespace L2
open PySem PySem.Spec PyProof.Rows
section
variable {X:Cx}
section
variable {pins:List (Addr × Obj)} {σ:St} {H:Hp} {s:Shared}
end
end
end L2
namespace L2
open PySem PySem.Calls PyProof.Rows PySem.Builtin PySem.Builtin.ObjectAttr
section
variable {prog:Program} {w:World} {A:Around} {E:Value->Shared->Prop} {h:Heap} {g:Array GenState} {d:Drawn} {t:Nat} {os:OsState} {K:PySem.W.Frag} {C:Addr}
end
end L2
namespace L2
open PySem PySem.Spec PyProof.Rows
section
variable {X:Cx} {C:Addr} {E:XK} {x:Str} {np cpos pos:Pos} {e:Expr} {t:TA}
end
end L2
namespace L2
open PySem PySem.Spec PyProof.Rows
section
variable {X:Cx} {k:Nat} {x:Str} {ps:List Str} {sp:Sp} {p pos:Pos} {e:Expr} {es:List Expr} {t:TA}
end
end L2
namespace L2
open PySem PySem.Spec PyProof.Rows PySem.SeqAt
section
variable {K:PySem.W.Frag} {a C:Addr}
end
section
variable {X:Cx}
end
end L2
namespace L2
open PySem PySem.Spec PyProof.Rows
section
variable {X:Cx} {e f:Expr} {te tf:TE} {a b c:Str} {k1 k2 k3:Nat} {p1 p2 p3 p4 p5 pos:Pos}
end
end L2
namespace L2
open PySem PySem.Spec PyProof.Rows
section
variable {P:Program} {w:World} {K:PySem.W.Frag} {mg:Str->Option Value} {base:Heap}
end
section
variable {X:Cx} {k:Nat} {x:Str} {C:Addr} {ps:List Str} {sp:Sp} {E:XK} {e:Expr} {es:List Expr} {t:TA} {p pos:Pos}
end
end L2
namespace L2
open PySem PySem.Spec PyProof.Rows
def bigB (h:Heap) (H:Hp) (fs:List Addr):Heap:=PySem.W.hideAll h (trk h H ++ fs)
theorem bigB_get {h:Heap} {H:Hp} {fs:List Addr} {b:Addr} {o:Obj} (e:h.get? b=some o) (n:H b=none) (hf:b ∉ fs):(bigB h H fs).get? b=some o :=
 PySem.W.hideAll_get _ e fun hm=>by
  rcases List.mem_append.mp hm with z | z
  ·have q:(H b).isSome=true:=(List.mem_filter.mp z).2
   rw [n] at q; simp at q
  ·exact hf z
theorem of_bigB {h:Heap} {H:Hp} {fs:List Addr} {b:Addr} {o:Obj} (e:(bigB h H fs).get? b=some o):h.get? b=some o/\H b=none/\b ∉ fs:=by
 have e':h.get? b=some o:=PySem.W.of_hideAll _ e
 refine ⟨e',?_,fun z=>?_⟩
 ·cases q:H b with
  | none=>rfl
  | some x =>
   have hm:b ∈ trk h H ++ fs:=List.mem_append.mpr (.inl (List.mem_filter.mpr ⟨List.mem_range.mpr (Heap.lt_size e'),by simp [q]⟩))
   have z:(bigB h H fs).get? b=none:=PySem.W.hideAll_none _ hm
   rw [z] at e; cases e
 ·have w:(bigB h H fs).get? b=none:=PySem.W.hideAll_none _ (List.mem_append.mpr (.inr z))
  rw [w] at e; cases e
theorem bigB_none {h:Heap} {H:Hp} {fs:List Addr} {b:Addr} (hb:b ∈ fs):(bigB h H fs).get? b=none:=PySem.W.hideAll_none _ (List.mem_append.mpr (.inr hb))
theorem funs_big {h base base':Heap}:∀ {l:List Env},h.FunFrames base l->(∀ b ∈ frs l,base'.get? b=none)->h.FunFrames base' l
 | [],_,_=>trivial
 | env::rest,hl,hn=>by
  obtain ⟨hk,⟨L,o,hf,_,ho,hd⟩,hr⟩:=hl
  have e:frs (env::rest)=L::frs rest:=by
   unfold frs
   rw [List.filterMap_cons,hf]
  exact ⟨hk,⟨L,o,hf,hn L (by rw [e]; exact .head _),ho,hd⟩,funs_big hr fun b hb=>hn b (by rw [e]; exact .tail _ hb)⟩
section
variable {X:Cx} {pins:List (Addr × Obj)} {σ:St} {H:Hp} {s:Shared}
theorem Inv.baseLe (I:Inv X pins σ H s):∀ b o,X.base.get? b=some o->(bigB s.heap H (frs X.stack)).get? b=some o:=fun b o e=>by
 obtain ⟨h1,h2⟩:=I.bs b o e
 refine bigB_get h1 h2 fun z=>?_
 have:=(I.stack.mem z).1
 rw [this] at e
 cases e
theorem Inv.envB (I:Inv X pins σ H s):Env0 X.prog X.w X.K X.mg (bigB s.heap H (frs X.stack)) X.A X.stack s H:=by
 have le:=I.baseLe
 have m:=I.ok.mod
 obtain ⟨mb,hb1,hb2⟩:=m.blt
 exact ⟨I.ok.frames,⟨m.kin.keeps le,m.glob.keeps le,⟨mb,hb1.keeps le,hb2⟩,m.nolimit.keeps le⟩,fun b o e=>⟨(of_bigB e).1,(of_bigB e).2.1⟩,Nat.le_of_eq (PySem.W.hideAll_size _ _),funs_big I.stack fun b hb=>bigB_none hb,I.stkFree,I.hok,I.bare⟩
end
abbrev envL (qual:Str) (scope:Scope) (L f:Addr) (cd:Value) (cl:List (Str × Addr)):Env:=PySem.W.envX qual scope L f cd cl
def cxL (CX:CXT) (P:Program) (w:World) (K:PySem.W.Frag) (mg:Str->Option Value) (base:Heap) (N:List Str) (qual:Str) (scope:Scope) (f:Addr) (cd:Value) (cl:List (Str × Addr)) (A:Around) (outer:List Env) (s:Shared) (H:Hp) (E:XK):Cx where
 prog:=P
 w:=w
 K:=K
 mg:=mg
 base:=base
 A:=A.deeper (envL qual scope s.heap.objs.size f cd cl)
 N:=N
 s₀:=s
 H₀:=H
 env:=envL qual scope s.heap.objs.size f cd cl
 outer:=outer
 stack:=envL qual scope s.heap.objs.size f cd cl::outer
 ex:=[]
 calm:=true
 fn:=fun _=>false
 pn:=[]
 xe:=fun e s'=>wpAny (model P w) (A.deeper (envL qual scope s.heap.objs.size f cd cl)) (leaving (envL qual scope s.heap.objs.size f cd cl) e) (fun _ s''=>CX outer H s E e s'') (fun e' s''=>CX outer H s E e' s'') s'
structure LamScope (N ps:List Str) (sc:Scope) (cl:List (Str × Addr)):Prop where
 kind:sc.kind=.function
 co:sc.isCoroutine=false
 gen:sc.isGenerator=false
 nd:N.Nodup
 names:N=ps ++ cl.map (·.1)
 par:∀ x ∈ ps,sc.names.lookup x=some .local
 nocell:∀ y ∈ sc.names,y.2 ≠ .cell
 free:∀ x,sc.names.lookup x=some .free->∃ c,cl.lookup x=some c
 isfree:∀ x c,cl.lookup x=some c->sc.names.lookup x=some .free
 inj:∀ x y c,cl.lookup x=some c->cl.lookup y=some c->x=y
def CellsAt (base:Heap) (cl:List (Str × Addr)) (cvs:List V):Prop:=cvs.length=cl.length/\∀ (i:Nat) (x:Str) (c:Addr) (v:V),cl[i]? = some (x,c)->cvs[i]? = some v->cl.lookup x=some c/\∃ u,RelV v u/\base.IsCell c (some u)
theorem zip_lookup {x:Str} {v:Value}:∀ {ps:List Str} {us:List Value} {i:Nat},ps.Nodup->ps[i]? = some x->us[i]? = some v->(ps.zip us).reverse.lookup x=some v
 | [],_,_,_,h,_=>by simp at h
 | _::_,[],_,_,_,h=>by simp at h
 | p::ps,u::us,i,nd,h1,h2=>by
  obtain ⟨n1,n2⟩:=List.nodup_cons.mp nd
  rw [List.zip_cons_cons,List.reverse_cons,List.lookup_append]
  cases i with
  | zero =>
   simp only [List.getElem?_cons_zero,Option.some.injEq] at h1 h2
   subst h1 h2
   have e:(ps.zip us).reverse.lookup p=none:=by
    rw [List.lookup_eq_none_iff]
    intro q hq
    have hm:=(List.of_mem_zip (List.mem_reverse.mp hq)).1
    simp only [bne_iff_ne,ne_eq]
    intro e
    exact n1 (e ▸ hm)
   rw [e]
   simp
  | succ i =>
   rw [zip_lookup n2 (by simpa using h1) (by simpa using h2)]
   rfl
theorem lam_inv {CX:CXT} {P:Program} {w:World} {K:PySem.W.Frag} {mg:Str->Option Value} {base:Heap} {N ps:List Str} {qual:Str} {scope:Scope} {f:Addr} {cd:Value} {cl:List (Str × Addr)} {A:Around} {outer:List Env} {s:Shared} {h1:Heap} {tk:Nat} {H:Hp} {E:XK} {us:List Value} {vs cvs:List V} {o0:Obj}
  (S:LamScope N ps scope cl) (hd:A.handled=none) (e0:Env0 P w K mg base A outer s H) (hl:vs.length=ps.length) (r:Vals vs us) (hcl:CellsAt base cl cvs)
  (hns:h1.Ns s.heap.objs.size fun x=>(ps.zip us).reverse.lookup x) (hsb:Heap.SameBut s.heap.objs.size (s.heap.push o0) h1) :
  Inv (cxL CX P w K mg base N qual scope f cd cl A outer s H E) [] ((vs ++ cvs).map some) H { s with heap:=h1,toks:=tk }:=by
 have hk:∀ b o,s.heap.get? b=some o->h1.get? b=some o:=fun b o e=>(hsb.2 b (Nat.ne_of_lt (Heap.lt_size e))).trans (Heap.get?_push_of_some _ e)
 have noA:∀ b:Addr,b ∉ (cxL CX P w K mg base N qual scope f cd cl A outer s H E).ex:=fun b z=>absurd (show b ∈ ([]:List Addr) from z) (by simp)
 have cel:∀ x c,cl.lookup x=some c->∃ u,base.IsCell c (some u):=fun x c h=>by
  obtain ⟨i,hi⟩:=List.mem_iff_getElem?.mp (PySem.mem_of_lookup h)
  have hil:i < cvs.length:=by rw [hcl.1]; exact (List.getElem?_eq_some_iff.mp hi).1
  obtain ⟨_,u,_,hu⟩:=hcl.2 i x c _ hi (List.getElem?_eq_getElem hil)
  exact ⟨u,hu⟩
 have celb:∀ c u,base.IsCell c u->h1.IsCell c u/\H c=none:=fun c u hc=>by
  obtain ⟨o,e,d⟩:=hc
  exact ⟨⟨o,hk _ _ (e0.bs _ _ e).1,d⟩,(e0.bs _ _ e).2⟩
 refine ⟨⟨e0.mod,S.kind,rfl,rfl,Nat.le_refl _,S.inj,fun y hy=>?_,fun y c z _=>(nomatch z),fun _=>hd,Around.frames_deeper e0.frames,.inr ⟨rfl,rfl⟩,fun b z=>absurd z (noA b),e0.bs,e0.bsz,fun b _ _=>noA b,fun b z=>absurd z (noA b),e0.funs,e0.frf⟩,
  rfl,e0.bare,Un.kept hk,⟨_,hns,fun i y v g1 g2 g3=>?_⟩,fun y c h=>?_,e0.hok.fresh (Nat.le_refl _),fun y c h=>?_,fun p hp=>absurd (show p ∈ ([]:List (Addr × Obj)) from hp) (by simp),e0.hok.kept hk,?_⟩
 ·have hy:scope.names.lookup y=some .cell\/scope.names.lookup y=some .free:=hy
  rcases hy with hy | hy
  ·exact absurd rfl (S.nocell _ (PySem.mem_of_lookup hy))
  ·exact S.free y hy
 ·have g1:N[i]? = some y:=g1
  rw [S.names] at g1
  rw [List.getElem?_map] at g2
  have hv:(vs ++ cvs)[i]? = some v:=by
   cases q:(vs ++ cvs)[i]? with
   | none=>rw [q] at g2; cases g2
   | some z=>rw [q] at g2; cases g2; rfl
  have ndP:ps.Nodup:=by
   have:=S.nd
   rw [S.names] at this
   exact (List.nodup_append.mp this).1
  by_cases hi:i < ps.length
  ·rw [List.getElem?_append_left hi] at g1
   rw [List.getElem?_append_left (by omega)] at hv
   obtain ⟨u,hu,rv⟩:=r.get hv
   exact ⟨u,rv,.inl ⟨S.par y (List.mem_of_getElem? g1),zip_lookup ndP g1 hu⟩⟩
  ·rw [List.getElem?_append_right (by omega)] at g1
   rw [List.getElem?_append_right (by omega),hl] at hv
   rw [List.getElem?_map] at g1
   cases q:cl[i - ps.length]? with
   | none=>rw [q] at g1; cases g1
   | some p =>
    obtain ⟨y',c⟩:=p
    rw [q] at g1
    cases g1
    obtain ⟨lk,u,ru,hu⟩:=hcl.2 _ _ c v q hv
    exact ⟨u,ru,.inr ⟨.inr (S.isfree _ _ lk),c,lk,(celb _ _ hu).1⟩⟩
 ·obtain ⟨u,hu⟩:=cel y c h
  exact ⟨_,(celb _ _ hu).1⟩
 ·obtain ⟨u,hu⟩:=cel y c h
  exact (celb _ _ hu).2
 ·show _=N.length
  rw [S.names,List.length_map,List.length_append,List.length_append,List.length_map,hl,hcl.1]
def CodeT (H:Hp) (c:Addr) (qual:Str):Prop:=∃ (o:Obj) (vs:Array Value) (t:Tok),H c=some (.frz o (.own 0))/\o.data=.fields vs/\vs[1]? = some (.str qual t)
theorem lam_fn {CX:CXT} {P:Program} {w:World} {K:PySem.W.Frag} {mg:Str->Option Value} {base:Heap} {k:Nat} {f c':Addr} {name qual:Str} {params:Arguments} {body:Expr} {scope:Scope} {cl:List (Str × Addr)} {pm ctv:Value} {N ps:List Str} {sp:Sp} {cvs:List V}
  (hf:base.get? f=some (PySem.W.kla_obj name qual params body scope cl pm c' ctv)) (S:LamScope N ps scope cl) (hcl:CellsAt base cl cvs) (len:∀ vs H Q E,sp vs H Q E->vs.length=ps.length) (hcode:∀ vs H Q E,sp vs H Q E->CodeT H c' qual)
  (hbody:∀ (A:Around) (outer:List Env) (s:Shared) (H:Hp) (vs:List V) (Q:VK) (E:XK),Room k (A.deeper (envL qual scope s.heap.objs.size f (.ref c') cl))->sp vs H Q E ->
   ∃ t,PE (cxL CX P w K mg base N qual scope f (.ref c') cl A outer s H E) body t/\t ((vs ++ cvs).map some) H Q) :
  FnOk P w K mg base CX (k + 1) f (PySem.W.kla_fn name qual params body scope cl pm (.ref c') ctv) ps sp:=by
 refine ⟨len,fun A outer s H args us vs Q E hr e0 hb r hsp=>?_⟩
 have ho:=(e0.bs _ _ hf).1
 have lim:s.heap.NoLimit:=e0.mod.nolimit.keeps fun b o e=>(e0.bs b o e).1
 obtain ⟨oc,ds,t,hc,hd,ht⟩:=hcode _ _ _ _ hsp
 have hco:s.heap.get? c'=some oc:=(e0.hok _ _ hc).1
 refine PySem.W.kla_callFunE hr.depth ho rfl S.co S.gen rfl ⟨c',oc,ds,t,rfl,hco,hd,ht⟩ (hb _ _ _ _ ?_)
 refine wpAny_newFunctionEnv S.nocell (fun y hy=>S.par _ (List.of_mem_zip (show (y.1,y.2) ∈ _ from hy)).1) (fun h1 hns hsb=>⟨lim.fresh _ hsb,?_⟩) S.kind
 show codeAny _ _ (.expr body (envL qual scope s.heap.objs.size f (.ref c') cl)) _ _
 refine PySem.W.kla_codeExpr ?_
 obtain ⟨tt,htt,hq⟩:=hbody A outer s H vs Q E (hr.deeper _) hsp
 have I:Inv (cxL CX P w K mg base N qual scope f (.ref c') cl A outer s H E) [] ((vs ++ cvs).map some) H { s with heap:=h1,toks:=s.toks + (ps.zip us).length }:=lam_inv S hr.hd e0 (len _ _ _ _ hsp) r hcl hns hsb
 exact wpAny_mono (htt [] _ _ H _ I hq) (fun v s' ⟨y,H',J,rv,q⟩=>⟨y,H',J.os,J.bare,J.base,J.hok,rv,q⟩) fun e s' hs=>hs
end L2
set_option maxHeartbeats 1000000
namespace L2
open PySem PySem.Spec PyProof.Rows
def TabOk (H:Hp) (P:Addr) (qs:List (Pos × Str)):Prop:=∃ ps:Array Value,H P=some (.tbl ps)/\TriplesOk ps.toList/\∀ q ∈ qs,codeAmong q.1 ps.toList=none\/∃ c',codeAmong q.1 ps.toList=some (.ref c')/\CodeT H c' q.2
def SameT (Ts:List Addr) (H H':Hp):Prop:=∀ a o,a ∉ Ts->H a=some o->H' a=some o
theorem SameT.refl (Ts:List Addr) (H:Hp):SameT Ts H H:=fun _ _ _ e=>e
theorem SameT.trans {Ts:List Addr} {H H1 H2:Hp} (a:SameT Ts H H1) (b:SameT Ts H1 H2):SameT Ts H H2:=fun x o hx e=>b x o hx (a x o hx e)
theorem among_other {p q:Pos} {c:Value} (hne:¬ ((p.line:Int)=q.line/\(p.col:Int)=q.col)):∀ (l:List Value),TriplesOk l->codeAmong q (l ++ [rawInt p.line,rawInt p.col,c])=codeAmong q l:=by
 intro l h
 fun_induction TriplesOk l with
 | case1 =>
  show (if ((p.line:Int) == (q.line:Int) && (p.col:Int) == (q.col:Int))=true then some c else none)=none
  rw [if_neg]
  intro z
  rw [Bool.and_eq_true] at z
  exact hne ⟨by simpa using z.1,by simpa using z.2⟩
 | case2 a' t b' u x rest ih =>
  simp only [List.cons_append,codeAmong]
  rw [ih h]
 | case3=>exact h.elim
section
variable {X:Cx} {pins:List (Addr × Obj)} {σ:St} {H:Hp} {s:Shared}
theorem Inv.pinO {f:Addr} {o:Obj} (I:Inv X pins σ H s) (hf:s.heap.get? f=some o) (hn:H f=none) (hL:f ≠ X.env.locals) (hfs:f ∉ X.fs) (hd:∀ v,o.data ≠ .cell v):Inv X ((f,o)::pins) σ H s:=by
 refine ⟨I.ok,I.os,I.bare,I.base,I.loc,I.cell,I.free,I.freeC,fun p hp=>?_,I.hok,I.len⟩
 rcases List.mem_append.mp hp with z | z
 ·exact I.pin p (List.mem_append.mpr (.inl z))
 ·rcases List.mem_cons.mp z with rfl | z
  ·exact ⟨hf,hn,hL,hfs,hd⟩
  ·exact I.pin p (List.mem_append.mpr (.inr z))
theorem Inv.unpinO {p:Addr × Obj} (I:Inv X (p::pins) σ H s):Inv X pins σ H s:=by
 refine ⟨I.ok,I.os,I.bare,I.base,I.loc,I.cell,I.free,I.freeC,fun q hq=>?_,I.hok,I.len⟩
 rcases List.mem_append.mp hq with z | z
 ·exact I.pin q (List.mem_append.mpr (.inl z))
 ·exact I.pin q (List.mem_append.mpr (.inr (.tail _ z)))
theorem Inv.fsLt (I:Inv X pins σ H s) {b:Addr} (hb:b ∈ X.fs):b < s.heap.objs.size:=by
 obtain ⟨_,o,e,_⟩:=I.ok.funs.mem hb
 exact Nat.lt_of_lt_of_le (Heap.lt_size e) I.sz
theorem Inv.locLt (I:Inv X pins σ H s):X.env.locals < s.heap.objs.size:=by
 obtain ⟨m,hn,_⟩:=I.loc
 exact hn.lt
theorem lam_make {Q:Value->Shared->Prop} {pos:Pos} {params:Arguments} {body:Expr} {scope:Scope} {P c:Addr} {qs:List (Pos × Str)} {qual:Str} {cl:List (Str × Addr)} (hdef:defaultsOf params X.env=([],[])) (hcode:X.env.code=.ref c) (hC:∀ h,X.K.In h->PySem.W.CodeHd h c P)
  (hB:∀ h,X.K.In h->h.BuiltinsAt X.mg P) (hg:mainGlobals ≠ P) (hq:(pos,qual) ∈ qs) (hqual:X.env.qual ++ "<lambda>"=qual) (hnd:∀ q ∈ qs,q ≠ (pos,qual)->¬ ((pos.line:Int)=q.1.line/\(pos.col:Int)=q.1.col)) (hcl:closureFor scope X.env=pure cl)
  (I:Inv X pins σ H s) (hT:TabOk H P qs)
  (h:∀ (f c':Addr) (pm ctv:Value) (H':Hp) (s':Shared),Inv X ((f,PySem.W.kla_obj "<lambda>" qual params body scope cl pm c' ctv)::pins) σ H' s'->H f=none->SameT [P] H H'->TabOk H' P qs->CodeT H' c' qual->Q (.ref f) s') :
  wpAny (model X.prog X.w) X.A (eval (.Lambda params body scope pos) X.env) Q X.xe s:=by
 obtain ⟨ps,hP,htr,hps⟩:=hT
 have KX:X.K.In s.heap:=I.kIn
 have hgl:s.heap.Ns mainGlobals X.mg:=I.ok.mod.glob.keeps fun b o e=>(I.bs b o e).1
 have hPh:s.heap.get? P=some (PySem.W.tabObj ps):=I.hok _ _ hP
 have hPl:P < s.heap.objs.size:=Heap.lt_size hPh
 refine PySem.W.kla_eval hdef ?_
 rw [hqual]
 rcases hps _ hq with hnf | ⟨c',hf,hct⟩
 ·refine PySem.W.kla_makeFunction hcl I.ok.glob hgl hcode (hC _ KX) hPh htr hnf hg (hB _ KX) fun c' ctv h' tk hx hge hlt hrec htb=>?_
  obtain ⟨c2,oc,ds,t,e2,hoc,hd,hv⟩:=hrec
  cases e2
  have hcP:c' ≠ P:=Nat.ne_of_gt (Nat.lt_of_lt_of_le hPl hge)
  have hHc:H c'=none:=I.hok.fresh hge
  have hsz:s.heap.objs.size <= h'.objs.size:=Nat.le_trans hge (Nat.le_of_lt hlt)
  have hHf:H h'.objs.size=none:=I.hok.fresh hsz
  obtain ⟨H',eH⟩:∃ H',H'=upd (upd H P (.tbl (ps ++ #[rawInt pos.line,rawInt pos.col,.ref c']))) c' (.frz oc (.own 0)):=⟨_,rfl⟩
  have oth:∀ b,b ≠ P->b ≠ c'->H' b=H b:=fun b h1 h2=>by rw [eH,upd_ne h2,upd_ne h1]
  have atP:H' P=some (.tbl (ps ++ #[rawInt pos.line,rawInt pos.col,.ref c'])):=by rw [eH,upd_ne (Ne.symm hcP),upd_same]
  have atC:H' c'=some (.frz oc (.own 0)):=by rw [eH,upd_same]
  have keepP:∀ b o,b ≠ P->s.heap.get? b=some o->(h'.push (PySem.W.kla_obj "<lambda>" qual params body scope cl ((X.mg "__name__").getD .none) c' ctv)).get? b=some o:=fun b o hb e=>Heap.get?_push_of_some _ (hx b o hb e)
  have nP:∀ b u,H b=some u->(∀ qs,u ≠ .tbl qs)->b ≠ P/\b ≠ c':=fun b u e hu=>⟨fun z=>by rw [z,hP] at e; cases e; exact hu _ rfl,fun z=>by rw [z,hHc] at e; cases e⟩
  have un:Un (frs X.stack) [] H H' s.heap (h'.push (PySem.W.kla_obj "<lambda>" qual params body scope cl ((X.mg "__name__").getD .none) c' ctv)):=by
   refine ⟨fun b o e n _ _=>keepP b o (fun z=>by rw [z,hP] at n; cases n) e,fun b o e n _ _=>⟨o.slots,keepP b o (fun z=>by rw [z,hP] at n; cases n) e⟩,fun b o e n _=>?_,fun b o e _=>?_,fun b xs e=>?_,fun b o u e=>?_,fun b qs e=>?_⟩
   ·rw [oth b (fun z=>by rw [z,hP] at n; cases n) (Nat.ne_of_lt (Nat.lt_of_lt_of_le (Heap.lt_size e) hge))]
    exact n
   ·by_cases z:b=P
    ·exact ⟨_,by rw [z]; exact Heap.get?_push_of_some _ htb⟩
    ·exact ⟨o,keepP b o z e⟩
   ·obtain ⟨a1,a2⟩:=nP b _ e fun _ z=>nomatch z
    rw [oth b a1 a2]
    exact e
   ·obtain ⟨a1,a2⟩:=nP b _ e fun _ z=>nomatch z
    rw [oth b a1 a2]
    exact e
   ·by_cases z:b=P
    ·rw [z,hP] at e
     cases e
     exact ⟨_,by rw [z]; exact atP⟩
    ·have a2:b ≠ c':=fun w=>by rw [w,hHc] at e; cases e
     exact ⟨#[],by rw [oth b z a2,e]; simp⟩
  have hok:HOk X.prog X.w H' (h'.push (PySem.W.kla_obj "<lambda>" qual params body scope cl ((X.mg "__name__").getD .none) c' ctv)):=by
   intro a u e
   by_cases z:a=c'
   ·rw [z] at e ⊢
    rw [atC] at e
    cases e
    exact ⟨Heap.get?_push_of_some _ hoc,_,Heap.get?_push_of_some _ hoc⟩
   ·by_cases z2:a=P
    ·rw [z2] at e ⊢
     rw [atP] at e
     cases e
     exact Heap.get?_push_of_some _ htb
    ·rw [oth a z2 z] at e
     refine (I.hok a u e).stay (fun b v hb ev=>keepP b v ?_ ev) (fun b eb=>?_) fun b xs eb=>?_
     ·rcases hb with rfl | hb
      ·exact z2
      ·exact (nP b _ hb fun _ z=>nomatch z).1
     ·obtain ⟨a1,a2⟩:=nP b _ eb fun _ z=>nomatch z
      rw [oth b a1 a2]
      exact eb
     ·obtain ⟨a1,a2⟩:=nP b _ eb fun _ z=>nomatch z
      rw [oth b a1 a2]
      exact eb
  have J:=I.call (g':=s.gens) (d':=s.drawn) (t':=tk) (ch:=[]) un hok I.bare (fun b z=>absurd z (by simp))
  have hfs:h'.objs.size ∉ X.fs:=fun z=>Nat.lt_irrefl _ (Nat.lt_of_lt_of_le (I.fsLt z) hsz)
  have hLl:=I.locLt
  have hcT:CodeT H' c' qual:=⟨oc,ds,t,atC,hd,hv⟩
  refine h h'.objs.size c' _ ctv H' _ (J.pinO (Heap.get?_push_size _ rfl) (by rw [oth _ (Nat.ne_of_gt (Nat.lt_of_lt_of_le hPl hsz)) (Nat.ne_of_gt hlt)]; exact hHf) (Nat.ne_of_gt (Nat.lt_of_lt_of_le hLl hsz)) hfs (fun v z=>by cases z)) hHf (fun b o hb e=>?_) ?_ hcT
  ·have hb':b ≠ P:=fun z=>hb (by rw [z]; exact .head _)
   rw [oth b hb' (fun w=>by rw [w,hHc] at e; cases e)]
   exact e
  ·refine ⟨_,atP,?_,fun q hqm=>?_⟩
   ·rw [Array.toList_append]
    exact TriplesOk_snoc _ _ _ _ htr
   ·rw [Array.toList_append]
    by_cases z:q=(pos,qual)
    ·subst z
     exact .inr ⟨c',codeAmong_snoc _ htr hnf,hcT⟩
    ·rw [among_other (hnd q hqm z) _ htr]
     rcases hps q hqm with z | ⟨c2,z1,o2,d2,t2,z2,z3,z4⟩
     ·exact .inl z
     ·obtain ⟨a1,a2⟩:=nP c2 _ z2 fun _ z=>nomatch z
      exact .inr ⟨c2,z1,o2,d2,t2,by rw [oth c2 a1 a2]; exact z2,z3,z4⟩
 ·refine PySem.W.kla_makeFunctionHit hcl I.ok.glob hgl hcode (hC _ KX) hPh htr hf (hB _ KX) fun ctv h' tk hk hsz=>?_
  have hHf:H h'.objs.size=none:=I.hok.fresh hsz
  have kp:∀ b o,s.heap.get? b=some o->(h'.push (PySem.W.kla_obj "<lambda>" qual params body scope cl ((X.mg "__name__").getD .none) c' ctv)).get? b=some o:=fun b o e=>Heap.get?_push_of_some _ (hk b o e)
  have J:=I.call (g':=s.gens) (d':=s.drawn) (t':=tk) (ch:=[]) (Un.kept kp) (I.hok.kept kp) I.bare (fun b z=>absurd z (by simp))
  have hfs:h'.objs.size ∉ X.fs:=fun z=>Nat.lt_irrefl _ (Nat.lt_of_lt_of_le (I.fsLt z) hsz)
  have hLl:=I.locLt
  exact h h'.objs.size c' _ ctv H _ (J.pinO (Heap.get?_push_size _ rfl) hHf (Nat.ne_of_gt (Nat.lt_of_lt_of_le hLl hsz)) hfs (fun v z=>by cases z)) hHf (SameT.refl _ _) ⟨ps,hP,htr,hps⟩ hct
end
end L2
namespace L2
open PySem PySem.Spec PyProof.Rows PySem.SeqAt
section
variable {X:Cx}
def FnW (P:Program) (w:World) (K:PySem.W.Frag) (mg:Str->Option Value) (base:Heap) (k:Nat) (f:Addr) (ps:List Str) (sp:Sp):Prop :=
 ∃ fd,(PySem.W.keepIn K (.ref f)=true\/∃ (cl:Value) (dd:Option Addr) (g:FuncData) (sl:Array (Option Value)),base.get? f=some ⟨cl,dd,.func g,sl⟩)/\Binds K fd ps []/\FnOk P w K mg base (CXe P w) k f fd ps sp
def tCallW (P:Program) (w:World) (K:PySem.W.Frag) (mg:Str->Option Value) (base:Heap) (k i:Nat) (E:XK) (t:TA):TE:=fun σ H Q=>∃ f ps sp,σ[i]? = some (some (.ref f))/\FnW P w K mg base k f ps sp/\t σ H fun vs H1=>sp (vs ++ []) H1 Q E
variable {k i:Nat} {x:Str} {E:XK} {e:Expr} {es:List Expr} {t:TA} {p pos:Pos}
theorem pe_calW (P:Program) (w:World) (K:PySem.W.Frag) (mg:Str->Option Value) (base:Heap) (hN:X.N[i]? = some x) (hv:Vis X.env.scope x) (hr:Room k X.A) (th:Throws X E) (ha:PA X (e::es) t)
  (e1:X.prog=P:=by rfl) (e2:X.w=w:=by rfl) (e3:X.K=K:=by rfl) (e4:X.mg=mg:=by rfl) (e5:X.base=base:=by rfl)
  (hd:(x == ("__debug__":Str))=false:=by decide) (hcd:(x == ("__classdict__":Str))=false:=by decide)
  (he:starEach (e::es) X.env=(false,eval e X.env)::starEach es X.env:=by rfl) (hpl:(backTo pos (starEach es X.env)).any (·.1)=false:=by rfl) :
  PE X (.Call (.Name x p) (e::es) [] pos) (tCallW P w K mg base k i E t):=by
 subst e1 e2 e3 e4 e5
 intro pins s σ H Q I h
 obtain ⟨f,ps,sp,hi,⟨fd,hk,hb,F⟩,h⟩:=h
 refine wpAny_Call_Name_kw (thn (pe_var hN hv hd hcd pins s σ H (fun v H1=>v=.ref f/\H1=H) I ⟨_,hi,rfl,rfl⟩) fun u s0 ⟨v,H0,I0,rv,ev,eH⟩=>?_)
 subst ev eH
 obtain rfl:u=Value.ref f:=rv
 rcases hk with hk | ⟨cl,dd,g,sl,ho⟩
 ·refine PySem.W.callWith_K (h₀:=X.base) I.ok.mod.kin hk (thn (ha pos pins s0 σ _ _ I0 h) fun us s1 ⟨vs,H1,I1,r,q⟩=>⟨I1.kIn,?_⟩) he hpl
  exact run_fn F hr hb .nil (passes_of th) I1 r q
 ·have ha':=ha pos pins s0 σ _ _ I0 h
  rw [he] at ha' ⊢
  refine PySem.W.callWith_of (P:=fun h=>h.get? f=some ⟨cl,dd,.func g,sl⟩) (by show ((false || (backTo pos (starEach es X.env)).any (·.1)) || false)=false; rw [hpl]; rfl) (fun h e=>⟨.frame,.inl rfl,(PySem.W.Looks.ld (part:=none) e).andThen .now⟩) (Calls.evalArgs_plain (thn ha' fun us s1 ⟨vs,H1,I1,r,q⟩=>⟨(I1.bs _ _ ho).1,?_⟩))
  exact run_fn F hr hb .nil (passes_of th) I1 r q
theorem throws_lam {P:Program} {w:World} {K:PySem.W.Frag} {mg:Str->Option Value} {base:Heap} {N:List Str} {qual:Str} {scope:Scope} {f:Addr} {cd:Value} {cl:List (Str × Addr)} {A:Around} {outer:List Env} {s₀:Shared} {H₀:Hp} {E:XK} :
  Throws (cxL (CXe P w) P w K mg base N qual scope f cd cl A outer s₀ H₀ E) E:=by
 intro pins σ H s n a C dx T I hn fl at_ tr q
 show wpAny _ _ (leaving _ (.ref a)) _ _ s
 unfold leaving
 refine wpAny_bind (fly (base:=base) I.ok.frames I.stack rfl fl.le fl fun h' t ht fl' fw=>?_)
 have I':=I.flown hn fl at_ tr fl' fw
 exact ⟨a,C,dx,some t,H,rfl,I'.os,I'.bare,I'.base,I'.hok,fl'.mono hn,at_,fun t' e=>by cases e; exact I.hok.fresh ht,q⟩
theorem run_big {pins:List (Addr × Obj)} {σ:St} {H:Hp} {s:Shared} {Q:VK} {us:List Value} {vs:List V} {CX:CXT} {f:Addr} {fd:FuncData} {ps:List Str} {sp:Sp} (F:FnOk X.prog X.w X.K X.mg (bigB s.heap H (frs X.stack)) CX k f fd ps sp) (hr:Room k X.A) (hb:Binds X.K fd ps []) (hx:Passes CX X E)
  (I:Inv X pins σ H s) (r:Vals vs us) (h:sp vs H Q E):wpAny (model X.prog X.w) X.A (call (.ref f) us) (EP X pins σ Q) X.xe s:=by
 have hl:(us ++ []).length=ps.length:=by rw [List.append_nil,<- r.length]; exact F.len _ _ _ _ h
 have hb':=hb s us I.kIn hl
 rw [List.append_nil] at hb'
 refine wpAny_call (codeAny_mono (F.run X.A X.stack s H ⟨us,[]⟩ us vs Q E hr I.envB hb' r h) fun r s' hq=>?_)
 cases r with
 | error e=>exact hx pins σ H s e s' I hq
 | ok fl =>
  cases fl with
  | ret u=>exact I.after hq
  | next=>exact False.elim hq
  | brk=>exact False.elim hq
  | cont=>exact False.elim hq
theorem Inv.cellsAt {pins:List (Addr × Obj)} {σ:St} {H:Hp} {s:Shared} (I:Inv X pins σ H s) (hfn:∀ y,X.fn y=true) {j:Nat} {y:Str} {c:Addr} {v:V} (hj:X.N[j]? = some y) (hσ:σ[j]? = some (some v)) (hk:X.env.scope.names.lookup y=some .cell) (hc:X.env.cells.lookup y=some c) :
  CellsAt (bigB s.heap H (frs X.stack)) [(y,c)] [v]:=by
 refine ⟨rfl,fun i x' c' v' e1 e2=>?_⟩
 cases i with
 | succ i=>simp at e1
 | zero =>
  simp only [List.getElem?_cons_zero,Option.some.injEq,Prod.mk.injEq] at e1 e2
  obtain ⟨rfl,rfl⟩:=e1
  subst e2
  obtain ⟨m,hn,hl⟩:=I.loc
  obtain ⟨u,ru,lk⟩:=hl j y v hj hσ (.inr (.inl hk))
  refine ⟨by simp,u,ru,?_⟩
  rcases lk with ⟨z,_⟩ | ⟨_,c2,hc2,o,ho,hd⟩
  ·have z':X.env.scope.names.lookup y=some .local:=z
   rw [hk] at z'
   cases z'
  ·rw [hc] at hc2
   cases hc2
   refine ⟨o,bigB_get ho (I.freeC y c hc) fun z=>?_,hd⟩
   rcases List.mem_cons.mp (I.stkSub c z) with e | e
   ·exact I.cne y c hc e
   ·obtain ⟨_,o2,e2,_⟩:=I.ok.funs.mem e
    exact Nat.lt_irrefl _ (Nat.lt_of_lt_of_le (Heap.lt_size e2) (I.ok.cab y c (hfn y) hc))
end
end L2
namespace L2
open PySem PySem.Spec PyProof.Rows PySem.SeqAt
section
variable {X:Cx}
structure LamAt (X:Cx) (c P:Addr) (qs:List (Pos × Str)) (lp:Pos) (qual:Str):Prop where
 code:X.env.code=.ref c
 hd:∀ h,X.K.In h->PySem.W.CodeHd h c P
 blt:∀ h,X.K.In h->h.BuiltinsAt X.mg P
 ne:mainGlobals ≠ P
 mem:(lp,qual) ∈ qs
 qn:X.env.qual ++ "<lambda>"=qual
 nd:∀ q ∈ qs,q ≠ (lp,qual)->¬ ((lp.line:Int)=q.1.line/\(lp.col:Int)=q.1.col)
def LamIn (base:Heap) (f c':Addr) (qual:Str) (params:Arguments) (body:Expr) (scope:Scope) (cl:List (Str × Addr)) (cvs:List V):Prop:=(∃ pm ctv,base.get? f=some (PySem.W.kla_obj "<lambda>" qual params body scope cl pm c' ctv))/\CellsAt base cl cvs
def tCalL (P:Addr) (qs:List (Pos × Str)) (qual:Str) (params:Arguments) (body:Expr) (scope:Scope) (j:Nat) (y:Str) (spg:Heap->Sp) (t2:TE):TE:=fun σ H Q=>∃ v,σ[j]? = some (some v)/\TabOk H P qs/\∀ (f c':Addr) (H1:Hp),H f=none->SameT [P] H H1->TabOk H1 P qs->CodeT H1 c' qual ->
 t2 σ H1 fun y2 H2=>∀ (base':Heap) (cc:Addr),LamIn base' f c' qual params body scope [(y,cc)] [v]->spg base' [.ref f,y2] H2 Q E0
variable {k j:Nat} {x y:Str} {ps:List Str} {spg:Heap->Sp} {params:Arguments} {body e2:Expr} {scope:Scope} {c P:Addr} {qs:List (Pos × Str)} {qual:Str} {t2:TE} {p pos lp:Pos}
theorem pe_calL (C:∀ base',Cal X.prog X.w X.K X.mg base' k x ps (spg base')) (hr:Room k X.A) (hg:Gl X x) (L:LamAt X c P qs lp qual) (hfn:∀ z,X.fn z=true) (hj:X.N[j]? = some y) (hk:X.env.scope.names.lookup y=some .cell) (hcl:∀ cc,X.env.cells.lookup y=some cc->closureFor scope X.env=pure [(y,cc)])
  (h2:PE X e2 t2) (hdef:defaultsOf params X.env=([],[]):=by rfl) (hd:(x == ("__debug__":Str))=false:=by decide)
  (he:starEach [.Lambda params body scope lp,e2] X.env=(false,eval (.Lambda params body scope lp) X.env)::starEach [e2] X.env:=by rfl) (he2:starEach [e2] X.env=(false,eval e2 X.env)::starEach [] X.env:=by rfl) :
  PE X (.Call (.Name x p) [.Lambda params body scope lp,e2] [] pos) (tCalL P qs qual params body scope j y spg t2):=by
 intro pins s σ H Q I h
 obtain ⟨v,hσ,hT,h⟩:=h
 obtain ⟨fg,fdg,m1,m2,_,_⟩:=C X.base
 refine wpAny_Call_Name_kw (ld_glob I hg m1 ?_ hd)
 have hpl:(backTo pos (starEach [e2] X.env)).any (·.1)=false:=by rw [he2]; rfl
 refine PySem.W.callWith_K (h₀:=X.base) I.ok.mod.kin m2 ?_ he hpl
 rw [he,he2]
 show wpAny _ _ (spliced ((false,eval (.Lambda params body scope lp) X.env)::(false,eval e2 X.env)::backTo pos (starEach [] X.env))) _ _ s
 obtain ⟨cc,hcc⟩:=I.ok.has y (.inl hk)
 refine Calls.spliced_cons (lam_make hdef L.code L.hd L.blt L.ne L.mem L.qn L.nd (hcl cc hcc) I hT fun f c' pm ctv H1 s1 I1 hf sT hT1 hcT=>?_)
 refine Calls.spliced_cons (thn (h2 _ s1 σ H1 _ I1 (h f c' H1 hf sT hT1 hcT)) fun u2 s2 ⟨y2,H2,I2,r2,q2⟩=>?_)
 refine Calls.spliced_nil ⟨I2.kIn,?_⟩
 obtain ⟨pf,pn,pl,pfs,_⟩:=I2.pin _ (List.mem_append.mpr (.inr (.head _)))
 have hfb:f ∉ frs X.stack:=fun z=>by
  rcases List.mem_cons.mp (I2.stkSub f z) with e | e
  ·exact pl e
  ·exact pfs e
 have lam:LamIn (bigB s2.heap H2 (frs X.stack)) f c' qual params body scope [(y,cc)] [v]:=⟨⟨pm,ctv,bigB_get pf pn hfb⟩,I2.cellsAt hfn hj hσ hk hcc⟩
 obtain ⟨fg',fdg',n1,n2,n3,n4⟩:=C (bigB s2.heap H2 (frs X.stack))
 rw [m1] at n1
 cases n1
 exact run_big n4 hr n3 pass0 I2.unpinO (vs:=[.ref f,y2]) (.cons (show RelV (.ref f) (Value.ref f) from rfl) (.cons r2 .nil)) (q2 _ cc lam)
end
end L2
namespace L2
open PySem PySem.Spec PyProof.Rows PySem.SeqAt
section
variable {X:Cx} {pins:List (Addr × Obj)} {σ:St} {H:Hp} {s:Shared}
theorem Inv.grow {h':Heap} {tk:Nat} (I:Inv X pins σ H s) (kp:∀ b o,s.heap.get? b=some o->h'.get? b=some o):Inv X pins σ H { s with heap:=h',toks:=tk } :=
 I.call (g':=s.gens) (d':=s.drawn) (t':=tk) (ch:=[]) (Un.kept kp) (I.hok.kept kp) I.bare (fun b z=>absurd z (by simp))
theorem Inv.repin {p:Addr} {o o':Obj} {h':Heap} {tk:Nat} (I:Inv X ((p,o)::pins) σ H s) (hp:X.s₀.heap.objs.size <= p) (hnp:∀ q ∈ X.pn ++ pins,q.1 ≠ p) (hsb:Heap.SameBut p s.heap h') (ho':h'.get? p=some o') (hd:∀ v,o'.data ≠ .cell v) :
  Inv X ((p,o')::pins) σ H { s with heap:=h',toks:=tk }:=by
 obtain ⟨p1,p2,p3,p4,p5⟩:=I.pin _ (List.mem_append.mpr (.inr (.head _)))
 have J:=I.unpinO.turned (h':=h') (t':=tk) (it:=p) (fun b u hb e=>(hsb.2 b hb).trans e) p2 p3 (.inr hp) (fun x c e z=>by
  obtain ⟨v,o2,e2,d2⟩:=I.cell x c e
  rw [z,p1] at e2
  cases e2
  exact p5 _ d2) hnp
 exact J.pinO ho' p2 p3 p4 hd
theorem Inv.adopt {a:Addr} {o:Obj} {u:HO} (I:Inv X ((a,o)::pins) σ H s) (ha:X.s₀.heap.objs.size <= a) (hnp:∀ q ∈ X.pn ++ pins,q.1 ≠ a) (new:ObjOk X.prog X.w (upd H a u) s.heap a u):Inv X pins σ (upd H a u) s:=by
 obtain ⟨p1,p2,p3,p4,p5⟩:=I.pin _ (List.mem_append.mpr (.inr (.head _)))
 refine ⟨I.ok,I.os,I.bare,⟨I.base.keep,I.base.slot,fun b ob e n hx=>?_,I.base.there,fun b xs e=>?_,fun b ob w e=>?_,fun b ps e=>?_⟩,I.loc,I.cell,by rw [upd_ne (Ne.symm p3)]; exact I.free,fun x c e=>?_,fun p hp=>?_,HOk.adopt I.hok p2 (fun _ _ _ e=>e) new,I.len⟩
 ·rw [upd_ne (Nat.ne_of_lt (Nat.lt_of_lt_of_le (Heap.lt_size e) ha))]
  exact I.base.free b ob e n hx
 ·have:=I.base.tups b xs e
  rw [upd_ne (ne_of_none this p2)]
  exact this
 ·have:=I.base.frzs b ob w e
  rw [upd_ne (ne_of_none this p2)]
  exact this
 ·obtain ⟨more,this⟩:=I.base.tbls b ps e
  exact ⟨more,by rw [upd_ne (ne_of_none this p2)]; exact this⟩
 ·have hca:c ≠ a:=fun z=>by
   obtain ⟨v,o2,e2,d2⟩:=I.cell x c e
   rw [z,p1] at e2
   cases e2
   exact p5 _ d2
  rw [upd_ne hca]
  exact I.freeC x c e
 ·obtain ⟨q1,q2,q3,q4,q5⟩:=I.unpinO.pin p hp
  exact ⟨q1,by rw [upd_ne (hnp p hp)]; exact q2,q3,q4,q5⟩
def SkOut (ks:List Str) (vs out:List Value):Prop:=∃ ps:List (Str × Value),ps.Perm (ks.zip vs)/\out=ps.map Prod.snd/\ps.Pairwise fun p q=>decide (q.1.cps.toList < p.1.cps.toList)=false
theorem sk_out {keys:Array Value} {vs:List Value} {ks:List Str} (hk:StrsAre keys.toList ks) {xs:Array Keyed} (hp:xs.Perm (keys.zip vs.toArray)) (hs:SortedToK strKind xs xs.size):SkOut ks vs (xs.map (·.2)).toList:=by
 have hl:xs.toList.Perm (keys.toList.zip vs):=by rw [<- ksk_zip]; exact Array.perm_iff_toList_perm.mp hp
 have hst:∀ p ∈ xs.toList,∃ x t,p.1=.str x t:=fun p hp'=>by
  have:=hl.mem_iff.mp hp'
  obtain ⟨a,b⟩:=p
  exact hk.all _ (List.of_mem_zip this).1
 refine ⟨xs.toList.map (fun p:Keyed=>(strOf p.1,p.2)),?_,?_,?_⟩
 ·have e2:(keys.toList.zip vs).map (fun p:Keyed=>(strOf p.1,p.2))=ks.zip vs:=by
   rw [<- hk.strs,List.zip_map_left]
   exact List.map_congr_left fun ⟨x,y⟩ _=>rfl
  rw [<- e2]
  exact hl.map _
 ·rw [Array.toList_map,List.map_map]
  rfl
 ·rw [List.pairwise_iff_getElem]
  intro i j hi hj hij
  have hi':i < xs.size:=by simpa using hi
  have hj':j < xs.size:=by simpa using hj
  have h1:=hs i j (Nat.le_of_lt hij) hj'
  obtain ⟨x,t,ex⟩:=hst xs[i] (by simp)
  obtain ⟨y,u,ey⟩:=hst xs[j] (by simp)
  rw [KK_str hi' (x:=x) (t:=t) (q:=xs[i].2) (Prod.ext ex rfl),KK_str hj' (x:=y) (t:=u) (q:=xs[j].2) (Prod.ext ey rfl)] at h1
  change decide (y.cps.toList < x.cps.toList)=false at h1
  simp only [List.getElem_map,Array.getElem_toList]
  rw [show strOf xs[i].1=x by rw [ex]; rfl,show strOf xs[j].1=y by rw [ey]; rfl]
  exact h1
theorem sk_kind {keys:Array Value} {ks:List Str} (hk:StrsAre keys.toList ks) (h2:2 <= keys.size):keyKind' keys=pure oneType':=by
 obtain ⟨v₁,v₂,rest,e⟩:∃ v₁ v₂ rest,keys.toList=v₁::v₂::rest:=by
  have hl:2 <= keys.toList.length:=by rw [Array.length_toList]; exact h2
  cases q:keys.toList with
  | nil=>rw [q] at hl; simp at hl
  | cons v₁ r =>
   cases r with
   | nil=>rw [q] at hl; simp at hl
   | cons v₂ rest=>exact ⟨v₁,v₂,rest,rfl⟩
 have ek:keys=(v₁::v₂::rest).toArray:=by rw [<- e,Array.toArray_toList]
 rw [e] at hk
 rw [ek]
 exact keyKind_strs hk
theorem sk_keys {keys:Array Value} {vs:List Value} {ks:List Str} (hk:StrsAre keys.toList ks):KeysOf strKind (keys.zip vs.toArray):=by
 intro p hp
 rw [ksk_zip] at hp
 obtain ⟨x,y⟩:=p
 obtain ⟨z,t,e⟩:=hk.all _ (List.of_mem_zip hp).1
 exact ⟨z.cps.toList,by rw [e]⟩
theorem StrsAre.len:∀ {vs:List Value} {ss:List Str},StrsAre vs ss->vs.length=ss.length:=fun h=>by rw [<- h.strs,List.length_map]
variable {A:Around} {E:Value->Shared->Prop} {a kS:Addr} {vs:List Value} {ks:List Str} {keys:Array Value} {e e1:Nat} {P:PySem.Fin->Shared->Prop}
theorem sk_tail {st:SortSt} (I:Inv X ((kS,seqObj "list" keys e)::(a,seqObj "list" #[] e1)::pins) σ H s) (hk0:X.s₀.heap.objs.size <= kS) (ha0:X.s₀.heap.objs.size <= a) (hka:kS ≠ a) (hnk:∀ q ∈ X.pn ++ pins,q.1 ≠ kS) (hna:∀ q ∈ X.pn ++ pins,q.1 ≠ a)
  (hk:StrsAre keys.toList ks) (hlen:ks.length=vs.length) (h64:vs.length < 64) (hp:(arrOf st).Perm (keys.zip vs.toArray)) (hs:SortedToK strKind (arrOf st) (arrOf st).size) (hfl:failedOf st=none)
  (h:∀ (s':Shared) (out:Array Value) (c:Nat),Inv X ((a,seqObj "list" out c)::pins) σ H s'->SkOut ks vs out.toList->P (.done (.ret .none)) s') :
  wpAny (model X.prog X.w) A (ksk_tail a false e1 (.ref kS) st) P E s:=by
 obtain ⟨nk,nk2⟩:=I.pin _ (List.mem_append.mpr (.inr (.head _)))
 obtain ⟨na,na2⟩:=I.pin _ (List.mem_append.mpr (.inr (.tail _ (.head _))))
 have hsz:keys.size=vs.length:=by
  have h1:=StrsAre.len hk
  rw [Array.length_toList] at h1
  omega
 have hsz2:(arrOf st).size=vs.length:=by rw [hp.size_eq,Array.size_zip,hsz,List.size_toArray,Nat.min_self]
 have s1:=Heap.SameBut.update s.heap kS (Obj.mapSeq fun _=>(#[]:Array Value))
 have na1:(s.heap.update kS (Obj.mapSeq fun _=>(#[]:Array Value))).get? a=some (seqObj "list" #[] e1):=(s1.2 a hka.symm).trans na
 have s2:=Heap.SameBut.update (s.heap.update kS (Obj.mapSeq fun _=>(#[]:Array Value))) a (Obj.mapSeq fun _=>(arrOf st).map (·.2))
 obtain ⟨c1,hc1⟩:∃ c1,(s.heap.update kS (Obj.mapSeq fun _=>(#[]:Array Value))).get? kS=some (seqObj "list" #[] c1):=⟨_,get?_update_seq nk fun _=>#[]⟩
 obtain ⟨c2,hc2⟩:∃ c2,((s.heap.update kS (Obj.mapSeq fun _=>(#[]:Array Value))).update a (Obj.mapSeq fun _=>(arrOf st).map (·.2))).get? a=some (seqObj "list" ((arrOf st).map (·.2)) c2):=⟨_,get?_update_seq na1 fun _=>(arrOf st).map (·.2)⟩
 have J1:=I.repin (tk:=s.toks) hk0 (fun q hq=>by
  rcases List.mem_append.mp hq with z | z
  ·exact hnk q (List.mem_append.mpr (.inl z))
  ·rcases List.mem_cons.mp z with rfl | z
   ·exact hka.symm
   ·exact hnk q (List.mem_append.mpr (.inr z))) s1 hc1 (fun v z=>by cases z)
 have J2:=J1.unpinO.repin (tk:=s.toks) ha0 hna s2 hc2 (fun v z=>by cases z)
 unfold ksk_tail
 try dsimp only
 refine wpAny_bind (listUpdate_at nk rfl ?_ (by rw [hsz,sizeLine_eq]; omega) (Nat.zero_le _))
 refine wpAny_bind (wpAny_letGo ?_)
 refine wpAny_bind (seqEpoch_at na1 rfl ?_)
 refine wpAny_bind (listUpdate_at na1 rfl ?_ (Nat.zero_le _) (by simp only [Bool.false_eq_true,if_false,Array.size_map]; rw [hsz2,sizeLine_eq]; omega))
 rw [hfl]
 simp only [bne_self_eq_false,Bool.false_eq_true,if_false]
 exact wpAny_pure (h _ _ c2 J2 (sk_out hk hp hs))
theorem sk_end (I:Inv X ((kS,seqObj "list" keys e)::(a,seqObj "list" #[] e1)::pins) σ H s) (hk0:X.s₀.heap.objs.size <= kS) (ha0:X.s₀.heap.objs.size <= a) (hka:kS ≠ a) (hnk:∀ q ∈ X.pn ++ pins,q.1 ≠ kS) (hna:∀ q ∈ X.pn ++ pins,q.1 ≠ a)
  (hk:StrsAre keys.toList ks) (hlen:ks.length=vs.length) (h64:vs.length < 64)
  (h:∀ (s':Shared) (out:Array Value) (c:Nat),Inv X ((a,seqObj "list" out c)::pins) σ H s'->SkOut ks vs out.toList->P (.done (.ret .none)) s') :
  wpAny (model X.prog X.w) A (ksk_end a false vs.toArray e1 (.ref kS) keys) P E s:=by
 have hsz:keys.size=vs.length:=by
  have h1:=StrsAre.len hk
  rw [Array.length_toList] at h1
  omega
 have hzs:(keys.zip vs.toArray).size=vs.length:=by rw [Array.size_zip,hsz,List.size_toArray,Nat.min_self]
 unfold ksk_end
 simp only [Bool.false_eq_true,if_false]
 by_cases h2:vs.toArray.size < 2
 ·rw [if_pos h2,if_pos h2]
  refine wpAny_bind (wpAny_pure ?_)
  rw [StateT.run_pure]
  refine wpAny_bind (wpAny_pure ?_)
  try dsimp only
  refine sk_tail (st:=SortSt.mk' general' (keys.zip vs.toArray) #[] 7 none) I hk0 ha0 hka hnk hna hk hlen h64 (Array.Perm.refl _) ?_ rfl h
  intro i j hij hj
  have hj2:j < (keys.zip vs.toArray).size:=hj
  rw [hzs] at hj2
  rw [List.size_toArray] at h2
  have:i=j:=by omega
  subst this
  exact KeyOrd.kle_refl _
 ·rw [if_neg h2,if_neg h2]
  rw [List.size_toArray] at h2
  rw [sk_kind hk (by rw [hsz]; omega)]
  refine wpAny_bind (wpAny_pure ?_)
  refine wpAny_bind (wpAny_mono (wpS_sortRunsK (κ:=strKind) strKind_oneLt (a₀:=keys.zip vs.toArray) (st:=SortSt.mk' oneType' (keys.zip vs.toArray) #[] 7 none)
   (Q:=fun _ st'=>(arrOf st').Perm (keys.zip vs.toArray)/\failedOf st'=none/\SortedToK strKind (arrOf st') (keys.zip vs.toArray).size)
   (sk_keys hk) ⟨Array.Perm.refl _,rfl,rfl,rfl⟩ (by rw [hzs]; omega) (by rw [hzs]; exact h64) fun st' a1 a2 a3=>⟨a1,a2,a3⟩) ?_ fun _ _ e=>e)
  rintro ⟨⟨⟩,st'⟩ s' ⟨rfl,hp,hf,hs⟩
  try dsimp only
  exact sk_tail I hk0 ha0 hka hnk hna hk hlen h64 hp (by rw [hp.size_eq]; exact hs) hf h
end
end L2
namespace L2
open PySem PySem.Spec PyProof.Rows PySem.SeqAt
section
variable {X:Cx} {pins:List (Addr × Obj)} {σ:St} {H:Hp} {s:Shared} {A:Around} {E:Value->Shared->Prop} {a kS:Addr} {vs:List Value} {ks:List Str} {keys:Array Value} {e e1:Nat} {P:PySem.Fin->Shared->Prop} {Rel:Hp->Prop} {f:Value}
theorem sk_snoc {n:Str} {t:Tok}:∀ {vs:List Value} {ns:List Str},StrsAre vs ns->StrsAre (vs ++ [.str n t]) (ns ++ [n])
 | _,_,.nil=>.cons n t .nil
 | _,_,.cons n' t' h=>.cons n' t' (sk_snoc h)
def SkTurn (X:Cx) (pins:List (Addr × Obj)) (σ:St) (A:Around) (f:Value) (vs:List Value) (ks:List Str) (Rel:Hp->Prop):Prop :=
 ∀ (i:Nat) (v:Value) (k:Str),vs[i]? = some v->ks[i]? = some k->∀ (pins':List (Addr × Obj)) (H':Hp) (s':Shared),Inv X (pins' ++ pins) σ H' s'->Rel H' ->
  wpAny (model X.prog X.w) A (call f [v]) (fun u s''=>∃ t H'',u=.str k t/\Inv X (pins' ++ pins) σ H'' s''/\Rel H'') (fun _ _=>False) s'
theorem sk_rest (I:Inv X ((kS,seqObj "list" #[] 0)::(a,seqObj "list" #[] e1)::pins) σ H s) (hk0:X.s₀.heap.objs.size <= kS) (ha0:X.s₀.heap.objs.size <= a) (hka:kS ≠ a) (hnk:∀ q ∈ X.pn ++ pins,q.1 ≠ kS) (hna:∀ q ∈ X.pn ++ pins,q.1 ≠ a)
  (hlen:ks.length=vs.length) (h64:vs.length < 64) (hR:Rel H) (turn:SkTurn X pins σ A f vs ks Rel)
  (h:∀ (H':Hp) (s':Shared) (out:Array Value) (c:Nat),Inv X ((a,seqObj "list" out c)::pins) σ H' s'->Rel H'->SkOut ks vs out.toList->P (.done (.ret .none)) s') :
  wpAny (model X.prog X.w) A (ksk_rest a f false vs.toArray e1 (.ref kS)) P E s:=by
 unfold ksk_rest
 refine wpAny_bind (wpAny_rule ?_)
 first
  | rw [List.forIn_toArray]
  | (rw [<- Array.forIn_toList]; simp only [List.toList_toArray])
  | rw [<- Array.forIn_toList]
 refine wpAny_bind (ksk_fold (fun i s'=>∃ (H':Hp) (kA:Array Value) (e:Nat),Inv X ((kS,seqObj "list" kA e)::(a,seqObj "list" #[] e1)::pins) σ H' s'/\Rel H'/\StrsAre kA.toList (ks.take i)) vs 0 s
  ⟨H,#[],0,I,hR,by simpa using StrsAre.nil⟩ ?step ?done)
 case step =>
  rintro j x s' hx ⟨H',kA,e,J,hR',hk⟩
  simp only [Nat.zero_add] at hk ⊢
  have hj:j < vs.length:=(List.getElem?_eq_some_iff.mp hx).1
  obtain ⟨k,hkj⟩:∃ k,ks[j]? = some k:=⟨_,List.getElem?_eq_getElem (by omega)⟩
  have hz:kA.size <= vs.length:=by
   have h1:=StrsAre.len hk
   rw [Array.length_toList,List.length_take] at h1
   omega
  refine wpAny_bind (wpAny_attempt (wpAny_mono (turn j x k hx hkj [(kS,seqObj "list" kA e),(a,seqObj "list" #[] e1)] H' s' J hR') (fun v s'' he=>?_) fun _ _ hF=>hF.elim))
  obtain ⟨t,H2,rfl,J2,hR2⟩:=he
  try dsimp only
  obtain ⟨nk,_⟩:=J2.pin _ (List.mem_append.mpr (.inr (.head _)))
  have s1:=Heap.SameBut.update s''.heap kS (Obj.mapSeq (·.push (.str k t)))
  obtain ⟨c2,hc2⟩:∃ c2,(s''.heap.update kS (Obj.mapSeq (·.push (.str k t)))).get? kS=some (seqObj "list" (kA.push (.str k t)) c2):=⟨_,get?_update_seq nk (·.push (.str k t))⟩
  have ek:ks.take (j + 1)=ks.take j ++ [k]:=by rw [List.take_add_one,hkj]; simp
  have ea:(kA.push (Value.str k t)).toList=kA.toList ++ [Value.str k t]:=by simp
  have J3:=Inv.repin (tk:=s''.toks) (pins:=(a,seqObj "list" #[] e1)::pins) J2 hk0 (fun q hq=>by
   rcases List.mem_append.mp hq with z | z
   ·exact hnk q (List.mem_append.mpr (.inl z))
   ·rcases List.mem_cons.mp z with rfl | z
    ·exact hka.symm
    ·exact hnk q (List.mem_append.mpr (.inr z))) s1 hc2 (fun v z=>by cases z)
  refine wpAny_bind (listUpdate_at nk rfl ?_ (by rw [sizeLine_eq]; omega) (Nat.le_trans (Nat.le_of_eq (Array.size_push ..)) (by rw [sizeLine_eq]; omega)))
  exact wpAny_pure ⟨rfl,H2,kA.push (.str k t),c2,J3,hR2,by rw [ea,ek]; exact sk_snoc hk⟩
 case done =>
  rintro s' ⟨H',kA,e,J,hR',hk⟩
  have hk':StrsAre kA.toList ks:=by
   have e3:ks.take (0 + vs.length)=ks:=List.take_of_length_le (by omega)
   rw [e3] at hk
   exact hk
  obtain ⟨nk,_⟩:=J.pin _ (List.mem_append.mpr (.inr (.head _)))
  try dsimp only
  refine wpAny_bind (listItems_at nk rfl ?_)
  exact sk_end J hk0 ha0 hka hnk hna hk' hlen h64 fun s2 out c J2 ho=>h H' s2 out c J2 hR' ho
theorem sk_sort {n:Nat} (I:Inv X ((a,seqObj "list" vs.toArray n)::pins) σ H s) (ha0:X.s₀.heap.objs.size <= a) (hna:∀ q ∈ X.pn ++ pins,q.1 ≠ a) (hlen:ks.length=vs.length) (h64:vs.length < 64) (hR:Rel H) (turn:SkTurn X pins σ A f vs ks Rel)
  (h:∀ (H':Hp) (s':Shared) (out:Array Value) (c:Nat),Inv X ((a,seqObj "list" out c)::pins) σ H' s'->Rel H'->SkOut ks vs out.toList->P (.done (.ret .none)) s') :
  wpAny (model X.prog X.w) A (ksk_tree a f false) P E s:=by
 obtain ⟨ho,ho2,ho3,ho4,ho5⟩:=I.pin _ (List.mem_append.mpr (.inr (.head _)))
 have ha:a < s.heap.objs.size:=Heap.lt_size ho
 have s1:=Heap.SameBut.update s.heap a (Obj.mapSeq fun _=>(#[]:Array Value))
 obtain ⟨e1,ho1⟩:∃ e1,(s.heap.update a (Obj.mapSeq fun _=>(#[]:Array Value))).get? a=some (seqObj "list" #[] e1):=⟨_,get?_update_seq ho fun _=>#[]⟩
 have J1:=I.repin (tk:=s.toks) ha0 hna s1 ho1 (fun v z=>by cases z)
 have J2:=J1.grow (tk:=s.toks) (h':=((s.heap.update a (Obj.mapSeq fun _=>(#[]:Array Value))).push (seqObj "tuple" vs.toArray 0)).push (seqObj "list" #[] 0)) fun b o e=>Heap.get?_push_of_some _ (Heap.get?_push_of_some _ e)
 have hsz1:(s.heap.update a (Obj.mapSeq fun _=>(#[]:Array Value))).objs.size <= ((s.heap.update a (Obj.mapSeq fun _=>(#[]:Array Value))).push (seqObj "tuple" vs.toArray 0)).objs.size:=by rw [size_push']; exact Nat.le_succ _
 have hlt:∀ b,b < (s.heap.update a (Obj.mapSeq fun _=>(#[]:Array Value))).objs.size->b ≠ ((s.heap.update a (Obj.mapSeq fun _=>(#[]:Array Value))).push (seqObj "tuple" vs.toArray 0)).objs.size:=fun b hb=>Nat.ne_of_lt (Nat.lt_of_lt_of_le hb hsz1)
 have hkn:H ((s.heap.update a (Obj.mapSeq fun _=>(#[]:Array Value))).push (seqObj "tuple" vs.toArray 0)).objs.size=none:=J1.hok.fresh hsz1
 have J3:=J2.pinO (f:=((s.heap.update a (Obj.mapSeq fun _=>(#[]:Array Value))).push (seqObj "tuple" vs.toArray 0)).objs.size) (o:=seqObj "list" #[] 0) (Heap.get?_push_size _ rfl) hkn (Ne.symm (hlt _ J1.locLt)) (fun z=>hlt _ (J1.fsLt z) rfl) (fun v z=>by cases z)
 unfold ksk_tree
 refine wpAny_bind (listItems_at ho rfl ?_)
 refine wpAny_bind (listUpdate_at ho rfl ?_ (by rw [List.size_toArray,sizeLine_eq]; omega) (Nat.zero_le _))
 refine wpAny_bind (seqEpoch_at ho1 rfl ?_)
 refine wpAny_bind (wpAny_newTuple ?_ (by show vs.length <= _; rw [sizeLine_eq]; omega))
 refine wpAny_bind (wpAny_newList ?_ (Nat.zero_le _))
 refine wpAny_holding ?_
 refine sk_rest (kS:=((s.heap.update a (Obj.mapSeq fun _=>(#[]:Array Value))).push (seqObj "tuple" vs.toArray 0)).objs.size) J3 (Nat.le_trans J1.sz hsz1) ha0 (fun z=>hlt a (Heap.lt_size ho1) z.symm) (fun q hq=>hlt _ (Heap.lt_size (J1.unpinO.pin q hq).1)) hna hlen h64 hR turn h
theorem sk_sorted {l:Addr} {Q:Value->Shared->Prop} {fa:Addr} (I:Inv X pins σ H s) (hl:s.heap.IsList l vs.toArray) (hlen:ks.length=vs.length) (h64:vs.length < 64) (hR:Rel H) (turn:SkTurn X pins σ A.in1.in1 (.ref fa) vs ks Rel)
  (h:∀ (D:Addr) (H':Hp) (s':Shared) (out:Array Value) (c:Nat),Inv X ((D,seqObj "list" out c)::pins) σ H' s'->X.s₀.heap.objs.size <= D->(∀ q ∈ X.pn ++ pins,q.1 ≠ D)->H D=none->Rel H'->SkOut ks vs out.toList->Q (.ref D) s') :
  wpAny (model X.prog X.w) A (call (.builtin "sorted") [.ref l] [(Str.ofString "key",.ref fa)]) Q E s:=by
 refine call_function_entry_kw kind_sorted plain_sorted entry_sorted (ksk_s1 _ _) ?_
 unfold Builtin.«sorted»
 refine wpAny_bind (m:=checkCount "sorted" 1 1 _) (wpAny_pure ?_)
 refine wpAny_bind (collect_list hl ?_ (by rw [sizeLine_eq]; omega))
 refine wpAny_bind (wpAny_newList ?_ (by rw [sizeLine_eq]; omega))
 have hsz:((s.heap.push (seqObj "list" #[] 0)).update s.heap.objs.size (Obj.mapSeq (· ++ vs.toArray))).objs.size=s.heap.objs.size + 1:=by
  rw [Heap.size_update,size_push']
 have hoL:(((s.heap.push (seqObj "list" #[] 0)).update s.heap.objs.size (Obj.mapSeq (· ++ vs.toArray))).push (seqObj "list" vs.toArray 0)).get? (s.heap.objs.size + 1)=some (seqObj "list" vs.toArray 0):=by
  rw [<- hsz]; exact Heap.get?_push_size _ rfl
 have keep:∀ b o,s.heap.get? b=some o->(((s.heap.push (seqObj "list" #[] 0)).update s.heap.objs.size (Obj.mapSeq (· ++ vs.toArray))).push (seqObj "list" vs.toArray 0)).get? b=some o:=fun b o q=>by
  have hlt:b < s.heap.objs.size:=Heap.lt_size q
  rw [Heap.get?_push_ne _ _ _ (by rw [hsz]; exact Nat.ne_of_lt (Nat.lt_succ_of_lt hlt)),Heap.get?_update_ne _ _ _ _ (Nat.ne_of_lt hlt),Heap.get?_push_ne _ _ _ (Nat.ne_of_lt hlt)]
  exact q
 have hfr:H (s.heap.objs.size + 1)=none:=I.hok.fresh (Nat.le_succ _)
 have J1:=I.grow (tk:=s.toks) keep
 have J2:=J1.pinO (f:=s.heap.objs.size + 1) hoL hfr (Nat.ne_of_gt (Nat.lt_succ_of_lt I.locLt)) (fun z=>Nat.lt_irrefl _ (Nat.lt_of_lt_of_le (I.fsLt z) (Nat.le_succ _))) (fun v z=>by cases z)
 have hnp:∀ q ∈ X.pn ++ pins,q.1 ≠ s.heap.objs.size + 1:=fun q hq=>Nat.ne_of_lt (Nat.lt_succ_of_lt (Heap.lt_size (I.pin q hq).1))
 show wpAny _ _ _ _ _ { s with heap:=((s.heap.push (seqObj "list" #[] 0)).update s.heap.objs.size (Obj.mapSeq (· ++ vs.toArray))).push (seqObj "list" vs.toArray 0) }
 rw [hsz]
 refine wpAny_bind (wpAny_holding (wpAny_call_entry_kw slot_list_sort ⟨_,hoL,rfl⟩ entry_list_sort ?body (ksk_l1 _ _)))
 case body =>
  show wpAny (model X.prog X.w) A.in1.in1 (Builtin.«list.sort» ⟨[.ref (s.heap.objs.size + 1)],[(Str.ofString "key",.ref fa)]⟩) _ _ _
  rw [ksk_t1]
  refine sk_sort J2 (Nat.le_trans I.sz (Nat.le_succ _)) hnp hlen h64 hR turn fun H' s' out c J ho1 ho2=>⟨_,rfl,?_⟩
  exact wpAny_pure ⟨_,rfl,h _ H' s' out c J (Nat.le_trans I.sz (Nat.le_succ _)) hnp hfr ho1 ho2⟩
end
end L2
namespace L2
open PySem PySem.Spec PyProof.Rows PySem.SeqAt
theorem perm_back {α β:Type} {f:α->β} {l₁ l₂:List β} (h:l₁.Perm l₂):∀ m:List α,l₂=m.map f->∃ m':List α,m'.Perm m/\l₁=m'.map f:=by
 induction h with
 | nil =>
  intro m e
  exact ⟨m,.refl _,e⟩
 | cons x _ ih =>
  intro m e
  cases m with
  | nil=>cases e
  | cons a m =>
   obtain ⟨e1,e2⟩:=List.cons.inj e
   obtain ⟨m',h1,h2⟩:=ih m e2
   exact ⟨a::m',h1.cons a,by rw [h2,e1]; rfl⟩
 | swap x y l =>
  intro m e
  match m,e with
  | [],e=>cases e
  | [_],e=>cases (List.cons.inj e).2
  | a::b::m,e =>
   obtain ⟨e1,e2⟩:=List.cons.inj e
   obtain ⟨e3,e4⟩:=List.cons.inj e2
   exact ⟨b::a::m,.swap a b m,by rw [e1,e3,e4]; rfl⟩
 | trans _ _ ih1 ih2 =>
  intro m e
  obtain ⟨m2,h1,h2⟩:=ih2 m e
  obtain ⟨m3,h3,h4⟩:=ih1 m2 h2
  exact ⟨m3,h3.trans h1,h4⟩
section
variable {X:Cx}
def KeyFn (P:Program) (w:World) (K:PySem.W.Frag) (mg:Str->Option Value) (kk:Nat) (f c':Addr) (qual:Str) (params:Arguments) (body:Expr) (scope:Scope) (ps:List Str) (sp:Sp):Prop :=
 ∀ base':Heap,LamIn base' f c' qual params body scope [] []->∃ fd,Binds K fd ps []/\FnOk P w K mg base' CX0 kk f fd ps sp
def ByKey (ks:List Str) (rs zs:List Addr):Prop:=∃ ps:List (Str × Addr),ps.Perm (ks.zip rs)/\zs=ps.map Prod.snd/\ps.Pairwise fun p q=>decide (q.1.cps.toList < p.1.cps.toList)=false
def tSortKey (Pr:Program) (w:World) (K:PySem.W.Frag) (mg:Str->Option Value) (kk:Nat) (P:Addr) (qs:List (Pos × Str)) (qual:Str) (params:Arguments) (body:Expr) (scope:Scope) (t1:TA):TE:=fun σ H Q=>t1 σ H fun xs H1=>∃ (l:Addr) (rs:List Addr) (ks:List Str),xs=[.ref l]/\SqL K H1 l (rs.map V.ref)/\rs.length < 64/\ks.length=rs.length/\TabOk H1 P qs /\
 ∀ (f c':Addr) (H2:Hp),H1 f=none->SameT [P] H1 H2->TabOk H2 P qs->CodeT H2 c' qual->SqL K H2 l (rs.map V.ref)/\∃ (ps:List Str) (sp:Sp),KeyFn Pr w K mg kk f c' qual params body scope ps sp /\
  (∀ (i:Nat) (r:Addr) (k:Str) (H3:Hp),rs[i]? = some r->ks[i]? = some k->Same H2 H3->sp [.ref r] H3 (fun v H4=>v=.str k/\Same H2 H4) E0) /\
  ∀ (D:Addr) (zs:List Addr) (H4:Hp),H4 D=none->Same H2 H4->ByKey ks rs zs->Q (.ref D) (upd H4 D (.lst (zs.map V.ref)))
theorem vals_refs:∀ {rs:List Addr} {us:List Value},Vals (rs.map V.ref) us->us=rs.map Value.ref
 | [],_,h=>by cases h; rfl
 | r::rs,_,.cons h t=>by
  rw [vals_refs t,List.map_cons]
  congr 1
variable {kk:Nat} {e:Expr} {t1:TA} {params:Arguments} {body:Expr} {scope:Scope} {c P:Addr} {qs:List (Pos × Str)} {qual:Str} {p kp pos lp:Pos}
theorem pe_sortKey (Pr:Program) (w:World) (K:PySem.W.Frag) (mg:Str->Option Value) (hc:X.calm=true) (hr:Room (kk + 2) X.A) (hg:Gl X "sorted") (hm:X.mg "sorted"=none) (L:LamAt X c P qs lp qual) (hcl:closureFor scope X.env=pure []) (ha:PA X [e] t1)
  (e1:X.prog=Pr:=by rfl) (e2:X.w=w:=by rfl) (e3:X.K=K:=by rfl) (e4:X.mg=mg:=by rfl)
  (hdef:defaultsOf params X.env=([],[]):=by rfl) (he:backTo pos (starEach [e] X.env)=(false,eval e X.env)::backTo pos (starEach [] X.env):=by rfl) (hplain:(backTo pos (starEach [e] X.env)).any (·.1)=false:=by rfl) :
  PE X (.Call (.Name "sorted" p) [e] [⟨some "key",.Lambda params body scope lp,kp⟩] pos) (tSortKey Pr w K mg kk P qs qual params body scope t1):=by
 subst e1 e2 e3 e4
 intro pins s σ H Q I h
 refine wpAny_Call_Name_kw (ld_blt I hg hm PyProof.Rows.boot_sorted ?_)
 refine callWith_kw (thn (ha pos pins s σ H _ I h) fun us s1 ⟨vs,H1,I1,r1,l,rs,ks,ev,hl,h64,hks,hT,h⟩=>?_) he hplain
 subst ev
 obtain ⟨u,rfl,ru⟩:=vals1 r1
 cases ru
 show wpAny _ _ (evalAll ((do let v <- eval (.Lambda params body scope lp) X.env; standAt pos; pure v)::(backToKw pos (keywordEach [] X.env)).map (·.2))) _ _ s1
 refine wpAny_evalAll_cons (wpAny_bind (lam_make hdef L.code L.hd L.blt L.ne L.mem L.qn L.nd hcl I1 hT fun f c' pm ctv H2 s2 I2 hf sT hT2 hcT=>wpAny_bind (wpAny_standAt (wpAny_pure ?_))))
 refine wpAny_evalAll_nil ?_
 show wpAny _ _ (call (.builtin "sorted") [.ref l] [(Str.ofString "key",.ref f)]) _ _ s2
 obtain ⟨hl2,ps,sp,KF,turn,h⟩:=h f c' H2 hf sT hT2 hcT
 obtain ⟨its,rv,pl,hz⟩:=I2.list hl2
 have hits:=vals_refs rv
 subst hits
 refine sk_sorted (vs:=rs.map Value.ref) (ks:=ks) (Rel:=fun H'=>Same H2 H') I2 pl.isList (by rw [List.length_map]; exact hks) (by rw [List.length_map]; exact h64) (Same.refl H2) (fun i v k hv hk pins' H3 s3 I3 s23=>?_) fun D H4 s4 out cc I4 hD0 hDp hDn s24 ho=>?_
 ·rw [List.getElem?_map] at hv
  obtain ⟨r,hr1,rfl⟩:∃ r,rs[i]? = some r/\v=.ref r:=by
   cases q:rs[i]? with
   | none=>rw [q] at hv; cases hv
   | some r=>rw [q] at hv; cases hv; exact ⟨r,rfl,rfl⟩
  obtain ⟨pf,pn,pl',pfs,_⟩:=I3.pin (f,PySem.W.kla_obj "<lambda>" qual params body scope [] pm c' ctv) (List.mem_append.mpr (.inr (List.mem_append.mpr (.inr (.head _)))))
  have hfb:f ∉ frs X.stack:=fun z=>by
   rcases List.mem_cons.mp (I3.stkSub f z) with e | e
   ·exact pl' e
   ·exact pfs e
  obtain ⟨fd,hb,F⟩:=KF (bigB s3.heap H3 (frs X.stack)) ⟨⟨pm,ctv,bigB_get pf pn hfb⟩,rfl,fun i x c v e=>by simp at e⟩
  have hsp:=turn i r k H3 hr1 hk s23
  have hlen:([Value.ref r] ++ []).length=ps.length:=F.len _ _ _ _ hsp
  have hb':=hb s3 [.ref r] I3.kIn hlen
  rw [List.append_nil] at hb'
  refine wpAny_call (codeAny_mono (F.run X.A.in1.in1 X.stack s3 H3 ⟨[.ref r],[]⟩ [.ref r] [.ref r] _ _ hr.in1.in1 I3.envB.in1.in1 hb' (.cons (show RelV (.ref r) (Value.ref r) from rfl) .nil) hsp) fun r s' hq=>?_)
  cases r with
  | error e=>exact False.elim hq
  | ok fl =>
   cases fl with
   | ret u =>
    obtain ⟨v,H5,I5,rv5,e5,s5⟩:=I3.after hq
    subst e5
    obtain ⟨t,rfl⟩:=rv5
    exact ⟨t,H5,rfl,I5,s5⟩
   | next=>exact False.elim hq
   | brk=>exact False.elim hq
   | cont=>exact False.elim hq
 ·obtain ⟨prs,hp,ho2,hpw⟩:=ho
  obtain ⟨p1,p2,_⟩:=I4.pin _ (List.mem_append.mpr (.inr (.head _)))
  have hz1:ks.zip (rs.map Value.ref)=(ks.zip rs).map fun p=>(p.1,Value.ref p.2):=by
   rw [List.zip_map_right]
   exact List.map_congr_left fun ⟨x,y⟩ _=>rfl
  obtain ⟨qs2,hq1,hq2⟩:∃ qs2:List (Str × Addr),qs2.Perm (ks.zip rs)/\prs=qs2.map fun p=>(p.1,Value.ref p.2):=by
   rw [hz1] at hp
   exact perm_back hp _ rfl
  subst hq2
  have hbk:ByKey ks rs (qs2.map Prod.snd):=⟨qs2,hq1,rfl,by
   rw [List.pairwise_map] at hpw
   exact hpw⟩
  have hol:out.toList=(qs2.map Prod.snd).map Value.ref:=by
   rw [ho2,List.map_map,List.map_map]
   rfl
  have hll:(qs2.map Prod.snd).length=rs.length:=by
   rw [List.length_map,hq1.length_eq,List.length_zip,hks,Nat.min_self]
  have J:=I4.adopt hD0 hDp (u:=.lst ((qs2.map Prod.snd).map V.ref)) ⟨by rw [List.length_map,hll,sizeLine_eq]; omega,out.toList,cc,by
   rw [hol]
   clear hol hll hbk hpw ho2 hp hq1 p1 h
   induction (qs2.map Prod.snd) with
   | nil=>exact .nil
   | cons a l ih=>exact .cons (show RelV (.ref a) (Value.ref a) from rfl) ih,by simpa using p1⟩
  exact ⟨.ref D,_,J.unpinO,rfl,h D _ H4 p2 s24 hbk⟩
end
end L2
set_option maxHeartbeats 4000000
namespace L2
open PySem PySem.Spec PyProof.Rows
def Itz (K:PySem.W.Frag) (a b:Addr):It :=
 ⟨fun i H=>∃ xs ys x y,SqL K H a xs/\SqL K H b ys/\xs[i]? = some x/\ys[i]? = some y,fun i H v H'=>∃ t x y,v=.ref t/\H t=none/\H'=upd H t (.tup [x,y])/\(∀ xs,SqL K H a xs->xs[i]? = some x)/\∀ ys,SqL K H b ys->ys[i]? = some y,
  fun i H=>∃ xs ys,SqL K H a xs/\SqL K H b ys/\(xs.length <= i\/ys.length <= i)⟩
structure Five (z TI TO i1 i2:Addr):Prop where
 TIz:TI ≠ z
 TOz:TO ≠ z
 i1z:i1 ≠ z
 i2z:i2 ≠ z
 TITO:TI ≠ TO
 TIi1:TI ≠ i1
 TIi2:TI ≠ i2
 TOi1:TO ≠ i1
 TOi2:TO ≠ i2
 i12:i1 ≠ i2
theorem zip_apart {h:Heap} {z TI TO i1 i2 a b:Addr} {p q:Value} {xs ys:Array Value} {k1 k2:Nat} (F:Five z TI TO i1 i2) (hz:IsZip h z TI TO .none) (hTO:IsPair h TO p q) (h1:h.IsListIter i1 a k1) (h2:h.IsListIter i2 b k2) (ha:h.IsList a xs) (hb:h.IsList b ys):ZipApart z TI TO i1 i2 a b:=by
 obtain ⟨o1,e1,c1,_⟩:=h1
 obtain ⟨o2,e2,c2,_⟩:=h2
 obtain ⟨oa,ea,ca,_⟩:=ha
 obtain ⟨ob,eb,cb,_⟩:=hb
 have nz:∀ {x:Addr} {o:Obj},h.get? x=some o->o.cls=.type "list"->x ≠ z:=fun e c w=>by
  rw [w,hz] at e
  cases e
  simp at c
 have nT:∀ {x:Addr} {o:Obj},h.get? x=some o->o.cls=.type "list"->x ≠ TO:=fun e c w=>by
  rw [w,hTO] at e
  cases e
  simp at c
 have ni:∀ {x y:Addr} {o o':Obj},h.get? x=some o->o.cls=.type "list"->h.get? y=some o'->o'.cls=.type "list_iterator"->x ≠ y:=fun e c e' c' w=>by
  rw [w,e'] at e
  cases e
  rw [c'] at c
  simp at c
 exact ⟨F.TIz,F.TOz,F.i1z,F.i2z,F.TITO,F.TIi1,F.TIi2,F.TOi1,F.TOi2,F.i12,nz ea ca,nT ea ca,ni ea ca e1 c1,ni ea ca e2 c2,nz eb cb,nT eb cb,ni eb cb e1 c1,ni eb cb e2 c2⟩
theorem turn_zip {P:Program} {w:World} {K:PySem.W.Frag} {es:List Expr} {k:Nat} {pos:Pos} (a b z TI TO i1 i2:Addr) (F:Five z TI TO i1 i2) :
  Turn P w K (.Tuple es k pos) (Itz K a b) [z,TO,i1,i2,TI] z (fun i h=>IsZip h z TI TO .none/\IsPair h TI (.ref i1) (.ref i2)/\(∃ p q,IsPair h TO p q)/\h.IsListIter i1 a i/\h.IsListIter i2 b i) where
 mem:=by simp
 obj:=fun i h st c hc=>by
  obtain ⟨hz,hTI,⟨p,q,hTO⟩,⟨o1,e1,_,d1⟩,⟨o2,e2,_,d2⟩⟩:=st
  simp only [List.mem_cons,List.not_mem_nil,or_false] at hc
  rcases hc with rfl | rfl | rfl | rfl | rfl
  ·exact ⟨_,hz,fun v z=>by cases z⟩
  ·exact ⟨_,hTO,fun v z=>by cases z⟩
  ·exact ⟨o1,e1,fun v z=>by rw [d1] at z; cases z⟩
  ·exact ⟨o2,e2,fun v z=>by rw [d2] at z; cases z⟩
  ·exact ⟨_,hTI,fun v z=>by cases z⟩
 keep:=fun i h h' st kp=>by
  obtain ⟨hz,hTI,⟨p,q,hTO⟩,h1,h2⟩:=st
  exact ⟨kp z (by simp) _ hz,kp TI (by simp) _ hTI,⟨p,q,kp TO (by simp) _ hTO⟩,h1.at fun o z=>kp i1 (by simp) o z,h2.at fun o z=>kp i2 (by simp) o z⟩
 item:=by
  intro X hP hw hK hc i pins s σ H E I hf st hg
  subst hP hw hK
  obtain ⟨xs,ys,x,y,hqa,hqb,hx,hy⟩:=hg
  obtain ⟨its,rv,pa,hza⟩:=I.list hqa
  obtain ⟨its2,rv2,pb,hzb⟩:=I.list hqb
  obtain ⟨u,hu,ru⟩:=rv.get hx
  obtain ⟨u2,hu2,ru2⟩:=rv2.get hy
  obtain ⟨hz,hTI,⟨p0,q0,hTO⟩,h1,h2⟩:=st
  have D:=zip_apart F hz hTO h1 h2 pa.isList pb.isList
  have fz:=hf z (by simp)
  have fTO:=hf TO (by simp)
  have f1:=hf i1 (by simp)
  have f2:=hf i2 (by simp)
  have fTI:=hf TI (by simp)
  refine wpAny_pyNext_zip_item D hz hTI hTO h1 h2 pa.isList pb.isList (x:=u) (y:=u2) (by simpa using hu) (by simpa using hu2) fun h' hz' hTO' h1' h2' hT hsz hk=>?_
  refine ⟨_,rfl,wpAny_letOwnedTupleGo_zip hz' fun h3 hz3 hs3=>?_⟩
  replace hs3:Heap.SameBut z h' h3:=hs3
  have hT0:H s.heap.objs.size=none:=I.hok.fresh (Nat.le_refl _)
  have zT:z ≠ s.heap.objs.size:=Nat.ne_of_lt (Heap.lt_size hz)
  have kp:∀ b o,b ∉ [z,TO,i1,i2]->s.heap.get? b=some o->h3.get? b=some o:=fun b o hb q=>by
   have nb:b ≠ z/\b ≠ TO/\b ≠ i1/\b ≠ i2:=by simpa using hb
   exact (hs3.2 b nb.1).trans (hk b o nb.1 nb.2.1 nb.2.2.1 nb.2.2.2 q)
  have hT3:h3.get? s.heap.objs.size=some { cls:=.type "tuple",data:=.seq #[u,u2] }:=(hs3.2 _ (Ne.symm zT)).trans hT
  have hfp:∀ c ∈ [z,TO,i1,i2],FpOk X pins H c:=fun c hc=>by
   simp only [List.mem_cons,List.not_mem_nil,or_false] at hc
   rcases hc with rfl | rfl | rfl | rfl
   ·exact fz
   ·exact fTO
   ·exact f1
   ·exact f2
  refine ⟨.ref s.heap.objs.size,upd H s.heap.objs.size (.tup [x,y]),?_,rfl,⟨_,x,y,rfl,hT0,rfl,fun zs hy'=>by rw [I.list_inj hy' hqa]; exact hx,fun zs hy'=>by rw [I.list_inj hy' hqb]; exact hy⟩,
   ⟨hz3,(hs3.2 TI F.TIz).trans (hk TI _ F.TIz F.TITO F.TIi1 F.TIi2 hTI),⟨u,u2,(hs3.2 TO F.TOz).trans hTO'⟩,h1'.at fun o z=>(hs3.2 i1 F.i1z).trans z,h2'.at fun o z=>(hs3.2 i2 F.i2z).trans z⟩,fun c hc=>?_⟩
  ·refine Inv.step (s:=s) (h':=h3) I (g':=s.gens) (d':=s.drawn) (t':=s.toks) (ch:=[z,TO,i1,i2]) (fun b hb=>?_) (fun b o _ _ hb q _=>kp b o hb q) (fun b o _ _ hb q _=>⟨o.slots,kp b o hb q⟩) (fun b o hb q n=>?_) (fun b o hb q=>⟨o,kp b o hb q⟩)
    (fun b ys q=>?_) (fun b o z q=>?_) (fun b ps q=>⟨#[],?_⟩) (fun m hm=>?_) ?_ I.bare
   ·obtain ⟨_,g1,_,g3,g4,g5⟩:=hfp b hb
    exact ⟨g3,g1,g4,g5⟩
   ·rw [upd_ne (Nat.ne_of_lt (Heap.lt_size q))]; exact n
   ·rw [upd_ne (ne_of_none q hT0)]; exact q
   ·rw [upd_ne (ne_of_none q hT0)]; exact q
   ·rw [upd_ne (ne_of_none q hT0),q]; simp
   ·obtain ⟨o,es',ep,q,r⟩:=hm
    exact ⟨o,es',ep,kp _ o (fun hm=>(hfp _ hm).2.1 rfl) q,r⟩
   ·refine HOk.adopt I.hok hT0 (fun b v hb q=>kp b v (fun hm=>hb (hfp b hm).1) q) ⟨by simp only [List.length_cons,List.length_nil]; rw [sizeLine_eq]; decide,[u,u2],.cons ru (.cons ru2 .nil),?_⟩
    exact ⟨_,hT3,rfl,_,rfl⟩
  ·obtain ⟨g0,_⟩:=hf c hc
   have hcT:c ≠ s.heap.objs.size:=by
    simp only [List.mem_cons,List.not_mem_nil,or_false] at hc
    rcases hc with rfl | rfl | rfl | rfl | rfl
    ·exact zT
    ·exact Nat.ne_of_lt (Heap.lt_size hTO)
    ·obtain ⟨o,ho,_⟩:=h1
     exact Nat.ne_of_lt (Heap.lt_size ho)
    ·obtain ⟨o,ho,_⟩:=h2
     exact Nat.ne_of_lt (Heap.lt_size ho)
    ·exact Nat.ne_of_lt (Heap.lt_size hTI)
   rw [upd_ne hcT]
   exact g0
 done:=by
  intro X hP hw hK hc i pins s σ H E I hf st hg
  subst hP hw hK
  obtain ⟨xs,ys,hqa,hqb,hend⟩:=hg
  obtain ⟨its,rv,pa,hza⟩:=I.list hqa
  obtain ⟨its2,rv2,pb,hzb⟩:=I.list hqb
  obtain ⟨hz,hTI,⟨p0,q0,hTO⟩,h1,h2⟩:=st
  have D:=zip_apart F hz hTO h1 h2 pa.isList pb.isList
  have l1:=rv.length
  have l2:=rv2.length
  refine wpAny_pyNext_zip_end (I.ok.hd hc) D hz hTI hTO h1 h2 pa.isList pb.isList (hend.imp (fun z=>by simp; omega) (fun z=>by simp; omega)) fun h' hk=>⟨rfl,?_⟩
  have hfp:∀ c ∈ [z,TO,i1,i2],FpOk X pins H c:=fun c hc=>hf c (by
   simp only [List.mem_cons,List.not_mem_nil,or_false] at hc ⊢
   rcases hc with h | h | h | h
   ·exact .inl h
   ·exact .inr (.inl h)
   ·exact .inr (.inr (.inl h))
   ·exact .inr (.inr (.inr (.inl h))))
  have kp:∀ b o,b ∉ [z,TO,i1,i2]->s.heap.get? b=some o->h'.get? b=some o:=fun b o hb q=>by
   have nb:b ≠ z/\b ≠ TO/\b ≠ i1/\b ≠ i2:=by simpa using hb
   exact hk b o nb.1 nb.2.1 nb.2.2.1 nb.2.2.2 q
  refine Inv.step (s:=s) (h':=h') I (g':=s.gens) (d':=s.drawn) (t':=s.toks) (ch:=[z,TO,i1,i2]) (fun b hb=>?_) (fun b o _ _ hb q _=>kp b o hb q) (fun b o _ _ hb q _=>⟨o.slots,kp b o hb q⟩) (fun b o hb q n=>n) (fun b o hb q=>?_)
   (fun b ys q=>q) (fun b o z q=>q) (fun b ps q=>⟨#[],by rw [q]; simp⟩) (fun m hm=>?_) ?_ I.bare
  ·obtain ⟨_,g1,_,g3,g4,g5⟩:=hfp b hb
   exact ⟨g3,g1,g4,g5⟩
  ·exact ⟨o,kp b o hb q⟩
  ·obtain ⟨o,es',ep,q,r⟩:=hm
   exact ⟨o,es',ep,kp _ o (fun hm=>(hfp _ hm).2.1 rfl) q,r⟩
  ·intro b v e
   refine (I.hok b v e).stay (fun c v hc q=>kp c v (fun hm=>?_) q) (fun _ q=>q) fun _ _ q=>q
   have g:=(hfp c hm).1
   rcases hc with rfl | hc
   ·rw [g] at e; cases e
   ·rw [g] at hc; cases hc
 self:=fun _ _ _ _ _ st h=>wpAny_pyIter_zip st.1 h
section
variable {X:Cx}
def iZip (K:PySem.W.Frag) (tl:TA):TI:=fun σ H R=>tl σ H fun vs H1=>∃ a b,vs=[.ref a,.ref b]/\(∃ xs,SqL K H1 a xs)/\(∃ ys,SqL K H1 b ys)/\R (Itz K a b) H1
theorem pi_zip (K:PySem.W.Frag) {l1 l2:Expr} {tl:TA} {es:List Expr} {k:Nat} {tpos p pos:Pos} (hg:Gl X "zip") (hm:X.mg "zip"=none) (ha:PA X [l1,l2] tl) (hs:starEach [l1,l2] X.env=(false,eval l1 X.env)::starEach [l2] X.env:=by rfl) (hpl:(backTo pos (starEach [l2] X.env)).any (·.1)=false:=by rfl) (hK:X.K=K:=by rfl) :
  PI X (.Tuple es k tpos) (.Call (.Name "zip" p) [l1,l2] [] pos) (iZip K tl):=by
 subst hK
 intro pins s σ H R I h
 refine Call_ (ld_blt I hg hm boot_zip (PyProof.Rows.callWith_type1 (thn (ha pos pins s σ H _ I h) fun us s1 ⟨vs,H1,I1,r1,q1⟩=>?_) hs hpl))
 obtain ⟨a,b,e,⟨xs,hqa⟩,⟨ys,hqb⟩,q⟩:=q1
 subst e
 obtain ⟨ua,ub,rfl,ra,rb⟩:∃ ua ub,us=[ua,ub]/\RelV (.ref a) ua/\RelV (.ref b) ub:=by
  cases r1 with
  | cons ra r1 =>
   cases r1 with
   | cons rb r1 =>
    cases r1
    exact ⟨_,_,rfl,ra,rb⟩
 cases ra
 cases rb
 obtain ⟨its,rv,pa,hza⟩:=I1.list hqa
 obtain ⟨its2,rv2,pb,hzb⟩:=I1.list hqb
 refine call_zip_2 pa.isList pb.isList fun h' hz hTI hTO h1 h2 hsz hk=>?_
 refine wpAny_pyIter_zip hz ?_
 have I2:Inv X pins σ H1 { s1 with heap:=h',toks:=s1.toks }:=I1.kept (t':=s1.toks) hk
 have F:Five (s1.heap.objs.size + 4) (s1.heap.objs.size + 2) (s1.heap.objs.size + 3) s1.heap.objs.size (s1.heap.objs.size + 1):=by
  have n:∀ i j:Nat,i ≠ j->s1.heap.objs.size + i ≠ s1.heap.objs.size + j:=fun i j h z=>h (Nat.add_left_cancel z)
  exact ⟨n 2 4 (by decide),n 3 4 (by decide),n 0 4 (by decide),n 1 4 (by decide),n 2 3 (by decide),n 2 0 (by decide),n 2 1 (by decide),n 3 0 (by decide),n 3 1 (by decide),n 0 1 (by decide)⟩
 refine ⟨s1.heap.objs.size + 4,_,_,_,H1,rfl,I2,turn_zip a b _ _ _ _ _ F,⟨hz,hTI,⟨_,_,hTO⟩,h1,h2⟩,fun c hc=>?_,q⟩
 have hb':s1.heap.objs.size <= c:=by
  simp only [List.mem_cons,List.not_mem_nil,or_false] at hc
  rcases hc with rfl | rfl | rfl | rfl | rfl
  ·exact Nat.le_add_right _ _
  ·exact Nat.le_add_right _ _
  ·exact Nat.le_refl _
  ·exact Nat.le_add_right _ _
  ·exact Nat.le_add_right _ _
 exact I1.fpOk hb' (I1.hok.fresh hb')
theorem for_zip {K:PySem.W.Frag} {a b:Addr} {xs ys:List V} {g:TG} {tb:TS} {D:Ends} {σ:St} {H:Hp} (Pv:Nat->St->Hp->Prop) (h0:Pv 0 σ H) (hxy:xs.length=ys.length) (hl:∀ i σ H,i <= xs.length->Pv i σ H->SqL K H a xs/\SqL K H b ys)
  (hs:∀ i x y σ H t,xs[i]? = some x->ys[i]? = some y->Pv i σ H->H t=none->g (.ref t) σ (upd H t (.tup [x,y])) fun σ2 H2=>tb { D with nx:=Pv (i + 1),ct:=Pv (i + 1),bk:=D.nx } σ2 H2) (hd:∀ σ H,Pv xs.length σ H->D.nx σ H) :
  ∃ W:Nat->Nat->St->Hp->Prop,(∃ m,W 0 m σ H)/\∀ i m σ H,W i m σ H ->
   ((Itz K a b).stop i H/\D.nx σ H)\/((Itz K a b).go i H/\∃ N:St->Hp->Prop,(∀ σ' H',N σ' H'->∃ m',m' < m/\W (i + 1) m' σ' H')/\∀ x H',(Itz K a b).yld i H x H'->g x σ H' fun σ2 H2=>tb { D with nx:=N,ct:=N,bk:=D.nx } σ2 H2):=by
 refine ⟨fun i m σ H=>m=xs.length - i/\i <= xs.length/\Pv i σ H,⟨xs.length,by simp,Nat.zero_le _,h0⟩,?_⟩
 rintro i m σ H ⟨rfl,hi,p⟩
 obtain ⟨qa,qb⟩:=hl i σ H hi p
 by_cases hlt:i < xs.length
 ·refine .inr ⟨⟨xs,ys,xs[i],ys[i]'(by omega),qa,qb,by simp [hlt],by simp [show i < ys.length by omega]⟩,Pv (i + 1),fun σ' H' p'=>⟨xs.length - (i + 1),by omega,rfl,hlt,p'⟩,fun x H' y=>?_⟩
  obtain ⟨t,z1,z2,e1,e2,e3,e4,e5⟩:=y
  subst e1 e3
  exact hs i z1 z2 σ _ t (e4 xs qa) (e5 ys qb) p e2
 ·have e:i=xs.length:=by omega
  subst e
  exact .inl ⟨⟨xs,ys,qa,qb,.inl (Nat.le_refl _)⟩,hd σ H p⟩
end
end L2
set_option maxHeartbeats 1000000
namespace L2
open PySem PySem.Spec PyProof.Rows
def codeTab (K:PySem.W.Frag) (v:Value):Option Addr:=match v with
 | .ref c=>match K.lookup c with
  | some ⟨.type "code",_,.fields vs,_⟩=>match (vs[11]?:Option Value),(vs.getD 18 .none:Value),(vs.getD 7 .none:Value),(vs.getD 9 .none:Value),(vs.getD 10 .none:Value) with
   | some (.ref P),.str _ _,.int _ _,.bool _,.int _ _=>if c=P then none else some P
   | _,_,_,_,_=>none
  | _=>none
 | _=>none
theorem codeTab_hd {K:PySem.W.Frag} {v:Value} {P:Addr} (h:codeTab K v=some P):∃ c,v=.ref c/\∀ hp:Heap,K.In hp->PySem.W.CodeHd hp c P:=by
 unfold codeTab at h
 split at h
 ·rename_i c
  split at h
  ·rename_i dd vs sl e
   split at h
   ·rename_i P' x t i t2 b j t3 e11 e18 e7 e9 e10
    split at h
    ·cases h
    ·rename_i hne
     cases h
     refine ⟨c,rfl,fun hp KX=>⟨_,vs,x,t,i,t2,b,j,t3,KX _ _ e,rfl,rfl,e11,?_,e18,e7,e9,e10,hne⟩⟩
     rw [Array.getD_eq_getD_getElem?,e11]
     rfl
   ·cases h
  ·cases h
 ·cases h
def FnTC (K:PySem.W.Frag) (mg:Str->Option Value) (x:Str) (st:Stmt) (ps:List Str) (P:Addr):Prop:=∃ f fd,mg x=some (.ref f)/\Fun K x x st f fd/\Binds K fd ps []/\codeTab K fd.code=some P
def BltK (K:PySem.W.Frag) (mg:Str->Option Value):Prop:=∃ bm ob,mg "__builtins__"=some (.ref bm)/\K.lookup bm=some ob/\bm ≠ builtinsNs/\bm ≠ mainGlobals/\ob.cls=.type "module"/\ob.dict=some builtinsNs/\ob.data=.plain
theorem BltK.at {K:PySem.W.Frag} {mg:Str->Option Value} {P:Addr} (b:BltK K mg) (hP:K.lookup P=none):∀ h:Heap,K.In h->h.BuiltinsAt mg P:=fun h KX=>by
 obtain ⟨bm,ob,h1,h2,h3,h4,h5,h6,h7⟩:=b
 exact ⟨bm,ob,h1,h3,h4,(fun z=>by rw [z,hP] at h2; cases h2),KX _ _ h2,h5,h6,h7⟩
section
variable {Pr:Program} {w:World} {K:PySem.W.Frag} {mg:Str->Option Value} {base:Heap} {x:Str} {st:Stmt} {N ps:List Str} {k:Nat} {sp:Sp} {P:Addr}
theorem FnTC.cal (F:FnTC K mg x st ps P) (S:FnScope N ps (defScope st)) (len:∀ vs H Q E,sp vs H Q E->vs.length=ps.length)
  (hbody:∀ (f c:Addr) (A:Around) (outer:List Env) (s:Shared) (H:Hp) (vs:List V) (Q:VK) (E:XK),(∀ h:Heap,K.In h->PySem.W.CodeHd h c P)->Room k (A.deeper (envOfC x (defScope st) s.heap.objs.size f (.ref c)))->sp vs H Q E ->
   ∃ t,PSs (cxOf CX0 Pr w K mg base N x (defScope st) f (.ref c) A outer s H E).nox (defBody st) t/\t { nx:=fun _ H'=>Q .non H',rt:=Q } (start N vs) H):Cal Pr w K mg base (k + 1) x ps sp:=by
 obtain ⟨f,fd,h1,h2,h3,h4⟩:=F
 obtain ⟨oc,od,kV,doc,pm,an,cdv,ct,osl,rfl,lk,hcd⟩:=h2.ex
 obtain ⟨c,e,hc⟩:=codeTab_hd h4
 have e':cdv=.ref c:=e
 subst e'
 refine ⟨f,_,h1,h2.kp,h3,fn_of lk hcd S len fun A outer s H vs Q E hr hsp=>?_⟩
 obtain ⟨t,ht,q⟩:=hbody f c A outer s H vs Q E hc hr hsp
 exact ⟨t,ht.nox,q⟩
theorem fntc_mk {h:Heap} {f:Addr} {oc kV doc pm cdv ct:Value} {od an:Option Addr} {osl:Array (Option Value)} (X:K.In h) (G:h.Ns mainGlobals mg)
  (a:PySem.W.nsIn K mainGlobals x=some (some (.ref f)))
  (l:K.lookup f=some ⟨oc,od,.func (PySem.W.fnOf x x (defArgs st) (defBody st) (defScope st) .none kV doc pm an cdv ct),osl⟩) (c:PySem.W.codeIn K cdv x=true) (kp:PySem.W.keepIn K (.ref f)=true) (tb:codeTab K cdv=some P)
  (hb:∀ (kV doc pm:Value) (an:Option Addr) (cdv ct:Value) (us:List Value),us.length=ps.length->bindArgs (PySem.W.fnOf x x (defArgs st) (defBody st) (defScope st) .none kV doc pm an cdv ct) ⟨us,[]⟩=pure (ps.zip us)):FnTC K mg x st ps P :=
 ⟨f,_,PySem.W.mg_of X G a,fun_mk (st:=st) l c kp,(fun_mk (st:=st) l c kp).binds hb,tb⟩
theorem blt_mk {h:Heap} {bm:Addr} {ob:Obj} (X:K.In h) (G:h.Ns mainGlobals mg) (a:PySem.W.nsIn K mainGlobals "__builtins__"=some (some (.ref bm))) (l:K.lookup bm=some ob) (n1:bm ≠ builtinsNs) (n2:bm ≠ mainGlobals) (c:ob.cls=.type "module") (d:ob.dict=some builtinsNs) (e:ob.data=.plain):BltK K mg :=
 ⟨bm,ob,PySem.W.mg_of X G a,l,n1,n2,c,d,e⟩
end
end L2
namespace L2
open PySem PySem.Spec PyProof.Rows
theorem law_callT {P:Program} {w:World} {K:PySem.W.Frag} {mg mb:Str->Option Value} {CX:CXT} {k:Nat} {fa a:Addr} {fd:FuncData} {x:Str} {sp:Sp} {s₁:Shared} {vs:List Value} {ns:List Int} {Ts:List Addr}
  (KX:K.In s₁.heap) (hns:s₁.heap.Ns mainGlobals mg) (hb:s₁.heap.Ns builtinsNs mb) (hbb:∀ x:Str,x ≠ "__name__"->mb x=bootBuiltins x) (hlim:s₁.heap.NoLimit) (hg:s₁.gens=#[])
  (ha:s₁.heap.get? a=some { cls:=.type "list",data:=.seq vs.toArray }) (hi:IntsAre vs ns) (hl:ns.length <= sizeLine) (hr:Room k callerA)
  (hTs:∀ t ∈ Ts,s₁.heap.get? t=some (PySem.W.tabObj #[])) (hKT:∀ t ∈ Ts,K.lookup t=none) (hCT:∀ t ∈ Ts,isCodeTable s₁.heap t)
  (F:∀ base:Heap,K.In base->base.Ns mainGlobals mg->FnOk P w K mg base CX k fa fd [x] sp) (hbind:∀ (s:Shared) (u:Value),BindsTo s fd ⟨[u],[]⟩ [(x,u)])
  (hsp:∀ H:Hp,SqL K H a (ns.map V.int)->(∀ t ∈ Ts,H t=some (.tbl #[]))->sp [.ref a] H (fun v _=>v=.bl true) fun _ _ _=>False)
  (hCX:∀ H e s',CX [] H s₁ (fun _ _ _=>False) e s'->False) :
  codeAny (model P w) callerA (.call (.ref fa) ⟨[.ref a],[]⟩) (fun r s'=>r=.ok (.ret (.bool true))/\OldK s₁.heap s'.heap/\s'.os=s₁.os/\AllBare s'.gens) s₁:=by
 have rv:=vals_ints hi
 have lenV:=hi.length
 have haT:a ∉ Ts:=fun z=>by
  have:=hTs a z
  rw [ha] at this
  cases this
 have core:∀ H:Hp,(∀ b,H b=none\/(∃ o xs,b=a/\H b=some (.frz o (.lst xs)))\/(b ∈ Ts/\H b=some (.tbl #[])))->(∀ t ∈ Ts,H t=some (.tbl #[]))->SqL K H a (ns.map V.int)->HOk P w H s₁.heap->(H a ≠ none->K.lookup a=none) ->
   codeAny (model P w) callerA (.call (.ref fa) ⟨[.ref a],[]⟩) (fun r s'=>r=.ok (.ret (.bool true))/\OldK s₁.heap s'.heap/\s'.os=s₁.os/\AllBare s'.gens) s₁:=by
  intro H hO hHT hS hok hK
  have base_of:∀ {b:Addr} {o:Obj},s₁.heap.get? b=some o->H b=none->(hidT s₁.heap H).get? b=some o:=fun e n=>hidT_get e n
  have noA:∀ {b:Addr} {o:Obj} {es:Array DictEntry} {ep:Nat},s₁.heap.get? b=some o->o.data=.dict es ep->H b=none:=fun {b o es ep} e d=>by
   rcases hO b with z | ⟨_,_,z,_⟩ | ⟨z,_⟩
   ·exact z
   ·subst z
    rw [ha] at e; cases e
    have d':Data.seq vs.toArray _=Data.dict es ep:=d
    cases d'
   ·rw [hTs b z] at e; cases e
    have d':Data.fields #[]=Data.dict es ep:=d
    cases d'
  have nsK:∀ {b:Addr} {m:Str->Option Value},s₁.heap.Ns b m->(hidT s₁.heap H).Ns b m:=fun {b m} ⟨o,es,ep,e,d,r⟩=>⟨o,es,ep,base_of e (noA e d),d,r⟩
  have hKb:K.In (hidT s₁.heap H):=fun b o e=>base_of (KX b o e) (by
   rcases hO b with z | ⟨_,_,z,z2⟩ | ⟨z,_⟩
   ·exact z
   ·subst z
    rw [hK (by rw [z2]; simp)] at e; cases e
   ·rw [hKT b z] at e; cases e)
  have hM:Mod K mg (hidT s₁.heap H):=⟨hKb,nsK hns,⟨mb,nsK hb,hbb⟩,let ⟨mc,h1,h2⟩:=hlim; ⟨mc,nsK h1,h2⟩⟩
  have e0:Env0 P w K mg (hidT s₁.heap H) callerA [] s₁ H:=⟨rfl,hM,fun b o e=>of_hidT e,Nat.le_of_eq (hidT_size _ _),trivial,fun b hb=>absurd (show b ∈ ([]:List Addr) from hb) (by simp),hok,.of_eq hg⟩
  refine codeAny_mono ((F _ hKb (nsK hns)).run callerA [] s₁ H ⟨[.ref a],[]⟩ [.ref a] [.ref a] _ _ hr e0 (hbind s₁ (.ref a)) (.cons rfl .nil) (hsp H hS hHT)) fun r s' h=>?_
  cases r with
  | error e=>exact (hCX H e s' h).elim
  | ok fl =>
   cases fl with
   | next=>exact False.elim h
   | brk=>exact False.elim h
   | cont=>exact False.elim h
   | ret u =>
    obtain ⟨v,H',os,bare,un,hok',r',q⟩:=h
    have q':v=.bl true:=q
    subst q'
    obtain rfl:u=Value.bool true:=r'
    have was:∀ b o,s₁.heap.get? b=some o->asItWas s₁.heap s'.heap b o/\∃ o',s'.heap.get? b=some o':=fun b o e=>by
     rcases hO b with z | ⟨ob,xs,_,z⟩ | ⟨zT,z⟩
     ·have:=un.keep b o e z (by intro z; exact absurd (show b ∈ ([]:List Addr) from z) (by simp)) (by simp)
      exact ⟨.inl this,o,this⟩
     ·have z2:=un.frzs b ob _ z
      obtain ⟨e1,_⟩:=hok b _ z
      obtain ⟨e2,_⟩:=hok' b _ z2
      rw [e] at e1; cases e1
      exact ⟨.inl e2,_,e2⟩
     ·obtain ⟨more,z2⟩:=un.tbls b _ z
      have e2:=hok' b _ z2
      have e1:=hTs b zT
      rw [e] at e1
      cases e1
      exact ⟨.inr (.inl ⟨hCT b zT,rfl,#[],more,rfl,e2⟩),_,e2⟩
    exact ⟨rfl,⟨fun b o e=>(was b o e).1,fun b o e=>(was b o e).2⟩,os,bare⟩
 cases hk:K.lookup a with
 | some o =>
  have e:=KX a o hk
  rw [ha] at e
  cases e
  refine core (fun b=>if b ∈ Ts then some (.tbl #[]) else none) (fun b=>?_) (fun t ht=>if_pos ht) (.inr ⟨_,vs.toArray,_,hk,rfl,rfl,rfl,by rw [List.size_toArray,lenV]; exact hl,by simpa using rv⟩) (fun b u z=>?_) fun z=>absurd (if_neg haT) z
  ·by_cases hb:b ∈ Ts
   ·exact .inr (.inr ⟨hb,if_pos hb⟩)
   ·exact .inl (if_neg hb)
  ·by_cases hb:b ∈ Ts
   ·have z':=(if_pos hb).symm.trans z
    cases z'
    exact hTs b hb
   ·have z':=(if_neg hb).symm.trans z
    cases z'
 | none =>
  obtain ⟨H,eH⟩:∃ H:Hp,H=fun b=>if b ∈ Ts then some (.tbl #[]) else if b=a then some (.frz { cls:=.type "list",data:=.seq vs.toArray } (.lst (ns.map V.int))) else none:=⟨_,rfl⟩
  have hT:∀ b,b ∈ Ts->H b=some (.tbl #[]):=fun b h=>by rw [eH]; exact if_pos h
  have hA:H a=some (.frz { cls:=.type "list",data:=.seq vs.toArray } (.lst (ns.map V.int))):=by
   rw [eH]
   show (if a ∈ Ts then _ else if a=a then _ else _)=_
   rw [if_neg haT,if_pos rfl]
  have hN:∀ b,b ∉ Ts->b ≠ a->H b=none:=fun b h1 h2=>by
   rw [eH]
   show (if b ∈ Ts then _ else if b=a then _ else _)=_
   rw [if_neg h1,if_neg h2]
  refine core H (fun b=>?_) hT (.inl (.inr ⟨_,hA⟩)) (fun b u z=>?_) fun _=>hk
  ·by_cases h1:b ∈ Ts
   ·exact .inr (.inr ⟨h1,hT b h1⟩)
   ·by_cases h2:b=a
    ·exact .inr (.inl ⟨_,_,h2,by rw [h2]; exact hA⟩)
    ·exact .inl (hN b h1 h2)
  ·by_cases h1:b ∈ Ts
   ·rw [hT b h1] at z
    cases z
    exact hTs b h1
   ·by_cases h2:b=a
    ·rw [h2] at z ⊢
     rw [hA] at z
     cases z
     exact ⟨ha,by rw [List.length_map]; exact hl,vs,_,rv,ha⟩
    ·rw [hN b h1 h2] at z
     cases z
theorem walk_tabs {l:PySem.W.OpenLaw} {n k:Nat} {q:Program} {loose:List Str} {XP:(Str->Option Value)->Heap->Prop} {YP:World->Heap->Prop} {d:DefRec} {KR K:Params->PySem.W.Frag} {Ts:List Addr} {CX:World->CXT} {sp:World->Sp} {x:Str}
  (hn:l.most=some n) (hn2:n <= sizeLine) (hdf:d.params.defaults=[]) (hr:Room k callerA)
  (hY:∀ (w:World) (h:Heap),YP w h->(KR w.params).In h)
  (hsub:∀ (w:World) (h:Heap),(KR w.params).In h->(K w.params).In h/\(∀ t ∈ Ts,h.get? t=some (PySem.W.tabObj #[]))/\∀ t ∈ Ts,isCodeTable h t) (hKT:∀ (w:World),∀ t ∈ Ts,(K w.params).lookup t=none)
  (F:∀ (w:World) (mg:Str->Option Value) (fa:Addr) (h:Heap),(K w.params).In h->h.Ns mainGlobals mg->mg d.name=some (.ref fa) ->
   ∃ fd:FuncData,(∀ (s:Shared) (u:Value),BindsTo s fd ⟨[u],[]⟩ [(x,u)]) /\
    ∀ base:Heap,(K w.params).In base->base.Ns mainGlobals mg->FnOk l.prog w (K w.params) mg base (CX w) k fa fd [x] (sp w))
  (hsp:∀ (w:World) (H:Hp) (a:Addr) (ns:List Int),ns.length <= n->SqL (K w.params) H a (ns.map V.int)->(∀ t ∈ Ts,H t=some (.tbl #[]))->sp w [.ref a] H (fun v _=>v=.bl true) fun _ _ _=>False)
  (hCX:∀ (w:World) (H:Hp) (s:Shared) (e:Value) (s':Shared),CX w [] H s (fun _ _ _=>False) e s'->False) :
  PySem.W.WalkO q loose XP YP l.row.toRowW d [] (fun f vs=>PySem.call f vs):=by
 refine Att.attach_call hn hdf fun w s₀ s₁ mg mb fa o pm cd doc a vs ns G Y ho hd hcd hmg hobj hints hlen hg=>?_
 obtain ⟨KX,hTs,hCT⟩:=hsub w _ (hY w _ Y)
 obtain ⟨fd,hb,hF⟩:=F w mg fa _ KX G.T.g hmg
 exact law_callT KX G.T.g G.T.b G.T.builtins G.T.nolimit hg hobj hints (Nat.le_trans hlen hn2) hr hTs (hKT w) hCT hF hb (fun H hS hT=>hsp w H a ns hlen hS hT) fun H e s'=>hCX w H s₁ e s'
end L2
set_option maxHeartbeats 4000000
namespace Bw
open PySem L2
structure Cl where
 (Tree Point Doing Beside Across Answer Made Row WebError BadWeb BadTree NoPoint NotMade BadText:Addr)
structure Txt (K:PySem.W.Frag) (mg:Str->Option Value) (cs:Cl):Prop where
 gTree:mg "Tree"=some (.ref cs.Tree)
 gPoint:mg "Point"=some (.ref cs.Point)
 gDoing:mg "Doing"=some (.ref cs.Doing)
 gBeside:mg "Beside"=some (.ref cs.Beside)
 gAcross:mg "Across"=some (.ref cs.Across)
 gAnswer:mg "Answer"=some (.ref cs.Answer)
 gMade:mg "Made"=some (.ref cs.Made)
 gRow:mg "Row"=some (.ref cs.Row)
 gWebError:mg "WebError"=some (.ref cs.WebError)
 gBadWeb:mg "BadWeb"=some (.ref cs.BadWeb)
 gBadTree:mg "BadTree"=some (.ref cs.BadTree)
 gNoPoint:mg "NoPoint"=some (.ref cs.NoPoint)
 gNotMade:mg "NotMade"=some (.ref cs.NotMade)
 gBadText:mg "BadText"=some (.ref cs.BadText)
 cWebError:Catch K cs.WebError
 iWebError:BaseI K cs.WebError
 xNotMade:XCls K cs.NotMade
 eNotMadeWebError:PySem.W.mroIn K cs.NotMade (.ref cs.WebError)=some true
 kNotMadeV:PySem.W.kitOne K (.ref cs.NotMade) (.type "ValueError")=some true
 kNotMadeBadWeb:PySem.W.kitOne K (.ref cs.NotMade) (.ref cs.BadWeb)=some false
 kNotMadeBadTree:PySem.W.kitOne K (.ref cs.NotMade) (.ref cs.BadTree)=some false
 kNotMadeNoPoint:PySem.W.kitOne K (.ref cs.NotMade) (.ref cs.NoPoint)=some false
 kNotMadeNotMade:PySem.W.kitOne K (.ref cs.NotMade) (.ref cs.NotMade)=some true
 kNotMadeBadText:PySem.W.kitOne K (.ref cs.NotMade) (.ref cs.BadText)=some false
 eNotMade:ExcT K cs.NotMade "NotMade.__init__" sNotmadeInit ["self","four"]
 nNotMadeFour:NoAttr K cs.NotMade "four"
 valueError:mg "ValueError"=none
 blt:BltK K mg
 tPointsByShape:K.lookup 516=none
 tLawBoth:K.lookup 597=none
 isBelow:FnT K mg "is_below" sIsBelow ["value","bound"]
 tied:FnT K mg "tied" sTied ["web","one","other"]
 hasPoints:FnT K mg "has_points" sHasPoints ["web","points"]
 checkWeb:FnT K mg "check_web" sCheckWeb ["web"]
 checkTies:FnT K mg "check_ties" sCheckTies ["web","point"]
 checkPoints:FnT K mg "check_points" sCheckPoints ["web","points"]
 bracketed:FnT K mg "bracketed" sBracketed ["texts","sign"]
 checkTrees:FnT K mg "check_trees" sCheckTrees ["trees"]
 turned:FnT K mg "turned" sTurned ["web"]
 among:FnT K mg "among" sAmong ["web","points"]
 tiesAmong:FnT K mg "ties_among" sTiesAmong ["web","point","points"]
 parts:FnT K mg "parts" sParts ["web"]
 hangingWith:FnT K mg "hanging_with" sHangingWith ["web","start"]
 telling:FnT K mg "telling" sTelling ["web"]
 treeOf:FnT K mg "tree_of" sTreeOf ["web"]
 goesOn:FnT K mg "goes_on" sGoesOn ["web","row","point"]
 rowIn:FnT K mg "row_in" sRowIn ["web"]
 longerRows:FnT K mg "longer_rows" sLongerRows ["web","rows"]
 treeAmong:FnT K mg "tree_among" sTreeAmong ["web","points"]
 treesAmong:FnT K mg "trees_among" sTreesAmong ["web","points","groups"]
 shapeOf:FnT K mg "shape_of" sShapeOf ["web"]
 same:FnT K mg "same" sSame ["one","other"]
 pointsByShape:FnTC K mg "points_by_shape" sPointsByShape ["tree"] 516
 lawCellAt:FnT K mg "_law_cell_at" sLawCellAt ["_law_script","_law_k"]
 lawDraw:FnT K mg "_law_draw" sLawDraw ["_law_cell","_law_k","_law_many"]
 lawWeb:FnT K mg "_law_web" sLawWeb ["_law_script","_law_first","_law_most"]
 lawTie:FnT K mg "_law_tie" sLawTie ["_law_web_here","_law_one","_law_other"]
 lawFour:FnT K mg "_law_four" sLawFour ["_law_web_here","_law_four_here"]
 lawRefused:FnT K mg "_law_refused" sLawRefused ["_law_ask","_law_web_here"]
 lawBarred:FnT K mg "_law_barred" sLawBarred ["_law_web_here"]
 lawMapped:FnT K mg "_law_mapped" sLawMapped ["_law_one","_law_other","_law_found"]
 lawLists:FnT K mg "_law_lists" sLawLists ["_law_points"]
 lawRenumbered:FnT K mg "_law_renumbered" sLawRenumbered ["_law_web_here","_law_cell"]
 lawParted:FnT K mg "_law_parted" sLawParted ["_law_web_here","_law_points","_law_bit"]
 lawShape:FnT K mg "_law_shape" sLawShape ["_law_web_here","_law_points"]
 lawBoth:FnTC K mg "_law_both" sLawBoth ["_law_web_here","_law_other"] 597
 oPoint:Own K cs.Point
 nPointAt:NoAttr K cs.Point "at"
 mkPoint:MakeT K cs.Point "Point.__init__" sPointInit ["self","at"]
 mPointPoints:MethT K cs.Point "points" "Point.points" sPointPoints ["self"]
 mPointShape:MethT K cs.Point "shape" "Point.shape" sPointShape ["self"]
 oBeside:Own K cs.Beside
 nBesideTrees:NoAttr K cs.Beside "trees"
 nBesideLaid:NoAttr K cs.Beside "laid"
 mkBeside:MakeT K cs.Beside "Beside.__init__" sBesideInit ["self","trees"]
 mBesidePoints:MethT K cs.Beside "points" "Doing.points" sDoingPoints ["self"]
 mBesideShape:MethT K cs.Beside "shape" "Doing.shape" sDoingShape ["self"]
 mBesideLay:MethT K cs.Beside "lay" "Doing.lay" sDoingLay ["self","trees"]
 mBesideSign:MethT K cs.Beside "sign" "Beside.sign" sBesideSign ["self"]
 oAcross:Own K cs.Across
 nAcrossTrees:NoAttr K cs.Across "trees"
 nAcrossLaid:NoAttr K cs.Across "laid"
 mkAcross:MakeT K cs.Across "Across.__init__" sAcrossInit ["self","trees"]
 mAcrossPoints:MethT K cs.Across "points" "Doing.points" sDoingPoints ["self"]
 mAcrossShape:MethT K cs.Across "shape" "Doing.shape" sDoingShape ["self"]
 mAcrossLay:MethT K cs.Across "lay" "Doing.lay" sDoingLay ["self","trees"]
 mAcrossSign:MethT K cs.Across "sign" "Across.sign" sAcrossSign ["self"]
 oMade:Own K cs.Made
 nMadeTree:NoAttr K cs.Made "tree"
 mkMade:MakeT K cs.Made "Made.__init__" sMadeInit ["self","tree"]
 oRow:Own K cs.Row
 nRowFour:NoAttr K cs.Row "four"
 mkRow:MakeT K cs.Row "Row.__init__" sRowInit ["self","four"]
 kPointTree:PySem.W.kitOne K (.ref cs.Point) (.ref cs.Tree)=some true
 kPointPoint:PySem.W.kitOne K (.ref cs.Point) (.ref cs.Point)=some true
 kBesideTree:PySem.W.kitOne K (.ref cs.Beside) (.ref cs.Tree)=some true
 kBesidePoint:PySem.W.kitOne K (.ref cs.Beside) (.ref cs.Point)=some false
 kAcrossTree:PySem.W.kitOne K (.ref cs.Across) (.ref cs.Tree)=some true
 kAcrossPoint:PySem.W.kitOne K (.ref cs.Across) (.ref cs.Point)=some false
 kMadeRow:PySem.W.kitOne K (.ref cs.Made) (.ref cs.Row)=some false
 kRowRow:PySem.W.kitOne K (.ref cs.Row) (.ref cs.Row)=some true
 vMOST_POINTS:∃ t,mg "MOST_POINTS"=some (.int 10 t)
 all:mg "all"=none
 any:mg "any"=none
 bool:mg "bool"=none
 enum:mg "enumerate"=none
 int:mg "int"=none
 isinst:mg "isinstance"=none
 len:mg "len"=none
 list:mg "list"=none
 min:mg "min"=none
 range:mg "range"=none
 set:mg "set"=none
 sorted:mg "sorted"=none
 tuple:mg "tuple"=none
 zip:mg "zip"=none
end Bw
namespace Bw
open PySem L2
theorem same_upd {H H':Hp} {l:Addr} {o:HO} (s:Same H H') (h:H' l=none):Same H (upd H' l o):=fun b u e=>by
 have e':=s b u e
 rw [upd_ne (ne_of_none e' h)]
 exact e'
theorem yes {σ:St} {H:Hp} {Q:Bool->Hp->Prop} (h:Q true H):tYes σ H Q:=h
theorem gset {i:Nat} {v:V} {σ:St} {H:Hp} {Q:St->Hp->Prop} (h:Q (σ.set i (some v)) H):gName i v σ H Q:=h
theorem same_none {H H':Hp} {l:Addr} (s:Same H H') (h:H' l=none):H l=none:=s.free h
theorem range_snoc (f:Nat->Nat) (i:Nat):vv ((List.range i).map f) ++ [V.int ((f i:Nat):Int)]=vv ((List.range (i + 1)).map f):=by
 rw [vv_snoc,List.range_succ,List.map_append]
 rfl
theorem all_snoc (f:Nat->Bool) (pts:List Nat) {i:Nat} (hi:i < pts.length):((pts.take i).map f).map V.bl ++ [V.bl (f (pts.getD i 0))]=((pts.take (i + 1)).map f).map V.bl:=by
 rw [List.take_succ,List.map_append,List.map_append,List.getD_eq_getElem?_getD,List.getElem?_eq_getElem hi]
 rfl
theorem all_id (f:Nat->Bool) (pts:List Nat):(pts.map f).all id=pts.all f:=by
 rw [List.all_map]
 rfl
theorem map_take_snoc (f:Nat->Nat) (pts:List Nat) {i:Nat} (hi:i < pts.length):vv ((pts.take i).map f) ++ [V.int ((f (pts.getD i 0):Nat):Int)]=vv ((pts.take (i + 1)).map f):=by
 rw [vv_snoc,List.take_succ,List.map_append,List.getD_eq_getElem?_getD,List.getElem?_eq_getElem hi]
 rfl
theorem same_upd' {H H':Hp} {l:Addr} {o:HO} (s:Same H H') (h:H l=none):Same H (upd H' l o):=fun b u e=>by
 rw [upd_ne (ne_of_none e h)]
 exact s b u e
def lenD:Option HO->Nat
 | some (.dK kvs)=>kvs.length
 | _=>0
def lenL:Option HO->Nat
 | some (.lst xs)=>xs.length
 | _=>0
theorem iv_sorted {l:List Nat} (h:l.Pairwise (· < ·)):(iv l).Pairwise (· <= ·):=by
 unfold iv
 rw [List.pairwise_map]
 exact h.imp fun e=>by omega
theorem paired_imp {α β:Type} {F G:α->β->Prop} (f:∀ a b,F a b->G a b):∀ {l₁:List α} {l₂:List β},Paired F l₁ l₂->Paired G l₁ l₂
 | _,_,.nil=>.nil
 | _,_,.cons h t=>.cons (f _ _ h) (paired_imp f t)
theorem vv_app (a b:List Nat):vv a ++ vv b=vv (a ++ b):=by simp [vv,iv]
theorem ixN_nat {n i:Nat} (h:i < n):ixN n (i:Int)=some i:=by
 unfold ixN
 rw [if_pos (by omega),if_pos (by omega)]
 simp
theorem list_rng_vv (ws:List Nat):((List.range ((((vv ws).length:Nat):Int) - 0).toNat).map fun i:Nat=>V.int (0 + (i:Int)))=vv (List.range ws.length):=by
 have e1:((((vv ws).length:Nat):Int) - 0).toNat=ws.length:=by rw [vv_len]; omega
 rw [e1]
 unfold vv iv
 rw [List.map_map]
 apply List.map_congr_left
 intro i _
 show V.int (0 + (i:Int))=V.int (i:Int)
 rw [Int.zero_add]
end Bw
namespace Bw
open PySem L2
theorem kit_ll (K:PySem.W.Frag):PySem.W.kitOne K (.type "list") (.type "list")=some true:=by rfl
theorem kit_ii (K:PySem.W.Frag):PySem.W.kitOne K (.type "int") (.type "int")=some true:=by rfl
theorem kit_ib (K:PySem.W.Frag):PySem.W.kitOne K (.type "int") (.type "bool")=some false:=by rfl
section
variable {P:Program} {w:World} {K:PySem.W.Frag} {mg:Str->Option Value} {base:Heap} {cs:Cl}
def spTied (K:PySem.W.Frag):Sp:=fun vs H Q _=>∃ (a:Addr) (ws:List Nat) (i j:Nat),vs=[.ref a,.int i,.int j]/\SqL K H a (vv ws)/\i < ws.length/\Q (.bl (bit ws i j)) H
theorem scTied:FnScope ["web","one","other"] ["web","one","other"] (defScope sTied):=⟨rfl,rfl,rfl,by decide +kernel,rfl,by decide +kernel,by decide +kernel⟩
theorem ok_tied (T:Txt K mg cs):Cal P w K mg base 1 "tied" ["web","one","other"] (spTied K):=by
 refine T.tied.cal scTied (fun vs H Q E h=>?_) (fun f cdv A outer s H vs Q E hr h=>?_)
 ·obtain ⟨a,ws,i,j,rfl,_⟩:=h
  rfl
 ·obtain ⟨a,ws,i,j,rfl,hw,hi,k⟩:=h
  refine ⟨_,pss_one (ps_ret (pe_cmpR op_eq (pe_op op_and (pe_op op_shr (pe_ix ix_list (pv 0) (pv 1) (fun _ _=>rfl)) (pv 2)) pe_int) pe_int (nomark _))),?_⟩
  refine ⟨_,rfl,_,rfl,a,_,_,_,rfl,rfl,hw,atI_nat (vv_get hi),_,rfl,_,_,rfl,rfl,Int.natCast_nonneg j,_,_,rfl,rfl,rfl,?_⟩
  show Q (.bl (decide (V.int (Builtin.bitAnd (((ws.getD i 0:Nat):Int) / 2 ^ ((j:Int)).toNat) 1)=V.int 1))) H
  rw [shr_bit]
  exact k
def spBelow:Sp:=fun vs H Q _=>∃ (i j:Int),vs=[.int i,.int j]/\Q (.bl (decide (0 <= i) && decide (i < j))) H
theorem scBelow:FnScope ["value","bound"] ["value","bound"] (defScope sIsBelow):=⟨rfl,rfl,rfl,by decide +kernel,rfl,by decide +kernel,by decide +kernel⟩
theorem ok_below (T:Txt K mg cs):Cal P w K mg base 1 "is_below" ["value","bound"] spBelow:=by
 refine T.isBelow.cal scBelow (fun vs H Q E h=>?_) (fun f cdv A outer s H vs Q E hr h=>?_)
 ·obtain ⟨i,j,rfl,_⟩:=h
  rfl
 ·obtain ⟨i,j,rfl,k⟩:=h
  refine ⟨_,pss_one (ps_ret (pe_and (pe_callB call_isinst (by rfl) T.isinst PyProof.Rows.boot_isinstance (pa_cons (pv 0) (pa_cons (pe_bltn (v:=.ty "int") (by rfl) T.int PyProof.Rows.boot_int rfl) pa_nil)))
   (pe_and (pe_not (pe_callB call_isinst (by rfl) T.isinst PyProof.Rows.boot_isinstance (pa_cons (pv 0) (pa_cons (pe_bltn (v:=.ty "bool") (by rfl) T.bool PyProof.Rows.boot_bool rfl) pa_nil))))
    (pe_one (pe_chain op_le op_lt pe_int (pv 0) (pv 1)))))),?_⟩
  refine ⟨_,rfl,_,_,_,_,rfl,.int i,kit_ii K,true,rfl,iteT ?_⟩
  refine ⟨_,rfl,_,_,_,_,rfl,.int i,kit_ib K,false,rfl,true,rfl,iteT ?_⟩
  refine ⟨_,rfl,_,_,rfl,rfl,_,rfl,?_⟩
  refine ite2 (fun h0=>?_) (fun h0=>?_)
  ·refine ⟨_,rfl,_,_,rfl,rfl,?_⟩
   have e:(decide (0 <= i) && decide (i < j))=decide (i < j):=by rw [h0]; rfl
   rw [e] at k
   exact k
  ·have e:(decide (0 <= i) && decide (i < j))=false:=by
    have:decide (0 <= i)=false:=by simpa using h0
    rw [this]; rfl
   rw [e] at k
   exact k
end
end Bw
namespace Bw
open PySem L2
section
variable {P:Program} {w:World} {K:PySem.W.Frag} {mg:Str->Option Value} {base:Heap} {cs:Cl}
def spCheckTies (K:PySem.W.Frag):Sp:=fun vs H Q _=>∃ (a:Addr) (ws:List Nat) (p:Nat),vs=[.ref a,.int p]/\SqL K H a (vv ws)/\Web ws/\p < ws.length/\Q .non H
theorem scCheckTies:FnScope ["web","point","other"] ["web","point"] (defScope sCheckTies):=⟨rfl,rfl,rfl,by decide +kernel,rfl,by decide +kernel,by decide +kernel⟩
theorem ok_checkTies (T:Txt K mg cs):Cal P w K mg base 2 "check_ties" ["web","point"] (spCheckTies K):=by
 have CT:Cal P w K mg base 1 "tied" ["web","one","other"] (spTied K):=ok_tied T
 refine T.checkTies.cal scCheckTies (fun vs H Q E h=>?_) (fun f cdv A outer s H vs Q E hr h=>?_)
 ·obtain ⟨a,ws,p,rfl,_⟩:=h
  rfl
 ·obtain ⟨a,ws,p,rfl,hw,W,hp,k⟩:=h
  refine ⟨_,pss_cons (ps_if (pt_val (pe_cal CT hr (by rfl) (pa_cons (pv 0) (pa_cons (pv 1) (pa_cons (pv 1) pa_nil))))) pss_never pss_nil)
   (pss_one (ps_for PassesOwn.never rfl (pi_range1 rfl T.range (pa_cons (pv 1) pa_nil)) (pg_name (i:=2) scCheckTies.nd rfl (Or.inl rfl))
    (pss_one (ps_if (pt_cmpR op_ne (pe_cal CT hr (by rfl) (pa_cons (pv 0) (pa_cons (pv 1) (pa_cons (pv 2) pa_nil)))) (pe_cal CT hr (by rfl) (pa_cons (pv 0) (pa_cons (pv 2) (pa_cons (pv 1) pa_nil)))) (nomark _)) pss_never pss_nil)))),?_⟩
  refine ⟨_,rfl,_,rfl,_,rfl,a,ws,p,p,rfl,hw,hp,_,rfl,?_⟩
  rw [W.irr]
  refine iteF ?_
  refine ⟨_,rfl,p,rfl,by omega,by have:=W.le; omega,?_⟩
  rw [Int.toNat_natCast]
  refine for_range (n:=p) (fun i σ H'=>(∃ v,σ=[some (.ref a),some (.int p),v])/\H'=H) ⟨⟨_,rfl⟩,rfl⟩ ?_ ?_
  ·rintro i σ H' hi ⟨⟨v,rfl⟩,rfl⟩
   have hil:i < ws.length:=by omega
   have e0:(0:Int) + (i:Int)=((i:Nat):Int):=by omega
   rw [e0]
   refine ⟨_,rfl,_,rfl,_,rfl,a,ws,p,i,rfl,hw,hp,_,rfl,_,rfl,_,rfl,a,ws,i,p,rfl,hw,hil,rfl,_,rfl,?_⟩
   rw [W.sym i p]
   refine iteNS rfl ?_
   exact ⟨⟨_,rfl⟩,rfl⟩
  ·rintro σ H' ⟨⟨v,rfl⟩,rfl⟩
   exact k
def spCheckWeb:Sp:=fun vs H Q _=>∃ (a:Addr) (ws:List Nat),vs=[.ref a]/\H a=some (.lst (vv ws))/\Web ws/\Q .non H
theorem scCheckWeb:FnScope ["web","ties","point"] ["web"] (defScope sCheckWeb):=⟨rfl,rfl,rfl,by decide +kernel,rfl,by decide +kernel,by decide +kernel⟩
theorem ok_checkWeb (T:Txt K mg cs):Cal P w K mg base 3 "check_web" ["web"] spCheckWeb:=by
 have CB:Cal P w K mg base 2 "is_below" ["value","bound"] spBelow:=(ok_below T).mono (by decide)
 have CT:Cal P w K mg base 2 "check_ties" ["web","point"] (spCheckTies K):=ok_checkTies T
 obtain ⟨tm,hmost⟩:=T.vMOST_POINTS
 refine T.checkWeb.cal scCheckWeb (fun vs H Q E h=>?_) (fun f cdv A outer s H vs Q E hr h=>?_)
 ·obtain ⟨a,ws,rfl,_⟩:=h
  rfl
 ·obtain ⟨a,ws,rfl,ha,W,k⟩:=h
  have hw:SqL K H a (vv ws):=SqL.of ha
  refine ⟨_,pss_cons (ps_if (PW.pt (pw_or (pt_not (pt_val (pe_callB call_isinst (by rfl) T.isinst PyProof.Rows.boot_isinstance (pa_cons (pv 0) (pa_cons (pe_bltn (v:=.ty "list") (by rfl) T.list PyProof.Rows.boot_list rfl) pa_nil)))))
    (pw_or1 (pt_not (pt_chain op_le op_le pe_int (pe_callB call_len_seq (by rfl) T.len PySem.boot_len (pa_cons (pv 0) pa_nil)) (pe_glob (v:=.int 10) (by rfl) hmost ⟨tm,rfl⟩)))))) pss_never pss_nil)
   (pss_cons (ps_for PassesOwn.never rfl (pi_list (pv 0)) (pg_name (i:=1) scCheckWeb.nd rfl (Or.inl rfl))
    (pss_one (ps_if (pt_not (pt_val (pe_cal CB hr (by rfl) (pa_cons (pv 1) (pa_cons (pe_op op_shl pe_int (pe_callB call_len_seq (by rfl) T.len PySem.boot_len (pa_cons (pv 0) pa_nil))) pa_nil))))) pss_never pss_nil)))
   (pss_one (ps_for PassesOwn.never rfl (pi_range1 rfl T.range (pa_cons (pe_callB call_len_seq (by rfl) T.len PySem.boot_len (pa_cons (pv 0) pa_nil)) pa_nil)) (pg_name (i:=2) scCheckWeb.nd rfl (Or.inl rfl))
    (pss_one (ps_expr (pe_cal CT hr (by rfl) (pa_cons (pv 0) (pa_cons (pv 2) pa_nil)))))))),?_⟩
  have hlen:=W.le
  have hpos:=W.pos
  refine ⟨_,rfl,_,_,_,_,rfl,TyOf.lst ha,kit_ll K,true,rfl,iteF ?_⟩
  refine ⟨_,rfl,a,vv ws,rfl,.inl hw,_,_,rfl,rfl,_,rfl,?_⟩
  rw [vv_len]
  have e1:decide ((1:Int) <= (ws.length:Int))=true:=decide_eq_true (by omega)
  have e2:decide ((ws.length:Int) <= 10)=true:=decide_eq_true (by omega)
  rw [e1]
  refine iteT ⟨_,_,rfl,rfl,_,rfl,?_⟩
  rw [e2]
  refine iteF ?_
  refine ⟨_,rfl,a,rfl,⟨_,hw⟩,for_list (K:=K) (a:=a) (xs:=vv ws) (fun i σ H'=>(∃ v u,σ=[some (.ref a),v,u])/\H'=H) ⟨⟨_,_,rfl⟩,rfl⟩ (fun i σ H' _ ⟨_,e⟩=>by rw [e]; exact hw) ?_ ?_⟩
  ·rintro i x σ H' hx ⟨⟨v,u,rfl⟩,rfl⟩
   obtain ⟨hi,rfl⟩:=vv_at hx
   refine ⟨_,rfl,_,rfl,a,vv ws,rfl,.inl hw,_,_,rfl,rfl,⟨by rw [vv_len]; omega,by rw [vv_len]; omega,by decide⟩,_,_,rfl,_,rfl,?_⟩
   rw [vv_len,shl_one]
   have e1:decide ((0:Int) <= ((ws.getD i 0:Nat):Int))=true:=decide_eq_true (Int.natCast_nonneg _)
   have e2:decide (((ws.getD i 0:Nat):Int) < ((2 ^ ws.length:Nat):Int))=true:=decide_eq_true (by have:=W.lt i; omega)
   rw [e1,e2]
   refine iteF ?_
   exact ⟨⟨_,_,rfl⟩,rfl⟩
  ·rintro σ H' ⟨⟨v,u,rfl⟩,rfl⟩
   refine ⟨_,rfl,a,vv ws,rfl,.inl hw,_,rfl,by rw [vv_len]; omega,by rw [vv_len]; omega,?_⟩
   rw [vv_len,Int.toNat_natCast]
   refine for_range (n:=ws.length) (fun i σ H2=>(∃ v u,σ=[some (.ref a),v,u])/\H2=H') ⟨⟨_,_,rfl⟩,rfl⟩ ?_ ?_
   ·rintro i σ H2 hi ⟨⟨v,u,rfl⟩,rfl⟩
    have e0:(0:Int) + (i:Int)=((i:Nat):Int):=by omega
    rw [e0]
    refine ⟨_,rfl,_,rfl,a,ws,i,rfl,hw,W,hi,?_⟩
    exact ⟨⟨_,_,rfl⟩,rfl⟩
   ·rintro σ H2 ⟨⟨v,u,rfl⟩,rfl⟩
    exact k
end
end Bw
namespace Bw
open PySem L2
section
variable {P:Program} {w:World} {K:PySem.W.Frag} {mg:Str->Option Value} {base:Heap} {cs:Cl}
def spTurned:Sp:=fun vs H Q _=>∃ (a:Addr) (ws:List Nat),vs=[.ref a]/\H a=some (.lst (vv ws))/\Web ws/\∀ (l:Addr) (H':Hp),H l=none->Same H H'->H' l=some (.lst (vv (turnedM ws)))->Q (.ref l) H'
theorem scTurned:FnScope ["web","every"] ["web"] (defScope sTurned):=⟨rfl,rfl,rfl,by decide +kernel,rfl,by decide +kernel,by decide +kernel⟩
def cTurned:Scope:={ kind:=.function,names:=[(Str.ofString ".0",.local),(Str.ofString "point",.local),(Str.ofString "ties",.local),(Str.ofString "every",.free)],isGenerator:=false,isCoroutine:=false,more:=[] }
theorem csTurned:CScope ["web","every"] (defScope sTurned) cTurned ["every","point","ties"] [1]:=⟨rfl,by decide +kernel,by decide +kernel,by decide +kernel,by decide,by decide +kernel,by decide +kernel⟩
theorem turned_val (n v i:Nat):Builtin.bitXor (Builtin.bitXor ((1:Int) * 2 ^ ((n:Int)).toNat - 1) ((v:Nat):Int)) ((1:Int) * 2 ^ ((i:Int)).toNat)=(((2 ^ n - 1) ^^^ v ^^^ 2 ^ i:Nat):Int):=by
 have e:(1:Int) * 2 ^ ((n:Int)).toNat - 1=((2 ^ n - 1:Nat):Int):=by
  rw [shl_one]
  have:0 < 2 ^ n:=Nat.pow_pos (by decide)
  omega
 rw [e,bitXor_nat,shl_one,bitXor_nat]
theorem ok_turned (T:Txt K mg cs):Cal P w K mg base 4 "turned" ["web"] spTurned:=by
 have CW:Cal P w K mg base 3 "check_web" ["web"] spCheckWeb:=ok_checkWeb T
 refine T.turned.cal scTurned (fun vs H Q E h=>?_) (fun f cdv A outer s H vs Q E hr h=>?_)
 ·obtain ⟨a,ws,rfl,_⟩:=h
  rfl
 ·obtain ⟨a,ws,rfl,ha,W,k⟩:=h
  have hw:SqL K H a (vv ws):=SqL.of ha
  have hle:=W.le
  refine ⟨_,pss_cons (ps_expr (pe_cal CW hr (by rfl) (pa_cons (pv 0) pa_nil)))
   (pss_cons (ps_set (i:=1) scTurned.nd rfl (Or.inr rfl) (pe_op op_sub (pe_op op_shl pe_int (pe_callB call_len_seq (by rfl) T.len PySem.boot_len (pa_cons (pv 0) pa_nil))) pe_int))
   (pss_one (ps_ret (pe_comp (sc:=cTurned) (g:=gTup K 2 (gCons (gName 1) (gCons (gName 2) gNil))) rfl (pi_enum rfl T.enum (pa_cons (pv 0) pa_nil)) csTurned
    (fun _ _ _ _=>pg_tup rfl (pgs_cons (pg_name (i:=1) csTurned.nd rfl (Or.inl rfl) (Or.inr rfl)) (pgs_cons (pg_name (i:=2) csTurned.nd rfl (Or.inl rfl) (Or.inr rfl)) pgs_nil)))
    (fun _ _ _ _=>pif_nil)
    (fun _ _ _ _=>pe_op op_xor (pe_op op_xor (pv 0) (pv 2)) (pe_op op_shl pe_int (pv 1))))))),?_⟩
  refine ⟨_,rfl,a,ws,rfl,ha,W,?_⟩
  refine ⟨_,rfl,a,vv ws,rfl,.inl hw,_,_,rfl,rfl,⟨by rw [vv_len]; omega,by rw [vv_len]; omega,by decide⟩,_,_,rfl,rfl,?_⟩
  refine ⟨_,rfl,a,rfl,⟨_,hw⟩,comp_enum (K:=K) (a:=a) (xs:=vv ws) (fun i ys H'=>ys=vv ((List.range i).map fun i=>(2 ^ ws.length - 1) ^^^ ws.getD i 0 ^^^ 2 ^ i)/\Same H H') ⟨rfl,Same.refl H⟩ (by rw [vv_len,sizeLine_eq]; omega) (fun i ys H' _ h=>h.2.seq hw) ?_ ?_⟩
  ·rintro i x ys H' t hx hlt ⟨rfl,sm⟩ hyl hys ht
   obtain ⟨hi,rfl⟩:=vv_at hx
   refine ⟨t,_,rfl,SqT.of upd_same,rfl,_,_,rfl,_,_,rfl,rfl,?_⟩
   refine yes ?_
   refine iteT ?_
   refine ⟨_,rfl,_,rfl,_,_,rfl,rfl,_,rfl,_,_,rfl,rfl,⟨by omega,by omega,by decide⟩,_,_,rfl,rfl,hys,Pn.snoc hlt hyl ⟨?_,same_upd sm ht⟩⟩
   rw [<- range_snoc,vv_len]
   dsimp only
   rw [turned_val]
  ·rintro ys H' ⟨rfl,sm⟩ hyl l hl
   refine k l _ (same_none sm hl) (same_upd sm hl) ?_
   rw [upd_same,vv_len]
   rfl
def spTiesAmong (K:PySem.W.Frag):Sp:=fun vs H Q _=>∃ (a b:Addr) (ws pts:List Nat) (p:Nat),vs=[.ref a,.int p,.ref b]/\SqL K H a (vv ws)/\SqL K H b (vv pts)/\p < ws.length/\pts.length <= 1000 /\
 ∀ H',Same H H'->Q (.int ((sumB (fun k=>bit ws p (pts.getD k 0)) pts.length:Nat):Int)) H'
theorem scTiesAmong:FnScope ["web","point","points","ties","place","other"] ["web","point","points"] (defScope sTiesAmong):=⟨rfl,rfl,rfl,by decide +kernel,rfl,by decide +kernel,by decide +kernel⟩
theorem ok_tiesAmong (T:Txt K mg cs):Cal P w K mg base 2 "ties_among" ["web","point","points"] (spTiesAmong K):=by
 have CT:Cal P w K mg base 1 "tied" ["web","one","other"] (spTied K):=ok_tied T
 refine T.tiesAmong.cal scTiesAmong (fun vs H Q E h=>?_) (fun f cdv A outer s H vs Q E hr h=>?_)
 ·obtain ⟨a,b,ws,pts,p,rfl,_⟩:=h
  rfl
 ·obtain ⟨a,b,ws,pts,p,rfl,hw,hb,hp,hl,k⟩:=h
  refine ⟨_,pss_cons (ps_set (i:=3) scTiesAmong.nd rfl (Or.inl rfl) pe_int)
   (pss_cons (ps_for PassesOwn.never rfl (pi_enum rfl T.enum (pa_cons (pv 2) pa_nil)) (pg_tup rfl (pgs_cons (pg_name (i:=4) scTiesAmong.nd rfl (Or.inl rfl)) (pgs_cons (pg_name (i:=5) scTiesAmong.nd rfl (Or.inl rfl)) pgs_nil)))
    (pss_one (ps_if (pt_val (pe_cal CT hr (by rfl) (pa_cons (pv 0) (pa_cons (pv 1) (pa_cons (pv 5) pa_nil)))))
     (pss_one (ps_set (i:=3) scTiesAmong.nd rfl (Or.inl rfl) (pe_op op_or (pv 3) (pe_op op_shl pe_int (pv 4))))) pss_nil)))
   (pss_one (ps_ret (pv 3)))),?_⟩
  refine ⟨_,rfl,b,rfl,⟨_,hb⟩,for_enum (K:=K) (a:=b) (xs:=vv pts) (fun i σ H'=>(∃ v u,σ=[some (.ref a),some (.int p),some (.ref b),some (.int ((sumB (fun k=>bit ws p (pts.getD k 0)) i:Nat):Int)),v,u])/\Same H H') ⟨⟨_,_,rfl⟩,Same.refl H⟩ (fun i σ H' _ h=>h.2.seq hb) ?_ ?_⟩
  ·rintro i x σ H' t hx ⟨⟨v,u,rfl⟩,sm⟩ ht
   obtain ⟨hi,rfl⟩:=vv_at hx
   refine ⟨t,_,rfl,SqT.of upd_same,rfl,_,_,rfl,_,_,rfl,rfl,?_⟩
   refine ⟨_,rfl,_,rfl,_,rfl,a,ws,p,pts.getD i 0,rfl,(same_upd sm ht).seq hw,hp,_,rfl,?_⟩
   refine ite2 (fun hb1=>?_) (fun hb1=>?_)
   ·refine ⟨_,rfl,_,rfl,_,_,rfl,rfl,⟨by omega,by omega,by decide⟩,_,_,rfl,rfl,⟨some (.int (i:Int)),some (.int ((pts.getD i 0:Nat):Int)),?_⟩,same_upd sm ht⟩
    show [some (V.ref a),some (V.int (p:Int)),some (V.ref b),some (V.int (Builtin.bitOr ((sumB (fun k=>bit ws p (pts.getD k 0)) i:Nat):Int) (1 * 2 ^ ((i:Int)).toNat))),some (V.int (i:Int)),some (V.int ((pts.getD i 0:Nat):Int))]=_
    rw [shl_one,bitOr_nat,sumB_step,if_pos hb1]
   ·refine ⟨⟨some (.int (i:Int)),some (.int ((pts.getD i 0:Nat):Int)),?_⟩,same_upd sm ht⟩
    rw [sumB_step,if_neg hb1]
    rfl
  ·rintro σ H' ⟨⟨v,u,rfl⟩,sm⟩
   refine ⟨_,rfl,?_⟩
   have:=k H' sm
   rw [vv_len]
   exact this
def spHasPoints (K:PySem.W.Frag):Sp:=fun vs H Q _=>∃ (a b:Addr) (ws pts:List Nat),vs=[.ref a,.ref b]/\SqL K H a (vv ws)/\SqL K H b (vv pts)/\pts.length <= 1000/\∀ H',Same H H'->Q (.bl (pts.all fun p=>decide (p < ws.length))) H'
theorem scHasPoints:FnScope ["web","points"] ["web","points"] (defScope sHasPoints):=⟨rfl,rfl,rfl,by decide +kernel,rfl,by decide +kernel,by decide +kernel⟩
def cHasPoints1:Scope:={ kind:=.function,names:=[(Str.ofString ".0",.local),(Str.ofString "point",.local),(Str.ofString "is_below",.globalImplicit),(Str.ofString "len",.globalImplicit),(Str.ofString "web",.free)],isGenerator:=false,isCoroutine:=false,more:=[] }
theorem cHasPoints1s:CScope ["web","points"] (defScope sHasPoints) cHasPoints1 ["web","point"] [0]:=⟨rfl,by decide +kernel,by decide +kernel,by decide +kernel,by decide,by decide +kernel,by decide +kernel⟩
theorem ok_hasPoints (T:Txt K mg cs):Cal P w K mg base 2 "has_points" ["web","points"] (spHasPoints K):=by
 have CIsBelow:Cal P w K mg base 1 "is_below" ["value","bound"] spBelow:=(ok_below T).mono (by decide)
 refine T.hasPoints.cal scHasPoints (fun vs H Q E h=>?_) (fun f cdv A outer s H vs Q E hr h=>?_)
 ·obtain ⟨a,b,ws,pts,rfl,_⟩:=h
  rfl
 ·obtain ⟨a,b,ws,pts,rfl,hw,hp,hl,k⟩:=h
  have hu:=hu_of hr
  have hu64:=hr.units
  refine ⟨_,(pss_one (ps_ret (pe_callB (call_allK K rfl) (by rfl) T.all PyProof.Rows.boot_all (pa_cons (pe_comp (sc:=cHasPoints1) rfl (pi_listK K (pv 1)) cHasPoints1s (fun _ _ _ _=>(pg_name (i:=1) cHasPoints1s.nd rfl (Or.inl rfl))) (fun _ _ _ _=>pif_nil) (fun _ _ _ _=>(pe_cal CIsBelow hr (by rfl) (pa_cons (pv 1) (pa_cons (pe_callB (call_lenK K) (by rfl) T.len PySem.boot_len (pa_cons (pv 0) pa_nil)) pa_nil))))) pa_nil)))),?_⟩
  refine ⟨_,rfl,b,rfl,⟨_,hp⟩,comp_list (K:=K) (a:=b) (xs:=vv pts) (fun i ys H'=>ys=((pts.take i).map fun p=>decide (p < ws.length)).map V.bl/\H'=H) ⟨rfl,rfl⟩ (by rw [vv_len,sizeLine_eq]; omega) (fun i ys H' _ h=>by rw [h.2]; exact hp) ?_ ?_⟩
  ·rintro i x ys H' hx hlt' ⟨rfl,rfl⟩ hyl hys
   obtain ⟨hi,rfl⟩:=vv_at hx
   refine gset ?_
   refine yes ?_
   refine iteT ?_
   refine ⟨_,rfl,_,rfl,a,vv ws,rfl,.inl hw,_,_,rfl,hys,Pn.snoc hlt' hyl ⟨?_,rfl⟩⟩
   rw [<- all_snoc _ _ hi]
   have e1:decide ((0:Int) <= ((pts.getD i 0:Nat):Int))=true:=decide_eq_true (Int.natCast_nonneg _)
   have e2:decide (((pts.getD i 0:Nat):Int) < ((vv ws).length:Int))=decide (pts.getD i 0 < ws.length):=by
    rw [vv_len,decide_eq_decide]
    omega
   rw [e1,e2]
   rfl
  ·rintro ys H' ⟨rfl,rfl⟩ hyl l hl
   refine ⟨l,_,rfl,SqL.of upd_same,?_⟩
   rw [vv_len,List.take_length,all_id]
   exact k _ (same_upd (Same.refl _) hl)
def spCheckPoints (K:PySem.W.Frag):Sp:=fun vs H Q _=>∃ (a b:Addr) (ws pts:List Nat),vs=[.ref a,.ref b]/\SqL K H a (vv ws)/\H b=some (.lst (vv pts))/\pts ≠ []/\pts.Nodup/\(∀ p ∈ pts,p < ws.length)/\ws.length <= 10 /\
 ∀ H',Same H H'->Q .non H'
theorem scCheckPoints:FnScope ["web","points"] ["web","points"] (defScope sCheckPoints):=⟨rfl,rfl,rfl,by decide +kernel,rfl,by decide +kernel,by decide +kernel⟩
theorem ok_checkPoints (T:Txt K mg cs):Cal P w K mg base 3 "check_points" ["web","points"] (spCheckPoints K):=by
 have CHasPoints:Cal P w K mg base 2 "has_points" ["web","points"] (spHasPoints K):=(ok_hasPoints T).mono (by decide)
 refine T.checkPoints.cal scCheckPoints (fun vs H Q E h=>?_) (fun f cdv A outer s H vs Q E hr h=>?_)
 ·obtain ⟨a,b,ws,pts,rfl,_⟩:=h
  rfl
 ·obtain ⟨a,b,ws,pts,rfl,hw,hb,hne,hnd,hlt,hle,k⟩:=h
  have hu:=hu_of hr
  have hu64:=hr.units
  refine ⟨_,(pss_cons (ps_if (PW.pt (pw_or (pt_not (pt_val (pe_callB (call_isinstK K) (by rfl) T.isinst PyProof.Rows.boot_isinstance (pa_cons (pv 1) (pa_cons (pe_bltn (v:=.ty "list") (by rfl) T.list PyProof.Rows.boot_list rfl) pa_nil))))) (pw_or1 (pt_cmpR op_eq (pe_callB (call_lenK K) (by rfl) T.len PySem.boot_len (pa_cons (pv 1) pa_nil)) pe_int (nomark _)))))
   pss_never
   pss_nil)
   (pss_cons (ps_if (pt_not (pt_val (pe_cal CHasPoints hr (by rfl) (pa_cons (pv 0) (pa_cons (pv 1) pa_nil)))))
   pss_never
   pss_nil)
   (pss_one (ps_if (pt_cmpR op_ne (pe_callB call_lenSet (by rfl) T.len PySem.boot_len (pa_cons (pe_callTy (call_setL rfl) (by rfl) T.set PyProof.Rows.boot_set (pa_cons (pv 1) pa_nil)) pa_nil)) (pe_callB (call_lenK K) (by rfl) T.len PySem.boot_len (pa_cons (pv 1) pa_nil)) (nomark _))
   pss_never
   pss_nil)))),?_⟩
  have hp:SqL K H b (vv pts):=SqL.of hb
  have hpl:pts.length <= 10:=Nat.le_trans (nodup_length hnd hlt) hle
  have hp0:0 < pts.length:=List.length_pos_iff.mpr hne
  refine ⟨_,rfl,_,_,_,_,rfl,TyOf.lst hb,kit_ll K,true,rfl,iteF ?_⟩
  refine ⟨_,rfl,b,vv pts,rfl,.inl hp,rfl,_,rfl,?_⟩
  have e0:decide (V.int ((vv pts).length:Int)=V.int 0)=false:=decide_eq_false (by rw [vv_len]; intro z; have z':=V.int.inj z; omega)
  rw [e0]
  refine iteF ?_
  refine ⟨_,rfl,_,rfl,a,b,ws,pts,rfl,hw,hp,by omega,fun H' sm=>⟨_,rfl,?_⟩⟩
  have e1:(pts.all fun p=>decide (p < ws.length))=true:=List.all_eq_true.mpr fun p hp=>decide_eq_true (hlt p hp)
  rw [e1]
  refine iteF ?_
  refine ⟨_,rfl,b,iv pts,rfl,sm.seq hp,by rw [iv_len]; unfold scanBound; omega,fun l hl=>?_⟩
  refine ⟨l,_,_,rfl,upd_same,_,rfl,b,vv pts,rfl,.inl ((same_upd sm hl).seq hp),rfl,_,rfl,?_⟩
  have nd':(iv pts).Nodup:=by
   unfold iv
   rw [List.nodup_iff_pairwise_ne,List.pairwise_map]
   exact List.Pairwise.imp (fun h z=>h (by omega)) hnd
  rw [firstMet_nodup _ nd',iv_len,vv_len]
  refine iteNS rfl ?_
  exact k _ (same_upd sm hl)
def spAmong:Sp:=fun vs H Q _=>∃ (a b:Addr) (ws pts:List Nat),vs=[.ref a,.ref b]/\H a=some (.lst (vv ws))/\Web ws/\H b=some (.lst (vv pts))/\pts ≠ []/\pts.Nodup/\(∀ p ∈ pts,p < ws.length) /\
 ∀ (l:Addr) (H':Hp),H l=none->Same H H'->H' l=some (.lst (vv (amongM ws pts)))->Q (.ref l) H'
theorem scAmong:FnScope ["web","points"] ["web","points"] (defScope sAmong):=⟨rfl,rfl,rfl,by decide +kernel,rfl,by decide +kernel,by decide +kernel⟩
def cAmong:Scope:={ kind:=.function,names:=[(Str.ofString ".0",.local),(Str.ofString "point",.local),(Str.ofString "ties_among",.globalImplicit),(Str.ofString "points",.free),(Str.ofString "web",.free)],isGenerator:=false,isCoroutine:=false,more:=[] }
theorem csAmong:CScope ["web","points"] (defScope sAmong) cAmong ["web","points","point"] [0,1]:=⟨rfl,by decide +kernel,by decide +kernel,by decide +kernel,by decide,by decide +kernel,by decide +kernel⟩
theorem ok_among (T:Txt K mg cs):Cal P w K mg base 4 "among" ["web","points"] spAmong:=by
 have CW:Cal P w K mg base 3 "check_web" ["web"] spCheckWeb:=ok_checkWeb T
 have CP:Cal P w K mg base 3 "check_points" ["web","points"] (spCheckPoints K):=ok_checkPoints T
 have CA:Cal P w K mg base 3 "ties_among" ["web","point","points"] (spTiesAmong K):=(ok_tiesAmong T).mono (by decide)
 refine T.among.cal scAmong (fun vs H Q E h=>?_) (fun f cdv A outer s H vs Q E hr h=>?_)
 ·obtain ⟨a,b,ws,pts,rfl,_⟩:=h
  rfl
 ·obtain ⟨a,b,ws,pts,rfl,ha,W,hb,hne,hnd,hlt,k⟩:=h
  have hw:SqL K H a (vv ws):=SqL.of ha
  have hp:SqL K H b (vv pts):=SqL.of hb
  have hle:=W.le
  have hpl:pts.length <= 10:=Nat.le_trans (nodup_length hnd hlt) hle
  refine ⟨_,pss_cons (ps_expr (pe_cal CW hr (by rfl) (pa_cons (pv 0) pa_nil)))
   (pss_cons (ps_expr (pe_cal CP hr (by rfl) (pa_cons (pv 0) (pa_cons (pv 1) pa_nil))))
   (pss_one (ps_ret (pe_comp (sc:=cAmong) rfl (pi_list (pv 1)) csAmong
    (fun _ _ _ _=>pg_name (i:=2) csAmong.nd rfl (Or.inl rfl)) (fun _ _ _ _=>pif_nil)
    (fun _ _ _ _=>pe_cal CA hr (by rfl) (pa_cons (pv 0) (pa_cons (pv 2) (pa_cons (pv 1) pa_nil)))))))),?_⟩
  refine ⟨_,rfl,a,ws,rfl,ha,W,?_⟩
  refine ⟨_,rfl,_,rfl,a,b,ws,pts,rfl,hw,hb,hne,hnd,hlt,hle,fun H1 s1=>?_⟩
  refine ⟨_,rfl,b,rfl,⟨_,s1.seq hp⟩,comp_list (K:=K) (a:=b) (xs:=vv pts) (fun i ys H'=>ys=vv ((pts.take i).map fun p=>sumB (fun k=>bit ws p (pts.getD k 0)) pts.length)/\Same H H') ⟨rfl,s1⟩ (by rw [vv_len,sizeLine_eq]; omega) (fun i ys H' _ h=>h.2.seq hp) ?_ ?_⟩
  ·rintro i x ys H' hx hlt' ⟨rfl,sm⟩ hyl hys
   obtain ⟨hi,rfl⟩:=vv_at hx
   have hm:pts.getD i 0 ∈ pts:=by
    rw [List.getD_eq_getElem?_getD,List.getElem?_eq_getElem hi]
    exact List.getElem_mem hi
   refine gset ?_
   refine yes ?_
   refine iteT ?_
   refine ⟨_,rfl,_,rfl,_,rfl,a,b,ws,pts,pts.getD i 0,rfl,sm.seq hw,sm.seq hp,hlt _ hm,by omega,fun H2 s2=>⟨hys,Pn.snoc hlt' hyl ⟨?_,sm.trans s2⟩⟩⟩
   rw [<- map_take_snoc _ _ hi]
  ·rintro ys H' ⟨rfl,sm⟩ hyl l hl
   refine k l _ (same_none sm hl) (same_upd sm hl) ?_
   rw [upd_same,vv_len,List.take_length]
   rfl
end
end Bw
namespace Bw
open PySem L2
section
variable {P:Program} {w:World} {K:PySem.W.Frag} {mg:Str->Option Value} {base:Heap} {cs:Cl}
def dk (rs:List Nat):List (Key × V):=rs.map fun p:Nat=>((Sum.inl (p:Int):Key),V.bl true)
theorem dk_len (rs:List Nat):(dk rs).length=rs.length:=by simp [dk]
theorem dk_keys (rs:List Nat):(dk rs).map (·.1)=(iv rs).map Sum.inl:=by simp [dk,iv]
theorem dk_val (rs:List Nat) (j:Nat):(valV (dk rs) (Sum.inl (j:Int):Key)).isSome=decide (j ∈ rs):=by
 rw [<- valV_any]
 induction rs with
 | nil=>simp [dk]
 | cons r t ih =>
  have ih':((dk t).any fun kv=>decide (kv.1=(Sum.inl (j:Int):Key)))=decide (j ∈ t):=ih
  show ((((Sum.inl (r:Int):Key),V.bl true)::dk t).any fun kv=>decide (kv.1=(Sum.inl (j:Int):Key)))=decide (j ∈ r::t)
  rw [List.any_cons,ih']
  by_cases h:r=j
  ·subst h; simp
  ·have h1:¬ ((Sum.inl (r:Int):Key)=Sum.inl (j:Int)):=fun z=>h (by have:=Sum.inl.inj z; omega)
   have h2:¬ j=r:=fun z=>h z.symm
   simp [h1,h2]
theorem dk_put {rs:List Nat} {j:Nat} (h:j ∉ rs):putK (dk rs) (Sum.inl (j:Int):Key) (V.bl true)=dk (rs ++ [j]):=by
 have hv:valV (dk rs) (Sum.inl (j:Int):Key)=none:=by
  have:=dk_val rs j
  rw [decide_eq_false h] at this
  exact Option.not_isSome_iff_eq_none.mp (by rw [this]; decide)
 rw [putK_new _ hv]
 simp [dk]
def spHang (K:PySem.W.Frag):Sp:=fun vs H Q _=>∃ (a:Addr) (ws:List Nat) (st:Nat),vs=[.ref a,.int st]/\SqL K H a (vv ws)/\Web ws/\st < ws.length/\∀ (l:Addr) (H':Hp),H l=none->Same H H'->H' l=some (.lst (vv (comp ws st)))->Q (.ref l) H'
theorem scHang:FnScope ["web","start","reached","waiting","point","other"] ["web","start"] (defScope sHangingWith):=⟨rfl,rfl,rfl,by decide +kernel,rfl,by decide +kernel,by decide +kernel⟩
theorem ok_hang (T:Txt K mg cs):Cal P w K mg base 2 "hanging_with" ["web","start"] (spHang K):=by
 have CT:Cal P w K mg base 1 "tied" ["web","one","other"] (spTied K):=ok_tied T
 refine T.hangingWith.cal scHang (fun vs H Q E h=>?_) (fun f cdv A outer s H vs Q E hr h=>?_)
 ·obtain ⟨a,ws,st,rfl,_⟩:=h
  rfl
 ·obtain ⟨a,ws,st,rfl,hw,W,hst,k⟩:=h
  have hu:=hu_of hr
  have hle:=W.le
  refine ⟨_,pss_cons (ps_set (i:=2) scHang.nd rfl (Or.inl rfl) (pe_disp (pps_cons (pv 1) pe_bl pps_nil) rfl rfl (fun z=>nomatch z) (by decide)))
   (pss_cons (ps_set (i:=3) scHang.nd rfl (Or.inl rfl) (pe_lst (pa_cons (pv 1) pa_nil)))
   (pss_cons (ps_while PassesOwn.never (pt_cmpR op_gt (pe_callB call_len_seq (by rfl) T.len PySem.boot_len (pa_cons (pv 3) pa_nil)) pe_int (nomark _))
    (pss_cons (ps_set (i:=4) scHang.nd rfl (Or.inl rfl) (pe_bm0 PySem.F.plainAttrs_list PySem.F.slot_list_pop PySem.F.type_list_pop mt_pop (pv 3)))
    (pss_one (ps_for PassesOwn.never rfl (pi_range1 rfl T.range (pa_cons (pe_callB call_len_seq (by rfl) T.len PySem.boot_len (pa_cons (pv 0) pa_nil)) pa_nil)) (pg_name (i:=5) scHang.nd rfl (Or.inl rfl))
     (pss_one (ps_if (PW.pt (pw_and (pt_val (pe_cal CT hr (by rfl) (pa_cons (pv 0) (pa_cons (pv 4) (pa_cons (pv 5) pa_nil))))) (pw_and1 (pt_cmp (pc_dnotin hu (pv 5) (pv 2))))))
      (pss_cons (ps_dput hu (pv 2) (pv 5) pe_bl rfl)
      (pss_one (ps_expr (pe_bm PySem.F.plainAttrs_list PySem.F.slot_list_append PySem.F.type_list_append mt_append (pv 3) (pa_cons (pv 5) pa_nil))))) pss_nil))))))
   (pss_one (ps_ret (pe_callB (call_sortedD rfl) (by rfl) T.sorted PyProof.Rows.boot_sorted (pa_cons (pv 2) pa_nil)))))),?_⟩
  intro d hd
  refine ⟨_,rfl,upd_same,[((Sum.inl (st:Int):Key),V.bl true)],rfl,by show 1 <= 15; decide,?_⟩
  refine ⟨_,rfl,by rw [sizeLine_eq]; show 1 <= _; decide,fun q hq=>?_⟩
  have hdq:d ≠ q:=by
   intro z
   subst z
   rw [upd_same] at hq
   cases hq
  have hHq:H q=none:=by
   rw [upd_ne (Ne.symm hdq),upd_ne (Ne.symm hdq)] at hq
   exact hq
  refine while_of (fun σ H'=>∃ rs wt v u,σ=[some (.ref a),some (.int st),some (.ref d),some (.ref q),v,u]/\Hang ws st rs wt/\H' d=some (.dK (dk rs))/\H' q=some (.lst (vv wt))/\Same H H'/\wt.length <= rs.length)
   (fun _ H'=>2 * (ws.length - lenD (H' d)) + lenL (H' q)) ?_ ?_
  ·refine ⟨[st],[st],none,none,rfl,hang_start ws st,?_,?_,?_,Nat.le_refl _⟩
   ·rw [upd_ne hdq,upd_same]
    rfl
   ·rw [upd_same]
    rfl
   ·exact same_upd' (same_upd' (same_upd' (Same.refl H) hd) hd) hHq
  ·rintro σ H1 ⟨rs,wt,v,u,rfl,hg,h1d,h1q,s1,hwr⟩
   refine ⟨_,rfl,q,vv wt,rfl,.inl (SqL.of h1q),_,_,rfl,rfl,_,rfl,?_⟩
   refine ite2 (fun hpos=>?_) (fun hpos=>?_)
   ·have hwl:0 < wt.length:=by
     have:=of_decide_eq_true hpos
     rw [vv_len] at this
     omega
    obtain ⟨w',p,rfl⟩:∃ w' p,wt=w' ++ [p]:=⟨wt.dropLast,wt.getLast (List.length_pos_iff.mp hwl),(List.dropLast_concat_getLast _).symm⟩
    have hin:=hg.pop
    refine ⟨_,wh,?_⟩
    have evv:vv (w' ++ [p])=vv w' ++ [V.int (p:Int)]:=(vv_snoc w' p).symm
    have elast:(vv (w' ++ [p]))[(vv (w' ++ [p])).length - 1]? = some (V.int (p:Int)):=by
     rw [evv]
     simp
    refine ⟨_,rfl,.inl ⟨rfl,_,SqL.of h1q⟩,q,_,_,rfl,rfl,h1q,elast,?_⟩
    have edl:(vv (w' ++ [p])).dropLast=vv w':=by
     rw [evv]
     simp
    rw [edl]
    have h2d:upd H1 q (.lst (vv w')) d=some (.dK (dk rs)):=by rw [upd_ne hdq]; exact h1d
    have s2:Same H (upd H1 q (.lst (vv w'))):=same_upd' s1 hHq
    refine ⟨_,rfl,a,vv ws,rfl,.inl (s2.seq hw),_,rfl,by rw [vv_len]; omega,by rw [vv_len]; omega,?_⟩
    rw [vv_len,Int.toNat_natCast]
    refine for_range (n:=ws.length) (fun j σ H2=>∃ rs2 wt2 u,σ=[some (.ref a),some (.int st),some (.ref d),some (.ref q),some (.int (p:Int)),u]/\HangIn ws st p j rs2 wt2/\H2 d=some (.dK (dk rs2))/\H2 q=some (.lst (vv wt2))/\Same H H2/\wt2.length + rs.length=w'.length + rs2.length/\rs.length <= rs2.length)
     ⟨rs,w',_,rfl,hin,h2d,upd_same,s2,rfl,Nat.le_refl _⟩ ?_ ?_
    ·rintro j σ H2 hj ⟨rs2,wt2,u2,rfl,hi2,h2d,h2q,s2,hlen,hgr⟩
     have e0:(0:Int) + (j:Int)=((j:Nat):Int):=by omega
     rw [e0]
     have hp:p < ws.length:=hi2.lt W hst p hi2.at'
     refine ⟨_,rfl,_,rfl,_,rfl,a,ws,p,j,rfl,s2.seq hw,hp,_,rfl,?_⟩
     refine ite2 (fun hb=>?_) (fun hb=>?_)
     ·refine ⟨_,rfl,_,rfl,d,_,rfl,DGet.k (k:=Sum.inl (j:Int)) h2d,_,rfl,?_⟩
      rw [dk_val]
      by_cases hm:j ∈ rs2
      ·rw [decide_eq_true hm]
       refine iteF ?_
       exact ⟨rs2,wt2,_,rfl,hi2.skip fun _=>hm,h2d,h2q,s2,hlen,hgr⟩
      ·rw [decide_eq_false hm]
       refine iteT ?_
       have hrl:rs2.length <= ws.length:=nodup_length hi2.nd (hi2.lt W hst)
       refine ⟨_,rfl,_,rfl,d,_,rfl,DPut.k (k:=Sum.inl (j:Int)) h2d (by rw [dk_len,sizeLine_eq]; omega),?_⟩
       rw [dk_put hm]
       have h3q:upd H2 d (.dK (dk (rs2 ++ [j]))) q=some (.lst (vv wt2)):=by rw [upd_ne (Ne.symm hdq)]; exact h2q
       have hin3:=hi2.add hb hm
       have hwl2:wt2.length <= 100:=by
        rw [List.length_append,List.length_singleton] at hwr
        omega
       refine ⟨_,rfl,.inl ⟨rfl,_,SqL.of h3q⟩,_,rfl,q,_,_,rfl,rfl,h3q,by rw [vv_len,sizeLine_eq]; omega,?_⟩
       refine ⟨rs2 ++ [j],wt2 ++ [j],_,rfl,hin3,by rw [upd_ne hdq,upd_same],by rw [upd_same,vv_snoc],same_upd' (same_upd' s2 hd) hHq,by simp only [List.length_append,List.length_singleton]; omega,by simp only [List.length_append,List.length_singleton]; omega⟩
     ·refine iteF ?_
      exact ⟨rs2,wt2,_,rfl,hi2.skip fun z=>absurd z hb,h2d,h2q,s2,hlen,hgr⟩
    ·rintro σ H2 ⟨rs2,wt2,u2,rfl,hi2,h2d,h2q,s2,hlen,hgr⟩
     have hdone:=hi2.done W
     have hrl:rs2.length <= ws.length:=nodup_length hdone.nd (hdone.lt W hst)
     rw [List.length_append,List.length_singleton] at hwr
     refine ⟨⟨rs2,wt2,_,_,rfl,hdone,h2d,h2q,s2,by omega⟩,?_⟩
     show 2 * (ws.length - lenD (H2 d)) + lenL (H2 q) < 2 * (ws.length - lenD (H1 d)) + lenL (H1 q)
     rw [h2d,h2q,h1d,h1q]
     show 2 * (ws.length - (dk rs2).length) + (vv wt2).length < 2 * (ws.length - (dk rs).length) + (vv (w' ++ [p])).length
     rw [dk_len,dk_len,vv_len,vv_len,List.length_append,List.length_singleton]
     omega
   ·have hwl:wt=[]:=by
     have:=of_decide_eq_false (by simpa using hpos:decide ((0:Int) < ((vv wt).length:Int))=false)
     rw [vv_len] at this
     exact List.eq_nil_of_length_eq_zero (by omega)
    subst hwl
    have hrl:rs.length <= ws.length:=nodup_length hg.nd (hg.lt W hst)
    refine ⟨_,rfl,d,dk rs,iv rs,rfl,h1d,dk_keys rs,by rw [iv_len]; omega,fun l zs hl hperm hsort=>?_⟩
    have ez:zs=iv (comp ws st):=by
     refine PySem.W.ksm_same (hperm.trans ?_) hsort (iv_sorted (comp_sorted ws st))
     exact ((hg.end W hst).map fun n:Nat=>(n:Int)).symm
    subst ez
    exact k l _ (same_none s1 hl) (same_upd s1 hl) upd_same
def PartsAt (H H':Hp) (l:Addr) (nss:List (List Nat)):Prop:=∃ rs:List Addr,H' l=some (.lst (rs.map V.ref))/\Paired (fun r ns=>H r=none/\r ≠ l/\H' r=some (.lst (vv ns))) rs nss
def spParts:Sp:=fun vs H Q _=>∃ (a:Addr) (ws:List Nat),vs=[.ref a]/\H a=some (.lst (vv ws))/\Web ws/\∀ (l:Addr) (H':Hp),H l=none->Same H H'->PartsAt H H' l (partsM ws)->Q (.ref l) H'
theorem scParts:FnScope ["web","found","point","part"] ["web"] (defScope sParts):=⟨rfl,rfl,rfl,by decide +kernel,rfl,by decide +kernel,by decide +kernel⟩
theorem comp_cons {ws:List Nat} (W:Web ws) {i:Nat} (hi:i < ws.length):∃ h t,comp ws i=h::t:=by
 have hm:i ∈ comp ws i:=(mem_comp W hi).mpr .refl
 cases q:comp ws i with
 | nil=>rw [q] at hm; cases hm
 | cons h t=>exact ⟨h,t,rfl⟩
theorem ok_parts (T:Txt K mg cs):Cal P w K mg base 4 "parts" ["web"] spParts:=by
 have CW:Cal P w K mg base 3 "check_web" ["web"] spCheckWeb:=ok_checkWeb T
 have CH:Cal P w K mg base 3 "hanging_with" ["web","start"] (spHang K):=(ok_hang T).mono (by decide)
 refine T.parts.cal scParts (fun vs H Q E h=>?_) (fun f cdv A outer s H vs Q E hr h=>?_)
 ·obtain ⟨a,ws,rfl,_⟩:=h
  rfl
 ·obtain ⟨a,ws,rfl,ha,W,k⟩:=h
  have hw:SqL K H a (vv ws):=SqL.of ha
  have hle:=W.le
  refine ⟨_,pss_cons (ps_expr (pe_cal CW hr (by rfl) (pa_cons (pv 0) pa_nil)))
   (pss_cons (ps_set (i:=1) scParts.nd rfl (Or.inl rfl) (pe_lst pa_nil))
   (pss_cons (ps_for PassesOwn.never rfl (pi_range1 rfl T.range (pa_cons (pe_callB call_len_seq (by rfl) T.len PySem.boot_len (pa_cons (pv 0) pa_nil)) pa_nil)) (pg_name (i:=2) scParts.nd rfl (Or.inl rfl))
    (pss_cons (ps_set (i:=3) scParts.nd rfl (Or.inl rfl) (pe_cal CH hr (by rfl) (pa_cons (pv 0) (pa_cons (pv 2) pa_nil))))
    (pss_one (ps_if (pt_cmpR op_eq (pe_ix ix_list (pv 3) pe_int (fun _ _=>rfl)) (pv 2) (nomark _))
     (pss_one (ps_expr (pe_bm PySem.F.plainAttrs_list PySem.F.slot_list_append PySem.F.type_list_append mt_append (pv 1) (pa_cons (pv 3) pa_nil)))) pss_nil))))
   (pss_one (ps_ret (pv 1))))),?_⟩
  refine ⟨_,rfl,a,ws,rfl,ha,W,?_⟩
  refine ⟨Nat.zero_le _,fun l hl=>?_⟩
  refine ⟨_,rfl,a,vv ws,rfl,.inl ((same_upd (Same.refl H) hl).seq hw),_,rfl,by rw [vv_len]; omega,by rw [vv_len]; omega,?_⟩
  rw [vv_len,Int.toNat_natCast]
  refine for_range (n:=ws.length) (fun i σ H1=>∃ rs v u,σ=[some (.ref a),some (.ref l),v,u]/\H1 l=some (.lst (rs.map V.ref))/\Paired (fun r ns=>H r=none/\r ≠ l/\H1 r=some (.lst (vv ns))) rs (((List.range i).filter fun p=>decide (headed ws p)).map (comp ws))/\Same H H1/\rs.length <= i)
   ⟨[],_,_,rfl,upd_same,.nil,same_upd (Same.refl H) hl,Nat.le_refl _⟩ ?_ ?_
  ·rintro i σ H1 hi ⟨rs,v,u,rfl,h1l,h1p,s1,hrl⟩
   have e0:(0:Int) + (i:Int)=((i:Nat):Int):=by omega
   rw [e0]
   refine ⟨_,rfl,_,rfl,a,ws,i,rfl,s1.seq hw,W,hi,fun r H2 h1r s2 h2r=>?_⟩
   obtain ⟨h,t,ec⟩:=comp_cons W hi
   have e1:atI (vv (comp ws i)) (0:Int)=some (V.int (h:Int)):=atI_nat (j:=0) (by rw [ec]; rfl)
   refine ⟨_,rfl,r,_,_,_,rfl,rfl,SqL.of h2r,e1,_,rfl,rfl,_,rfl,?_⟩
   have ehd:decide (V.int (h:Int)=V.int (i:Int))=decide (headed ws i):=by
    rw [decide_eq_decide]
    unfold headed
    rw [ec]
    simp only [List.head?_cons,Option.some.injEq,V.int.injEq]
    omega
   rw [ehd]
   have h2l:H2 l=some (.lst (rs.map V.ref)):=s2 _ _ h1l
   have hrl':r ≠ l:=fun z=>by
    rw [z,h1l] at h1r
    cases h1r
   have hHr:H r=none:=same_none s1 h1r
   by_cases hh:headed ws i
   ·rw [decide_eq_true hh]
    refine iteT ?_
    refine ⟨_,rfl,.inl ⟨rfl,_,SqL.of h2l⟩,_,rfl,l,_,_,rfl,rfl,h2l,by rw [List.length_map,sizeLine_eq]; omega,?_⟩
    refine ⟨rs ++ [r],_,_,rfl,by rw [upd_same,List.map_append]; rfl,?_,same_upd' (s1.trans s2) hl,by rw [List.length_append,List.length_singleton]; omega⟩
    rw [List.range_succ,List.filter_append,List.map_append]
    have ef:[i].filter (fun p=>decide (headed ws p))=[i]:=by simp [hh]
    rw [ef]
    refine Paired.snoc (paired_imp (fun r' ns h=>⟨h.1,h.2.1,by rw [upd_ne h.2.1]; exact s2 _ _ h.2.2⟩) h1p) ⟨hHr,hrl',by rw [upd_ne hrl']; exact h2r⟩
   ·rw [decide_eq_false hh]
    refine iteF ?_
    refine ⟨rs,_,_,rfl,h2l,?_,s1.trans s2,by omega⟩
    rw [List.range_succ,List.filter_append]
    have ef:[i].filter (fun p=>decide (headed ws p))=[]:=by simp [hh]
    rw [ef,List.append_nil]
    exact paired_imp (fun r' ns h=>⟨h.1,h.2.1,s2 _ _ h.2.2⟩) h1p
  ·rintro σ H1 ⟨rs,v,u,rfl,h1l,h1p,s1,hrl⟩
   refine ⟨_,rfl,?_⟩
   exact k l H1 hl s1 ⟨rs,h1l,h1p⟩
end
end Bw
namespace Bw
open PySem L2
section
variable {P:Program} {w:World} {K:PySem.W.Frag} {mg:Str->Option Value} {base:Heap} {cs:Cl}
def spCellAt (K:PySem.W.Frag):Sp:=fun vs H Q _=>∃ (a:Addr) (ns:List Int) (k:Nat),vs=[.ref a,.int k]/\SqL K H a (ns.map V.int)/\∀ z:Int,Q (.int z) H
theorem scCellAt:FnScope ["_law_script","_law_k"] ["_law_script","_law_k"] (defScope sLawCellAt):=⟨rfl,rfl,rfl,by decide +kernel,rfl,by decide +kernel,by decide +kernel⟩
theorem ok_cellAt (T:Txt K mg cs):Cal P w K mg base 1 "_law_cell_at" ["_law_script","_law_k"] (spCellAt K):=by
 refine T.lawCellAt.cal scCellAt (fun vs H Q E h=>?_) (fun f cdv A outer s H vs Q E hr h=>?_)
 ·obtain ⟨a,ns,k,rfl,_⟩:=h
  rfl
 ·obtain ⟨a,ns,n,rfl,hs,k⟩:=h
  refine ⟨_,pss_cons (ps_if (pt_cmpR op_lt (pv 1) (pe_callB call_len_seq (by rfl) T.len PySem.boot_len (pa_cons (pv 0) pa_nil)) (nomark _)) (pss_one (ps_ret (pe_ix ix_list (pv 0) (pv 1) (fun _ _=>rfl)))) pss_nil) (pss_one (ps_ret pe_int)),?_⟩
  refine ⟨_,rfl,_,rfl,a,ns.map V.int,rfl,.inl hs,_,_,rfl,rfl,_,rfl,?_⟩
  refine ite2 (fun hlt=>?_) (fun hlt=>?_)
  ·have hn:n < ns.length:=by
    have:=of_decide_eq_true hlt
    rw [List.length_map] at this
    omega
   refine ⟨_,rfl,_,rfl,a,_,_,_,rfl,rfl,hs,atI_nat (by rw [List.getElem?_map,List.getElem?_eq_getElem hn]; rfl),?_⟩
   exact k _
  ·exact k 0
def spDraw:Sp:=fun vs H Q _=>∃ (c k m:Int),vs=[.int c,.int k,.int m]/\0 < m/\∀ (z:Nat) (H':Hp),(z:Int) < m->Same H H'->Q (.int (z:Int)) H'
theorem scDraw:FnScope ["_law_cell","_law_k","_law_many","_law_primes","_law_blend"] ["_law_cell","_law_k","_law_many"] (defScope sLawDraw):=⟨rfl,rfl,rfl,by decide +kernel,rfl,by decide +kernel,by decide +kernel⟩
theorem prime_at (i:Nat) (hi:i < 8):∃ p:Int,0 < p/\([V.int 1000003,V.int 1000033,V.int 1000037,V.int 1000039,V.int 1000081,V.int 1000099,V.int 1000117,V.int 1000121]:List V)[i]? = some (V.int p):=by
 match i,hi with
 | 0,_=>exact ⟨_,by decide,rfl⟩
 | 1,_=>exact ⟨_,by decide,rfl⟩
 | 2,_=>exact ⟨_,by decide,rfl⟩
 | 3,_=>exact ⟨_,by decide,rfl⟩
 | 4,_=>exact ⟨_,by decide,rfl⟩
 | 5,_=>exact ⟨_,by decide,rfl⟩
 | 6,_=>exact ⟨_,by decide,rfl⟩
 | 7,_=>exact ⟨_,by decide,rfl⟩
theorem ok_draw (T:Txt K mg cs):Cal P w K mg base 1 "_law_draw" ["_law_cell","_law_k","_law_many"] spDraw:=by
 refine T.lawDraw.cal scDraw (fun vs H Q E h=>?_) (fun f cdv A outer s H vs Q E hr h=>?_)
 ·obtain ⟨c,k,m,rfl,_⟩:=h
  rfl
 ·obtain ⟨c,n,m,rfl,hm,k⟩:=h
  refine ⟨_,pss_cons (ps_set (i:=3) scDraw.nd rfl (Or.inl rfl) (pe_tup (pa_cons pe_int (pa_cons pe_int (pa_cons pe_int (pa_cons pe_int (pa_cons pe_int (pa_cons pe_int (pa_cons pe_int (pa_cons pe_int pa_nil))))))))))
   (pss_cons (ps_set (i:=4) scDraw.nd rfl (Or.inl rfl) (pe_op op_add (pe_op op_add (pe_op op_mul (pv 0) pe_int) (pe_op op_mul (pv 1) pe_int)) (pe_op op_mul (pe_op op_mod (pe_op op_fdiv (pv 0) pe_int) pe_int) pe_int)))
   (pss_one (ps_ret (pe_op op_mod (pe_op op_mod (pv 4) (pe_ix ix_tup (pv 3) (pe_op op_mod (pv 1) pe_int) (fun _ _=>rfl))) (pv 2))))),?_⟩
  refine ⟨by rw [sizeLine_eq]; show 8 <= _; decide,fun t ht=>?_⟩
  refine ⟨_,rfl,_,_,rfl,rfl,.inr ⟨by decide,by decide⟩,_,rfl,_,_,rfl,rfl,.inr ⟨by decide,by decide⟩,_,_,rfl,rfl,_,rfl,_,_,rfl,rfl,⟨by decide,by decide⟩,_,_,rfl,rfl,(by show (0:Int) < 1000003; decide),_,_,rfl,rfl,.inr ⟨by decide,by decide⟩,_,_,rfl,rfl,?_⟩
  have h8:0 <= n % 8/\n % 8 < 8:=by omega
  obtain ⟨i,ei⟩:∃ i:Nat,n % 8=(i:Int):=⟨(n % 8).toNat,by omega⟩
  obtain ⟨p,hp,ep⟩:=prime_at i (by omega)
  refine ⟨_,rfl,_,rfl,_,rfl,_,_,rfl,rfl,(by show (0:Int) < 8; decide),t,_,_,_,rfl,rfl,SqT.of upd_same,?_,_,_,rfl,rfl,hp,_,rfl,_,_,rfl,rfl,hm,?_⟩
  ·rw [ei]
   exact atI_nat ep
  ·generalize hz:((c * 48271 + n * 69621 + c / 1000003 % 1000003 * 40692) % p)=y
   have h1:0 <= y % m:=Int.emod_nonneg _ (by omega)
   have h2:y % m < m:=Int.emod_lt_of_pos _ hm
   have e:y % m=(((y % m).toNat:Nat):Int):=by omega
   show Q (V.int (y % m)) _
   rw [e]
   exact k _ _ (by omega) (same_upd (Same.refl H) ht)
end
end Bw
namespace Bw
open PySem L2
section
variable {P:Program} {w:World} {K:PySem.W.Frag} {mg:Str->Option Value} {base:Heap} {cs:Cl}
def spTie:Sp:=fun vs H Q _=>∃ (a:Addr) (ws:List Nat) (i j:Nat),vs=[.ref a,.int i,.int j]/\H a=some (.lst (vv ws))/\ws.length <= 10/\i < ws.length/\j < ws.length/\Q .non (upd H a (.lst (vv (Bw.tie ws i j))))
theorem scTie:FnScope ["_law_web_here","_law_one","_law_other"] ["_law_web_here","_law_one","_law_other"] (defScope sLawTie):=⟨rfl,rfl,rfl,by decide +kernel,rfl,by decide +kernel,by decide +kernel⟩
theorem ok_tie (T:Txt K mg cs):Cal P w K mg base 1 "_law_tie" ["_law_web_here","_law_one","_law_other"] spTie:=by
 refine T.lawTie.cal scTie (fun vs H Q E h=>?_) (fun f cdv A outer s H vs Q E hr h=>?_)
 ·obtain ⟨a,ws,i,j,rfl,_⟩:=h
  rfl
 ·obtain ⟨a,ws,i,j,rfl,ha,hle,hi,hj,k⟩:=h
  refine ⟨_,pss_cons (ps_asg (pe_op op_xor (pe_ix ix_list (pv 0) (pv 1) (fun _ _=>rfl)) (pe_op op_shl pe_int (pv 2))) (pg_sub (pv 0) (pv 1) set_list))
   (pss_one (ps_asg (pe_op op_xor (pe_ix ix_list (pv 0) (pv 2) (fun _ _=>rfl)) (pe_op op_shl pe_int (pv 1))) (pg_sub (pv 0) (pv 2) set_list))),?_⟩
  refine ⟨_,rfl,_,rfl,a,_,_,_,rfl,rfl,SqL.of ha,atI_nat (vv_get hi),_,rfl,_,_,rfl,rfl,⟨by omega,by omega,by decide⟩,_,_,rfl,rfl,_,rfl,_,rfl,a,vv ws,_,i,rfl,rfl,ha,by rw [vv_len]; exact ixN_nat hi,?_⟩
  dsimp only
  rw [shl_one,bitXor_nat,vv_set]
  have hj':j < (ws.set i (ws.getD i 0 ^^^ 2 ^ j)).length:=by simpa using hj
  refine ⟨_,rfl,_,rfl,a,_,_,_,rfl,rfl,SqL.of upd_same,atI_nat (vv_get hj'),_,rfl,_,_,rfl,rfl,⟨by omega,by omega,by decide⟩,_,_,rfl,rfl,_,rfl,_,rfl,a,_,_,j,rfl,rfl,upd_same,by rw [vv_len]; exact ixN_nat hj',?_⟩
  dsimp only
  rw [shl_one,bitXor_nat,vv_set,upd_upd]
  exact k
end
end Bw
namespace L2
open PySem PySem.Spec PyProof.Rows
theorem pss_imp {X:Cx} {st:List Stmt} {t t':TS} (h:PSs X st t) (hi:∀ D σ H,t' D σ H->t D σ H):PSs X st t':=fun pins s σ H D I hw=>h pins s σ H D I (hi D σ H hw)
end L2
namespace Bw
open PySem L2
section
variable {P:Program} {w:World} {K:PySem.W.Frag} {mg:Str->Option Value} {base:Heap} {cs:Cl}
def spWeb (K:PySem.W.Frag):Sp:=fun vs H Q _=>∃ (a:Addr) (ns:List Int) (fi:Nat) (mo:Int),vs=[.ref a,.int (fi:Int),.int mo]/\1 <= mo/\mo <= 10/\SqL K H a (ns.map V.int)/\∀ (l:Addr) (H':Hp) (ws:List Nat),H l=none->Same H H'->Web ws->H' l=some (.lst (vv ws))->Q (.ref l) H'
abbrev nWeb:List Str:=["_law_script","_law_first","_law_most","_law_cell","_law_other","_law_points","_law_k","_law_web_here","_law_groups","_law_turn","_law_one","_law_two","_law_point","_law_another"]
theorem scWeb:FnScope nWeb ["_law_script","_law_first","_law_most"] (defScope sLawWeb):=⟨rfl,rfl,rfl,by decide +kernel,rfl,by decide +kernel,by decide +kernel⟩
def cWeb:Scope:={ kind:=.function,names:=[(Str.ofString ".0",.local),(Str.ofString "_law_k",.local)],isGenerator:=false,isCoroutine:=false,more:=[] }
theorem csWeb:CScope nWeb (defScope sLawWeb) cWeb ["_law_k"] []:=⟨rfl,by decide +kernel,by decide +kernel,by decide +kernel,by decide,by decide +kernel,by decide +kernel⟩
structure WInv (H:Hp) (wl gl:Addr) (n m:Nat) (rs:List Addr) (ws:List Nat) (H':Hp):Prop where
 web:Web ws
 len:ws.length=n
 hw:H' wl=some (.lst (vv ws))
 hg:H' gl=some (.lst (rs.map V.ref))
 gr:∀ r ∈ rs,r ≠ wl/\r ≠ gl/\∃ g:List Nat,H' r=some (.lst (vv g))/\(∀ p ∈ g,p < n)/\g.length <= 2 ^ (n - m)
 sm:Same H H'
 ne:wl ≠ gl
theorem seqIx_nat {n i:Nat} (h:i < n):seqIndex? (i:Int) n=some i:=(ixN_seq (ixN_nat h)).1
theorem two_pow_small {n m:Nat} (h:n <= 10):2 ^ (n - m) <= 1024:=by
 have h2:2 ^ (n - m) <= 2 ^ 10:=Nat.pow_le_pow_right (by decide) (by omega)
 exact h2
theorem few_at (i:Nat) (hi:i < 4):∃ p:Nat,p <= 2/\([V.int 0,V.int 0,V.int 1,V.int 2]:List V)[i]? = some (V.int (p:Int)):=by
 match i,hi with
 | 0,_=>exact ⟨0,by decide,rfl⟩
 | 1,_=>exact ⟨0,by decide,rfl⟩
 | 2,_=>exact ⟨1,by decide,rfl⟩
 | 3,_=>exact ⟨2,by decide,rfl⟩
def tWebEnd (H:Hp) (a:Addr) (fi:Nat) (mo:Int):TS:=fun D σ H1=>∃ (c o:Int) (n:Nat) (wl:Addr) (ws:List Nat) (v6 v8 v9 v10 v11 v12 v13:Option V),
 σ=[some (.ref a),some (.int (fi:Int)),some (.int mo),some (.int c),some (.int o),some (.int (n:Int)),v6,some (.ref wl),v8,v9,v10,v11,v12,v13]/\0 < n/\Web ws/\ws.length=n/\H wl=none/\H1 wl=some (.lst (vv ws))/\Same H H1 /\
 ∀ (l:Addr) (H':Hp) (ws:List Nat),H l=none->Same H H'->Web ws->H' l=some (.lst (vv ws))->D.rt (.ref l) H'
def tWebMid (H:Hp) (a:Addr) (fi:Nat) (mo:Int):TS:=fun D σ H1=>∃ (c o:Int) (n:Nat),
 σ=[some (.ref a),some (.int (fi:Int)),some (.int mo),some (.int c),some (.int o),some (.int (n:Int)),none,none,none,none,none,none,none,none]/\0 < n/\n <= 10/\Same H H1 /\
 ∀ (l:Addr) (H':Hp) (ws:List Nat),H l=none->Same H H'->Web ws->H' l=some (.lst (vv ws))->D.rt (.ref l) H'
def tWebApp (H:Hp) (a:Addr) (fi:Nat) (mo:Int):TS:=fun D σ H1=>∃ (c o:Int) (n:Nat) (wl gl:Addr) (m:Nat) (ws:List Nat) (rs:List Addr) (r1 r2:Addr) (g1 g2:List Nat) (v6 v9 v12 v13:Option V),
 σ=[some (.ref a),some (.int (fi:Int)),some (.int mo),some (.int c),some (.int o),some (.int (n:Int)),v6,some (.ref wl),some (.ref gl),v9,some (.ref r1),some (.ref r2),v12,v13]/\n <= 10/\m <= n /\
 rs.length + 2=m/\WInv H wl gl n m rs ws H1/\H1 r1=some (.lst (vv g1))/\H1 r2=some (.lst (vv g2))/\(∀ p ∈ g1,p < n)/\(∀ p ∈ g2,p < n)/\g1.length <= 2 ^ (n - m)/\g2.length <= 2 ^ (n - m)/\H wl=none/\H gl=none /\
 ∀ (σ':St) (H':Hp) (rs':List Addr),σ'=σ->rs'.length + 1=m->WInv H wl gl n rs'.length rs' ws H'->D.nx σ' H'
theorem erase_map {α β:Type} (f:α->β):∀ (l:List α) (i:Nat),(l.map f).eraseIdx i=(l.eraseIdx i).map f
 | [],_=>rfl
 | _::_,0=>rfl
 | a::l,i + 1=>by
  show f a::(l.map f).eraseIdx i=f a::(l.eraseIdx i).map f
  rw [erase_map f l i]
theorem ref_get {rs:List Addr} {z:Nat} (h:z < rs.length):(rs.map V.ref)[z]? = some (V.ref rs[z]):=by
 rw [List.getElem?_map,List.getElem?_eq_getElem h]
 rfl
theorem erase_mem {rs:List Addr} {z:Nat} {r:Addr} (h:r ∈ rs.eraseIdx z):r ∈ rs:=List.mem_of_mem_eraseIdx h
theorem WInv.same {H:Hp} {wl gl:Addr} {n m:Nat} {rs:List Addr} {ws:List Nat} {H1 H2:Hp} (I:WInv H wl gl n m rs ws H1) (s:Same H1 H2):WInv H wl gl n m rs ws H2 where
 web:=I.web
 len:=I.len
 hw:=s _ _ I.hw
 hg:=s _ _ I.hg
 gr:=fun r hr=>let ⟨h1,h2,g,h3,h4⟩:=I.gr r hr; ⟨h1,h2,g,s _ _ h3,h4⟩
 sm:=I.sm.trans s
 ne:=I.ne
theorem WInv.pop {H:Hp} {wl gl:Addr} {n m:Nat} {rs:List Addr} {ws:List Nat} {H1:Hp} (I:WInv H wl gl n m rs ws H1) (z:Nat) (hgl:H gl=none):WInv H wl gl n m (rs.eraseIdx z) ws (upd H1 gl (.lst ((rs.map V.ref).eraseIdx z))) where
 web:=I.web
 len:=I.len
 hw:=by rw [upd_ne I.ne]; exact I.hw
 hg:=by rw [upd_same,erase_map]
 gr:=fun r hr=>let ⟨h1,h2,g,h3,h4⟩:=I.gr r (erase_mem hr); ⟨h1,h2,g,by rw [upd_ne h2]; exact h3,h4⟩
 sm:=same_upd' I.sm hgl
 ne:=I.ne
theorem WInv.tie {H:Hp} {wl gl:Addr} {n m:Nat} {rs:List Addr} {ws:List Nat} {H1:Hp} (I:WInv H wl gl n m rs ws H1) {i j:Nat} (hi:i < n) (hj:j < n) (hwl:H wl=none):WInv H wl gl n m rs (Bw.tie ws i j) (upd H1 wl (.lst (vv (Bw.tie ws i j)))) where
 web:=I.web.tie (by rw [I.len]; exact hi) (by rw [I.len]; exact hj)
 len:=by rw [tie_length]; exact I.len
 hw:=upd_same
 hg:=by rw [upd_ne (Ne.symm I.ne)]; exact I.hg
 gr:=fun r hr=>let ⟨h1,h2,g,h3,h4⟩:=I.gr r hr; ⟨h1,h2,g,by rw [upd_ne h1]; exact h3,h4⟩
 sm:=same_upd' I.sm hwl
 ne:=I.ne
theorem ok_web (T:Txt K mg cs):Cal P w K mg base 2 "_law_web" ["_law_script","_law_first","_law_most"] (spWeb K):=by
 have CC:Cal P w K mg base 1 "_law_cell_at" ["_law_script","_law_k"] (spCellAt K):=ok_cellAt T
 have CD:Cal P w K mg base 1 "_law_draw" ["_law_cell","_law_k","_law_many"] spDraw:=ok_draw T
 have CI:Cal P w K mg base 1 "_law_tie" ["_law_web_here","_law_one","_law_other"] spTie:=ok_tie T
 refine T.lawWeb.cal scWeb (fun vs H Q E h=>?_) (fun f cdv A outer s H vs Q E hr h=>?_)
 ·obtain ⟨a,ns,fi,mo,rfl,_⟩:=h
  rfl
 ·obtain ⟨a,ns,fi,mo,rfl,hm1,hm10,hs,k⟩:=h
  refine ⟨_,pss_cons (ps_set (i:=3) scWeb.nd rfl (Or.inl rfl) (pe_cal CC hr (by rfl) (pa_cons (pv 0) (pa_cons (pv 1) pa_nil))))
   (pss_cons (ps_set (i:=4) scWeb.nd rfl (Or.inl rfl) (pe_cal CC hr (by rfl) (pa_cons (pv 0) (pa_cons (pe_op op_add (pv 1) pe_int) pa_nil))))
   (pss_cons (ps_set (i:=5) scWeb.nd rfl (Or.inl rfl) (pe_op op_add pe_int (pe_op op_mod (pv 3) (pe_callB (call_min2 rfl) (by rfl) T.min PyProof.Rows.boot_min (pa_cons (pv 2) (pa_cons pe_int pa_nil))))))
   (pss_cons (ps_if (pt_cmpR op_eq (pe_op op_mod (pe_op op_fdiv (pv 3) pe_int) pe_int) pe_int (nomark _)) (pss_one (ps_set (i:=5) scWeb.nd rfl (Or.inl rfl) (pe_op op_add pe_int (pe_op op_mod (pe_op op_fdiv (pv 3) pe_int) (pv 2))))) pss_nil)
   (pss_imp (t':=tWebMid H a fi mo) (pss_cons (ps_setComp (i:=7) (sc:=cWeb) scWeb.nd rfl rfl rfl (pi_range1 rfl T.range (pa_cons (pv 5) pa_nil)) csWeb (fun _ _ _ _=>pg_name (i:=0) csWeb.nd rfl (Or.inl rfl) (Or.inr rfl)) (fun _ _ _ _=>pif_nil) (fun _ _ _ _=>pe_int))
    (pss_cons (ps_setComp (i:=8) (sc:=cWeb) scWeb.nd rfl rfl rfl (pi_range1 rfl T.range (pa_cons (pv 5) pa_nil)) csWeb (fun _ _ _ _=>pg_name (i:=0) csWeb.nd rfl (Or.inl rfl) (Or.inr rfl)) (fun _ _ _ _=>pif_nil) (fun _ _ _ _=>pe_lst (pa_cons (pv 0) pa_nil)))
    (pss_cons (ps_while PassesOwn.never (pt_cmpR op_gt (pe_callB call_len_seq (by rfl) T.len PySem.boot_len (pa_cons (pv 8) pa_nil)) pe_int (nomark _))
     (pss_cons (ps_set (i:=9) scWeb.nd rfl (Or.inl rfl) (pe_callB call_len_seq (by rfl) T.len PySem.boot_len (pa_cons (pv 8) pa_nil)))
     (pss_cons (ps_set (i:=10) scWeb.nd rfl (Or.inl rfl) (pe_bm PySem.F.plainAttrs_list PySem.F.slot_list_pop PySem.F.type_list_pop mt_popAt (pv 8) (pa_cons (pe_cal CD hr (by rfl) (pa_cons (pv 4) (pa_cons (pv 9) (pa_cons (pv 9) pa_nil)))) pa_nil)))
     (pss_cons (ps_set (i:=11) scWeb.nd rfl (Or.inl rfl) (pe_bm PySem.F.plainAttrs_list PySem.F.slot_list_pop PySem.F.type_list_pop mt_popAt (pv 8) (pa_cons (pe_cal CD hr (by rfl) (pa_cons (pv 4) (pa_cons (pe_op op_add (pv 9) pe_int) (pa_cons (pe_op op_sub (pv 9) pe_int) pa_nil)))) pa_nil)))
     (pss_cons (ps_if (pt_cmpR op_eq (pe_cal CD hr (by rfl) (pa_cons (pv 4) (pa_cons (pe_op op_add (pv 9) pe_int) (pa_cons pe_int pa_nil)))) pe_int (nomark _))
      (pss_one (ps_for PassesOwn.never rfl (pi_list (pv 10)) (pg_name (i:=12) scWeb.nd rfl (Or.inl rfl))
       (pss_one (ps_for PassesOwn.never rfl (pi_list (pv 11)) (pg_name (i:=13) scWeb.nd rfl (Or.inl rfl))
        (pss_one (ps_expr (pe_cal CI hr (by rfl) (pa_cons (pv 7) (pa_cons (pv 12) (pa_cons (pv 13) pa_nil)))))))))) pss_nil)
     (pss_imp (t':=tWebApp H a fi mo) (pss_one (ps_expr (pe_bm PySem.F.plainAttrs_list PySem.F.slot_list_append PySem.F.type_list_append mt_append (pv 8) (pa_cons (pe_op op_cat (pv 10) (pv 11)) pa_nil)))) ?tApp))))))
    (pss_imp (t':=tWebEnd H a fi mo) (pss_cons (ps_if (pt_cmpR op_gt (pv 5) pe_int (nomark _))
     (pss_one (ps_for PassesOwn.never rfl (pi_range1 rfl T.range (pa_cons (pe_ix ix_tup (pe_tup (pa_cons pe_int (pa_cons pe_int (pa_cons pe_int (pa_cons pe_int pa_nil))))) (pe_op op_mod (pe_op op_fdiv (pv 3) pe_int) pe_int) (fun _ _=>rfl)) pa_nil)) (pg_name (i:=6) scWeb.nd rfl (Or.inl rfl))
      (pss_cons (ps_set (i:=12) scWeb.nd rfl (Or.inl rfl) (pe_cal CD hr (by rfl) (pa_cons (pv 4) (pa_cons (pe_op op_add (pv 6) pe_int) (pa_cons (pv 5) pa_nil)))))
      (pss_one (ps_expr (pe_cal CI hr (by rfl) (pa_cons (pv 7) (pa_cons (pv 12) (pa_cons (pe_op op_mod (pe_op op_add (pe_op op_add (pv 12) pe_int) (pe_cal CD hr (by rfl) (pa_cons (pv 4) (pa_cons (pe_op op_add (pv 6) pe_int) (pa_cons (pe_op op_sub (pv 5) pe_int) pa_nil))))) (pv 5)) pa_nil))))))))) pss_nil)
     (pss_one (ps_ret (pv 7)))) ?tEnd)))) ?tMid)))),?_⟩
  case tApp =>
   rintro D σ H1 ⟨c,o,n,wl,gl,m,ws,rs,r1,r2,g1,g2,v6,v9,v12,v13,rfl,hn,hmn,hlen,I,h1,h2,p1,p2,l1,l2,hwl,hgl,kk⟩
   have hwg:wl ≠ gl:=I.ne
   have b1:=two_pow_small (m:=m) hn
   refine ⟨_,rfl,.inl ⟨rfl,_,SqL.of I.hg⟩,_,rfl,_,rfl,r1,r2,vv g1,vv g2,rfl,rfl,h1,h2,by rw [vv_len,vv_len,sizeLine_eq]; omega,fun q hq=>?_⟩
   have nq:q ≠ gl:=fun z=>by rw [z,I.hg] at hq; cases hq
   have nqw:q ≠ wl:=fun z=>by rw [z,I.hw] at hq; cases hq
   have hg':upd H1 q (.lst (vv g1 ++ vv g2)) gl=some (.lst (rs.map V.ref)):=by rw [upd_ne (Ne.symm nq)]; exact I.hg
   refine ⟨gl,_,_,rfl,rfl,hg',by rw [List.length_map,sizeLine_eq]; omega,?_⟩
   refine kk _ _ (rs ++ [q]) rfl (by rw [List.length_append,List.length_singleton]; omega) ?_
   have hle:(rs ++ [q]).length + 1=m:=by rw [List.length_append,List.length_singleton]; omega
   have hpow:2 ^ (n - m) + 2 ^ (n - m)=2 ^ (n - (rs ++ [q]).length):=by
    have e:n - (rs ++ [q]).length=(n - m) + 1:=by omega
    rw [e,Nat.pow_succ]
    omega
   refine ⟨I.web,I.len,?_,?_,fun r hr=>?_,?_,I.ne⟩
   ·rw [upd_ne hwg,upd_ne (Ne.symm nqw)]
    exact I.hw
   ·rw [upd_same,List.map_append]
    rfl
   ·rcases List.mem_append.mp hr with hr | hr
    ·obtain ⟨a1,a2,g,a3,a4,a5⟩:=I.gr r hr
     have nrq:r ≠ q:=fun z=>by rw [z,hq] at a3; cases a3
     exact ⟨a1,a2,g,by rw [upd_ne a2,upd_ne nrq]; exact a3,a4,by omega⟩
    ·have e:=List.mem_singleton.mp hr
     subst e
     refine ⟨nqw,nq,g1 ++ g2,by rw [upd_ne nq,upd_same,vv_app],fun p hp=>?_,by rw [List.length_append]; omega⟩
     rcases List.mem_append.mp hp with hp | hp
     ·exact p1 p hp
     ·exact p2 p hp
   ·exact same_upd' (same_upd I.sm hq) hgl
  case tEnd =>
   rintro D σ H1 ⟨c,o,n,wl,ws,v6,v8,v9,v10,v11,v12,v13,rfl,hn0,W,hwn,hwl,h1,s1,kk⟩
   have hle:=W.le
   refine ⟨_,rfl,_,_,rfl,rfl,_,rfl,?_⟩
   refine ite2 (fun hgt=>?_) (fun hgt=>?_)
   ·have hn1:1 < n:=by
     have:=of_decide_eq_true hgt
     omega
    refine ⟨by rw [sizeLine_eq]; show 4 <= _; decide,fun t ht=>?_⟩
    have h4:0 <= c / 420 % 4/\c / 420 % 4 < 4:=by omega
    obtain ⟨i,ei⟩:∃ i:Nat,c / 420 % 4=(i:Int):=⟨(c / 420 % 4).toNat,by omega⟩
    obtain ⟨p,hp,ep⟩:=few_at i (by omega)
    refine ⟨_,rfl,_,_,rfl,rfl,⟨by decide,by decide⟩,_,_,rfl,rfl,(by show (0:Int) < 4; decide),t,_,_,_,rfl,rfl,SqT.of upd_same,(by rw [ei]; exact atI_nat ep),_,rfl,by omega,by omega,?_⟩
    rw [Int.toNat_natCast]
    refine for_range (n:=p) (fun i σ H2=>∃ (ws:List Nat) (v6 v12:Option V),σ=[some (.ref a),some (.int (fi:Int)),some (.int mo),some (.int c),some (.int o),some (.int (n:Int)),v6,some (.ref wl),v8,v9,v10,v11,v12,v13]/\Web ws/\ws.length=n/\H2 wl=some (.lst (vv ws))/\Same H H2)
     ⟨ws,_,_,rfl,W,hwn,by rw [upd_ne (ne_of_none h1 ht)]; exact h1,same_upd s1 ht⟩ ?_ ?_
    ·rintro i σ H2 hi ⟨ws,u6,u12,rfl,W,hwn,h2,s2⟩
     refine ⟨_,rfl,_,rfl,_,_,rfl,rfl,_,rfl,o,_,_,rfl,by omega,fun z H3 hz s3=>?_⟩
     refine ⟨_,rfl,_,rfl,_,rfl,_,_,rfl,rfl,_,rfl,_,rfl,_,_,rfl,rfl,_,rfl,_,_,rfl,rfl,o,_,_,rfl,by omega,fun y H4 hy s4=>?_⟩
     refine ⟨_,_,rfl,rfl,_,rfl,_,_,rfl,rfl,by omega,?_⟩
     obtain ⟨x,ex⟩:∃ x:Nat,((z:Int) + 1 + (y:Int)) % (n:Int)=(x:Int):=⟨(((z:Int) + 1 + (y:Int)) % (n:Int)).toNat,by have:=Int.emod_nonneg ((z:Int) + 1 + (y:Int)) (show (n:Int) ≠ 0 by omega); omega⟩
     have hx:x < n:=by
      have:=Int.emod_lt_of_pos ((z:Int) + 1 + (y:Int)) (show (0:Int) < (n:Int) by omega)
      omega
     have h4:H4 wl=some (.lst (vv ws)):=s4 _ _ (s3 _ _ h2)
     refine ⟨wl,ws,z,x,(by show [V.ref wl,V.int (z:Int),V.int (((z:Int) + 1 + (y:Int)) % (n:Int))]=_; rw [ex]),h4,W.le,by omega,by omega,?_⟩
     exact ⟨Bw.tie ws z x,_,_,rfl,W.tie (by omega) (by omega),by rw [tie_length]; exact hwn,upd_same,same_upd' (s2.trans (s3.trans s4)) hwl⟩
    ·rintro σ H2 ⟨ws,u6,u12,rfl,W,hwn,h2,s2⟩
     exact ⟨_,rfl,kk wl H2 ws hwl s2 W h2⟩
   ·exact ⟨_,rfl,kk wl H1 ws hwl s1 W h1⟩
  case tMid =>
   rintro D σ H1 ⟨c,o,n,rfl,hn0,hn,s1,kk⟩
   have en:((n:Nat):Int).toNat=n:=Int.toNat_natCast n
   refine ⟨_,rfl,n,rfl,by omega,by omega,comp_range (n:=((n:Nat):Int).toNat) (fun i ys H'=>ys=vv (List.replicate i 0)/\H'=H1) ⟨rfl,rfl⟩ (by rw [sizeLine_eq]; omega) ?_ ?_⟩
   ·rintro i ys H' hi ⟨rfl,rfl⟩ hyl hys
    refine gset ?_
    refine yes ?_
    refine iteT ?_
    refine ⟨hys,Pn.snoc hi hyl ⟨?_,rfl⟩⟩
    rw [List.replicate_succ',<- vv_snoc]
    rfl
   rintro ys H' ⟨ey,rfl⟩ hyl wl hwl
   rw [en] at ey
   subst ey
   have sW:Same H (upd H' wl (.lst (vv (List.replicate n 0)))):=same_upd s1 hwl
   have hHwl:H wl=none:=same_none s1 hwl
   refine ⟨_,rfl,n,rfl,by omega,by omega,comp_range (n:=((n:Nat):Int).toNat) (fun i ys H2=>∃ rs:List Addr,ys=rs.map V.ref/\rs.length=i/\(∀ r ∈ rs,r ≠ wl/\∃ g:List Nat,H2 r=some (.lst (vv g))/\(∀ p ∈ g,p < n)/\g.length <= 1)/\Same (upd H' wl (.lst (vv (List.replicate n 0)))) H2)
    ⟨[],rfl,rfl,(fun r hr=>nomatch hr),Same.refl _⟩ (by rw [sizeLine_eq]; omega) ?_ ?_⟩
   ·rintro i ys H2 hi ⟨rs,rfl,hrl,hgr,s2⟩ hyl hys
    have e0:(0:Int) + (i:Int)=((i:Nat):Int):=by omega
    rw [e0]
    refine gset ?_
    refine yes ?_
    refine iteT ?_
    refine ⟨_,rfl,by rw [sizeLine_eq]; show 1 <= _; decide,fun q hq=>⟨hys,Pn.snoc hi hyl ⟨rs ++ [q],by rw [List.map_append]; rfl,by rw [List.length_append,List.length_singleton]; omega,fun r hr=>?_,same_upd s2 hq⟩⟩⟩
    have nqw:q ≠ wl:=fun z=>by
     have:=s2 wl _ upd_same
     rw [z,this] at hq
     cases hq
    rcases List.mem_append.mp hr with hr | hr
    ·obtain ⟨a1,g,a3,a4,a5⟩:=hgr r hr
     have nrq:r ≠ q:=fun z=>by rw [z,hq] at a3; cases a3
     exact ⟨a1,g,by rw [upd_ne nrq]; exact a3,a4,a5⟩
    ·have e:=List.mem_singleton.mp hr
     subst e
     exact ⟨nqw,[i],by rw [upd_same]; rfl,fun p hp=>by rw [List.mem_singleton.mp hp]; omega,Nat.le_refl _⟩
   rintro ys H2 ⟨rs,rfl,hrl,hgr,s2⟩ hyl gl hgl
   rw [en] at hrl
   have h2w:H2 wl=some (.lst (vv (List.replicate n 0))):=s2 wl _ upd_same
   have hwg:wl ≠ gl:=fun z=>by rw [z,hgl] at h2w; cases h2w
   have hHgl:H gl=none:=same_none (sW.trans s2) hgl
   refine while_of (fun σ H3=>∃ (rs:List Addr) (ws:List Nat) (v6 v9 v10 v11 v12 v13:Option V),σ=[some (.ref a),some (.int (fi:Int)),some (.int mo),some (.int c),some (.int o),some (.int (n:Int)),v6,some (.ref wl),some (.ref gl),v9,v10,v11,v12,v13]/\WInv H wl gl n rs.length rs ws H3/\0 < rs.length/\rs.length <= n)
    (fun _ H3=>lenL (H3 gl)) ?_ ?_
   ·refine ⟨rs,List.replicate n 0,_,_,_,_,_,_,rfl,⟨web_zero hn0 hn,List.length_replicate,by rw [upd_ne hwg]; exact h2w,upd_same,fun r hr=>?_,same_upd (sW.trans s2) hgl,hwg⟩,by omega,by omega⟩
    obtain ⟨a1,g,a3,a4,a5⟩:=hgr r hr
    have nrg:r ≠ gl:=fun z=>by rw [z,hgl] at a3; cases a3
    exact ⟨a1,nrg,g,by rw [upd_ne nrg]; exact a3,a4,by rw [hrl,Nat.sub_self]; exact a5⟩
   rintro σ H3 ⟨rs,ws,v6,v9,v10,v11,v12,v13,rfl,I,hr0,hrn⟩
   refine ⟨_,rfl,gl,rs.map V.ref,rfl,.inl (SqL.of I.hg),_,_,rfl,rfl,_,rfl,?_⟩
   refine ite2 (fun hgt=>?_) (fun hgt=>?_)
   ·have hm:1 < rs.length:=by
     have:=of_decide_eq_true hgt
     rw [List.length_map] at this
     omega
    refine ⟨_,wh,?_⟩
    refine ⟨_,rfl,gl,rs.map V.ref,rfl,.inl (SqL.of I.hg),?_⟩
    rw [List.length_map]
    refine ⟨_,rfl,.inl ⟨rfl,_,SqL.of I.hg⟩,_,rfl,_,rfl,_,rfl,o,_,_,rfl,by omega,fun z H4 hz s4=>?_⟩
    have I4:=I.same s4
    have hzl:z < rs.length:=by omega
    refine ⟨gl,_,_,z,_,rfl,rfl,I4.hg,by omega,by omega,by rw [List.length_map]; exact seqIx_nat hzl,ref_get hzl,?_⟩
    have I5:=I4.pop z hHgl
    obtain ⟨a1,a2,g1,a3,a4,a5⟩:=I4.gr rs[z] (List.getElem_mem hzl)
    have hel:(rs.eraseIdx z).length=rs.length - 1:=by rw [List.length_eraseIdx,if_pos hzl]
    refine ⟨_,rfl,.inl ⟨rfl,_,SqL.of I5.hg⟩,_,rfl,_,rfl,_,_,rfl,rfl,_,rfl,_,_,rfl,rfl,o,_,_,rfl,by omega,fun y H6 hy s6=>?_⟩
    have I6:=I5.same s6
    have hyl':y < (rs.eraseIdx z).length:=by omega
    refine ⟨gl,_,_,y,_,rfl,rfl,I6.hg,by omega,by omega,by rw [List.length_map]; exact seqIx_nat hyl',ref_get hyl',?_⟩
    have I7:=I6.pop y hHgl
    obtain ⟨b1,b2,g2,b3,b4,b5⟩:=I6.gr (rs.eraseIdx z)[y] (List.getElem_mem hyl')
    have hel2:((rs.eraseIdx z).eraseIdx y).length + 2=rs.length:=by rw [List.length_eraseIdx,if_pos hyl']; omega
    have a6:upd H6 gl (.lst (((rs.eraseIdx z).map V.ref).eraseIdx y)) rs[z]=some (.lst (vv g1)):=by
     rw [upd_ne a2]
     exact s6 _ _ (by rw [upd_ne a2]; exact a3)
    have b6:upd H6 gl (.lst (((rs.eraseIdx z).map V.ref).eraseIdx y)) (rs.eraseIdx z)[y]=some (.lst (vv g2)):=by
     rw [upd_ne b2]
     exact b3
    have fin:∀ (ws':List Nat) (H8:Hp) (v12 v13:Option V),WInv H wl gl n rs.length ((rs.eraseIdx z).eraseIdx y) ws' H8->H8 rs[z]=some (.lst (vv g1))->H8 (rs.eraseIdx z)[y]=some (.lst (vv g2)) ->
      ∀ (N:St->Hp->Prop) (D':Ends),D'.nx=N->(∀ σ' H',(∃ (rs':List Addr) (v6 v9 v10 v11 v12 v13:Option V),σ'=[some (.ref a),some (.int (fi:Int)),some (.int mo),some (.int c),some (.int o),some (.int (n:Int)),v6,some (.ref wl),some (.ref gl),v9,v10,v11,v12,v13]/\WInv H wl gl n rs'.length rs' ws' H'/\rs'.length + 1=rs.length)->N σ' H') ->
      tWebApp H a fi mo D' [some (.ref a),some (.int (fi:Int)),some (.int mo),some (.int c),some (.int o),some (.int (n:Int)),v6,some (.ref wl),some (.ref gl),some (.int (rs.length:Int)),some (.ref rs[z]),some (.ref (rs.eraseIdx z)[y]),v12,v13] H8:=by
     intro ws' H8 u12 u13 I8 c1 c2 N D' hD hN
     refine ⟨c,o,n,wl,gl,rs.length,ws',(rs.eraseIdx z).eraseIdx y,rs[z],(rs.eraseIdx z)[y],g1,g2,_,_,_,_,rfl,hn,hrn,hel2,I8,c1,c2,a4,b4,a5,b5,hHwl,hHgl,?_⟩
     rintro σ' H' rs' rfl hl' I9
     rw [hD]
     exact hN _ _ ⟨rs',_,_,_,_,_,_,rfl,I9,hl'⟩
    have dn:∀ (σ':St) (H':Hp) (ws':List Nat),(∃ (rs':List Addr) (v6 v9 v10 v11 v12 v13:Option V),σ'=[some (.ref a),some (.int (fi:Int)),some (.int mo),some (.int c),some (.int o),some (.int (n:Int)),v6,some (.ref wl),some (.ref gl),v9,v10,v11,v12,v13]/\WInv H wl gl n rs'.length rs' ws' H'/\rs'.length + 1=rs.length) ->
      (∃ (rs:List Addr) (ws:List Nat) (v6 v9 v10 v11 v12 v13:Option V),σ'=[some (.ref a),some (.int (fi:Int)),some (.int mo),some (.int c),some (.int o),some (.int (n:Int)),v6,some (.ref wl),some (.ref gl),v9,v10,v11,v12,v13]/\WInv H wl gl n rs.length rs ws H'/\0 < rs.length/\rs.length <= n)/\lenL (H' gl) < lenL (H3 gl):=by
     rintro σ' H' ws' ⟨rs',w6,w9,w10,w11,w12,w13,rfl,I9,hl'⟩
     refine ⟨⟨rs',ws',_,_,_,_,_,_,rfl,I9,by omega,by omega⟩,?_⟩
     rw [I9.hg,I.hg]
     show (rs'.map V.ref).length < (rs.map V.ref).length
     rw [List.length_map,List.length_map]
     omega
    refine ⟨_,rfl,_,rfl,_,_,rfl,rfl,o,_,_,rfl,by decide,fun x H8 hx s8=>⟨rfl,_,rfl,?_⟩⟩
    have I8:=I7.same s8
    refine ite2 (fun hb=>?_) (fun hb=>?_)
    ·have c1:=s8 _ _ a6
     have c2:=s8 _ _ b6
     refine ⟨_,rfl,rs[z],rfl,⟨_,SqL.of c1⟩,for_list (K:=K) (a:=rs[z]) (xs:=vv g1) (fun i σ H9=>∃ (ws':List Nat) (v12 v13:Option V),σ=[some (.ref a),some (.int (fi:Int)),some (.int mo),some (.int c),some (.int o),some (.int (n:Int)),v6,some (.ref wl),some (.ref gl),some (.int (rs.length:Int)),some (.ref rs[z]),some (.ref (rs.eraseIdx z)[y]),v12,v13]/\WInv H wl gl n rs.length ((rs.eraseIdx z).eraseIdx y) ws' H9/\H9 rs[z]=some (.lst (vv g1))/\H9 (rs.eraseIdx z)[y]=some (.lst (vv g2)))
      ⟨ws,_,_,rfl,I8,c1,c2⟩ (fun i σ H9 _ ⟨_,_,_,_,_,d1,_⟩=>SqL.of d1) ?_ ?_⟩
     ·rintro i x1 σ H9 hx1 ⟨ws',u12,u13,rfl,I9,d1,d2⟩
      obtain ⟨hi1,rfl⟩:=vv_at hx1
      have hm1:g1.getD i 0 ∈ g1:=by
       rw [List.getD_eq_getElem?_getD,List.getElem?_eq_getElem hi1]
       exact List.getElem_mem hi1
      refine ⟨_,rfl,(rs.eraseIdx z)[y],rfl,⟨_,SqL.of d2⟩,for_list (K:=K) (a:=(rs.eraseIdx z)[y]) (xs:=vv g2) (fun j σ H10=>∃ (ws':List Nat) (v13:Option V),σ=[some (.ref a),some (.int (fi:Int)),some (.int mo),some (.int c),some (.int o),some (.int (n:Int)),v6,some (.ref wl),some (.ref gl),some (.int (rs.length:Int)),some (.ref rs[z]),some (.ref (rs.eraseIdx z)[y]),some (.int ((g1.getD i 0:Nat):Int)),v13]/\WInv H wl gl n rs.length ((rs.eraseIdx z).eraseIdx y) ws' H10/\H10 rs[z]=some (.lst (vv g1))/\H10 (rs.eraseIdx z)[y]=some (.lst (vv g2)))
       ⟨ws',_,rfl,I9,d1,d2⟩ (fun j σ H10 _ ⟨_,_,_,_,_,d2⟩=>SqL.of d2) ?_ ?_⟩
      ·rintro j x2 σ H10 hx2 ⟨ws'',w13,rfl,I10,e1,e2⟩
       obtain ⟨hi2,rfl⟩:=vv_at hx2
       have hm2:g2.getD j 0 ∈ g2:=by
        rw [List.getD_eq_getElem?_getD,List.getElem?_eq_getElem hi2]
        exact List.getElem_mem hi2
       have l10:=I10.len
       refine ⟨_,rfl,_,rfl,_,rfl,wl,ws'',g1.getD i 0,g2.getD j 0,rfl,I10.hw,I10.web.le,by rw [l10]; exact a4 _ hm1,by rw [l10]; exact b4 _ hm2,?_⟩
       exact ⟨_,_,rfl,I10.tie (a4 _ hm1) (b4 _ hm2) hHwl,by rw [upd_ne a1]; exact e1,by rw [upd_ne b1]; exact e2⟩
      ·rintro σ H10 ⟨ws'',w13,rfl,I10,e1,e2⟩
       exact ⟨ws'',_,_,rfl,I10,e1,e2⟩
     ·rintro σ H9 ⟨ws',u12,u13,rfl,I9,d1,d2⟩
      exact fin ws' H9 _ _ I9 d1 d2 _ _ rfl fun σ' H' h=>dn σ' H' ws' h
    ·exact fin ws H8 _ _ I8 (s8 _ _ a6) (s8 _ _ b6) _ _ rfl fun σ' H' h=>dn σ' H' ws h
   ·exact ⟨c,o,n,wl,ws,_,_,_,_,_,_,_,rfl,hn0,I.web,I.len,hHwl,I.hw,I.sm,kk⟩
  have hmin:0 < (if (7:Int) < mo then (7:Int) else mo):=by split <;> omega
  have hmin7:(if (7:Int) < mo then (7:Int) else mo) <= 7:=by split <;> omega
  refine ⟨_,rfl,_,rfl,a,ns,fi,rfl,hs,fun c=>?_⟩
  refine ⟨_,rfl,_,rfl,_,_,rfl,rfl,a,ns,fi + 1,(by show [V.ref a,V.int ((fi:Int) + 1)]=[V.ref a,V.int ((fi + 1:Nat):Int)]; rw [Int.natCast_add]; rfl),hs,fun o=>?_⟩
  refine ⟨_,rfl,_,rfl,_,_,rfl,_,_,rfl,rfl,hmin,_,_,rfl,rfl,?_⟩
  generalize (if (7:Int) < mo then (7:Int) else mo)=mi at hmin hmin7
  refine ⟨_,rfl,_,_,rfl,rfl,⟨by decide,by decide⟩,_,_,rfl,rfl,(by show (0:Int) < 6; decide),rfl,_,rfl,?_⟩
  refine ite2 (fun _=>?_) (fun _=>?_)
  ·refine ⟨_,rfl,_,_,rfl,rfl,⟨by decide,by decide⟩,_,rfl,_,_,rfl,rfl,(by show (0:Int) < mo; omega),_,_,rfl,rfl,?_⟩
   have q1:=Int.emod_nonneg (c / 42) (show mo ≠ 0 by omega)
   have q2:=Int.emod_lt_of_pos (c / 42) (show (0:Int) < mo by omega)
   obtain ⟨n,hn⟩:∃ n:Nat,(1 + c / 42 % mo:Int)=(n:Int):=⟨(1 + c / 42 % mo:Int).toNat,by omega⟩
   refine ⟨c,o,n,?_,by omega,by omega,Same.refl H,k⟩
   show [some (V.ref a),some (V.int (fi:Int)),some (V.int mo),some (V.int c),some (V.int o),some (V.int (1 + c / 42 % mo)),none,none,none,none,none,none,none,none]=_
   rw [hn]
  ·have q1:=Int.emod_nonneg c (show mi ≠ 0 by omega)
   have q2:=Int.emod_lt_of_pos c hmin
   obtain ⟨n,hn⟩:∃ n:Nat,(1 + c % mi:Int)=(n:Int):=⟨(1 + c % mi:Int).toNat,by omega⟩
   refine ⟨c,o,n,?_,by omega,by omega,Same.refl H,k⟩
   show [some (V.ref a),some (V.int (fi:Int)),some (V.int mo),some (V.int c),some (V.int o),some (V.int (1 + c % mi)),none,none,none,none,none,none,none,none]=_
   rw [hn]
end
end Bw
namespace Bw
open PySem L2
def cD (cs:Cl) (ac:Bool):Addr:=if ac then cs.Across else cs.Beside
def fP (n:Int):List (Str × V):=putF "at" (.int n) []
def fD (l t:Addr):List (Str × V):=putF "laid" (.ref t) (putF "trees" (.ref l) [])
theorem fP_at (n:Int):(fP n).lookup ("at":Str)=some (.int n):=by
 unfold fP
 rw [lookup_putF,if_pos rfl]
theorem fP_no (n:Int) {m:Str} (h:¬ m="at"):(fP n).lookup m=none:=by
 unfold fP
 rw [lookup_putF,if_neg h]
 rfl
theorem tl_ne:¬ (("trees":Str)="laid"):=by decide +kernel
theorem fD_laid (l t:Addr):(fD l t).lookup ("laid":Str)=some (.ref t):=by
 unfold fD
 rw [lookup_putF,if_pos rfl]
theorem fD_trees (l t:Addr):(fD l t).lookup ("trees":Str)=some (.ref l):=by
 unfold fD
 rw [lookup_putF,if_neg tl_ne,lookup_putF,if_pos rfl]
theorem fD_no (l t:Addr) {m:Str} (h1:¬ m="laid") (h2:¬ m="trees"):(fD l t).lookup m=none:=by
 unfold fD
 rw [lookup_putF,if_neg h1,lookup_putF,if_neg h2]
 rfl
section
variable (cs:Cl) (H:Hp)
def TreeAt:Nat->Addr->Tr->Prop
 | 0=>fun _ _=>False
 | k + 1=>fun a tr=>match tr with
  | .pt n=>(∃ dx,H a=some (.ins cs.Point dx (fP (n:Int))))/\n < 10
  | .doing ac ts=>∃ (dx l t:Addr) (rs:List Addr),H a=some (.ins (cD cs ac) dx (fD l t))/\H t=some (.tup (rs.map V.ref))/\H l=some (.lst (rs.map V.ref))/\Paired (TreeAt k) rs ts/\2 <= ts.length
end
theorem paired_mono {α β:Type} {F G:α->β->Prop} (f:∀ a b,F a b->G a b):∀ {l₁:List α} {l₂:List β},Paired F l₁ l₂->Paired G l₁ l₂
 | _,_,.nil=>.nil
 | _,_,.cons h t=>.cons (f _ _ h) (paired_mono f t)
theorem paired_get {α β:Type} {F:α->β->Prop}:∀ {l₁:List α} {l₂:List β} {i:Nat} {x:α},Paired F l₁ l₂->l₁[i]? = some x->∃ y,l₂[i]? = some y/\F x y
 | _,_,_,_,.nil,h=>by cases h
 | _,_,0,_,.cons h _,e=>by
  have e':=Option.some.inj e
  subst e'
  exact ⟨_,rfl,h⟩
 | _,_,i + 1,x,.cons _ t,e=>paired_get (i:=i) t e
theorem paired_len {α β:Type} {F:α->β->Prop}:∀ {l₁:List α} {l₂:List β},Paired F l₁ l₂->l₁.length=l₂.length
 | _,_,.nil=>rfl
 | _,_,.cons _ t=>by rw [List.length_cons,List.length_cons,paired_len t]
theorem paired_snoc {α β:Type} {F:α->β->Prop}:∀ {l₁:List α} {l₂:List β} {x:α} {y:β},Paired F l₁ l₂->F x y->Paired F (l₁ ++ [x]) (l₂ ++ [y])
 | _,_,_,_,.nil,h=>.cons h .nil
 | _,_,_,_,.cons a t,h=>.cons a (paired_snoc t h)
theorem TreeAt.same {cs:Cl} {H H':Hp} (s:Same H H'):∀ {k:Nat} {a:Addr} {tr:Tr},TreeAt cs H k a tr->TreeAt cs H' k a tr
 | 0,_,_,h=>h.elim
 | k + 1,a,.pt n,h=>⟨let ⟨dx,e⟩:=h.1; ⟨dx,s _ _ e⟩,h.2⟩
 | k + 1,a,.doing ac ts,h=>by
  obtain ⟨dx,l,t,rs,h1,h2,h3,h4,h5⟩:=h
  exact ⟨dx,l,t,rs,s _ _ h1,s _ _ h2,s _ _ h3,paired_mono (fun _ _ z=>TreeAt.same s z) h4,h5⟩
theorem TreeAt.more {cs:Cl} {H:Hp}:∀ {k j:Nat} {a:Addr} {tr:Tr},TreeAt cs H k a tr->k <= j->TreeAt cs H j a tr
 | 0,_,_,_,h,_=>h.elim
 | k + 1,0,_,_,_,l=>absurd l (by omega)
 | k + 1,j + 1,a,.pt n,h,_=>h
 | k + 1,j + 1,a,.doing ac ts,h,l=>by
  obtain ⟨dx,l1,t,rs,h1,h2,h3,h4,h5⟩:=h
  exact ⟨dx,l1,t,rs,h1,h2,h3,paired_mono (fun _ _ z=>TreeAt.more z (by omega)) h4,h5⟩
theorem TreeAt.pos {cs:Cl} {H:Hp}:∀ {k:Nat} {a:Addr} {tr:Tr},TreeAt cs H k a tr->1 <= tr.pts.length
 | 0,_,_,h=>h.elim
 | k + 1,a,.pt n,h=>Nat.le_refl _
 | k + 1,a,.doing ac [],h=>by
  obtain ⟨_,_,_,_,_,_,_,_,h5⟩:=h
  exact absurd h5 (by decide)
 | k + 1,a,.doing ac (t::ts),h=>by
  obtain ⟨dx,l1,t1,rs,h1,h2,h3,h4,h5⟩:=h
  show 1 <= (t.pts ++ ptsL ts).length
  rw [List.length_append]
  cases h4 with
  | cons z _ =>
   have:=TreeAt.pos z
   omega
theorem paired_fewer {F:Addr->Tr->Prop} (hF:∀ a t,F a t->1 <= t.pts.length):∀ {rs:List Addr} {ts:List Tr},Paired F rs ts->∀ {m:Nat},(ptsL ts).length <= m + ts.length->∀ G:Addr->Tr->Prop,(∀ a t,F a t->t.pts.length <= m + 1->G a t)->Paired G rs ts
 | _,_,.nil,_,_,_,_=>.nil
 | _,_,.cons (l₁:=rs) (l₂:=ts) (a:=a) (b:=t) h r,m,hl,G,g=>by
  have h1:=hF _ _ h
  have hge:∀ {rs:List Addr} {ts:List Tr},Paired F rs ts->ts.length <= (ptsL ts).length:=by
   intro rs ts p
   induction p with
   | nil=>exact Nat.le_refl _
   | cons h _ ih =>
    show _ + 1 <= List.length (_ ++ _)
    rw [List.length_append]
    have:=hF _ _ h
    omega
  have hr:=hge r
  have e:(ptsL (t::ts)).length=t.pts.length + (ptsL ts).length:=List.length_append
  rw [e,List.length_cons] at hl
  exact .cons (g _ _ h (by omega)) (paired_fewer hF r (m:=m) (by omega) G g)
theorem TreeAt.fit {cs:Cl} {H:Hp}:∀ {k m:Nat} {a:Addr} {tr:Tr},TreeAt cs H k a tr->tr.pts.length <= m->TreeAt cs H m a tr
 | 0,_,_,_,h,_=>h.elim
 | k + 1,0,a,tr,h,l=>by
  have:=h.pos
  omega
 | k + 1,m + 1,a,.pt n,h,_=>h
 | k + 1,m + 1,a,.doing ac ts,h,l=>by
  obtain ⟨dx,l1,t,rs,h1,h2,h3,h4,h5⟩:=h
  refine ⟨dx,l1,t,rs,h1,h2,h3,?_,h5⟩
  have hl:(ptsL ts).length <= m + 1:=l
  have hm:1 <= m:=by
   have hge:ts.length <= (ptsL ts).length:=by
    clear h1 h2 h3 h5 l hl
    induction h4 with
    | nil=>exact Nat.le_refl _
    | cons h _ ih =>
     show _ + 1 <= List.length (_ ++ _)
     rw [List.length_append]
     have:=TreeAt.pos h
     omega
   omega
  obtain ⟨m',rfl⟩:∃ m',m=m' + 1:=⟨m - 1,by omega⟩
  exact paired_fewer (fun _ _ z=>TreeAt.pos z) h4 (m:=m') (by omega) _ fun a t z hz=>TreeAt.fit z hz
theorem ref_at {rs:List Addr} {i:Nat} {x:V} (h:(rs.map V.ref)[i]? = some x):∃ r,rs[i]? = some r/\x=.ref r:=by
 rw [List.getElem?_map] at h
 cases e:rs[i]? with
 | none=>rw [e] at h; cases h
 | some r =>
  rw [e] at h
  exact ⟨r,rfl,(Option.some.inj h).symm⟩
section
variable {P:Program} {w:World} {K:PySem.W.Frag} {mg:Str->Option Value} {base:Heap} {cs:Cl}
def Asked (P:Program) (w:World) (K:PySem.W.Frag) (mg:Str->Option Value) (base:Heap) (k:Nat) (m:Str) (a:Addr) (H:Hp) (Q:VK):Prop :=
 ∃ C dx fs,H a=some (.ins C dx fs)/\fs.lookup m=none/\∀ A,Room k A->MOk P w K mg base A C m [.ref a] H Q
theorem Asked.mono {j k:Nat} {m:Str} {a:Addr} {H:Hp} {Q:VK} (h:Asked P w K mg base j m a H Q) (hjk:j <= k):Asked P w K mg base k m a H Q:=by
 obtain ⟨C,dx,fs,e,l,q⟩:=h
 exact ⟨C,dx,fs,e,l,fun A hr=>q A (hr.mono hjk)⟩
theorem asked_use {k:Nat} {m:Str} {a:Addr} {H:Hp} {Q:VK} {A:Around} (h:Asked P w K mg base k m a H Q) (hr:Room k A) :
  ∃ a' C dx fs,V.ref a=.ref a'/\H a'=some (.ins C dx fs)/\fs.lookup m=none/\MOk P w K mg base A C m [.ref a'] H Q:=by
 obtain ⟨C,dx,fs,e,l,q⟩:=h
 exact ⟨a,C,dx,fs,rfl,e,l,q A hr⟩
theorem Txt.ownD (T:Txt K mg cs) (ac:Bool):Own K (cD cs ac):=by
 cases ac
 ·exact T.oBeside
 ·exact T.oAcross
theorem Txt.nL (T:Txt K mg cs) (ac:Bool):NoAttr K (cD cs ac) "laid":=by
 cases ac
 ·exact T.nBesideLaid
 ·exact T.nAcrossLaid
theorem Txt.nT (T:Txt K mg cs) (ac:Bool):NoAttr K (cD cs ac) "trees":=by
 cases ac
 ·exact T.nBesideTrees
 ·exact T.nAcrossTrees
theorem Txt.mPts (T:Txt K mg cs) (ac:Bool):MethT K (cD cs ac) "points" "Doing.points" sDoingPoints ["self"]:=by
 cases ac
 ·exact T.mBesidePoints
 ·exact T.mAcrossPoints
theorem Txt.mLay (T:Txt K mg cs) (ac:Bool):MethT K (cD cs ac) "lay" "Doing.lay" sDoingLay ["self","trees"]:=by
 cases ac
 ·exact T.mBesideLay
 ·exact T.mAcrossLay
def gotPts (H:Hp) (tr:Tr) (Q:VK):Prop:=∀ (l:Addr) (H':Hp),H l=none->Same H H'->H' l=some (.lst (vv tr.pts))->Q (.ref l) H'
theorem scPPoints:FnScope ["self"] ["self"] (defScope sPointPoints):=⟨rfl,rfl,rfl,by decide +kernel,rfl,by decide +kernel,by decide +kernel⟩
theorem scDPoints:FnScope ["self","found","tree"] ["self"] (defScope sDoingPoints):=⟨rfl,rfl,rfl,by decide +kernel,rfl,by decide +kernel,by decide +kernel⟩
theorem points_pt (T:Txt K mg cs) {a:Addr} {H:Hp} {Q:VK} {n k:Nat} (h:TreeAt cs H (k + 1) a (.pt n)) (q:gotPts H (.pt n) Q):Asked P w K mg base 1 "points" a H Q:=by
 obtain ⟨⟨dx,e⟩,hn⟩:=h
 obtain ⟨f,fd,hm,F,hb⟩:=T.mPointPoints
 refine ⟨cs.Point,dx,_,e,fP_no _ (by decide +kernel),fun A hr=>⟨T.oPoint.cl,f,fd,["self"],1,fun vs H Q _=>∃ (a dx:Addr) (n:Nat),vs=[.ref a]/\H a=some (.ins cs.Point dx (fP (n:Int)))/\gotPts H (.pt n) Q,hm,?_,hr,hb,a,dx,n,rfl,e,q⟩⟩
 refine F.ok scPPoints (fun vs H Q E h=>?_) (fun cdv A outer s H vs Q E hr h=>?_)
 ·obtain ⟨a,dx,n,rfl,_⟩:=h
  rfl
 ·obtain ⟨a,dx,n,rfl,e,q⟩:=h
  refine ⟨_,pss_one (ps_ret (pe_lst (pa_cons (pe_fld (pv 0) rfl) pa_nil))),?_⟩
  refine ⟨_,rfl,a,cs.Point,dx,_,_,rfl,e,T.oPoint.cl,T.nPointAt,fP_at _,by rw [sizeLine_eq]; show 1 <= _; decide,fun l hl=>?_⟩
  exact q l _ hl (fun b o z=>by rw [upd_ne (ne_of_none z hl)]; exact z) upd_same
theorem points_all (T:Txt K mg cs):∀ (k:Nat) {a:Addr} {tr:Tr} {H:Hp} {Q:VK},TreeAt cs H k a tr->tr.pts.length <= 1000->gotPts H tr Q->Asked P w K mg base k "points" a H Q
 | 0,_,_,_,_,h,_,_=>h.elim
 | k + 1,a,.pt n,H,Q,h,_,q=>(points_pt T h q).mono (by omega)
 | k + 1,a,.doing ac ts,H,Q,h,hl,q=>by
  obtain ⟨dx,l,t,rs,e,ht,hlst,hp,h2⟩:=h
  obtain ⟨f,fd,hm,F,hb⟩:=T.mPts ac
  refine ⟨_,dx,_,e,fD_no _ _ (by decide +kernel) (by decide +kernel),fun A hr=>⟨(T.ownD ac).cl,f,fd,["self"],k + 1,
   fun vs H Q _=>∃ (a dx l t:Addr) (rs:List Addr) (ts:List Tr),vs=[.ref a]/\H a=some (.ins (cD cs ac) dx (fD l t))/\H t=some (.tup (rs.map V.ref))/\Paired (TreeAt cs H k) rs ts/\(ptsL ts).length <= 1000/\gotPts H (.doing ac ts) Q,
   hm,?_,hr,hb,a,dx,l,t,rs,ts,rfl,e,ht,hp,hl,q⟩⟩
  refine F.ok scDPoints (fun vs H Q E h=>?_) (fun cdv A outer s H vs Q E hr h=>?_)
  ·obtain ⟨a,dx,l,t,rs,ts,rfl,_⟩:=h
   rfl
  ·obtain ⟨a,dx,l,t,rs,ts,rfl,e,ht,hp,hl,q⟩:=h
   refine ⟨_,pss_cons (ps_set (i:=1) scDPoints.nd rfl (Or.inl rfl) (pe_lst pa_nil))
    (pss_cons (ps_for PassesOwn.never rfl (pi_tup (pe_fld (pv 0) rfl)) (pg_name (i:=2) scDPoints.nd rfl (Or.inl rfl))
     (pss_one (ps_expr (pe_bm PySem.F.plainAttrs_list PySem.F.slot_list_extend PySem.F.type_list_extend mt_extend (pv 1) (pa_cons (pe_md0 P w K mg base _ (pv 2)) pa_nil)))))
    (pss_one (ps_ret (pv 1)))),?_⟩
   refine ⟨Nat.zero_le _,fun fl hfl=>?_⟩
   have s0:Same H (upd H fl (.lst [])):=same_upd (Same.refl H) hfl
   refine ⟨_,rfl,a,_,dx,_,_,rfl,s0 _ _ e,(T.ownD ac).cl,T.nL ac,fD_laid _ _,t,rfl,⟨_,SqT.of (s0 _ _ ht)⟩,for_tup (K:=K) (a:=t) (xs:=rs.map V.ref) (fun i σ H1=>∃ v2,σ=[some (.ref a),some (.ref fl),v2]/\H1 fl=some (.lst (vv (ptsL (ts.take i))))/\Same H H1)
    ⟨_,rfl,upd_same,s0⟩ (fun i σ H1 _ ⟨_,_,_,s⟩=>SqT.of (s _ _ ht)) ?_ ?_⟩
   ·rintro i x σ H1 hx ⟨v2,rfl,h1,s1⟩
    obtain ⟨r,hr1,rfl⟩:=ref_at hx
    obtain ⟨tr,htr,hT⟩:=paired_get hp hr1
    have b1:=ptsL_mem htr
    have b2:=ptsL_le ts (i + 1)
    rw [ptsL_take htr,List.length_append] at b2
    refine ⟨_,rfl,.inl ⟨rfl,_,SqL.of h1⟩,_,rfl,asked_use (points_all T k (hT.same s1) (by omega) fun l2 H2 hl2 s2 h2=>?_) hr⟩
    refine ⟨fl,l2,_,_,rfl,rfl,s2 _ _ h1,h2,by rw [vv_len,vv_len,sizeLine_eq]; omega,?_⟩
    exact ⟨_,rfl,by rw [upd_same,vv_app,ptsL_take htr],same_upd' (s1.trans s2) hfl⟩
   ·rintro σ H1 ⟨v2,rfl,h1,s1⟩
    refine ⟨_,rfl,q fl H1 hfl s1 ?_⟩
    rw [List.length_map,paired_len hp,List.take_length] at h1
    exact h1
theorem TreeAt.kitTree (T:Txt K mg cs):∀ {k:Nat} {a:Addr} {tr:Tr} {H:Hp},TreeAt cs H k a tr->∃ C,TyOf K H (.ref a) (.ref C)/\PySem.W.kitOne K (.ref C) (.ref cs.Tree)=some true
 | 0,_,_,_,h=>h.elim
 | k + 1,a,.pt n,H,h=>by
  obtain ⟨⟨dx,e⟩,_⟩:=h
  exact ⟨_,T.oPoint.ty e,T.kPointTree⟩
 | k + 1,a,.doing ac ts,H,h=>by
  obtain ⟨dx,l,t,rs,e,_⟩:=h
  refine ⟨_,(T.ownD ac).ty e,?_⟩
  cases ac
  ·exact T.kBesideTree
  ·exact T.kAcrossTree
def spPInit (cs:Cl):Sp:=fun vs H Q _=>∃ (x dx:Addr) (n:Nat),vs=[.ref x,.int (n:Int)]/\H x=some (.ins cs.Point dx [])/\n < 10/\Q .non (upd H x (.ins cs.Point dx (fP (n:Int))))
theorem scPInit:FnScope ["self","at"] ["self","at"] (defScope sPointInit):=⟨rfl,rfl,rfl,by decide +kernel,rfl,by decide +kernel,by decide +kernel⟩
theorem mk_Point (T:Txt K mg cs):Mak P w K mg base 2 "Point" cs.Point ["self","at"] (spPInit cs):=by
 have CB:Cal P w K mg base 1 "is_below" ["value","bound"] spBelow:=ok_below T
 obtain ⟨tm,hmost⟩:=T.vMOST_POINTS
 obtain ⟨f,fd,hm,F,hb⟩:=T.mkPoint
 refine ⟨f,fd,T.gPoint,hm,hb,F.ok scPInit (fun vs H Q E h=>?_) (fun cdv A outer s H vs Q E hr h=>?_)⟩
 ·obtain ⟨x,dx,n,rfl,_⟩:=h
  rfl
 ·obtain ⟨x,dx,n,rfl,e,hn,q⟩:=h
  refine ⟨_,pss_cons (ps_if (pt_not (pt_val (pe_cal CB hr (by rfl) (pa_cons (pv 1) (pa_cons (pe_glob (v:=.int 10) (by rfl) hmost ⟨tm,rfl⟩) pa_nil))))) pss_never pss_nil)
   (pss_one (ps_fld (pv 0) (pv 1) rfl)),?_⟩
  refine ⟨_,rfl,_,_,rfl,_,rfl,?_⟩
  have e1:decide ((0:Int) <= (n:Int))=true:=decide_eq_true (Int.natCast_nonneg _)
  have e2:decide ((n:Int) < 10)=true:=decide_eq_true (by omega)
  rw [e1,e2]
  refine iteF ?_
  exact ⟨_,rfl,_,rfl,x,_,dx,_,rfl,e,T.oPoint.cl,T.nPointAt,by decide,q⟩
def fresh (H H':Hp):Hp:=fun x=>if (H x).isSome=true then none else H' x
theorem fresh_some {H H':Hp} {x:Addr} {o:HO} (h:fresh H H' x=some o):H x=none/\H' x=some o:=by
 unfold fresh at h
 split at h
 ·cases h
 ·rename_i z
  exact ⟨Option.not_isSome_iff_eq_none.mp z,h⟩
theorem fresh_of {H H':Hp} {x:Addr} {o:HO} (h:H x=none) (h':H' x=some o):fresh H H' x=some o:=by
 unfold fresh
 rw [h]
 exact h'
theorem fresh_sub {H H':Hp}:Same (fresh H H') H':=fun _ _ e=>(fresh_some e).2
theorem fresh_le {H1 H2 H3 H4:Hp} (a:∀ b,H1 b=none->H3 b=none) (c:∀ b o,H1 b=none->H2 b=some o->H4 b=some o):Same (fresh H1 H2) (fresh H3 H4):=fun b o e=>by
 obtain ⟨e1,e2⟩:=fresh_some e
 exact fresh_of (a b e1) (c b o e1 e2)
def gotTree (cs:Cl) (k:Nat) (H:Hp) (tr:Tr) (Q:VK):Prop:=∀ (x:Addr) (H':Hp),H x=none->Same H H'->TreeAt cs (fresh H H') k x tr->Q (.ref x) H'
theorem new_point {H:Hp} {Q:VK} {n:Nat} {E:XK} (hn:n < 10) (q:gotTree cs 1 H (.pt n) Q):∀ x dx,H x=none->H dx=none->dx ≠ x ->
  spPInit cs ([V.ref x,V.int (n:Int)] ++ []) (upd (upd H dx (.own x)) x (.ins cs.Point dx [])) (fun v H2=>v=.non/\Q (.ref x) H2) E:=by
 intro x dx hx hdx ne
 refine ⟨x,dx,n,rfl,upd_same,hn,rfl,q x _ hx ?_ ⟨⟨dx,fresh_of hx upd_same⟩,hn⟩⟩
 exact same_upd' (same_upd' (same_upd' (Same.refl H) hdx) hx) hx
def spCheckTrees (cs:Cl):Sp:=fun vs H Q _=>∃ (l:Addr) (rs:List Addr) (ts:List Tr),vs=[.ref l]/\H l=some (.lst (rs.map V.ref))/\Paired (TreeAt cs H 10) rs ts/\2 <= ts.length/\(ptsL ts).Nodup/\(ptsL ts).length <= 10/\∀ H',Same H H'->Q .non H'
theorem scCheckTrees:FnScope ["trees","points","tree"] ["trees"] (defScope sCheckTrees):=⟨rfl,rfl,rfl,by decide +kernel,rfl,by decide +kernel,by decide +kernel⟩
theorem ok_checkTrees (T:Txt K mg cs):Cal P w K mg base 11 "check_trees" ["trees"] (spCheckTrees cs):=by
 refine T.checkTrees.cal scCheckTrees (fun vs H Q E h=>?_) (fun f cdv A outer s H vs Q E hr h=>?_)
 ·obtain ⟨l,rs,ts,rfl,_⟩:=h
  rfl
 ·obtain ⟨l,rs,ts,rfl,hl,hp,h2,hnd,h10,k⟩:=h
  have hu:=hu_of hr
  have hu64:=hr.units
  refine ⟨_,(pss_cons (ps_if (PW.pt (pw_or (pt_not (pt_val (pe_callB (call_isinstK K) (by rfl) T.isinst PyProof.Rows.boot_isinstance (pa_cons (pv 0) (pa_cons (pe_bltn (v:=.ty "list") (by rfl) T.list PyProof.Rows.boot_list rfl) pa_nil))))) (pw_or1 (pt_cmpR op_lt (pe_callB (call_lenK K) (by rfl) T.len PySem.boot_len (pa_cons (pv 0) pa_nil)) pe_int (nomark _)))))
   pss_never
   pss_nil)
   (pss_cons (ps_set (i:=1) scCheckTrees.nd rfl (Or.inl rfl) (pe_lst pa_nil))
   (pss_cons (ps_for PassesOwn.never rfl (pi_listK K (pv 0)) (pg_name (i:=2) scCheckTrees.nd rfl (Or.inl rfl))
   (pss_cons (ps_if (pt_not (pt_val (pe_callB (call_isC K) (by rfl) T.isinst PyProof.Rows.boot_isinstance (pa_cons (pv 2) (pa_cons (pe_glob (v:=.ref cs.Tree) (by rfl) T.gTree rfl) pa_nil)))))
    pss_never
    pss_nil)
    (pss_one (ps_expr (pe_bm PySem.F.plainAttrs_list PySem.F.slot_list_extend PySem.F.type_list_extend mt_extend (pv 1) (pa_cons (pe_md0 P w K mg base _ (pv 2)) pa_nil))))))
   (pss_one (ps_if (pt_cmpR op_ne (pe_callB call_lenSet (by rfl) T.len PySem.boot_len (pa_cons (pe_callTy (call_setL rfl) (by rfl) T.set PyProof.Rows.boot_set (pa_cons (pv 1) pa_nil)) pa_nil)) (pe_callB (call_lenK K) (by rfl) T.len PySem.boot_len (pa_cons (pv 1) pa_nil)) (nomark _))
   pss_never
   pss_nil))))),?_⟩
  have hrl:=paired_len hp
  refine ⟨_,rfl,_,_,_,_,rfl,TyOf.lst hl,kit_ll K,true,rfl,iteF ?_⟩
  refine ⟨_,rfl,l,_,rfl,.inl (SqL.of hl),_,_,rfl,rfl,_,rfl,?_⟩
  have e0:decide (((rs.map V.ref).length:Int) < 2)=false:=decide_eq_false (by rw [List.length_map]; omega)
  rw [e0]
  refine iteF ?_
  refine ⟨Nat.zero_le _,fun pl hpl=>?_⟩
  have s0:Same H (upd H pl (.lst [])):=same_upd (Same.refl H) hpl
  have hlp:l ≠ pl:=ne_of_none hl hpl
  refine ⟨_,rfl,l,rfl,⟨_,SqL.of (s0 _ _ hl)⟩,for_list (K:=K) (a:=l) (xs:=rs.map V.ref) (fun i σ H1=>∃ v2,σ=[some (.ref l),some (.ref pl),v2]/\H1 pl=some (.lst (vv (ptsL (ts.take i))))/\Same H H1)
   ⟨_,rfl,upd_same,s0⟩ (fun i σ H1 _ ⟨_,_,_,s⟩=>SqL.of (s _ _ hl)) ?_ ?_⟩
  ·rintro i x σ H1 hx ⟨v2,rfl,h1,s1⟩
   obtain ⟨r,hr1,rfl⟩:=ref_at hx
   obtain ⟨tr,htr,hT⟩:=paired_get hp hr1
   obtain ⟨C,ty,kt⟩:=(hT.same s1).kitTree T
   have b1:=ptsL_mem htr
   have b2:=ptsL_le ts (i + 1)
   rw [ptsL_take htr,List.length_append] at b2
   refine ⟨_,rfl,_,_,_,_,rfl,ty,kt,true,rfl,iteF ?_⟩
   refine ⟨_,rfl,.inl ⟨rfl,_,SqL.of h1⟩,_,rfl,asked_use (points_all T 10 (hT.same s1) (by omega) fun l2 H2 hl2 s2 h2=>?_) hr⟩
   refine ⟨pl,l2,_,_,rfl,rfl,s2 _ _ h1,h2,by rw [vv_len,vv_len,sizeLine_eq]; omega,?_⟩
   exact ⟨_,rfl,by rw [upd_same,vv_app,ptsL_take htr],same_upd' (s1.trans s2) hpl⟩
  ·rintro σ H1 ⟨v2,rfl,h1,s1⟩
   rw [List.length_map,hrl,List.take_length] at h1
   refine ⟨_,rfl,pl,iv (ptsL ts),rfl,SqL.of h1,by rw [iv_len]; unfold scanBound; omega,fun l2 hl2=>?_⟩
   refine ⟨l2,_,_,rfl,upd_same,_,rfl,pl,vv (ptsL ts),rfl,.inl ((same_upd (Same.refl _) hl2).seq (SqL.of h1)),rfl,_,rfl,?_⟩
   have nd':(iv (ptsL ts)).Nodup:=by
    unfold iv
    rw [List.nodup_iff_pairwise_ne,List.pairwise_map]
    exact List.Pairwise.imp (fun h z=>h (by omega)) hnd
   rw [firstMet_nodup _ nd',iv_len,vv_len]
   refine iteNS rfl ?_
   exact k _ (same_upd s1 hl2)
def spDInit (cs:Cl) (ac:Bool):Sp:=fun vs H Q _=>∃ (x dx l:Addr) (rs:List Addr) (ts:List Tr),vs=[.ref x,.ref l]/\H x=some (.ins (cD cs ac) dx [])/\H l=some (.lst (rs.map V.ref))/\Paired (TreeAt cs H 10) rs ts/\2 <= ts.length/\(ptsL ts).Nodup/\(ptsL ts).length <= 10 /\
 ∀ (l2 t:Addr) (H':Hp),H l2=none->H t=none->H' x=some (.ins (cD cs ac) dx (fD l2 t))->H' l2=some (.lst (rs.map V.ref))->H' t=some (.tup (rs.map V.ref))->(∀ b o,H b=some o->b ≠ x->H' b=some o)->Q .non H'
theorem scLay:FnScope ["self","trees"] ["self","trees"] (defScope sDoingLay):=⟨rfl,rfl,rfl,by decide +kernel,rfl,by decide +kernel,by decide +kernel⟩
theorem lay_ok (T:Txt K mg cs) (ac:Bool):∃ f fd,Meth K (cD cs ac) "lay" f/\Binds K fd ["self","trees"] []/\FnOk P w K mg base CX0 12 f fd ["self","trees"] (spDInit cs ac):=by
 have CCT:Cal P w K mg base 11 "check_trees" ["trees"] (spCheckTrees cs):=ok_checkTrees T
 obtain ⟨f,fd,hm,F,hb⟩:=T.mLay ac
 refine ⟨f,fd,hm,hb,F.ok scLay (fun vs H Q E h=>?_) (fun cdv A outer s H vs Q E hr h=>?_)⟩
 ·obtain ⟨x,dx,l,rs,ts,rfl,_⟩:=h
  rfl
 ·obtain ⟨x,dx,l,rs,ts,rfl,hx,hl,hp,h2,hnd,h10,k⟩:=h
  refine ⟨_,pss_cons (ps_expr (pe_cal CCT hr (by rfl) (pa_cons (pv 1) pa_nil)))
   (pss_cons (ps_fld (pv 0) (pe_callTy call_list_of (by rfl) T.list PyProof.Rows.boot_list (pa_cons (pv 1) pa_nil)) rfl)
   (pss_one (ps_fld (pv 0) (pe_callTy call_tuple_of (by rfl) T.tuple PyProof.Rows.boot_tuple (pa_cons (pv 1) pa_nil)) rfl))),?_⟩
  refine ⟨_,rfl,l,rs,ts,rfl,hl,hp,h2,hnd,h10,fun H1 s1=>?_⟩
  refine ⟨_,rfl,l,_,rfl,.inl (SqL.of (s1 _ _ hl)),fun l2 hl2=>?_⟩
  have hx1:=s1 _ _ hx
  have hxl2:x ≠ l2:=ne_of_none hx1 hl2
  refine ⟨_,rfl,x,_,dx,_,rfl,(by rw [upd_ne hxl2]; exact hx1),(T.ownD ac).cl,T.nT ac,by decide,?_⟩
  have hll2:l ≠ l2:=ne_of_none (s1 _ _ hl) hl2
  have hlx:l ≠ x:=ne_of hl hx (by intro z; cases z)
  refine ⟨_,rfl,l,_,rfl,.inl ⟨SqL.of (by rw [upd_ne hlx,upd_ne hll2]; exact s1 _ _ hl),fun t ht=>?_⟩⟩
  have htx:t ≠ x:=fun z=>by
   rw [z,upd_same] at ht
   cases ht
  have htl2:t ≠ l2:=fun z=>by
   rw [z,upd_ne (Ne.symm hxl2),upd_same] at ht
   cases ht
  refine ⟨_,rfl,x,_,dx,_,rfl,(by rw [upd_ne (Ne.symm htx),upd_same]),(T.ownD ac).cl,T.nL ac,(by show 1 < 1000; decide),?_⟩
  refine k l2 t _ (same_none s1 hl2) (same_none s1 (by rw [upd_ne htx,upd_ne htl2] at ht; exact ht)) upd_same ?_ ?_ fun b o hb hbx=>?_
  ·rw [upd_ne (Ne.symm hxl2),upd_ne (Ne.symm htl2),upd_ne (Ne.symm hxl2),upd_same]
  ·rw [upd_ne htx,upd_same]
  ·have hb1:=s1 _ _ hb
   have hbl2:b ≠ l2:=ne_of_none hb1 hl2
   have hbt:b ≠ t:=fun z=>by
    rw [z] at hb1
    rw [upd_ne htx,upd_ne htl2,hb1] at ht
    cases ht
   rw [upd_ne hbx,upd_ne hbt,upd_ne hbx,upd_ne hbl2]
   exact hb1
theorem scBInit:FnScope ["self","trees"] ["self","trees"] (defScope sBesideInit):=⟨rfl,rfl,rfl,by decide +kernel,rfl,by decide +kernel,by decide +kernel⟩
theorem scAInit:FnScope ["self","trees"] ["self","trees"] (defScope sAcrossInit):=⟨rfl,rfl,rfl,by decide +kernel,rfl,by decide +kernel,by decide +kernel⟩
theorem mk_Beside (T:Txt K mg cs):Mak P w K mg base 13 "Beside" cs.Beside ["self","trees"] (spDInit cs false):=by
 obtain ⟨f,fd,hm,F,hb⟩:=T.mkBeside
 refine ⟨f,fd,T.gBeside,hm,hb,F.ok scBInit (fun vs H Q E h=>?_) (fun cdv A outer s H vs Q E hr h=>?_)⟩
 ·obtain ⟨x,dx,l,rs,ts,rfl,_⟩:=h
  rfl
 ·obtain ⟨x,dx,l,rs,ts,rfl,hx,hl,hp,h2,hnd,h10,k⟩:=h
  obtain ⟨g,gd,gm,gb,G⟩:=lay_ok (P:=P) (w:=w) (base:=base) T false
  refine ⟨_,pss_one (ps_expr (pe_md P w K mg base _ (pv 0) (pa_cons (pv 1) pa_nil))),?_⟩
  exact ⟨_,rfl,x,_,dx,_,rfl,hx,rfl,T.oBeside.cl,g,gd,_,_,_,gm,G,hr,gb,_,rfl,x,dx,l,rs,ts,rfl,hx,hl,hp,h2,hnd,h10,k⟩
theorem mk_Across (T:Txt K mg cs):Mak P w K mg base 13 "Across" cs.Across ["self","trees"] (spDInit cs true):=by
 obtain ⟨f,fd,hm,F,hb⟩:=T.mkAcross
 refine ⟨f,fd,T.gAcross,hm,hb,F.ok scAInit (fun vs H Q E h=>?_) (fun cdv A outer s H vs Q E hr h=>?_)⟩
 ·obtain ⟨x,dx,l,rs,ts,rfl,_⟩:=h
  rfl
 ·obtain ⟨x,dx,l,rs,ts,rfl,hx,hl,hp,h2,hnd,h10,k⟩:=h
  obtain ⟨g,gd,gm,gb,G⟩:=lay_ok (P:=P) (w:=w) (base:=base) T true
  refine ⟨_,pss_one (ps_expr (pe_md P w K mg base _ (pv 0) (pa_cons (pv 1) pa_nil))),?_⟩
  exact ⟨_,rfl,x,_,dx,_,rfl,hx,rfl,T.oAcross.cl,g,gd,_,_,_,gm,G,hr,gb,_,rfl,x,dx,l,rs,ts,rfl,hx,hl,hp,h2,hnd,h10,k⟩
theorem new_doing {H N:Hp} {Q:VK} {E:XK} {ac:Bool} {l:Addr} {rs:List Addr} {ts:List Tr} (hN:Same N H) (hl:H l=some (.lst (rs.map V.ref))) (hp:Paired (TreeAt cs N 10) rs ts) (h2:2 <= ts.length) (hnd:(ptsL ts).Nodup) (h10:(ptsL ts).length <= 10)
  (q:∀ (x:Addr) (H':Hp),H x=none->Same H H'->(∀ M,Same N M->Same (fresh H H') M->TreeAt cs M 10 x (.doing ac ts))->Q (.ref x) H'):∀ x dx,H x=none->H dx=none->dx ≠ x ->
  spDInit cs ac ([V.ref x,V.ref l] ++ []) (upd (upd H dx (.own x)) x (.ins (cD cs ac) dx [])) (fun v H2=>v=.non/\Q (.ref x) H2) E:=by
 intro x dx hx hdx ne
 have s1:Same H (upd (upd H dx (.own x)) x (.ins (cD cs ac) dx [])):=same_upd' (same_upd' (Same.refl H) hdx) hx
 refine ⟨x,dx,l,rs,ts,rfl,upd_same,s1 _ _ hl,paired_mono (fun _ _ z=>z.same (hN.trans s1)) hp,h2,hnd,h10,fun l2 t H' n2 nt g1 g2 g3 g4=>⟨rfl,?_⟩⟩
 have s2:Same H H':=fun b o e=>g4 b o (s1 b o e) (ne_of_none e hx)
 refine q x H' hx s2 fun M m1 m2=>TreeAt.fit (k:=11) ⟨dx,l2,t,rs,m2 _ _ (fresh_of hx g1),m2 _ _ (fresh_of (same_none s1 nt) g3),m2 _ _ (fresh_of (same_none s1 n2) g2),paired_mono (fun _ _ z=>z.same m1) hp,h2⟩ h10
end
end Bw
namespace Bw
open PySem L2
section
variable {P:Program} {w:World} {K:PySem.W.Frag} {mg:Str->Option Value} {base:Heap} {cs:Cl}
theorem TreeAt.two {cs:Cl} {H:Hp}:∀ {k:Nat} {a:Addr} {tr:Tr},TreeAt cs H k a tr->tr.two
 | 0,_,_,h=>h.elim
 | k + 1,a,.pt n,h=>h.2
 | k + 1,a,.doing ac ts,h=>by
  obtain ⟨dx,l,t,rs,h1,h2,h3,h4,h5⟩:=h
  refine ⟨h5,?_⟩
  clear h1 h2 h3 h5
  induction h4 with
  | nil=>trivial
  | cons z _ ih=>exact ⟨TreeAt.two z,ih⟩
def tstrs (tss:List (List Nat)):List V:=(tss.map sx).map V.str
theorem tstrs_snoc (tss:List (List Nat)) (t:List Nat):tstrs tss ++ [V.str (sx t)]=tstrs (tss ++ [t]):=by simp [tstrs]
def spBrk (K:PySem.W.Frag):Sp:=fun vs H Q _=>∃ (l:Addr) (tss:List (List Nat)) (c:Nat),vs=[.ref l,.str (sx [c])]/\SqL K H l (tstrs tss)/\(tss.map (·.length)).sum + tss.length <= 1000/\Q (.str (sx (brkC (joinC c tss)))) H
theorem scBracketed:FnScope ["texts","sign","inner"] ["texts","sign"] (defScope sBracketed):=⟨rfl,rfl,rfl,by decide +kernel,rfl,by decide +kernel,by decide +kernel⟩
theorem brk_sx (x:List Nat):((Str.empty ++ Str.ofString "(") ++ sx x) ++ Str.ofString ")"=sx (brkC x):=by
 have e0:Str.empty=sx []:=rfl
 have e1:Str.ofString "("=sx [40]:=by decide +kernel
 have e2:Str.ofString ")"=sx [41]:=by decide +kernel
 rw [e0,e1,e2,sx_app,sx_app,sx_app]
 rfl
theorem paren_len:(Str.ofString "(").length=1/\(Str.ofString ")").length=1:=by decide +kernel
theorem ok_brk (T:Txt K mg cs):Cal P w K mg base 1 "bracketed" ["texts","sign"] (spBrk K):=by
 refine T.bracketed.cal scBracketed (fun vs H Q E h=>?_) (fun f cdv A outer s H vs Q E hr h=>?_)
 ·obtain ⟨l,tss,c,rfl,_⟩:=h
  rfl
 ·obtain ⟨l,tss,c,rfl,hl,hs,k⟩:=h
  refine ⟨_,pss_cons (ps_set (i:=2) scBracketed.nd rfl (Or.inl rfl) (pe_bm PySem.F.plainAttrs_str PySem.F.slot_str_join PySem.F.type_str_join (mt_join K) (pv 1) (pa_cons (pv 0) pa_nil)))
   (pss_one (ps_ret (pe_fs (pv 2) (by rw [paren_len.1]; decide)))),?_⟩
  have hm:(((tss.map sx).map (·.length)).sum)=(tss.map (·.length)).sum:=by
   rw [List.map_map]
   congr 1
  refine ⟨_,rfl,rfl,_,rfl,sx [c],l,tss.map sx,rfl,rfl,hl,?_,?_⟩
  ·rw [hm,List.length_map,sx_len]
   show _ + tss.length * 1 <= _
   omega
  ·rw [join_sx]
   have hj:=joinC_len c tss
   refine ⟨_,rfl,_,rfl,?_,?_⟩
   ·rw [paren_len.1,paren_len.2,sx_len]
    omega
   ·rw [brk_sx]
    exact k
theorem scBSign:FnScope ["self"] ["self"] (defScope sBesideSign):=⟨rfl,rfl,rfl,by decide +kernel,rfl,by decide +kernel,by decide +kernel⟩
theorem scASign:FnScope ["self"] ["self"] (defScope sAcrossSign):=⟨rfl,rfl,rfl,by decide +kernel,rfl,by decide +kernel,by decide +kernel⟩
theorem sgn_sx:Str.ofString "+"=sx [43]/\Str.ofString "*"=sx [42]:=by decide +kernel
theorem sign_ok (T:Txt K mg cs) {a dx l t:Addr} {ac:Bool} {H:Hp} {Q:VK} (h:H a=some (.ins (cD cs ac) dx (fD l t))) (q:Q (.str (sx [sgnC ac])) H):Asked P w K mg base 1 "sign" a H Q:=by
 refine ⟨_,dx,_,h,fD_no _ _ (by decide +kernel) (by decide +kernel),fun A hr=>⟨(T.ownD ac).cl,?_⟩⟩
 cases ac with
 | false =>
  obtain ⟨f,fd,hm,F,hb⟩:=T.mBesideSign
  refine ⟨f,fd,["self"],1,fun vs H Q _=>∃ a:Addr,vs=[.ref a]/\Q (.str (sx [43])) H,hm,?_,hr,hb,a,rfl,q⟩
  refine F.ok scBSign (fun vs H Q E h=>?_) (fun cdv A outer s H vs Q E hr h=>?_)
  ·obtain ⟨a,rfl,_⟩:=h
   rfl
  ·obtain ⟨a,rfl,q⟩:=h
   refine ⟨_,pss_one (ps_ret pe_str),?_⟩
   rw [<- sgn_sx.1] at q
   exact q
 | true =>
  obtain ⟨f,fd,hm,F,hb⟩:=T.mAcrossSign
  refine ⟨f,fd,["self"],1,fun vs H Q _=>∃ a:Addr,vs=[.ref a]/\Q (.str (sx [42])) H,hm,?_,hr,hb,a,rfl,q⟩
  refine F.ok scASign (fun vs H Q E h=>?_) (fun cdv A outer s H vs Q E hr h=>?_)
  ·obtain ⟨a,rfl,_⟩:=h
   rfl
  ·obtain ⟨a,rfl,q⟩:=h
   refine ⟨_,pss_one (ps_ret pe_str),?_⟩
   rw [<- sgn_sx.2] at q
   exact q
theorem Txt.mShape (T:Txt K mg cs) (ac:Bool):MethT K (cD cs ac) "shape" "Doing.shape" sDoingShape ["self"]:=by
 cases ac
 ·exact T.mBesideShape
 ·exact T.mAcrossShape
def gotShape (H:Hp) (tr:Tr) (Q:VK):Prop:=∀ H',Same H H'->Q (.str (sx tr.shape)) H'
theorem scPointShape:FnScope ["self"] ["self"] (defScope sPointShape):=⟨rfl,rfl,rfl,by decide +kernel,rfl,by decide +kernel,by decide +kernel⟩
theorem scDoingShape:FnScope ["self"] ["self"] (defScope sDoingShape):=⟨rfl,rfl,rfl,by decide +kernel,rfl,by decide +kernel,by decide +kernel⟩
def cDoingShape1:Scope:={ kind:=.function,names:=[(Str.ofString ".0",.local),(Str.ofString "tree",.local)],isGenerator:=false,isCoroutine:=false,more:=[] }
theorem cDoingShape1s:CScope ["self"] (defScope sDoingShape) cDoingShape1 ["tree"] []:=⟨rfl,by decide +kernel,by decide +kernel,by decide +kernel,by decide,by decide +kernel,by decide +kernel⟩
theorem shapeL_take {ts:List Tr} {i:Nat} {tr:Tr} (h:ts[i]? = some tr):shapeL (ts.take (i + 1))=shapeL (ts.take i) ++ [tr.shape]:=by
 rw [shapeL_map,shapeL_map,List.take_add_one,h,List.map_append]
 rfl
theorem o_sx:Str.ofString "o"=sx [111]:=by decide +kernel
theorem shape_all (T:Txt K mg cs):∀ (k:Nat) {a:Addr} {tr:Tr} {H:Hp} {Q:VK},TreeAt cs H k a tr->tr.pts.length <= 10->gotShape H tr Q->Asked P w K mg base (k + 1) "shape" a H Q
 | 0,_,_,_,_,h,_,_=>h.elim
 | k + 1,a,.pt n,H,Q,h,_,q=>by
  obtain ⟨⟨dx,e⟩,hn⟩:=h
  obtain ⟨f,fd,hm,F,hb⟩:=T.mPointShape
  refine ⟨cs.Point,dx,_,e,fP_no _ (by decide +kernel),fun A hr=>⟨T.oPoint.cl,f,fd,["self"],1,fun vs H Q _=>∃ (a:Addr),vs=[.ref a]/\Q (.str (sx [111])) H,hm,?_,hr.mono (by omega),hb,a,rfl,q H (Same.refl H)⟩⟩
  refine F.ok scPointShape (fun vs H Q E h=>?_) (fun cdv A outer s H vs Q E hr h=>?_)
  ·obtain ⟨a,rfl,_⟩:=h
   rfl
  ·obtain ⟨a,rfl,q⟩:=h
   refine ⟨_,pss_one (ps_ret pe_str),?_⟩
   rw [<- o_sx] at q
   exact q
 | k + 1,a,.doing ac ts,H,Q,h,hl,q=>by
  have htwo:=h.two
  obtain ⟨dx,l,t,rs,e,ht,hlst,hp,h2⟩:=h
  have CBracketed:Cal P w K mg base (k + 1) "bracketed" ["texts","sign"] (spBrk K):=(ok_brk T).mono (by omega)
  obtain ⟨f,fd,hm,F,hb⟩:=T.mShape ac
  refine ⟨_,dx,_,e,fD_no _ _ (by decide +kernel) (by decide +kernel),fun A hr=>⟨(T.ownD ac).cl,f,fd,["self"],k + 1 + 1,
   fun vs H Q _=>∃ (a dx l t:Addr) (rs:List Addr) (ts:List Tr),vs=[.ref a]/\H a=some (.ins (cD cs ac) dx (fD l t))/\H t=some (.tup (rs.map V.ref))/\Paired (TreeAt cs H k) rs ts/\(ptsL ts).length <= 10/\(Tr.doing ac ts).two/\gotShape H (.doing ac ts) Q,
   hm,?_,hr,hb,a,dx,l,t,rs,ts,rfl,e,ht,hp,hl,htwo,q⟩⟩
  refine F.ok scDoingShape (fun vs H Q E h=>?_) (fun cdv A outer s H vs Q E hr h=>?_)
  ·obtain ⟨a,dx,l,t,rs,ts,rfl,_⟩:=h
   rfl
  ·obtain ⟨a,dx,l,t,rs,ts,rfl,e,ht,hp,hl,htwo,q⟩:=h
   refine ⟨_,(pss_one (ps_ret (pe_cal CBracketed hr (by rfl) (pa_cons (pe_callB (call_sortS K) (by rfl) T.sorted PyProof.Rows.boot_sorted (pa_cons (pe_comp (sc:=cDoingShape1) rfl (pi_tupK K (pe_fld (pv 0) rfl)) cDoingShape1s (fun _ _ _ _=>(pg_name (i:=0) cDoingShape1s.nd rfl (Or.inl rfl))) (fun _ _ _ _=>pif_nil) (fun _ _ _ _=>(pe_md0 P w K mg base _ (pv 0)))) pa_nil)) (pa_cons (pe_md0 P w K mg base _ (pv 0)) pa_nil))))),?_⟩
   have hrl:=paired_len hp
   have h2':2 <= ts.length/\twoL ts:=htwo
   have hs:=shapeL_len ts h2'.2
   refine ⟨_,rfl,a,_,dx,_,_,rfl,e,(T.ownD ac).cl,T.nL ac,fD_laid _ _,t,rfl,⟨_,SqT.of ht⟩,comp_tup (K:=K) (a:=t) (xs:=rs.map V.ref) (fun i ys H1=>ys=tstrs (shapeL (ts.take i))/\Same H H1) ⟨rfl,Same.refl H⟩ (by rw [List.length_map,sizeLine_eq]; omega) (fun i ys H1 _ h=>SqT.of (h.2 _ _ ht)) ?_ ?_⟩
   ·rintro i x ys H1 hx hlt ⟨rfl,sm⟩ hyl hys
    obtain ⟨r,hr1,rfl⟩:=ref_at hx
    obtain ⟨tr,htr,hT⟩:=paired_get hp hr1
    have b1:=ptsL_mem htr
    refine gset ?_
    refine yes ?_
    refine iteT ?_
    refine ⟨_,rfl,asked_use (shape_all T k (hT.same sm) (by omega) fun H2 s2=>⟨hys,Pn.snoc hlt hyl ⟨?_,sm.trans s2⟩⟩) hr⟩
    rw [tstrs_snoc,shapeL_take htr]
   ·rintro ys H1 ⟨rfl,sm⟩ hyl l2 hl2
    rw [List.length_map,hrl,List.take_length]
    have s2:=same_upd (o:=.lst (tstrs (shapeL ts))) sm hl2
    have hsl:(shapeL ts).length=ts.length:=by rw [shapeL_map,List.length_map]
    refine ⟨l2,(shapeL ts).map sx,rfl,SqL.of upd_same,by rw [List.length_map]; omega,fun l3 zs hl3 hp3 hs3=>?_⟩
    have ez:=sort_sx hp3 hs3
    subst ez
    have s3:=same_upd (o:=.lst (tstrs (sortC (shapeL ts)))) s2 hl3
    refine ⟨_,rfl,asked_use (Asked.mono (sign_ok T (s3 _ _ e) ?_) (by omega)) hr⟩
    refine ⟨l3,sortC (shapeL ts),_,rfl,SqL.of upd_same,?_,q _ s3⟩
    rw [sortC_sum,sortC_len]
    omega
end
end Bw
namespace Bw
open PySem L2
section
variable {P:Program} {w:World} {K:PySem.W.Frag} {mg:Str->Option Value} {base:Heap} {cs:Cl}
def spGoesOn (K:PySem.W.Frag):Sp:=fun vs H Q _=>∃ (a b:Addr) (ws row:List Nat) (p:Nat),vs=[.ref a,.ref b,.int p]/\SqL K H a (vv ws)/\SqL K H b (vv row)/\p < ws.length/\row.length <= 1000/\∀ H',Same H H'->Q (.bl (goesM ws row p)) H'
theorem scGoesOn:FnScope ["web","row","point"] ["web","row","point"] (defScope sGoesOn):=⟨rfl,rfl,rfl,by decide +kernel,rfl,by decide +kernel,by decide +kernel⟩
def cGoesOn1:Scope:={ kind:=.function,names:=[(Str.ofString ".0",.local),(Str.ofString "other",.local),(Str.ofString "tied",.globalImplicit),(Str.ofString "point",.free),(Str.ofString "web",.free)],isGenerator:=false,isCoroutine:=false,more:=[] }
theorem cGoesOn1s:CScope ["web","row","point"] (defScope sGoesOn) cGoesOn1 ["web","point","other"] [0,2]:=⟨rfl,by decide +kernel,by decide +kernel,by decide +kernel,by decide,by decide +kernel,by decide +kernel⟩
theorem fil_snoc (f:Nat->Bool) (row:List Nat) {i:Nat} (hi:i < row.length) (h:f (row.getD i 0)=true):vv ((row.take i).filter f) ++ [V.int ((row.getD i 0:Nat):Int)]=vv ((row.take (i + 1)).filter f):=by
 rw [vv_snoc,List.take_succ,List.filter_append]
 rw [List.getD_eq_getElem?_getD,List.getElem?_eq_getElem hi] at h ⊢
 have e:(some row[i]).toList.filter f=[row[i]]:=by simpa using h
 rw [e]
 rfl
theorem fil_skip (f:Nat->Bool) (row:List Nat) {i:Nat} (hi:i < row.length) (h:f (row.getD i 0)=false):(row.take i).filter f=(row.take (i + 1)).filter f:=by
 rw [List.take_succ,List.filter_append]
 rw [List.getD_eq_getElem?_getD,List.getElem?_eq_getElem hi] at h
 rw [List.getElem?_eq_getElem hi]
 have e:(some row[i]).toList.filter f=[]:=by simpa using h
 rw [e,List.append_nil]
theorem cut_last (row:List Nat):cutV (vv row) (some (-1)) none=vv (row.drop (row.length - 1)):=by
 unfold cutV
 have e1:HT.sIx (vv row).length 0 (some (-1))=row.length - 1:=by
  unfold HT.sIx
  dsimp only
  rw [if_pos (by decide),vv_len]
  omega
 rw [e1,HT.sIx_none,vv_len]
 have e2:(vv row).drop (row.length - 1)=vv (row.drop (row.length - 1)):=by
  unfold vv iv
  rw [List.map_drop,List.map_drop]
 rw [e2]
 apply List.take_of_length_le
 rw [vv_len,List.length_drop]
 omega
theorem iv_dec (a b:List Nat):decide (iv a=iv b)=decide (a=b):=by
 rw [decide_eq_decide]
 exact ⟨iv_inj,fun e=>by rw [e]⟩
theorem ok_goesOn (T:Txt K mg cs):Cal P w K mg base 2 "goes_on" ["web","row","point"] (spGoesOn K):=by
 have CTied:Cal P w K mg base 1 "tied" ["web","one","other"] (spTied K):=(ok_tied T).mono (by decide)
 refine T.goesOn.cal scGoesOn (fun vs H Q E h=>?_) (fun f cdv A outer s H vs Q E hr h=>?_)
 ·obtain ⟨a,b,ws,row,p,rfl,_⟩:=h
  rfl
 ·obtain ⟨a,b,ws,row,p,rfl,hw,hb,hp,hl,k⟩:=h
  have hu:=hu_of hr
  have hu64:=hr.units
  refine ⟨_,(pss_one (ps_ret (pe_cmpR (op_eqL hu64) (pe_comp (sc:=cGoesOn1) rfl (pi_listK K (pv 1)) cGoesOn1s (fun _ _ _ _=>(pg_name (i:=2) cGoesOn1s.nd rfl (Or.inl rfl))) (fun _ _ _ _=>(pif_one (pt_val (pe_cal CTied hr (by rfl) (pa_cons (pv 0) (pa_cons (pv 1) (pa_cons (pv 2) pa_nil))))))) (fun _ _ _ _=>(pv 2))) (pe_slice (sl_listK K) (pv 1) (po_some (pe_un un_neg pe_int)) po_none) (nomark _)))),?_⟩
  refine ⟨_,rfl,b,rfl,⟨_,hb⟩,comp_list (K:=K) (a:=b) (xs:=vv row) (fun i ys H'=>ys=vv ((row.take i).filter fun o=>bit ws p o)/\H'=H) ⟨rfl,rfl⟩ (by rw [vv_len,sizeLine_eq]; omega) (fun i ys H' _ h=>by rw [h.2]; exact hb) ?_ ?_⟩
  ·rintro i x ys H' hx hlt ⟨rfl,rfl⟩ hyl hys
   obtain ⟨hi,rfl⟩:=vv_at hx
   refine gset ?_
   refine ⟨_,rfl,_,rfl,_,rfl,a,ws,p,row.getD i 0,rfl,hw,hp,_,rfl,?_⟩
   refine ite2 (fun hb1=>?_) (fun hb1=>?_)
   ·refine ⟨_,rfl,hys,Pn.snoc hlt hyl ⟨?_,rfl⟩⟩
    exact fil_snoc (fun o=>bit ws p o) row hi hb1
   ·refine Pn.mk hlt (by omega) ⟨?_,rfl⟩
    rw [fil_skip (fun o=>bit ws p o) row hi (by simpa using hb1)]
  ·rintro ys H' ⟨rfl,rfl⟩ hyl l hl1
   rw [vv_len,List.take_length]
   have s1:Same H' (upd H' l (.lst (vv (row.filter fun o=>bit ws p o)))):=same_upd (Same.refl _) hl1
   refine ⟨_,rfl,_,rfl,_,rfl,b,vv row,rfl,s1.seq hb,fun q hq=>?_⟩
   rw [show (-1:Int) = -1 from rfl,cut_last]
   refine ⟨l,q,iv (row.filter fun o=>bit ws p o),iv (row.drop (row.length - 1)),rfl,rfl,SqL.of ?_,SqL.of upd_same,?_⟩
   ·have hlq:l ≠ q:=fun z=>by
     rw [<- z,upd_same] at hq
     cases hq
    rw [upd_ne hlq,upd_same]
    rfl
   ·show Q (.bl (decide _)) _
    rw [iv_dec]
    exact k _ (same_upd s1 hq)
def RowsAt (H:Hp) (l:Addr) (rows:List (List Nat)):Prop:=∃ rs:List Addr,H l=some (.lst (rs.map V.ref))/\Paired (fun r ns=>H r=some (.lst (vv ns))) rs rows
theorem PartsAt.rows {H H':Hp} {l:Addr} {nss:List (List Nat)} (h:PartsAt H H' l nss):RowsAt H' l nss:=by
 obtain ⟨rs,h1,h2⟩:=h
 exact ⟨rs,h1,paired_mono (fun _ _ z=>z.2.2) h2⟩
def spLongerRows (K:PySem.W.Frag):Sp:=fun vs H Q _=>∃ (a g:Addr) (ws:List Nat) (rows:List (List Nat)),vs=[.ref a,.ref g]/\SqL K H a (vv ws)/\RowsAt H g rows/\ws.length <= 10/\rows.length <= 10000/\(∀ r ∈ rows,r.length <= 100) /\
 ∀ (l:Addr) (H':Hp),H l=none->Same H H'->PartsAt H H' l (longerM ws rows)->Q (.ref l) H'
theorem scLongerRows:FnScope ["web","rows","longer","row"] ["web","rows"] (defScope sLongerRows):=⟨rfl,rfl,rfl,by decide +kernel,rfl,by decide +kernel,by decide +kernel⟩
def cLongerRows1:Scope:={ kind:=.function,names:=[(Str.ofString ".0",.local),(Str.ofString "point",.local),(Str.ofString "goes_on",.globalImplicit),(Str.ofString "row",.free),(Str.ofString "web",.free)],isGenerator:=false,isCoroutine:=false,more:=[] }
theorem cLongerRows1s:CScope ["web","rows","longer","row"] (defScope sLongerRows) cLongerRows1 ["web","row","point"] [0,3]:=⟨rfl,by decide +kernel,by decide +kernel,by decide +kernel,by decide,by decide +kernel,by decide +kernel⟩
theorem longer_take {ws:List Nat} {rows:List (List Nat)} {i:Nat} {row:List Nat} (h:rows[i]? = some row):longerM ws (rows.take (i + 1))=longerM ws (rows.take i) ++ ((List.range ws.length).filter (goesM ws row)).map fun p=>row ++ [p]:=by
 unfold longerM
 rw [List.take_add_one,h,List.flatMap_append]
 show _ ++ ([row].flatMap _)=_
 rw [List.flatMap_cons,List.flatMap_nil,List.append_nil]
theorem paired_app {α β:Type} {F:α->β->Prop}:∀ {l₁:List α} {l₂:List β} {m₁:List α} {m₂:List β},Paired F l₁ l₂->Paired F m₁ m₂->Paired F (l₁ ++ m₁) (l₂ ++ m₂)
 | _,_,_,_,.nil,h=>h
 | _,_,_,_,.cons a t,h=>.cons a (paired_app t h)
theorem ok_longerRows (T:Txt K mg cs):Cal P w K mg base 3 "longer_rows" ["web","rows"] (spLongerRows K):=by
 have CGoesOn:Cal P w K mg base 2 "goes_on" ["web","row","point"] (spGoesOn K):=(ok_goesOn T).mono (by decide)
 refine T.longerRows.cal scLongerRows (fun vs H Q E h=>?_) (fun f cdv A outer s H vs Q E hr h=>?_)
 ·obtain ⟨a,g,ws,rows,rfl,_⟩:=h
  rfl
 ·obtain ⟨a,g,ws,rows,rfl,hw,hg,h10,hrn,hrl,k⟩:=h
  have hu:=hu_of hr
  have hu64:=hr.units
  refine ⟨_,(pss_cons (ps_set (i:=2) scLongerRows.nd rfl (Or.inl rfl) (pe_lst pa_nil))
   (pss_cons (ps_for PassesOwn.never rfl (pi_listK K (pv 1)) (pg_name (i:=3) scLongerRows.nd rfl (Or.inr rfl))
   (pss_one (ps_expr (pe_bm PySem.F.plainAttrs_list PySem.F.slot_list_extend PySem.F.type_list_extend mt_extend (pv 2) (pa_cons (pe_comp (sc:=cLongerRows1) rfl (pi_range1 rfl T.range (pa_cons (pe_callB (call_lenK K) (by rfl) T.len PySem.boot_len (pa_cons (pv 0) pa_nil)) pa_nil)) cLongerRows1s (fun _ _ _ _=>(pg_name (i:=2) cLongerRows1s.nd rfl (Or.inl rfl))) (fun _ _ _ _=>(pif_one (pt_val (pe_cal CGoesOn hr (by rfl) (pa_cons (pv 0) (pa_cons (pv 1) (pa_cons (pv 2) pa_nil))))))) (fun _ _ _ _=>(pe_op op_cat (pv 1) (pe_lst (pa_cons (pv 2) pa_nil))))) pa_nil)))))
   (pss_one (ps_ret (pv 2))))),?_⟩
  obtain ⟨rs0,hg1,hg2⟩:=hg
  refine ⟨Nat.zero_le _,fun l hl=>?_⟩
  have s0:Same H (upd H l (.lst [])):=same_upd (Same.refl H) hl
  have hbound:∀ i,(longerM ws (rows.take i)).length <= 100000:=fun i=>by
   have h1:=longer_len ws (rows.take i)
   have h2:(rows.take i).length <= rows.length:=by rw [List.length_take]; omega
   have h3:ws.length * (rows.take i).length <= 10 * 10000:=Nat.mul_le_mul h10 (by omega)
   omega
  refine ⟨_,rfl,g,rfl,⟨_,SqL.of (s0 _ _ hg1)⟩,for_list (K:=K) (a:=g) (xs:=rs0.map V.ref) (fun i σ H1=>∃ rs v,σ=[some (.ref a),some (.ref g),some (.ref l),v]/\H1 l=some (.lst (rs.map V.ref))/\Paired (fun r ns=>H r=none/\r ≠ l/\H1 r=some (.lst (vv ns))) rs (longerM ws (rows.take i))/\Same H H1)
   ⟨[],_,rfl,upd_same,.nil,s0⟩ (fun i σ H1 _ ⟨_,_,_,_,_,s⟩=>SqL.of (s _ _ hg1)) ?_ ?_⟩
  ·rintro i x σ H1 hx ⟨rs,v,rfl,h1l,h1p,s1⟩
   obtain ⟨r,hr1,rfl⟩:=ref_at hx
   obtain ⟨row,hrow,hT⟩:=paired_get hg2 hr1
   have hrow':=hrl row (List.mem_of_getElem? hrow)
   refine ⟨_,rfl,.inl ⟨rfl,_,SqL.of h1l⟩,_,rfl,a,vv ws,rfl,.inl (s1.seq hw),_,rfl,by rw [vv_len]; omega,by rw [vv_len]; omega,?_⟩
   rw [vv_len,Int.toNat_natCast]
   refine comp_range (n:=ws.length) (fun j ys H2=>∃ rs',ys=rs'.map V.ref/\Paired (fun r' ns=>H1 r'=none/\H2 r'=some (.lst (vv ns))) rs' (((List.range j).filter (goesM ws row)).map fun p=>row ++ [p])/\Same H1 H2) ⟨[],rfl,.nil,Same.refl _⟩ (by rw [sizeLine_eq]; omega) ?_ ?_
   ·rintro j ys H2 hj ⟨rs',rfl,h2p,s2⟩ hyl hys
    have e0:(0:Int) + (j:Int)=((j:Nat):Int):=by omega
    rw [e0]
    refine gset ?_
    refine ⟨_,rfl,_,rfl,_,rfl,a,r,ws,row,j,rfl,(s1.trans s2).seq hw,SqL.of (s2 _ _ (s1 _ _ hT)),hj,by omega,fun H3 s3=>⟨_,rfl,?_⟩⟩
    refine ite2 (fun hb1=>?_) (fun hb1=>?_)
    ·refine ⟨_,rfl,_,rfl,by rw [sizeLine_eq]; show 1 <= _; decide,fun q hq=>?_⟩
     have h3r:H3 r=some (.lst (vv row)):=s3 _ _ (s2 _ _ (s1 _ _ hT))
     have s4:=same_upd (o:=.lst [V.int (j:Int)]) (Same.refl H3) hq
     refine ⟨r,q,vv row,[V.int (j:Int)],rfl,rfl,s4 _ _ h3r,upd_same,by rw [vv_len,sizeLine_eq]; show _ + 1 <= _; omega,fun p hp=>⟨hys,Pn.snoc hj hyl ⟨rs' ++ [p],by rw [List.map_append]; rfl,?_,?_⟩⟩⟩
     ·rw [List.range_succ,List.filter_append,List.map_append]
      have ef:[j].filter (goesM ws row)=[j]:=by simp [hb1]
      rw [ef]
      have s5:Same H3 (upd (upd H3 q (.lst [V.int (j:Int)])) p (.lst (vv row ++ [V.int (j:Int)]))):=same_upd s4 hp
      refine paired_snoc (paired_mono (fun r' ns h=>⟨h.1,s5 _ _ (s3 _ _ h.2)⟩) h2p) ⟨same_none (s2.trans s3) (same_none s4 hp),by rw [upd_same,vv_snoc]⟩
     ·exact (s2.trans s3).trans (same_upd s4 hp)
    ·refine Pn.mk hj (by omega) ⟨rs',rfl,?_,s2.trans s3⟩
     rw [List.range_succ,List.filter_append]
     have ef:[j].filter (goesM ws row)=[]:=by simp [hb1]
     rw [ef,List.append_nil]
     exact paired_mono (fun r' ns h=>⟨h.1,s3 _ _ h.2⟩) h2p
   ·rintro ys H2 ⟨rs',rfl,h2p,s2⟩ hyl q hq
    have s3:Same H2 (upd H2 q (.lst (rs'.map V.ref))):=same_upd (Same.refl _) hq
    have h3l:=s3 _ _ (s2 _ _ h1l)
    have b1:=hbound (i + 1)
    rw [longer_take hrow,List.length_append] at b1
    have b2:=paired_len h1p
    have b3:=paired_len h2p
    refine ⟨l,q,_,_,rfl,rfl,h3l,upd_same,by rw [List.length_map,List.length_map,sizeLine_eq]; omega,?_⟩
    refine ⟨rs ++ rs',_,rfl,by rw [upd_same,List.map_append],?_,same_upd' ((s1.trans s2).trans s3) hl⟩
    rw [longer_take hrow]
    have hne:∀ r',H1 r'=none->r' ≠ l:=fun r' h z=>by
     rw [z,h1l] at h
     cases h
    refine paired_app (paired_mono (fun r' ns h=>⟨h.1,h.2.1,by rw [upd_ne h.2.1]; exact s3 _ _ (s2 _ _ h.2.2)⟩) h1p) (paired_mono (fun r' ns h=>⟨same_none s1 h.1,hne r' h.1,by rw [upd_ne (hne r' h.1)]; exact s3 _ _ h.2⟩) h2p)
  ·rintro σ H1 ⟨rs,v,rfl,h1l,h1p,s1⟩
   refine ⟨_,rfl,k l H1 hl s1 ⟨rs,h1l,?_⟩⟩
   rw [List.length_map,paired_len hg2,List.take_length] at h1p
   exact h1p
def spRowIn (K:PySem.W.Frag):Sp:=fun vs H Q _=>∃ (a:Addr) (ws:List Nat),vs=[.ref a]/\SqL K H a (vv ws)/\ws.length <= 10 /\
 (stepsM ws 4=[]->∀ H',Same H H'->Q .non H')/\∀ (r:List Nat) (rest:List (List Nat)) (l:Addr) (H':Hp),stepsM ws 4=r::rest->H l=none->Same H H'->H' l=some (.lst (vv r))->Q (.ref l) H'
theorem scRowIn:FnScope ["web","rows","step"] ["web"] (defScope sRowIn):=⟨rfl,rfl,rfl,by decide +kernel,rfl,by decide +kernel,by decide +kernel⟩
theorem ok_rowIn (T:Txt K mg cs):Cal P w K mg base 4 "row_in" ["web"] (spRowIn K):=by
 have CLongerRows:Cal P w K mg base 3 "longer_rows" ["web","rows"] (spLongerRows K):=(ok_longerRows T).mono (by decide)
 refine T.rowIn.cal scRowIn (fun vs H Q E h=>?_) (fun f cdv A outer s H vs Q E hr h=>?_)
 ·obtain ⟨a,ws,rfl,_⟩:=h
  rfl
 ·obtain ⟨a,ws,rfl,hw,h10,k1,k2⟩:=h
  have hu:=hu_of hr
  have hu64:=hr.units
  refine ⟨_,(pss_cons (ps_set (i:=1) scRowIn.nd rfl (Or.inl rfl) (pe_lst (pa_cons (pe_lst pa_nil) pa_nil)))
   (pss_cons (ps_for PassesOwn.never rfl (pi_range1 rfl T.range (pa_cons pe_int pa_nil)) (pg_name (i:=2) scRowIn.nd rfl (Or.inl rfl))
   (pss_one (ps_set (i:=1) scRowIn.nd rfl (Or.inl rfl) (pe_cal CLongerRows hr (by rfl) (pa_cons (pv 0) (pa_cons (pv 1) pa_nil))))))
   (pss_one (ps_ret (pe_ifExp (pt_cmpR op_gt (pe_callB (call_lenK K) (by rfl) T.len PySem.boot_len (pa_cons (pv 1) pa_nil)) pe_int (nomark _)) (pe_ix (ix_listK K) (pv 1) pe_int (fun _ _=>rfl)) pe_non))))),?_⟩
  refine ⟨Nat.zero_le _,fun e he=>?_⟩
  refine ⟨by rw [sizeLine_eq]; show 1 <= _; decide,fun g hg=>?_⟩
  have s0:Same H (upd H e (.lst [])):=same_upd (Same.refl H) he
  have s1:Same H (upd (upd H e (.lst [])) g (.lst [V.ref e])):=same_upd s0 hg
  refine ⟨4,rfl,by decide,by decide,?_⟩
  refine for_range (n:=4) (fun i σ H1=>∃ g v,σ=[some (.ref a),some (.ref g),v]/\PartsAt H H1 g (stepsM ws i)/\Same H H1) ⟨g,_,rfl,⟨[e],upd_same,.cons ⟨he,?_,?_⟩ .nil⟩,s1⟩ ?_ ?_
  ·intro z
   rw [<- z,upd_same] at hg
   cases hg
  ·have:e ≠ g:=fun z=>by
    rw [<- z,upd_same] at hg
    cases hg
   rw [upd_ne this,upd_same]
   rfl
  ·rintro i σ H1 hi ⟨g,v,rfl,hp,s1⟩
   have hlen:=steps_len h10 i
   have h4:10 ^ i <= 10 ^ 3:=Nat.pow_le_pow_right (by decide) (by omega)
   refine ⟨_,rfl,_,rfl,a,g,ws,stepsM ws i,rfl,s1.seq hw,hp.rows,h10,by omega,fun r hr=>?_,fun l H2 hl s2 hp2=>?_⟩
   ·have:=(steps_row i r hr).1
    omega
   ·obtain ⟨rs,q1,q2⟩:=hp2
    exact ⟨l,_,rfl,⟨rs,q1,paired_mono (fun _ _ z=>⟨same_none s1 z.1,z.2.1,z.2.2⟩) q2⟩,s1.trans s2⟩
  ·rintro σ H1 ⟨g,v,rfl,⟨rs,q1,q2⟩,s1⟩
   refine ⟨_,rfl,g,_,rfl,.inl (SqL.of q1),_,_,rfl,rfl,_,rfl,?_⟩
   have hl:=paired_len q2
   cases q:stepsM ws 4 with
   | nil =>
    rw [q] at hl q2
    have e0:decide ((0:Int) < ((rs.map V.ref).length:Int))=false:=decide_eq_false (by rw [List.length_map,hl]; decide)
    refine iteF' e0 ?_
    exact k1 q H1 s1
   | cons r rest =>
    rw [q] at hl q2
    cases q2 with
    | @cons r' _ rs' _ z z2 =>
     have e0:decide ((0:Int) < (((r'::rs').map V.ref).length:Int))=true:=decide_eq_true (by rw [List.length_map,List.length_cons]; omega)
     refine iteT' e0 ?_
     exact ⟨_,rfl,g,_,_,_,rfl,rfl,SqL.of q1,atI_nat (j:=0) rfl,k2 r rest r' H1 q z.1 s1 z.2.2⟩
end
end Bw
namespace Bw
open PySem L2
section
variable {P:Program} {w:World} {K:PySem.W.Frag} {mg:Str->Option Value} {base:Heap} {cs:Cl}
def spTreeAmong (cs:Cl) (f:Nat):Sp:=fun vs H Q _=>∃ (a b:Addr) (ws pts:List Nat),vs=[.ref a,.ref b]/\H a=some (.lst (vv ws))/\Web ws/\H b=some (.lst (vv pts))/\GoodP ws pts/\pts.length <= f/\gotTree cs 10 H (treeM f ws pts) Q
def TreesAt (cs:Cl) (N H:Hp) (l:Addr) (ts:List Tr):Prop:=∃ rs:List Addr,H l=some (.lst (rs.map V.ref))/\Paired (TreeAt cs N 10) rs ts
def spTreesAmong (cs:Cl) (f:Nat):Sp:=fun vs H Q _=>∃ (a b g:Addr) (ws pts:List Nat) (gs:List (List Nat)),vs=[.ref a,.ref b,.ref g]/\H a=some (.lst (vv ws))/\Web ws/\H b=some (.lst (vv pts))/\GoodP ws pts/\RowsAt H g gs/\Groups pts gs/\pts.length <= f + 1 /\
 ∀ (l:Addr) (H':Hp),H l=none->Same H H'->TreesAt cs (fresh H H') H' l (gs.map fun g=>treeM f ws (atM pts g))->Q (.ref l) H'
theorem scTreesAmong:FnScope ["web","points","groups","trees","group"] ["web","points","groups"] (defScope sTreesAmong):=⟨rfl,rfl,rfl,by decide +kernel,rfl,by decide +kernel,by decide +kernel⟩
def cTreesAmong1:Scope:={ kind:=.function,names:=[(Str.ofString ".0",.local),(Str.ofString "place",.local),(Str.ofString "points",.free)],isGenerator:=false,isCoroutine:=false,more:=[] }
theorem cTreesAmong1s:CScope ["web","points","groups","trees","group"] (defScope sTreesAmong) cTreesAmong1 ["points","place"] [1]:=⟨rfl,by decide +kernel,by decide +kernel,by decide +kernel,by decide,by decide +kernel,by decide +kernel⟩
theorem scTreeAmong:FnScope ["web","points","alone","groups"] ["web","points"] (defScope sTreeAmong):=⟨rfl,rfl,rfl,by decide +kernel,rfl,by decide +kernel,by decide +kernel⟩
theorem trees_step (T:Txt K mg cs) (n:Nat) (CTreeAmong:Cal P w K mg base (2 * n + 15) "tree_among" ["web","points"] (spTreeAmong cs n)):Cal P w K mg base (2 * n + 16) "trees_among" ["web","points","groups"] (spTreesAmong cs n):=by
 refine T.treesAmong.cal scTreesAmong (fun vs H Q E h=>?_) (fun f cdv A outer s H vs Q E hr h=>?_)
 ·obtain ⟨a,b,g,ws,pts,gs,rfl,_⟩:=h
  rfl
 ·obtain ⟨a,b,g,ws,pts,gs,rfl,ha,W,hb,G,hg,gr,hf,k⟩:=h
  obtain ⟨rs0,hg1,hg2⟩:=hg
  have hpl:=G.len W
  refine ⟨_,(pss_cons (ps_set (i:=3) scTreesAmong.nd rfl (Or.inl rfl) (pe_lst pa_nil))
   (pss_cons (ps_for PassesOwn.never rfl (pi_listK K (pv 2)) (pg_name (i:=4) scTreesAmong.nd rfl (Or.inl rfl))
   (pss_one (ps_expr (pe_bm PySem.F.plainAttrs_list PySem.F.slot_list_append PySem.F.type_list_append mt_append (pv 3) (pa_cons (pe_cal CTreeAmong hr (by rfl) (pa_cons (pv 0) (pa_cons (pe_comp (sc:=cTreesAmong1) rfl (pi_listK K (pv 4)) cTreesAmong1s (fun _ _ _ _=>(pg_name (i:=1) cTreesAmong1s.nd rfl (Or.inl rfl))) (fun _ _ _ _=>pif_nil) (fun _ _ _ _=>(pe_ix (ix_listK K) (pv 0) (pv 1) (fun _ _=>rfl)))) pa_nil))) pa_nil)))))
   (pss_one (ps_ret (pv 3))))),?_⟩
  refine ⟨Nat.zero_le _,fun l hl=>?_⟩
  have s0:Same H (upd H l (.lst [])):=same_upd (Same.refl H) hl
  refine ⟨_,rfl,g,rfl,⟨_,SqL.of (s0 _ _ hg1)⟩,for_list (K:=K) (a:=g) (xs:=rs0.map V.ref) (fun i σ H1=>∃ rs v,σ=[some (.ref a),some (.ref b),some (.ref g),some (.ref l),v]/\H1 l=some (.lst (rs.map V.ref))/\Paired (TreeAt cs (fresh (upd H l (.lst [])) H1) 10) rs ((gs.take i).map fun g=>treeM n ws (atM pts g))/\Same H H1)
   ⟨[],_,rfl,upd_same,.nil,s0⟩ (fun i σ H1 _ ⟨_,_,_,_,_,s⟩=>SqL.of (s _ _ hg1)) ?_ ?_⟩
  ·rintro i x σ H1 hx ⟨rs,v,rfl,h1l,h1p,s1⟩
   obtain ⟨r,hr1,rfl⟩:=ref_at hx
   obtain ⟨grp,hgrp,hT⟩:=paired_get hg2 hr1
   have hm:=List.mem_of_getElem? hgrp
   have gsm:=gr.small grp hm
   have hi:i < gs.length:=(List.getElem?_eq_some_iff.mp hgrp).1
   refine ⟨_,rfl,.inl ⟨rfl,_,SqL.of h1l⟩,_,rfl,_,rfl,r,rfl,⟨_,SqL.of (s1 _ _ hT)⟩,comp_list (K:=K) (a:=r) (xs:=vv grp) (fun j ys H2=>ys=vv (atM pts (grp.take j))/\H2=H1) ⟨rfl,rfl⟩ (by rw [vv_len,sizeLine_eq]; omega) (fun j ys H2 _ h=>by rw [h.2]; exact SqL.of (s1 _ _ hT)) ?_ ?_⟩
   ·rintro j y ys H2 hy hlt ⟨rfl,rfl⟩ hyl hys
    obtain ⟨hj,rfl⟩:=vv_at hy
    have hjl:grp.getD j 0 < pts.length:=gr.lt grp hm _ (getD_mem hj)
    refine gset ?_
    refine yes ?_
    refine iteT ?_
    refine ⟨_,rfl,_,rfl,b,_,_,_,rfl,rfl,SqL.of (s1 _ _ hb),atI_nat (vv_get hjl),hys,Pn.snoc hlt hyl ⟨?_,rfl⟩⟩
    exact map_take_snoc (fun i=>pts.getD i 0) grp hj
   ·rintro ys H2 ⟨rfl,rfl⟩ hyl q hq
    rw [vv_len,List.take_length]
    have s2:Same H2 (upd H2 q (.lst (vv (atM pts grp)))):=same_upd (Same.refl _) hq
    have G2:=G.sub (gr.ne grp hm) (gr.srt grp hm) (gr.lt grp hm)
    refine ⟨a,q,ws,atM pts grp,rfl,s2 _ _ (s1 _ _ ha),W,upd_same,G2,by unfold atM; rw [List.length_map]; omega,fun x H3 hx s3 hT3=>?_⟩
    have h3l:=s3 _ _ (s2 _ _ h1l)
    have hlen:=paired_len h1p
    rw [List.length_map,List.length_take] at hlen
    refine ⟨l,_,_,rfl,rfl,h3l,by rw [List.length_map,sizeLine_eq]; have:=gr.many; omega,?_⟩
    have hxl:x ≠ l:=fun z=>by
     have:=s2 _ _ h1l
     rw [z,this] at hx
     cases hx
    refine ⟨rs ++ [x],_,rfl,by rw [upd_same,List.map_append]; rfl,?_,same_upd' ((s1.trans s2).trans s3) hl⟩
    have em:(gs.take (i + 1)).map (fun g=>treeM n ws (atM pts g))=(gs.take i).map (fun g=>treeM n ws (atM pts g)) ++ [treeM n ws (atM pts grp)]:=by
     rw [List.take_add_one,hgrp,List.map_append]
     rfl
    rw [em]
    have nl:∀ b,upd H l (.lst []) b=none->b ≠ l:=fun b e z=>by
     rw [z,upd_same] at e
     cases e
    have nq:∀ b,upd H2 q (.lst (vv (atM pts grp))) b=none->b ≠ l:=fun b e z=>by
     have:=s2 _ _ h1l
     rw [z,this] at e
     cases e
    have A1:Same (fresh (upd H l (.lst [])) H2) (fresh (upd H l (.lst [])) (upd H3 l (.lst (rs.map V.ref ++ [V.ref x])))):=fresh_le (fun b e=>e) fun b o e e2=>by
     rw [upd_ne (nl b e)]
     exact s3 _ _ (s2 _ _ e2)
    have A2:Same (fresh (upd H2 q (.lst (vv (atM pts grp)))) H3) (fresh (upd H l (.lst [])) (upd H3 l (.lst (rs.map V.ref ++ [V.ref x])))):=fresh_le (fun b e=>by
     rw [upd_ne (nq b e)]
     exact same_none (s1.trans s2) e) fun b o e e2=>by
     rw [upd_ne (nq b e)]
     exact e2
    exact paired_snoc (paired_mono (fun r' t h=>h.same A1) h1p) (hT3.same A2)
  ·rintro σ H1 ⟨rs,v,rfl,h1l,h1p,s1⟩
   refine ⟨_,rfl,k l H1 hl s1 ⟨rs,h1l,?_⟩⟩
   rw [List.length_map,paired_len hg2,List.take_length] at h1p
   refine paired_mono (fun r' t h=>h.same (fresh_le (fun b e=>?_) fun b o e e2=>e2)) h1p
   by_cases z:b=l
   ·rw [z]; exact hl
   ·rw [upd_ne z] at e; exact e
theorem tree_all (T:Txt K mg cs):∀ n:Nat,Cal P w K mg base (2 * n + 15) "tree_among" ["web","points"] (spTreeAmong cs n)
 | 0=>by
  refine T.treeAmong.cal scTreeAmong (fun vs H Q E h=>?_) (fun f cdv A outer s H vs Q E hr h=>?_)
  ·obtain ⟨a,b,ws,pts,rfl,_⟩:=h
   rfl
  ·obtain ⟨a,b,ws,pts,rfl,ha,W,hb,G,hf,k⟩:=h
   exact absurd (List.length_pos_iff.mpr G.ne) (by omega)
 | n + 1=>by
  have CTreesAmong:Cal P w K mg base (2 * n + 16) "trees_among" ["web","points","groups"] (spTreesAmong cs n):=trees_step T n (tree_all T n)
  have CAmong:Cal P w K mg base (2 * n + 16) "among" ["web","points"] spAmong:=(ok_among T).mono (by omega)
  have CParts:Cal P w K mg base (2 * n + 16) "parts" ["web"] spParts:=(ok_parts T).mono (by omega)
  have CTurned:Cal P w K mg base (2 * n + 16) "turned" ["web"] spTurned:=(ok_turned T).mono (by omega)
  have MPoint:=mk_Point (P:=P) (w:=w) (base:=base) T
  have MBeside:=mk_Beside (P:=P) (w:=w) (base:=base) T
  have MAcross:=mk_Across (P:=P) (w:=w) (base:=base) T
  refine FnT.cal (k:=2 * n + 16) T.treeAmong scTreeAmong (fun vs H Q E h=>?_) (fun f cdv A outer s H vs Q E hr h=>?_)
  ·obtain ⟨a,b,ws,pts,rfl,_⟩:=h
   rfl
  ·obtain ⟨a,b,ws,pts,rfl,ha,W,hb,G,hf,k⟩:=h
   have hpl:=G.len W
   have hp0:=List.length_pos_iff.mpr G.ne
   have hbw:=SqL.of (K:=K) hb
   refine ⟨_,(pss_cons (ps_if (pt_cmpR op_eq (pe_callB (call_lenK K) (by rfl) T.len PySem.boot_len (pa_cons (pv 1) pa_nil)) pe_int (nomark _))
   (pss_one (ps_ret (pe_mk MPoint (hr.mono (by omega)) (by rfl) (pa_cons (pe_ix (ix_listK K) (pv 1) pe_int (fun _ _=>rfl)) pa_nil))))
   pss_nil)
   (pss_cons (ps_set (i:=2) scTreeAmong.nd rfl (Or.inl rfl) (pe_cal CAmong hr (by rfl) (pa_cons (pv 0) (pa_cons (pv 1) pa_nil))))
   (pss_cons (ps_set (i:=3) scTreeAmong.nd rfl (Or.inl rfl) (pe_cal CParts hr (by rfl) (pa_cons (pv 2) pa_nil)))
   (pss_cons (ps_if (pt_cmpR op_gt (pe_callB (call_lenK K) (by rfl) T.len PySem.boot_len (pa_cons (pv 3) pa_nil)) pe_int (nomark _))
   (pss_one (ps_ret (pe_mk MBeside (hr.mono (by omega)) (by rfl) (pa_cons (pe_cal CTreesAmong hr (by rfl) (pa_cons (pv 0) (pa_cons (pv 1) (pa_cons (pv 3) pa_nil)))) pa_nil))))
   pss_nil)
   (pss_one (ps_ret (pe_mk MAcross (hr.mono (by omega)) (by rfl) (pa_cons (pe_cal CTreesAmong hr (by rfl) (pa_cons (pv 0) (pa_cons (pv 1) (pa_cons (pe_cal CParts hr (by rfl) (pa_cons (pe_cal CTurned hr (by rfl) (pa_cons (pv 2) pa_nil)) pa_nil)) pa_nil)))) pa_nil)))))))),?_⟩
   refine ⟨_,rfl,b,_,rfl,.inl hbw,rfl,_,rfl,?_⟩
   rw [vv_len]
   by_cases h1:pts.length=1
   ·refine iteT' (decide_eq_true (by rw [h1]; rfl)) ?_
    obtain ⟨p,rfl⟩:∃ p,pts=[p]:=by
     match pts,h1 with
     | [p],_=>exact ⟨p,rfl⟩
    have hp10:p < 10:=Nat.lt_of_lt_of_le (G.lt p (.head _)) W.le
    refine ⟨_,rfl,b,_,_,_,rfl,rfl,hbw,atI_nat (j:=0) rfl,new_point hp10 fun x H' hx sm hT=>k x H' hx sm ?_⟩
    exact hT.more (by decide)
   ·refine iteF' (decide_eq_false fun z=>h1 (by have:=V.int.inj z; omega)) ?_
    refine ⟨_,rfl,_,rfl,a,b,ws,pts,rfl,ha,W,hb,G.ne,G.nd,G.lt,fun al H1 hal s1 h1a=>?_⟩
    have WA:=G.web W
    refine ⟨_,rfl,al,_,rfl,h1a,WA,fun gl H2 hgl s2 hgs=>?_⟩
    have gr:=G.groups W h1
    obtain ⟨rs2,hg1,hg2⟩:=id hgs
    have hgl2:=paired_len hg2
    have e10:=(groups_pts W G hf h1).length_eq
    have ndp:=(groups_pts W G hf h1).nodup_iff.mpr G.nd
    have key:∀ (H3:Hp) (l:Addr),Same H H3->TreesAt cs (fresh H H3) H3 l ((groupsM ws pts).2.map fun g=>treeM n ws (atM pts g))->∀ (ac:Bool),ac=(groupsM ws pts).1->∀ x dx,H3 x=none->H3 dx=none->dx ≠ x ->
      spDInit cs ac ([V.ref x,V.ref l] ++ []) (upd (upd H3 dx (.own x)) x (.ins (cD cs ac) dx [])) (fun v H2=>v=.non/\Q (.ref x) H2) E0:=by
     intro H3 l s3 ht ac hac
     obtain ⟨rs,t1,t2⟩:=ht
     refine new_doing (N:=fresh H H3) fresh_sub t1 t2 (by rw [List.length_map]; exact gr.two) ndp (by omega) fun x H' hx s4 hM=>?_
     refine k x H' (same_none s3 hx) (s3.trans s4) ?_
     have:=hM (fresh H H') (fresh_le (fun b e=>e) fun b o e e2=>s4 _ _ e2) (fresh_le (fun b e=>same_none s3 e) fun b o e e2=>e2)
     unfold treeM
     rw [if_neg h1,<- hac]
     exact this
    refine ⟨_,rfl,gl,_,rfl,.inl (SqL.of hg1),_,_,rfl,rfl,_,rfl,?_⟩
    rw [List.length_map,hgl2]
    by_cases h2:1 < (partsM (amongM ws pts)).length
    ·have eg:groupsM ws pts=(false,partsM (amongM ws pts)):=by unfold groupsM; rw [if_pos h2]
     refine iteT' (decide_eq_true (by omega)) ?_
     refine ⟨_,rfl,_,rfl,_,rfl,a,b,gl,ws,pts,_,rfl,s2 _ _ (s1 _ _ ha),W,s2 _ _ (s1 _ _ hb),G,hgs.rows,by rw [eg] at gr; exact gr,hf,fun l H3 hl s3 ht=>?_⟩
     have s13:Same H H2:=s1.trans s2
     refine key H3 l (s13.trans s3) ?_ false (by rw [eg])
     rw [eg]
     obtain ⟨rs,t1,t2⟩:=ht
     exact ⟨rs,t1,paired_mono (fun _ _ z=>z.same (fresh_le (fun b e=>same_none s13 e) fun b o e e2=>e2)) t2⟩
    ·have eg:groupsM ws pts=(true,partsM (turnedM (amongM ws pts))):=by unfold groupsM; rw [if_neg h2]
     refine iteF' (decide_eq_false (by omega)) ?_
     refine ⟨_,rfl,_,rfl,_,rfl,al,_,rfl,s2 _ _ h1a,WA,fun tl H3 htl s3 h3t=>?_⟩
     refine ⟨tl,_,rfl,h3t,WA.turned,fun g2 H4 hg4 s4 hgs4=>?_⟩
     have s14:Same H H4:=((s1.trans s2).trans s3).trans s4
     refine ⟨a,b,g2,ws,pts,_,rfl,s14 _ _ ha,W,s14 _ _ hb,G,hgs4.rows,by rw [eg] at gr; exact gr,hf,fun l H5 hl s5 ht=>?_⟩
     refine key H5 l (s14.trans s5) ?_ true (by rw [eg])
     rw [eg]
     obtain ⟨rs,t1,t2⟩:=ht
     exact ⟨rs,t1,paired_mono (fun _ _ z=>z.same (fresh_le (fun b e=>same_none s14 e) fun b o e e2=>e2)) t2⟩
end
end Bw
namespace Bw
open PySem L2
section
variable {P:Program} {w:World} {K:PySem.W.Frag} {mg:Str->Option Value} {base:Heap} {cs:Cl}
def fM (v:V):List (Str × V):=putF "tree" v []
def fR (l:Addr):List (Str × V):=putF "four" (.ref l) []
def spMadeInit (cs:Cl):Sp:=fun vs H Q _=>∃ (x dx:Addr) (v:V),vs=[.ref x,v]/\H x=some (.ins cs.Made dx [])/\Q .non (upd H x (.ins cs.Made dx (fM v)))
theorem scMadeInit:FnScope ["self","tree"] ["self","tree"] (defScope sMadeInit):=⟨rfl,rfl,rfl,by decide +kernel,rfl,by decide +kernel,by decide +kernel⟩
theorem mk_Made (T:Txt K mg cs):Mak P w K mg base 1 "Made" cs.Made ["self","tree"] (spMadeInit cs):=by
 obtain ⟨f,fd,hm,F,hb⟩:=T.mkMade
 refine ⟨f,fd,T.gMade,hm,hb,F.ok scMadeInit (fun vs H Q E h=>?_) (fun cdv A outer s H vs Q E hr h=>?_)⟩
 ·obtain ⟨x,dx,v,rfl,_⟩:=h
  rfl
 ·obtain ⟨x,dx,v,rfl,e,q⟩:=h
  refine ⟨_,pss_one (ps_fld (pv 0) (pv 1) rfl),?_⟩
  exact ⟨_,rfl,_,rfl,x,_,dx,_,rfl,e,T.oMade.cl,T.nMadeTree,by decide,q⟩
def spRowInit (K:PySem.W.Frag) (cs:Cl):Sp:=fun vs H Q _=>∃ (x dx l:Addr) (xs:List V),vs=[.ref x,.ref l]/\H x=some (.ins cs.Row dx [])/\SqL K H l xs/\∀ l2,H l2=none->Q .non (upd (upd H l2 (.lst xs)) x (.ins cs.Row dx (fR l2)))
theorem scRowInit:FnScope ["self","four"] ["self","four"] (defScope sRowInit):=⟨rfl,rfl,rfl,by decide +kernel,rfl,by decide +kernel,by decide +kernel⟩
theorem mk_Row (T:Txt K mg cs):Mak P w K mg base 1 "Row" cs.Row ["self","four"] (spRowInit K cs):=by
 obtain ⟨f,fd,hm,F,hb⟩:=T.mkRow
 refine ⟨f,fd,T.gRow,hm,hb,F.ok scRowInit (fun vs H Q E h=>?_) (fun cdv A outer s H vs Q E hr h=>?_)⟩
 ·obtain ⟨x,dx,l,xs,rfl,_⟩:=h
  rfl
 ·obtain ⟨x,dx,l,xs,rfl,e,hl,q⟩:=h
  refine ⟨_,pss_one (ps_fld (pv 0) (pe_callTy call_list_of (by rfl) T.list PyProof.Rows.boot_list (pa_cons (pv 1) pa_nil)) rfl),?_⟩
  refine ⟨_,rfl,l,xs,rfl,.inl hl,fun l2 hl2=>?_⟩
  have hxl:x ≠ l2:=ne_of_none e hl2
  exact ⟨_,rfl,x,_,dx,_,rfl,(by rw [upd_ne hxl]; exact e),T.oRow.cl,T.nRowFour,by decide,q l2 hl2⟩
def Told (cs:Cl) (ws:List Nat) (H:Hp) (Q:VK):Prop :=
 (NoRow (bit ws) (List.range ws.length)->∀ (x dx tx:Addr) (H':Hp),H x=none->Same H H'->H' x=some (.ins cs.Made dx (fM (.ref tx)))->TreeAt cs (fresh H H') 10 tx (treeM 10 ws (List.range ws.length))->Q (.ref x) H') /\
 ∀ (r:List Nat) (rest:List (List Nat)) (x dx l:Addr) (H':Hp),stepsM ws 4=r::rest->H x=none->H l=none->Same H H'->H' x=some (.ins cs.Row dx (fR l))->H' l=some (.lst (vv r))->Q (.ref x) H'
def spTelling (cs:Cl):Sp:=fun vs H Q _=>∃ (a:Addr) (ws:List Nat),vs=[.ref a]/\H a=some (.lst (vv ws))/\Web ws/\Told cs ws H Q
theorem scTelling:FnScope ["web","four"] ["web"] (defScope sTelling):=⟨rfl,rfl,rfl,by decide +kernel,rfl,by decide +kernel,by decide +kernel⟩
theorem ok_treeAmong (T:Txt K mg cs):Cal P w K mg base 35 "tree_among" ["web","points"] (spTreeAmong cs 10):=by
 exact tree_all T 10
theorem ok_telling (T:Txt K mg cs):Cal P w K mg base 36 "telling" ["web"] (spTelling cs):=by
 have CCheckWeb:Cal P w K mg base 35 "check_web" ["web"] spCheckWeb:=(ok_checkWeb T).mono (by decide)
 have CRowIn:Cal P w K mg base 35 "row_in" ["web"] (spRowIn K):=(ok_rowIn T).mono (by decide)
 have MRow:=mk_Row (P:=P) (w:=w) (base:=base) T
 have MMade:=mk_Made (P:=P) (w:=w) (base:=base) T
 have CTreeAmong:Cal P w K mg base 35 "tree_among" ["web","points"] (spTreeAmong cs 10):=(ok_treeAmong T).mono (by decide)
 refine T.telling.cal scTelling (fun vs H Q E h=>?_) (fun f cdv A outer s H vs Q E hr h=>?_)
 ·obtain ⟨a,ws,rfl,_⟩:=h
  rfl
 ·obtain ⟨a,ws,rfl,ha,W,k1,k2⟩:=h
  have hu:=hu_of hr
  have hu64:=hr.units
  refine ⟨_,(pss_cons (ps_expr (pe_cal CCheckWeb hr (by rfl) (pa_cons (pv 0) pa_nil)))
   (pss_cons (ps_set (i:=1) scTelling.nd rfl (Or.inl rfl) (pe_cal CRowIn hr (by rfl) (pa_cons (pv 0) pa_nil)))
   (pss_cons (ps_if (pt_cmp (pc_isN (pv 1)))
   (pss_one (ps_ret (pe_mk MMade (hr.mono (by omega)) (by rfl) (pa_cons (pe_cal CTreeAmong hr (by rfl) (pa_cons (pv 0) (pa_cons (pe_callTy (call_list_rng rfl) (by rfl) T.list PyProof.Rows.boot_list (pa_cons (pe_callTy call_range1 (by rfl) T.range PyProof.Rows.boot_range (pa_cons (pe_callB (call_lenK K) (by rfl) T.len PySem.boot_len (pa_cons (pv 0) pa_nil)) pa_nil)) pa_nil)) pa_nil))) pa_nil))))
   pss_nil)
   (pss_one (ps_ret (pe_mk MRow (hr.mono (by omega)) (by rfl) (pa_cons (pv 1) pa_nil))))))),?_⟩
  have hw:=SqL.of (K:=K) ha
  have h10:=W.le
  refine ⟨_,rfl,a,ws,rfl,ha,W,?_⟩
  refine ⟨_,rfl,a,ws,rfl,hw,h10,fun hno H1 s1=>?_,fun r rest l H1 hst hl s1 h1l=>?_⟩
  ·have N:=(noRow_iff W).mp hno
   refine ⟨_,rfl,_,rfl,iteT ?_⟩
   refine ⟨_,rfl,_,rfl,a,_,rfl,.inl (s1.seq hw),_,rfl,fun rg hrg=>?_⟩
   have s2:=same_upd (o:=.rng 0 ((vv ws).length:Nat)) s1 hrg
   refine ⟨rg,0,_,rfl,upd_same,by decide,by decide,by rw [vv_len]; omega,by rw [vv_len]; omega,by rw [vv_len]; omega,fun pl hpl=>?_⟩
   rw [list_rng_vv]
   have s3:=same_upd (o:=.lst (vv (List.range ws.length))) s2 hpl
   refine ⟨a,pl,ws,List.range ws.length,rfl,s3 _ _ ha,W,upd_same,goodP_all W N,by rw [List.length_range]; omega,fun tx H4 htx s4 hT=>?_⟩
   intro x dx hx hdx ne
   have s5:Same H4 (upd (upd H4 dx (.own x)) x (.ins cs.Made dx [])):=same_upd' (same_upd' (Same.refl H4) hdx) hx
   refine ⟨x,dx,.ref tx,rfl,upd_same,rfl,k1 N x dx tx _ (same_none (s3.trans s4) hx) ?_ upd_same ?_⟩
   ·exact same_upd' ((s3.trans s4).trans s5) (same_none (s3.trans s4) hx)
   ·refine hT.same (fresh_le (fun b e=>same_none s3 e) fun b o e e2=>?_)
    have hbx:b ≠ x:=ne_of_none e2 hx
    have hbd:b ≠ dx:=ne_of_none e2 hdx
    rw [upd_ne hbx,upd_ne hbx,upd_ne hbd]
    exact e2
  ·refine ⟨_,rfl,_,rfl,iteF ?_⟩
   refine ⟨_,rfl,fun x dx hx hdx ne=>?_⟩
   have s5:Same H1 (upd (upd H1 dx (.own x)) x (.ins cs.Row dx [])):=same_upd' (same_upd' (Same.refl H1) hdx) hx
   refine ⟨x,dx,l,_,rfl,upd_same,SqL.of (s5 _ _ h1l),fun l2 hl2=>⟨rfl,?_⟩⟩
   have hxl2:x ≠ l2:=fun z=>by
    rw [<- z,upd_same] at hl2
    cases hl2
   refine k2 r rest x dx l2 _ hst (same_none s1 hx) (same_none s1 (same_none s5 hl2)) ?_ upd_same ?_
   ·refine same_upd' (same_upd (s1.trans s5) hl2) (same_none s1 hx)
   ·rw [upd_ne (Ne.symm hxl2),upd_same]
end
end Bw
namespace Bw
open PySem L2
section
variable {P:Program} {w:World} {K:PySem.W.Frag} {mg:Str->Option Value} {base:Heap} {cs:Cl}
theorem fM_tree (v:V):(fM v).lookup ("tree":Str)=some v:=by
 unfold fM
 rw [lookup_putF,if_pos rfl]
theorem fR_four (l:Addr):(fR l).lookup ("four":Str)=some (.ref l):=by
 unfold fR
 rw [lookup_putF,if_pos rfl]
theorem TreeAt.stands {cs:Cl} {H:Hp}:∀ {k:Nat} {a:Addr} {tr:Tr},TreeAt cs H k a tr->∃ o,H a=some o
 | 0,_,_,h=>h.elim
 | k + 1,a,.pt n,h=>let ⟨⟨dx,e⟩,_⟩:=h; ⟨_,e⟩
 | k + 1,a,.doing ac ts,h=>let ⟨dx,l,t,rs,h1,_⟩:=h; ⟨_,h1⟩
def spNMInit (K:PySem.W.Frag) (cs:Cl):Sp:=fun vs H Q _=>∃ (a l:Addr) (xs:List V),vs=[.ref a,.ref l]/\H a=some (ExcN a cs.NotMade none)/\SqL K H l xs /\
 ∀ l2 dx:Addr,H l2=none->H dx=none->dx ≠ l2->dx ≠ a->Q .non (upd (upd (upd H l2 (.lst xs)) a (ExcN a cs.NotMade (some dx))) dx (.xd [("four",.ref l2)]))
theorem scNMInit:FnScope ["self","four"] ["self","four"] (defScope sNotmadeInit):=⟨rfl,rfl,rfl,by decide +kernel,rfl,by decide +kernel,by decide +kernel⟩
theorem rs_NotMade (T:Txt K mg cs):Rais P w K mg base 1 "NotMade" cs.NotMade ["self","four"] (spNMInit K cs):=by
 obtain ⟨kc,f,fd,hi,hfn,F,hb⟩:=T.eNotMade
 refine ⟨T.gNotMade,T.xNotMade,kc,f,fd,hi,hfn,hb,F.ok scNMInit (fun vs H Q E h=>?_) (fun cdv A outer s H vs Q E hr h=>?_)⟩
 ·obtain ⟨a,l,xs,rfl,_⟩:=h
  rfl
 ·obtain ⟨a,l,xs,rfl,e,hl,q⟩:=h
  refine ⟨_,pss_cons (ps_expr (pe_xinit (by rfl) T.gWebError (pa_cons (pv 0) (pa_cons pe_str pa_nil)) T.iWebError.g T.iWebError.r T.iWebError.f K))
   (pss_one (ps_xfld (pv 0) (pe_callTy call_list_of (by rfl) T.list PyProof.Rows.boot_list (pa_cons (pv 1) pa_nil)) rfl K)),?_⟩
  refine ⟨_,rfl,a,_,none,_,rfl,T.xNotMade.xin,e,?_⟩
  refine ⟨_,rfl,l,xs,rfl,.inl hl,fun l2 hl2=>?_⟩
  have hal:a ≠ l2:=ne_of_none e hl2
  refine ⟨_,rfl,a,_,rfl,(by rw [upd_ne hal]; exact e),T.xNotMade,T.nNotMadeFour,fun dx hdx hne=>?_⟩
  have hdl:dx ≠ l2:=fun z=>by
   rw [z,upd_same] at hdx
   cases hdx
  exact q l2 dx hl2 (by rw [upd_ne hdl] at hdx; exact hdx) hdl hne
def notMade (cs:Cl) (H:Hp) (E:XK) (r:List Nat):Prop:=∀ (dx l:Addr) (H':Hp),H l=none->Same H H'->H' dx=some (.xd [("four",.ref l)])->H' l=some (.lst (vv r))->E (.ref cs.NotMade) (some dx) H'
theorem notMade.same {H H1:Hp} {E:XK} {r:List Nat} (h:notMade cs H E r) (s:Same H H1):notMade cs H1 E r:=fun dx l H' hl s' e1 e2=>h dx l H' (same_none s hl) (s.trans s') e1 e2
theorem raise_nm {H0 H:Hp} {E:XK} {r:List Nat} {l:Addr} (hb:notMade cs H0 E r) (s:Same H0 H) (hl:SqL K H l (vv r)):([V.ref l]:List V).length <= 100/\∀ a,H a=none ->
  spNMInit K cs (.ref a::[V.ref l]) (upd H a (ExcN a cs.NotMade none)) (fun v H2=>v=.non/\∃ dx,H2 a=some (ExcN a cs.NotMade dx)/\E (.ref cs.NotMade) dx (upd H2 a (ExcO a (.ref cs.NotMade) dx))) E0:=by
 refine ⟨by simp,fun a ha=>⟨a,l,vv r,rfl,upd_same,(same_upd (Same.refl H) ha).seq hl,fun l2 dx hl2 hdx hdl hda=>?_⟩⟩
 have hla:l2 ≠ a:=fun z=>by
  rw [z,upd_same] at hl2
  cases hl2
 have hl2':H l2=none:=by rw [upd_ne hla] at hl2; exact hl2
 have hdx':H dx=none:=by rw [upd_ne hda] at hdx; exact hdx
 refine ⟨rfl,some dx,by rw [upd_ne (Ne.symm hda),upd_same],hb dx l2 _ (same_none s hl2') ?_ ?_ ?_⟩
 ·intro b o e
  have e1:=s b o e
  have ba:=ne_of_none e1 ha
  rw [upd_ne ba,upd_ne (ne_of_none e1 hdx'),upd_ne ba,upd_ne (ne_of_none e1 hl2'),upd_ne ba]
  exact e1
 ·rw [upd_ne hda,upd_same]
 ·rw [upd_ne hla,upd_ne (Ne.symm hdl),upd_ne hla,upd_same]
def spTreeOf (cs:Cl):Sp:=fun vs H Q E=>∃ (a:Addr) (ws:List Nat),vs=[.ref a]/\H a=some (.lst (vv ws))/\Web ws/\(NoRow (bit ws) (List.range ws.length)->gotTree cs 10 H (treeM 10 ws (List.range ws.length)) Q) /\
 ∀ (r:List Nat) (rest:List (List Nat)),stepsM ws 4=r::rest->notMade cs H E r
theorem scTreeOf:FnScope ["web","answer"] ["web"] (defScope sTreeOf):=⟨rfl,rfl,rfl,by decide +kernel,rfl,by decide +kernel,by decide +kernel⟩
theorem ok_treeOf (T:Txt K mg cs):CalX P w K mg base 37 "tree_of" ["web"] (spTreeOf cs):=by
 have CTelling:Cal P w K mg base 36 "telling" ["web"] (spTelling cs):=ok_telling T
 have RNotMade:=rs_NotMade (P:=P) (w:=w) (base:=base) T
 refine T.treeOf.calX scTreeOf (fun vs H Q E h=>?_) (fun f cdv A outer s H vs Q E hr h=>?_)
 ·obtain ⟨a,ws,rfl,_⟩:=h
  rfl
 ·obtain ⟨a,ws,rfl,ha,W,k1,k2⟩:=h
  refine ⟨_,(pss_cons (ps_set (i:=1) scTreeOf.nd rfl (Or.inl rfl) (pe_cal CTelling hr (by rfl) (pa_cons (pv 0) pa_nil)))
   (pss_cons (ps_if (pt_val (pe_callB (call_isC K) (by rfl) T.isinst PyProof.Rows.boot_isinstance (pa_cons (pv 1) (pa_cons (pe_glob (v:=.ref cs.Row) (by rfl) T.gRow rfl) pa_nil))))
   (pss_one (ps_rais RNotMade (hr.mono (by omega)) rfl (by rfl) throws_def (pa_cons (pe_fld (pv 1) rfl) pa_nil)))
   pss_nil)
   (pss_one (ps_ret (pe_fld (pv 1) rfl))))),?_⟩
  refine ⟨_,rfl,a,ws,rfl,ha,W,fun N x dx tx H' hx s1 hX hT=>?_,fun r rest x dx l H' hst hx hl s1 hX hL=>?_⟩
  ·refine ⟨_,rfl,_,_,_,_,rfl,T.oMade.ty hX,T.kMadeRow,false,rfl,iteF ?_⟩
   obtain ⟨o,ho⟩:=hT.stands
   exact ⟨_,rfl,x,_,dx,_,_,rfl,hX,T.oMade.cl,T.nMadeTree,fM_tree _,k1 N tx H' (fresh_some ho).1 s1 hT⟩
  ·refine ⟨_,rfl,_,_,_,_,rfl,T.oRow.ty hX,T.kRowRow,true,rfl,iteT ?_⟩
   exact ⟨_,rfl,x,_,dx,_,_,rfl,hX,T.oRow.cl,T.nRowFour,fR_four _,raise_nm (k2 r rest hst) s1 (SqL.of hL)⟩
end
end Bw
namespace Bw
open PySem L2
theorem shr_bit_int (x k:Nat):Builtin.bitAnd ((x:Int) / 2 ^ ((k:Int)).toNat) 1=if x.testBit k=true then 1 else 0:=by
 have e:((x:Int) / 2 ^ ((k:Int)).toNat)=((x / 2 ^ k:Nat):Int):=by
  rw [Int.toNat_natCast]
  push_cast
  rfl
 rw [e,show (1:Int)=((1:Nat):Int) from rfl,bitAnd_nat,Nat.and_one_is_mod,Nat.testBit_eq_decide_div_mod_eq]
 by_cases h:x / 2 ^ k % 2=1
 ·rw [decide_eq_true h,h]
  rfl
 ·rw [decide_eq_false h]
  have:x / 2 ^ k % 2=0:=by omega
  rw [this]
  rfl
theorem bitAnd_not (x y:Nat):Builtin.bitAnd (x:Int) (Builtin.bitNot (y:Int))=((andNot x y:Nat):Int):=by
 unfold Builtin.bitAnd Builtin.bitNot
 have h1:decide (0 <= (x:Int))=true:=by simp
 have h2:decide (0 <= -(y:Int) - 1)=false:=decide_eq_false (by omega)
 rw [h1,h2]
 have e1:(-(-(y:Int) - 1) - 1).toNat=y:=by omega
 have e2:((x:Int)).toNat=x:=Int.toNat_natCast x
 simp only [e1,e2]
 have e3:andNot x y + (x &&& y)=x:=by
  have hz:andNot x y &&& (x &&& y)=0:=by
   apply Nat.eq_of_testBit_eq
   intro j
   rw [Nat.testBit_and,andNot_bit,Nat.testBit_and,Nat.zero_testBit]
   cases x.testBit j <;> cases y.testBit j <;> rfl
  rw [add_or _ _ hz]
  apply Nat.eq_of_testBit_eq
  intro j
  rw [Nat.testBit_or,andNot_bit,Nat.testBit_and]
  cases x.testBit j <;> cases y.testBit j <;> rfl
 omega
theorem iv_nodup {r:List Nat}:(iv r).Nodup ↔ r.Nodup:=by
 unfold iv
 rw [List.nodup_iff_pairwise_ne,List.pairwise_map,List.nodup_iff_pairwise_ne]
 constructor
 ·exact fun h=>h.imp fun h z=>h (by rw [z])
 ·exact fun h=>h.imp fun h z=>h (by omega)
section
variable {P:Program} {w:World} {K:PySem.W.Frag} {mg:Str->Option Value} {base:Heap} {cs:Cl}
def spFour (K:PySem.W.Frag):Sp:=fun vs H Q _=>∃ (a b:Addr) (ws r:List Nat),vs=[.ref a,.ref b]/\SqL K H a (vv ws)/\H b=some (.lst (vv r))/\ws.length <= 10/\r.length <= 10/\(∀ p ∈ r,p < ws.length)/\∀ H',Same H H'->Q (.bl (fourB ws r)) H'
theorem scLawFour:FnScope ["_law_web_here","_law_four_here","_law_k","_law_i"] ["_law_web_here","_law_four_here"] (defScope sLawFour):=⟨rfl,rfl,rfl,by decide +kernel,rfl,by decide +kernel,by decide +kernel⟩
theorem four_len {ws r:List Nat} (h:r.length ≠ 4):fourB ws r=false:=by
 unfold fourB
 rw [decide_eq_false h]
 rfl
theorem four_nd {ws r:List Nat} (h:¬ r.Nodup):fourB ws r=false:=by
 unfold fourB
 rw [decide_eq_false h]
 simp
theorem four_bad {ws r:List Nat} {i k:Nat} (hk:k < 4) (hi:i < k) (h:bit ws (r.getD i 0) (r.getD k 0) ≠ decide (k - i=1)):fourB ws r=false:=by
 cases e:fourB ws r with
 | false=>rfl
 | true =>
  unfold fourB at e
  simp only [Bool.and_eq_true,List.all_eq_true] at e
  have:=e.2.2 k (List.mem_range.mpr hk) i (List.mem_range.mpr hi)
  exact absurd (by simpa using this) h
theorem four_good {ws r:List Nat} (h4:r.length=4) (nd:r.Nodup) (h:∀ k,k < 4->∀ i,i < k->bit ws (r.getD i 0) (r.getD k 0)=decide (k - i=1)):fourB ws r=true:=by
 unfold fourB
 simp only [Bool.and_eq_true,List.all_eq_true,decide_eq_true_eq]
 exact ⟨h4,nd,fun k hk i hi=>by rw [h k (List.mem_range.mp hk) i (List.mem_range.mp hi)]; simp⟩
theorem ok_lawFour (T:Txt K mg cs):Cal P w K mg base 1 "_law_four" ["_law_web_here","_law_four_here"] (spFour K):=by
 refine T.lawFour.cal scLawFour (fun vs H Q E h=>?_) (fun f cdv A outer s H vs Q E hr h=>?_)
 ·obtain ⟨a,b,ws,r,rfl,_⟩:=h
  rfl
 ·obtain ⟨a,b,ws,r,rfl,hw,hb,h10,hr10,hlt,k⟩:=h
  have hu:=hu_of hr
  have hu64:=hr.units
  refine ⟨_,(pss_cons (ps_if (PW.pt (pw_or (pt_not (pt_val (pe_callB (call_isinstK K) (by rfl) T.isinst PyProof.Rows.boot_isinstance (pa_cons (pv 1) (pa_cons (pe_bltn (v:=.ty "list") (by rfl) T.list PyProof.Rows.boot_list rfl) pa_nil))))) (pw_or (pt_cmpR op_ne (pe_callB (call_lenK K) (by rfl) T.len PySem.boot_len (pa_cons (pv 1) pa_nil)) pe_int (nomark _)) (pw_or1 (pt_cmpR op_lt (pe_callB call_lenSet (by rfl) T.len PySem.boot_len (pa_cons (pe_callTy (call_setL rfl) (by rfl) T.set PyProof.Rows.boot_set (pa_cons (pv 1) pa_nil)) pa_nil)) pe_int (nomark _))))))
   (pss_one (ps_ret pe_bl))
   pss_nil)
   (pss_cons (ps_for PassesOwn.never rfl (pi_range1 rfl T.range (pa_cons pe_int pa_nil)) (pg_name (i:=2) scLawFour.nd rfl (Or.inl rfl))
   (pss_cons (ps_if (PW.pt (pw_or (pt_val (pe_callB (call_isinstK K) (by rfl) T.isinst PyProof.Rows.boot_isinstance (pa_cons (pe_ix (ix_listK K) (pv 1) (pv 2) (fun _ _=>rfl)) (pa_cons (pe_bltn (v:=.ty "bool") (by rfl) T.bool PyProof.Rows.boot_bool rfl) pa_nil)))) (pw_or (pt_not (pt_val (pe_callB (call_isinstK K) (by rfl) T.isinst PyProof.Rows.boot_isinstance (pa_cons (pe_ix (ix_listK K) (pv 1) (pv 2) (fun _ _=>rfl)) (pa_cons (pe_bltn (v:=.ty "int") (by rfl) T.int PyProof.Rows.boot_int rfl) pa_nil))))) (pw_or1 (pt_not (pt_chain op_le op_lt pe_int (pe_ix (ix_listK K) (pv 1) (pv 2) (fun _ _=>rfl)) (pe_callB (call_lenK K) (by rfl) T.len PySem.boot_len (pa_cons (pv 0) pa_nil))))))))
    (pss_one (ps_ret pe_bl))
    pss_nil)
    (pss_one (ps_for PassesOwn.never rfl (pi_range1 rfl T.range (pa_cons (pv 2) pa_nil)) (pg_name (i:=3) scLawFour.nd rfl (Or.inl rfl))
    (pss_one (ps_if (pt_cmpR op_ne (pe_op op_and (pe_op op_shr (pe_ix (ix_listK K) (pv 0) (pe_ix (ix_listK K) (pv 1) (pv 3) (fun _ _=>rfl)) (fun _ _=>rfl)) (pe_ix (ix_listK K) (pv 1) (pv 2) (fun _ _=>rfl))) pe_int) (pe_callTy call_int1 (by rfl) T.int PyProof.Rows.boot_int (pa_cons (pe_cmpR op_eq (pe_op op_sub (pv 2) (pv 3)) pe_int (nomark _)) pa_nil)) (nomark _))
     (pss_one (ps_ret pe_bl))
     pss_nil))))))
   (pss_one (ps_ret pe_bl)))),?_⟩
  have hq:SqL K H b (vv r):=SqL.of hb
  refine ⟨_,rfl,_,_,_,_,rfl,TyOf.lst hb,kit_ll K,true,rfl,iteF ?_⟩
  refine ⟨_,rfl,b,vv r,rfl,.inl hq,rfl,_,rfl,?_⟩
  rw [vv_len]
  by_cases h4:r.length=4
  rotate_left
  ·refine iteT' ?_ ?_
   ·rw [decide_eq_false (fun z=>h4 (by have:=V.int.inj z; omega))]
    rfl
   ·have:=k H (Same.refl H)
    rw [four_len h4] at this
    exact this
  refine iteF' (by rw [decide_eq_true (by rw [h4]; rfl)]; rfl) ?_
  refine ⟨_,rfl,b,iv r,rfl,hq,by rw [iv_len]; unfold scanBound; omega,fun l hl=>?_⟩
  have s1:Same H (upd H l (.set (fun k=>(PyProof.Rows.firstMet (fun i=>(iv r).getD i 0) (iv r).length).any (· == k)) (PyProof.Rows.firstMet (fun i=>(iv r).getD i 0) (iv r).length).length)):=same_upd (Same.refl H) hl
  refine ⟨l,_,_,rfl,upd_same,_,_,rfl,rfl,_,rfl,?_⟩
  by_cases nd:r.Nodup
  rotate_left
  ·have hf:=firstMet_lt (ns:=iv r) (fun z=>nd (iv_nodup.mp z))
   refine iteT' (decide_eq_true (by rw [iv_len] at hf ⊢; omega)) ?_
   have:=k _ s1
   rw [four_nd nd] at this
   exact this
  refine iteF' (decide_eq_false (by rw [firstMet_nodup _ (iv_nodup.mpr nd),iv_len]; omega)) ?_
  refine ⟨4,rfl,by decide,by decide,?_⟩
  generalize upd H l _=H1 at s1
  refine for_range (n:=4) (fun i σ H'=>∃ v3 v4,σ=[some (.ref a),some (.ref b),v3,v4]/\H'=H1/\∀ k,k < i->∀ j,j < k->bit ws (r.getD j 0) (r.getD k 0)=decide (k - j=1)) ⟨_,_,rfl,rfl,fun k hk=>absurd hk (by omega)⟩ ?_ ?_
  ·rintro i σ H' hi ⟨v3,v4,rfl,rfl,hall⟩
   have e0:(0:Int) + (i:Int)=((i:Nat):Int):=by omega
   rw [e0]
   have hi4:i < r.length:=by omega
   have hbq:=s1.seq hq
   have hwq:=s1.seq hw
   have hpi:=hlt _ (getD_mem hi4)
   refine ⟨_,rfl,_,rfl,b,_,_,_,rfl,rfl,hbq,atI_nat (vv_get hi4),_,_,_,_,rfl,.int _,kit_ib K,_,rfl,iteF ?_⟩
   refine ⟨_,rfl,_,rfl,b,_,_,_,rfl,rfl,hbq,atI_nat (vv_get hi4),_,_,_,_,rfl,.int _,kit_ii K,_,rfl,iteF ?_⟩
   refine ⟨_,rfl,_,rfl,b,_,_,_,rfl,rfl,hbq,atI_nat (vv_get hi4),_,_,rfl,rfl,_,rfl,?_⟩
   refine iteT' (decide_eq_true (Int.natCast_nonneg _)) ?_
   refine ⟨_,rfl,a,_,rfl,.inl hwq,_,_,rfl,rfl,_,rfl,?_⟩
   refine iteF' (by rw [decide_eq_true (by rw [vv_len]; omega)]; rfl) ?_
   refine ⟨_,rfl,_,rfl,by omega,by omega,?_⟩
   rw [Int.toNat_natCast]
   refine for_range (n:=i) (fun j σ H2=>∃ v4,σ=[some (.ref a),some (.ref b),some (.int (i:Int)),v4]/\H2=H'/\∀ m,m < j->bit ws (r.getD m 0) (r.getD i 0)=decide (i - m=1)) ⟨_,rfl,rfl,fun m hm=>absurd hm (by omega)⟩ ?_ ?_
   ·rintro j σ H2 hj ⟨v4,rfl,rfl,hrow⟩
    have e1:(0:Int) + (j:Int)=((j:Nat):Int):=by omega
    rw [e1]
    have hj4:j < r.length:=by omega
    have hpj:=hlt _ (getD_mem hj4)
    refine ⟨_,rfl,_,rfl,_,rfl,b,_,_,_,rfl,rfl,hbq,atI_nat (vv_get hj4),a,_,_,_,rfl,rfl,hwq,atI_nat (vv_get hpj),_,rfl,_,rfl,b,_,_,_,rfl,rfl,hbq,atI_nat (vv_get hi4),_,_,rfl,rfl,Int.natCast_nonneg _,_,_,rfl,rfl,?_⟩
    refine ⟨_,rfl,_,rfl,_,_,rfl,rfl,rfl,.inr ⟨_,rfl,rfl,_,rfl,?_⟩⟩
    have key:(V.int (Builtin.bitAnd (((ws.getD (r.getD j 0) 0:Nat):Int) / 2 ^ (((r.getD i 0:Nat):Int)).toNat) 1)=V.int (if decide (V.int ((i:Int) - (j:Int))=V.int 1)=true then 1 else 0)) ↔ bit ws (r.getD j 0) (r.getD i 0)=decide (i - j=1):=by
     have eb:decide (V.int ((i:Int) - (j:Int))=V.int 1)=decide (i - j=1):=by
      rw [decide_eq_decide]
      exact ⟨fun z=>by have:=V.int.inj z; omega,fun z=>by rw [show (i:Int) - (j:Int)=1 by omega]⟩
     rw [shr_bit_int,eb]
     have et:(ws.getD (r.getD j 0) 0).testBit (r.getD i 0)=bit ws (r.getD j 0) (r.getD i 0):=rfl
     rw [et]
     cases bit ws (r.getD j 0) (r.getD i 0) <;> cases decide (i - j=1) <;> simp
    dsimp only
    by_cases hm:bit ws (r.getD j 0) (r.getD i 0)=decide (i - j=1)
    ·refine iteF' (by rw [decide_eq_true (key.mpr hm)]; rfl) ?_
     refine ⟨_,rfl,rfl,fun m hml=>?_⟩
     by_cases e:m=j
     ·subst e; exact hm
     ·exact hrow m (by omega)
    ·refine iteT' (by rw [decide_eq_false (fun z=>hm (key.mp z))]; rfl) ?_
     have:=k _ s1
     rw [four_bad hi hj hm] at this
     exact this
   ·rintro σ H2 ⟨v4,rfl,rfl,hrow⟩
    refine ⟨_,_,rfl,rfl,fun m hm j hj=>?_⟩
    by_cases e:m=i
    ·subst e; exact hrow j hj
    ·exact hall m (by omega) j hj
  ·rintro σ H' ⟨v3,v4,rfl,rfl,hall⟩
   have:=k _ s1
   rw [four_good h4 nd hall] at this
   exact this
def spBarred (K:PySem.W.Frag):Sp:=fun vs H Q _=>∃ (a:Addr) (ws:List Nat),vs=[.ref a]/\SqL K H a (vv ws)/\Web ws/\Q (.bl (barB ws)) H
theorem scLawBarred:FnScope ["_law_web_here","_law_one","_law_two","_law_three"] ["_law_web_here"] (defScope sLawBarred):=⟨rfl,rfl,rfl,by decide +kernel,rfl,by decide +kernel,by decide +kernel⟩
theorem bar_hit {ws:List Nat} {a b c:Nat} (ha:a < ws.length) (hb:b < ws.length) (hc:c < ws.length) (h:barN ws a b c=true):barB ws=true:=by
 unfold barB
 simp only [List.any_eq_true]
 exact ⟨a,List.mem_range.mpr ha,b,List.mem_range.mpr hb,c,List.mem_range.mpr hc,h⟩
theorem bar_none {ws:List Nat} (h:∀ a,a < ws.length->∀ b,b < ws.length->∀ c,c < ws.length->barN ws a b c=false):barB ws=false:=by
 cases e:barB ws with
 | false=>rfl
 | true =>
  unfold barB at e
  simp only [List.any_eq_true] at e
  obtain ⟨a,ha,b,hb,c,hc,h'⟩:=e
  rw [h a (List.mem_range.mp ha) b (List.mem_range.mp hb) c (List.mem_range.mp hc)] at h'
  cases h'
theorem bar_last {ws:List Nat} (W:Web ws) (a b c:Nat):decide ((0:Int) < ((andNot (andNot (ws.getD c 0) (ws.getD b 0)) (ws.getD a 0):Nat):Int))=(List.range ws.length).any fun d=>bit ws c d && !bit ws b d && !bit ws a d:=by
 have hx:andNot (andNot (ws.getD c 0) (ws.getD b 0)) (ws.getD a 0) < 2 ^ ws.length:=by
  refine Nat.lt_of_le_of_lt (Nat.le_trans Nat.and_le_left Nat.and_le_left) (W.lt c)
 have e:=pos_any hx
 rw [show decide ((0:Int) < ((andNot (andNot (ws.getD c 0) (ws.getD b 0)) (ws.getD a 0):Nat):Int))=decide (0 < andNot (andNot (ws.getD c 0) (ws.getD b 0)) (ws.getD a 0)) from by rw [decide_eq_decide]; omega,e]
 apply any_congr_mem
 intro d _
 rw [andNot_bit,andNot_bit]
 rfl
theorem ok_lawBarred (T:Txt K mg cs):Cal P w K mg base 1 "_law_barred" ["_law_web_here"] (spBarred K):=by
 refine T.lawBarred.cal scLawBarred (fun vs H Q E h=>?_) (fun f cdv A outer s H vs Q E hr h=>?_)
 ·obtain ⟨a,ws,rfl,_⟩:=h
  rfl
 ·obtain ⟨a,ws,rfl,hw,W,k⟩:=h
  have hu:=hu_of hr
  have hu64:=hr.units
  refine ⟨_,(pss_cons (ps_for PassesOwn.never rfl (pi_range1 rfl T.range (pa_cons (pe_callB (call_lenK K) (by rfl) T.len PySem.boot_len (pa_cons (pv 0) pa_nil)) pa_nil)) (pg_name (i:=1) scLawBarred.nd rfl (Or.inl rfl))
   (pss_one (ps_for PassesOwn.never rfl (pi_range1 rfl T.range (pa_cons (pe_callB (call_lenK K) (by rfl) T.len PySem.boot_len (pa_cons (pv 0) pa_nil)) pa_nil)) (pg_name (i:=2) scLawBarred.nd rfl (Or.inl rfl))
    (pss_one (ps_for PassesOwn.never rfl (pi_range1 rfl T.range (pa_cons (pe_callB (call_lenK K) (by rfl) T.len PySem.boot_len (pa_cons (pv 0) pa_nil)) pa_nil)) (pg_name (i:=3) scLawBarred.nd rfl (Or.inl rfl))
     (pss_one (ps_if (PW.pt (pw_and (pt_cmpR op_eq (pe_op op_and (pe_op op_shr (pe_ix (ix_listK K) (pv 0) (pv 1) (fun _ _=>rfl)) (pv 2)) pe_int) pe_int (nomark _)) (pw_and1 (pt_cmpR op_eq (pe_op op_and (pe_op op_shr (pe_op op_and (pe_ix (ix_listK K) (pv 0) (pv 2) (fun _ _=>rfl)) (pe_un un_inv (pe_ix (ix_listK K) (pv 0) (pv 1) (fun _ _=>rfl)))) (pv 3)) pe_int) pe_int (nomark _)))))
      (pss_one (ps_if (pt_cmpR op_gt (pe_op op_and (pe_op op_and (pe_ix (ix_listK K) (pv 0) (pv 3) (fun _ _=>rfl)) (pe_un un_inv (pe_ix (ix_listK K) (pv 0) (pv 2) (fun _ _=>rfl)))) (pe_un un_inv (pe_ix (ix_listK K) (pv 0) (pv 1) (fun _ _=>rfl)))) pe_int (nomark _))
       (pss_one (ps_ret pe_bl))
       pss_nil))
      pss_nil)))))))
   (pss_one (ps_ret pe_bl))),?_⟩
  have h10:=W.le
  refine ⟨_,rfl,a,_,rfl,.inl hw,_,rfl,by rw [vv_len]; omega,by rw [vv_len]; omega,?_⟩
  rw [vv_len,Int.toNat_natCast]
  refine for_range (n:=ws.length) (fun i σ H'=>∃ v1 v2 v3,σ=[some (.ref a),v1,v2,v3]/\H'=H/\∀ x,x < i->∀ y,y < ws.length->∀ z,z < ws.length->barN ws x y z=false) ⟨_,_,_,rfl,rfl,fun x hx=>absurd hx (by omega)⟩ ?_ ?_
  ·rintro x σ H' hx ⟨v1,v2,v3,rfl,rfl,hn1⟩
   have e0:(0:Int) + (x:Int)=((x:Nat):Int):=by omega
   rw [e0]
   refine ⟨_,rfl,a,_,rfl,.inl hw,_,rfl,by rw [vv_len]; omega,by rw [vv_len]; omega,?_⟩
   rw [vv_len,Int.toNat_natCast]
   refine for_range (n:=ws.length) (fun i σ H2=>∃ v2 v3,σ=[some (.ref a),some (.int (x:Int)),v2,v3]/\H2=H'/\∀ y,y < i->∀ z,z < ws.length->barN ws x y z=false) ⟨_,_,rfl,rfl,fun y hy=>absurd hy (by omega)⟩ ?_ ?_
   ·rintro y σ H2 hy ⟨v2,v3,rfl,rfl,hn2⟩
    have e1:(0:Int) + (y:Int)=((y:Nat):Int):=by omega
    rw [e1]
    refine ⟨_,rfl,a,_,rfl,.inl hw,_,rfl,by rw [vv_len]; omega,by rw [vv_len]; omega,?_⟩
    rw [vv_len,Int.toNat_natCast]
    refine for_range (n:=ws.length) (fun i σ H3=>∃ v3,σ=[some (.ref a),some (.int (x:Int)),some (.int (y:Int)),v3]/\H3=H2/\∀ z,z < i->barN ws x y z=false) ⟨_,rfl,rfl,fun z hz=>absurd hz (by omega)⟩ ?_ ?_
    ·rintro z σ H3 hz ⟨v3,rfl,rfl,hn3⟩
     have e2:(0:Int) + (z:Int)=((z:Nat):Int):=by omega
     rw [e2]
     have go:barN ws x y z=false->∃ v3,([some (.ref a),some (.int (x:Int)),some (.int (y:Int)),some (.int (z:Int))]:St)=[some (.ref a),some (.int (x:Int)),some (.int (y:Int)),v3]/\H3=H3/\∀ z',z' < z + 1->barN ws x y z'=false:=fun h=>⟨_,rfl,rfl,fun z' hz'=>by
      by_cases e:z'=z
      ·subst e; exact h
      ·exact hn3 z' (by omega)⟩
     refine ⟨_,rfl,_,rfl,a,_,_,_,rfl,rfl,hw,atI_nat (vv_get hx),_,rfl,_,_,rfl,rfl,Int.natCast_nonneg _,_,_,rfl,rfl,rfl,_,rfl,?_⟩
     rw [shr_bit]
     refine ite2 (fun h1=>?_) (fun h1=>?_)
     ·have h1':bit ws x y=true:=h1
      refine ⟨_,rfl,_,rfl,a,_,_,_,rfl,rfl,hw,atI_nat (vv_get hy),_,rfl,_,rfl,a,_,_,_,rfl,rfl,hw,atI_nat (vv_get hx),_,rfl,_,_,rfl,rfl,_,rfl,_,_,rfl,rfl,Int.natCast_nonneg _,_,_,rfl,rfl,rfl,_,rfl,?_⟩
      rw [bitAnd_not,shr_bit,andNot_bit]
      refine ite2 (fun h2=>?_) (fun h2=>?_)
      ·have h2':(bit ws y z && !bit ws x z)=true:=h2
       refine ⟨_,rfl,_,rfl,a,_,_,_,rfl,rfl,hw,atI_nat (vv_get hz),_,rfl,_,rfl,a,_,_,_,rfl,rfl,hw,atI_nat (vv_get hy),_,rfl,_,_,rfl,rfl,_,rfl,_,rfl,a,_,_,_,rfl,rfl,hw,atI_nat (vv_get hx),_,rfl,_,_,rfl,rfl,_,_,rfl,rfl,_,rfl,?_⟩
       rw [bitAnd_not,bitAnd_not,bar_last W]
       refine ite2 (fun h3=>?_) (fun h3=>?_)
       ·rw [bar_hit hx hy hz (by unfold barN; rw [h1',h2',h3]; rfl)] at k
        exact k
       ·refine go ?_
        unfold barN
        rw [h1',h2',Bool.eq_false_iff.mpr h3]
        rfl
      ·refine go ?_
       unfold barN
       rw [Bool.eq_false_iff.mpr (show ¬ (bit ws y z && !bit ws x z)=true from h2)]
       simp
     ·refine iteF (go ?_)
      unfold barN
      rw [Bool.eq_false_iff.mpr (show ¬ bit ws x y=true from h1)]
      rfl
    ·rintro σ H3 ⟨v3,rfl,rfl,hn3⟩
     refine ⟨_,_,rfl,rfl,fun y' hy' z hz=>?_⟩
     by_cases e:y'=y
     ·subst e; exact hn3 z hz
     ·exact hn2 y' (by omega) z hz
   ·rintro σ H2 ⟨v2,v3,rfl,rfl,hn2⟩
    refine ⟨_,_,_,rfl,rfl,fun x' hx' y hy z hz=>?_⟩
    by_cases e:x'=x
    ·subst e; exact hn2 y hy z hz
    ·exact hn1 x' (by omega) y hy z hz
  ·rintro σ H' ⟨v1,v2,v3,rfl,rfl,hn1⟩
   rw [bar_none hn1] at k
   exact k
def XFour (cs:Cl) (H:Hp) (r:List Nat):XK:=fun C dx H'=>C=.ref cs.NotMade/\∃ d l,dx=some d/\H l=none/\H' d=some (.xd [("four",.ref l)])/\H' l=some (.lst (vv r))/\Same H H'
theorem xfour (H:Hp) (r:List Nat):notMade cs H (XFour cs H r) r:=fun dx l H' hl s e1 e2=>⟨rfl,dx,l,rfl,hl,e1,e2,s⟩
def spRefused (P:Program) (w:World) (K:PySem.W.Frag) (mg:Str->Option Value) (base:Heap) (cs:Cl) (k:Nat):Sp:=fun vs H Q _=>∃ (f a:Addr) (ps:List Str) (sp:Sp) (r:List Nat),vs=[.ref f,.ref a]/\FnV P w K mg base k f ps sp/\(∀ Q',sp [.ref a] H Q' (XFour cs H r)) /\
 ∀ (l:Addr) (H':Hp),H l=none->Same H H'->H' l=some (.lst (vv r))->Q (.ref l) H'
theorem scLawRefused:FnScope ["_law_ask","_law_web_here","error","_law_others"] ["_law_ask","_law_web_here"] (defScope sLawRefused):=⟨rfl,rfl,rfl,by decide +kernel,rfl,by decide +kernel,by decide +kernel⟩
theorem ok_lawRefused (T:Txt K mg cs) (kk:Nat):Cal P w K mg base (kk + 1) "_law_refused" ["_law_ask","_law_web_here"] (spRefused P w K mg base cs kk):=by
 refine FnT.cal (k:=kk) T.lawRefused scLawRefused (fun vs H Q E h=>?_) (fun f cdv A outer s H vs Q E hr h=>?_)
 ·obtain ⟨f,a,ps,sp,r,rfl,_⟩:=h
  rfl
 ·obtain ⟨fa,aw,ps,sp,r,rfl,hF,hsp,k⟩:=h
  refine ⟨_,(pss_cons (ps_try_as (i:=2) (E:=XFour cs H r) ["_law_ask","_law_web_here","error","_law_others"] K rfl rfl
    (fun pn W hth=>pss_one (ps_expr (pe_calV (i:=0) P w K mg base rfl (.inl rfl) hr hth (pa_cons (pv 1) pa_nil)))) (by rfl) T.gWebError T.cWebError
    (fun a=>pss_cons (ps_set (i:=3) scLawRefused.nd rfl (Or.inl rfl) (pe_lst (pa_cons (pe_callB (call_isX K) (by rfl) T.isinst PyProof.Rows.boot_isinstance (pa_cons (pv 2) (pa_cons (pe_glob (v:=.ref cs.BadWeb) (by rfl) T.gBadWeb rfl) pa_nil)))
      (pa_cons (pe_callB (call_isX K) (by rfl) T.isinst PyProof.Rows.boot_isinstance (pa_cons (pv 2) (pa_cons (pe_glob (v:=.ref cs.BadTree) (by rfl) T.gBadTree rfl) pa_nil)))
      (pa_cons (pe_callB (call_isX K) (by rfl) T.isinst PyProof.Rows.boot_isinstance (pa_cons (pv 2) (pa_cons (pe_glob (v:=.ref cs.NoPoint) (by rfl) T.gNoPoint rfl) pa_nil))) pa_nil)))))
     (pss_cons (ps_if (PW.pt (pw_or (pt_val (pe_callB (call_anyX K rfl) (by rfl) T.any PyProof.Rows.boot_any (pa_cons (pv 3) pa_nil)))
       (pw_or (pt_val (pe_callB (call_isX K) (by rfl) T.isinst PyProof.Rows.boot_isinstance (pa_cons (pv 2) (pa_cons (pe_glob (v:=.ref cs.BadText) (by rfl) T.gBadText rfl) pa_nil))))
       (pw_or1 (pt_not (pt_val (pe_callB (call_isX K) (by rfl) T.isinst PyProof.Rows.boot_isinstance (pa_cons (pv 2) (pa_cons (pe_glob (v:=.ref cs.NotMade) (by rfl) T.gNotMade rfl) pa_nil)))))))))
      (pss_one (ps_ret (pe_lst pa_nil))) pss_nil)
     (pss_one (ps_ret (pe_ifExp (pt_val (pe_callB (call_isX K) (by rfl) T.isinst PyProof.Rows.boot_isinstance (pa_cons (pv 2) (pa_cons (pe_bltn (v:=.ty "ValueError") (by rfl) T.valueError PyProof.Rows.Boot.«ValueError» rfl) pa_nil))))
      (pe_xfld (pv 2) rfl K) (pe_lst pa_nil))))))
    scLawRefused.nd rfl rfl)
   (pss_one (ps_ret (pe_lst pa_nil)))),?_⟩
  refine ⟨?_,?_⟩
  ·exact ⟨fa,ps,sp,rfl,hF,_,rfl,hsp _⟩
  ·rintro a C dx H' ⟨rfl,d,l,rfl,hl0,hd,hll,sm⟩ hat
   refine ⟨cs.NotMade,rfl,T.eNotMadeWebError,?_⟩
   refine ⟨_,rfl,a,cs.NotMade,d,_,_,.ref cs.BadWeb,false,rfl,rfl,(fun u h=>h),hat,hd,T.xNotMade,T.kNotMadeBadWeb,?_⟩
   refine ⟨_,rfl,a,cs.NotMade,d,_,_,.ref cs.BadTree,false,rfl,rfl,(fun u h=>h),hat,hd,T.xNotMade,T.kNotMadeBadTree,?_⟩
   refine ⟨_,rfl,a,cs.NotMade,d,_,_,.ref cs.NoPoint,false,rfl,rfl,(fun u h=>h),hat,hd,T.xNotMade,T.kNotMadeNoPoint,?_⟩
   refine ⟨(by rw [sizeLine_eq]; show 3 <= _; decide),fun q hq=>?_⟩
   have s1:=same_upd (o:=.lst [V.bl false,V.bl false,V.bl false]) (Same.refl H') hq
   have hat1:=s1 _ _ hat
   have hd1:=s1 _ _ hd
   refine ⟨_,rfl,q,[false,false,false],_,_,rfl,SqL.of upd_same,hat1,_,rfl,iteF' rfl ?_⟩
   refine ⟨_,rfl,a,cs.NotMade,d,_,_,.ref cs.BadText,false,rfl,rfl,(fun u h=>h),hat1,hd1,T.xNotMade,T.kNotMadeBadText,_,rfl,iteF' rfl ?_⟩
   refine ⟨_,rfl,a,cs.NotMade,d,_,_,.ref cs.NotMade,true,rfl,rfl,(fun u h=>h),hat1,hd1,T.xNotMade,T.kNotMadeNotMade,_,rfl,iteF' rfl ?_⟩
   refine ⟨_,rfl,a,cs.NotMade,d,_,_,.type "ValueError",true,rfl,rfl,(fun u h=>h),hat1,hd1,T.xNotMade,T.kNotMadeV,_,rfl,iteT' rfl ?_⟩
   exact ⟨_,rfl,a,cs.NotMade,d,_,_,rfl,hat1,hd1,T.xNotMade,T.nNotMadeFour,rfl,k l _ hl0 (sm.trans s1) (s1 _ _ hll)⟩
end
end Bw
namespace Bw
open PySem L2
section
variable {P:Program} {w:World} {K:PySem.W.Frag} {mg:Str->Option Value} {base:Heap} {cs:Cl}
def spMapped (K:PySem.W.Frag):Sp:=fun vs H Q _=>∃ (a b c:Addr) (ws us g:List Nat),vs=[.ref a,.ref b,.ref c]/\SqL K H a (vv ws)/\SqL K H b (vv us)/\H c=some (.lst (vv g))/\ws.length <= 10/\us.length <= 10/\g.length <= 10/\∀ H',Same H H'->Q (.bl (mapB ws us g)) H'
theorem scLawMapped:FnScope ["_law_one","_law_other","_law_found","_law_first","_law_second","_law_row"] ["_law_one","_law_other","_law_found"] (defScope sLawMapped):=⟨rfl,rfl,rfl,by decide +kernel,rfl,by decide +kernel,by decide +kernel⟩
theorem ok_lawMapped (T:Txt K mg cs):Cal P w K mg base 1 "_law_mapped" ["_law_one","_law_other","_law_found"] (spMapped K):=by
 refine T.lawMapped.cal scLawMapped (fun vs H Q E h=>?_) (fun f cdv A outer s H vs Q E hr h=>?_)
 ·obtain ⟨a,b,c,ws,us,g,rfl,_⟩:=h
  rfl
 ·obtain ⟨a,b,c,ws,us,g,rfl,ha,hb,hc,h1,h2,h3,k⟩:=h
  have hu:=hu_of hr
  have hu64:=hr.units
  refine ⟨_,(pss_cons (ps_if (PW.pt (pw_or (pt_not (pt_val (pe_callB (call_isinstK K) (by rfl) T.isinst PyProof.Rows.boot_isinstance (pa_cons (pv 2) (pa_cons (pe_bltn (v:=.ty "list") (by rfl) T.list PyProof.Rows.boot_list rfl) pa_nil))))) (pw_or1 (pt_cmpR op_ne (pe_callB (call_lenK K) (by rfl) T.len PySem.boot_len (pa_cons (pv 2) pa_nil)) (pe_callB (call_lenK K) (by rfl) T.len PySem.boot_len (pa_cons (pv 0) pa_nil)) (nomark _)))))
   (pss_one (ps_ret pe_bl))
   pss_nil)
   (pss_cons (ps_if (pt_cmpR (op_neL hu64) (pe_callB (call_sortI K) (by rfl) T.sorted PyProof.Rows.boot_sorted (pa_cons (pv 2) pa_nil)) (pe_callTy (call_list_rng rfl) (by rfl) T.list PyProof.Rows.boot_list (pa_cons (pe_callTy call_range1 (by rfl) T.range PyProof.Rows.boot_range (pa_cons (pe_callB (call_lenK K) (by rfl) T.len PySem.boot_len (pa_cons (pv 1) pa_nil)) pa_nil)) pa_nil)) (nomark _))
   (pss_one (ps_ret pe_bl))
   pss_nil)
   (pss_cons (ps_for PassesOwn.never rfl (pi_range1 rfl T.range (pa_cons (pe_callB (call_lenK K) (by rfl) T.len PySem.boot_len (pa_cons (pv 0) pa_nil)) pa_nil)) (pg_name (i:=3) scLawMapped.nd rfl (Or.inl rfl))
   (pss_cons (ps_if (pt_val (pe_callB (call_isinstK K) (by rfl) T.isinst PyProof.Rows.boot_isinstance (pa_cons (pe_ix (ix_listK K) (pv 2) (pv 3) (fun _ _=>rfl)) (pa_cons (pe_bltn (v:=.ty "bool") (by rfl) T.bool PyProof.Rows.boot_bool rfl) pa_nil))))
    (pss_one (ps_ret pe_bl))
    pss_nil)
    (pss_one (ps_for PassesOwn.never rfl (pi_range1 rfl T.range (pa_cons (pv 3) pa_nil)) (pg_name (i:=4) scLawMapped.nd rfl (Or.inl rfl))
    (pss_cons (ps_set (i:=5) scLawMapped.nd rfl (Or.inl rfl) (pe_ix (ix_listK K) (pv 1) (pe_ix (ix_listK K) (pv 2) (pv 3) (fun _ _=>rfl)) (fun _ _=>rfl)))
     (pss_one (ps_if (pt_cmpR op_ne (pe_op op_and (pe_op op_shr (pe_ix (ix_listK K) (pv 0) (pv 3) (fun _ _=>rfl)) (pv 4)) pe_int) (pe_op op_and (pe_op op_shr (pv 5) (pe_ix (ix_listK K) (pv 2) (pv 4) (fun _ _=>rfl))) pe_int) (nomark _))
     (pss_one (ps_ret pe_bl))
     pss_nil)))))))
   (pss_one (ps_ret pe_bl))))),?_⟩
  have hq:SqL K H c (vv g):=SqL.of hc
  refine ⟨_,rfl,_,_,_,_,rfl,TyOf.lst hc,kit_ll K,true,rfl,iteF ?_⟩
  refine ⟨_,rfl,c,vv g,rfl,.inl hq,_,rfl,a,vv ws,rfl,.inl ha,rfl,_,rfl,?_⟩
  rw [vv_len,vv_len]
  by_cases hl:g.length=ws.length
  rotate_left
  ·refine iteT' ?_ ?_
   ·rw [decide_eq_false (fun z=>hl (by have:=V.int.inj z; omega))]
    rfl
   ·have:=k H (Same.refl H)
    rw [mapB_no fun M=>hl M.len] at this
    exact this
  refine iteF' (by rw [decide_eq_true (by rw [hl])]; rfl) ?_
  refine ⟨_,rfl,c,iv g,rfl,hq,by rw [iv_len]; omega,fun sl zs hsl hperm hsort=>?_⟩
  have s1:=same_upd (o:=.lst (zs.map V.int)) (Same.refl H) hsl
  have e1:upd H sl (.lst (zs.map V.int)) sl=some (.lst (zs.map V.int)):=upd_same
  generalize upd H sl (.lst (zs.map V.int))=H1 at s1 e1
  refine ⟨_,rfl,b,_,rfl,.inl (s1.seq hb),_,rfl,fun rg hrg=>?_⟩
  have s2:=same_upd (o:=.rng 0 ((vv us).length:Nat)) (Same.refl _) hrg
  refine ⟨rg,0,_,rfl,upd_same,by decide,by decide,by rw [vv_len]; omega,by rw [vv_len]; omega,by rw [vv_len]; omega,fun pl hpl=>?_⟩
  rw [list_rng_vv]
  have s3:=same_upd (o:=.lst (vv (List.range us.length))) s2 hpl
  refine ⟨sl,pl,zs,iv (List.range us.length),rfl,rfl,SqL.of (s3 _ _ e1),SqL.of upd_same,_,rfl,?_⟩
  have sA:=s1.trans s3
  have zperm:zs=iv (List.range us.length) ↔ g.Perm (List.range us.length):=by
   constructor
   ·intro e
    have hp:(iv g).Perm (iv (List.range us.length)):=by
     rw [<- e]
     exact hperm.symm
    have:=hp.map Int.toNat
    unfold iv at this
    rw [List.map_map,List.map_map] at this
    simpa [Function.comp_def] using this
   ·intro p
    exact PySem.W.ksm_same (hperm.trans (p.map _)) hsort (iv_sorted List.pairwise_lt_range)
  by_cases hp:g.Perm (List.range us.length)
  rotate_left
  ·refine iteT' (by rw [if_pos rfl,decide_eq_false (fun z=>hp (zperm.mp z))]; rfl) ?_
   have:=k _ sA
   rw [mapB_no fun M=>hp M.perm] at this
   exact this
  refine iteF' (by rw [if_pos rfl,decide_eq_true (zperm.mpr hp)]; rfl) ?_
  have glt:∀ i,i < g.length->g.getD i 0 < us.length:=fun i hi=>List.mem_range.mp (hp.mem_iff.mp (getD_mem hi))
  generalize upd _ pl _=H2 at sA
  have haq:=sA.seq ha
  have hbq:=sA.seq hb
  have hcq:=sA.seq hq
  refine ⟨_,rfl,a,_,rfl,.inl haq,_,rfl,by rw [vv_len]; omega,by rw [vv_len]; omega,?_⟩
  rw [vv_len,Int.toNat_natCast]
  refine for_range (n:=ws.length) (fun i σ H'=>∃ v3 v4 v5,σ=[some (.ref a),some (.ref b),some (.ref c),v3,v4,v5]/\H'=H2/\∀ m,m < i->∀ j,j < m->bit ws m j=bit us (g.getD m 0) (g.getD j 0)) ⟨_,_,_,rfl,rfl,fun m hm=>absurd hm (by omega)⟩ ?_ ?_
  ·rintro i σ H' hi ⟨v3,v4,v5,rfl,rfl,hall⟩
   have e0:(0:Int) + (i:Int)=((i:Nat):Int):=by omega
   rw [e0]
   have hig:i < g.length:=by omega
   refine ⟨_,rfl,_,rfl,c,_,_,_,rfl,rfl,hcq,atI_nat (vv_get hig),_,_,_,_,rfl,.int _,kit_ib K,_,rfl,iteF ?_⟩
   refine ⟨_,rfl,_,rfl,by omega,by omega,?_⟩
   rw [Int.toNat_natCast]
   refine for_range (n:=i) (fun j σ H3=>∃ v4 v5,σ=[some (.ref a),some (.ref b),some (.ref c),some (.int (i:Int)),v4,v5]/\H3=H'/\∀ m,m < j->bit ws i m=bit us (g.getD i 0) (g.getD m 0)) ⟨_,_,rfl,rfl,fun m hm=>absurd hm (by omega)⟩ ?_ ?_
   ·rintro j σ H3 hj ⟨v4,v5,rfl,rfl,hrow⟩
    have e1:(0:Int) + (j:Int)=((j:Nat):Int):=by omega
    rw [e1]
    have hjg:j < g.length:=by omega
    refine ⟨_,rfl,_,rfl,_,rfl,c,_,_,_,rfl,rfl,hcq,atI_nat (vv_get hig),b,_,_,_,rfl,rfl,hbq,atI_nat (vv_get (glt i hig)),?_⟩
    refine ⟨_,rfl,_,rfl,a,_,_,_,rfl,rfl,haq,atI_nat (vv_get hi),_,rfl,_,_,rfl,rfl,Int.natCast_nonneg _,_,_,rfl,rfl,?_⟩
    refine ⟨_,rfl,_,rfl,_,rfl,c,_,_,_,rfl,rfl,hcq,atI_nat (vv_get hjg),_,_,rfl,rfl,Int.natCast_nonneg _,_,_,rfl,rfl,rfl,_,rfl,?_⟩
    have key:(V.int (Builtin.bitAnd (((ws.getD i 0:Nat):Int) / 2 ^ ((j:Int)).toNat) 1)=V.int (Builtin.bitAnd (((us.getD (g.getD i 0) 0:Nat):Int) / 2 ^ (((g.getD j 0:Nat):Int)).toNat) 1)) ↔ bit ws i j=bit us (g.getD i 0) (g.getD j 0):=by
     rw [shr_bit_int,shr_bit_int]
     have et:(ws.getD i 0).testBit j=bit ws i j:=rfl
     have eu:(us.getD (g.getD i 0) 0).testBit (g.getD j 0)=bit us (g.getD i 0) (g.getD j 0):=rfl
     rw [et,eu]
     cases bit ws i j <;> cases bit us (g.getD i 0) (g.getD j 0) <;> simp
    dsimp only
    by_cases hm:bit ws i j=bit us (g.getD i 0) (g.getD j 0)
    ·refine iteF' (by rw [decide_eq_true (key.mpr hm)]; rfl) ?_
     refine ⟨_,_,rfl,rfl,fun m hml=>?_⟩
     by_cases e:m=j
     ·subst e; exact hm
     ·exact hrow m (by omega)
    ·refine iteT' (by rw [decide_eq_false (fun z=>hm (key.mp z))]; rfl) ?_
     have:=k _ sA
     rw [mapB_no fun M=>hm (M.ties i j hj hi)] at this
     exact this
   ·rintro σ H3 ⟨v4,v5,rfl,rfl,hrow⟩
    refine ⟨_,_,_,rfl,rfl,fun m hm j hj=>?_⟩
    by_cases e:m=i
    ·subst e; exact hrow j hj
    ·exact hall m (by omega) j hj
  ·rintro σ H' ⟨v3,v4,v5,rfl,rfl,hall⟩
   have:=k _ sA
   rw [mapB_yes ⟨hl,hp,fun i j hji hi=>hall i hi j hji⟩] at this
   exact this
end
end Bw
namespace Bw
open PySem L2
theorem bit_set_or {us:List Nat} {a b:Nat} (ha:a < us.length) (x y:Nat):bit (us.set a (us.getD a 0 ||| 2 ^ b)) x y=true ↔ bit us x y=true\/(x=a/\y=b):=by
 unfold bit
 rw [List.getD_eq_getElem?_getD,List.getElem?_set]
 by_cases h:a=x
 ·subst h
  rw [if_pos rfl,if_pos ha,Option.getD_some,Nat.testBit_or,Nat.testBit_two_pow,Bool.or_eq_true,decide_eq_true_eq]
  constructor
  ·rintro (h | h)
   ·exact .inl h
   ·exact .inr ⟨rfl,h.symm⟩
  ·rintro (h | h)
   ·exact .inl h
   ·exact .inr h.2.symm
 ·rw [if_neg h,<- List.getD_eq_getElem?_getD]
  constructor
  ·exact .inl
  ·rintro (h' | h')
   ·exact h'
   ·exact absurd h'.1.symm h
theorem perm_pop {nm lf:List Nat} {n z:Nat} (h:(nm ++ lf).Perm (List.range n)) (hz:z < lf.length):((nm ++ [lf.getD z 0]) ++ lf.eraseIdx z).Perm (List.range n):=by
 refine List.Perm.trans ?_ h
 rw [List.append_assoc]
 refine List.Perm.append_left nm ?_
 rw [List.singleton_append]
 have e:lf.getD z 0=lf[z]:=by rw [List.getD_eq_getElem?_getD,List.getElem?_eq_getElem hz]; rfl
 rw [e,List.eraseIdx_eq_take_drop_succ]
 refine List.perm_middle.symm.trans ?_
 rw [List.getElem_cons_drop hz,List.take_append_drop]
theorem vv_eraseIdx:∀ (l:List Nat) (i:Nat),(vv l).eraseIdx i=vv (l.eraseIdx i)
 | [],_=>rfl
 | _::_,0=>rfl
 | a::l,i + 1=>by
  show V.int (a:Int)::(vv l).eraseIdx i=V.int (a:Int)::vv (l.eraseIdx i)
  rw [vv_eraseIdx l i]
section
variable {P:Program} {w:World} {K:PySem.W.Frag} {mg:Str->Option Value} {base:Heap} {cs:Cl}
def spRenum (K:PySem.W.Frag):Sp:=fun vs H Q _=>∃ (a:Addr) (c:Int) (ws:List Nat),vs=[.ref a,.int c]/\SqL K H a (vv ws)/\Web ws/\∀ (l:Addr) (H':Hp) (us g:List Nat),H l=none->Same H H'->H' l=some (.lst (vv us))->Web us->Mapped ws us g->Q (.ref l) H'
theorem scLawRenumbered:FnScope ["_law_web_here","_law_cell","_law_left","_law_names","_law_made","_law_one","_law_other"] ["_law_web_here","_law_cell"] (defScope sLawRenumbered):=⟨rfl,rfl,rfl,by decide +kernel,rfl,by decide +kernel,by decide +kernel⟩
def cLawRenumbered1:Scope:={ kind:=.function,names:=[(Str.ofString ".0",.local),(Str.ofString "_law_point",.local)],isGenerator:=false,isCoroutine:=false,more:=[] }
theorem cLawRenumbered1s:CScope ["_law_web_here","_law_cell","_law_left","_law_names","_law_made","_law_one","_law_other"] (defScope sLawRenumbered) cLawRenumbered1 ["_law_point"] []:=⟨rfl,by decide +kernel,by decide +kernel,by decide +kernel,by decide,by decide +kernel,by decide +kernel⟩
theorem ok_lawRenum (T:Txt K mg cs):Cal P w K mg base 2 "_law_renumbered" ["_law_web_here","_law_cell"] (spRenum K):=by
 have CLawDraw:Cal P w K mg base 1 "_law_draw" ["_law_cell","_law_k","_law_many"] spDraw:=(ok_draw T).mono (by decide)
 refine T.lawRenumbered.cal scLawRenumbered (fun vs H Q E h=>?_) (fun f cdv A outer s H vs Q E hr h=>?_)
 ·obtain ⟨a,c,ws,rfl,_⟩:=h
  rfl
 ·obtain ⟨a,c,ws,rfl,ha,W,k⟩:=h
  have hu:=hu_of hr
  have hu64:=hr.units
  refine ⟨_,(pss_cons (ps_set (i:=2) scLawRenumbered.nd rfl (Or.inl rfl) (pe_callTy (call_list_rng rfl) (by rfl) T.list PyProof.Rows.boot_list (pa_cons (pe_callTy call_range1 (by rfl) T.range PyProof.Rows.boot_range (pa_cons (pe_callB (call_lenK K) (by rfl) T.len PySem.boot_len (pa_cons (pv 0) pa_nil)) pa_nil)) pa_nil)))
   (pss_cons (ps_set (i:=3) scLawRenumbered.nd rfl (Or.inl rfl) (pe_lst pa_nil))
   (pss_cons (ps_while PassesOwn.never (pt_cmpR (op_neL hu64) (pv 2) (pe_lst pa_nil) (nomark _))
   (pss_one (ps_expr (pe_bm PySem.F.plainAttrs_list PySem.F.slot_list_append PySem.F.type_list_append mt_append (pv 3) (pa_cons (pe_bm PySem.F.plainAttrs_list PySem.F.slot_list_pop PySem.F.type_list_pop mt_popAt (pv 2) (pa_cons (pe_cal CLawDraw hr (by rfl) (pa_cons (pv 1) (pa_cons (pe_callB (call_lenK K) (by rfl) T.len PySem.boot_len (pa_cons (pv 2) pa_nil)) (pa_cons (pe_callB (call_lenK K) (by rfl) T.len PySem.boot_len (pa_cons (pv 2) pa_nil)) pa_nil)))) pa_nil)) pa_nil)))))
   (pss_cons (ps_setComp (i:=4) (sc:=cLawRenumbered1) scLawRenumbered.nd rfl rfl rfl (pi_listK K (pv 0)) cLawRenumbered1s (fun _ _ _ _=>(pg_name (i:=0) cLawRenumbered1s.nd rfl (Or.inl rfl))) (fun _ _ _ _=>pif_nil) (fun _ _ _ _=>pe_int))
   (pss_cons (ps_for PassesOwn.never rfl (pi_range1 rfl T.range (pa_cons (pe_callB (call_lenK K) (by rfl) T.len PySem.boot_len (pa_cons (pv 0) pa_nil)) pa_nil)) (pg_name (i:=5) scLawRenumbered.nd rfl (Or.inl rfl))
   (pss_one (ps_for PassesOwn.never rfl (pi_range1 rfl T.range (pa_cons (pe_callB (call_lenK K) (by rfl) T.len PySem.boot_len (pa_cons (pv 0) pa_nil)) pa_nil)) (pg_name (i:=6) scLawRenumbered.nd rfl (Or.inl rfl))
    (pss_one (ps_if (pt_cmpR op_eq (pe_op op_and (pe_op op_shr (pe_ix (ix_listK K) (pv 0) (pv 5) (fun _ _=>rfl)) (pv 6)) pe_int) pe_int (nomark _))
     (pss_one (ps_asg (pe_op op_or (pe_ix (ix_listK K) (pv 4) (pe_ix (ix_listK K) (pv 3) (pv 5) (fun _ _=>rfl)) (fun _ _=>rfl)) (pe_op op_shl pe_int (pe_ix (ix_listK K) (pv 3) (pv 6) (fun _ _=>rfl)))) (pg_sub (pv 4) (pe_ix (ix_listK K) (pv 3) (pv 5) (fun _ _=>rfl)) set_list)))
     pss_nil)))))
   (pss_one (ps_ret (pv 4)))))))),?_⟩
  have h10:=W.le
  refine ⟨_,rfl,a,_,rfl,.inl ha,_,rfl,fun rg hrg=>?_⟩
  have s0:=same_upd (o:=.rng 0 ((vv ws).length:Nat)) (Same.refl H) hrg
  refine ⟨rg,0,_,rfl,upd_same,by decide,by decide,by rw [vv_len]; omega,by rw [vv_len]; omega,by rw [vv_len]; omega,fun ll hll=>?_⟩
  rw [list_rng_vv]
  have hll0:H ll=none:=same_none s0 hll
  have s1:=same_upd (o:=.lst (vv (List.range ws.length))) s0 hll
  have e1:upd (upd H rg (.rng 0 ((vv ws).length:Nat))) ll (.lst (vv (List.range ws.length))) ll=some (.lst (vv (List.range ws.length))):=upd_same
  generalize upd (upd H rg (.rng 0 ((vv ws).length:Nat))) ll (.lst (vv (List.range ws.length)))=H1 at s1 e1
  refine ⟨Nat.zero_le _,fun nl hnl=>?_⟩
  have hnl0:H nl=none:=same_none s1 hnl
  have hne:ll ≠ nl:=ne_of_none e1 hnl
  have s2:=same_upd (o:=.lst []) s1 hnl
  refine while_of (fun σ H2=>∃ (nm lf:List Nat) (v4 v5 v6:Option V),σ=[some (.ref a),some (.int c),some (.ref ll),some (.ref nl),v4,v5,v6]/\H2 ll=some (.lst (vv lf))/\H2 nl=some (.lst (vv nm))/\(nm ++ lf).Perm (List.range ws.length)/\Same H H2) (fun _ H2=>lenL (H2 ll))
   ⟨[],List.range ws.length,_,_,_,rfl,by rw [upd_ne hne]; exact e1,upd_same,.refl _,s2⟩ ?_
  rintro σ H2 ⟨nm,lf,v4,v5,v6,rfl,hl2,hn2,hp,sm⟩
  have hlen:nm.length + lf.length=ws.length:=by
   have:=hp.length_eq
   rwa [List.length_append,List.length_range] at this
  refine ⟨_,rfl,Nat.zero_le _,fun q hq=>?_⟩
  have sq:=same_upd (o:=.lst []) (Same.refl H2) hq
  refine ⟨ll,q,iv lf,[],rfl,rfl,SqL.of (sq _ _ hl2),SqL.of upd_same,_,rfl,?_⟩
  have hl3:=sq _ _ hl2
  have hn3:=sq _ _ hn2
  have sm3:=sm.trans sq
  generalize upd H2 q (.lst [])=H3 at hl3 hn3 sm3
  refine ite2 (fun hgt=>?_) (fun hgt=>?_)
  ·have hpos:0 < lf.length:=by
    rcases Nat.eq_zero_or_pos lf.length with z | z
    ·have:lf=[]:=List.eq_nil_of_length_eq_zero z
     rw [this] at hgt
     exact absurd hgt (by decide)
    ·exact z
   refine ⟨_,wh,?_⟩
   refine ⟨_,rfl,.inl ⟨rfl,_,SqL.of hn3⟩,_,rfl,.inl ⟨rfl,_,SqL.of hl3⟩,_,rfl,_,rfl,ll,_,rfl,.inl (SqL.of hl3),_,rfl,ll,_,rfl,.inl (SqL.of hl3),c,_,_,rfl,by rw [vv_len]; omega,fun z H4 hz s4=>?_⟩
   rw [vv_len] at hz
   have hzl:z < lf.length:=by omega
   have hl4:=s4 _ _ hl3
   have hn4:=s4 _ _ hn3
   refine ⟨ll,_,_,z,_,rfl,rfl,hl4,by omega,by omega,by rw [vv_len]; exact seqIx_nat hzl,vv_get hzl,?_⟩
   refine ⟨nl,_,_,rfl,rfl,by rw [upd_ne (Ne.symm hne)]; exact hn4,by rw [vv_len,sizeLine_eq]; omega,?_⟩
   refine ⟨⟨nm ++ [lf.getD z 0],lf.eraseIdx z,_,_,_,rfl,by rw [upd_ne hne,upd_same,vv_eraseIdx],by rw [upd_same,vv_snoc],perm_pop hp hzl,same_upd' (same_upd' (sm3.trans s4) hll0) hnl0⟩,?_⟩
   rw [upd_ne hne,upd_same,hl2]
   show ((vv lf).eraseIdx z).length < (vv lf).length
   rw [List.length_eraseIdx,vv_len,if_pos hzl]
   omega
  ·have hlf:lf=[]:=by
    cases lf with
    | nil=>rfl
    | cons x r=>exact absurd (by rfl) hgt
   subst hlf
   rw [List.append_nil] at hp
   have hnl':nm.length=ws.length:=by rw [hp.length_eq,List.length_range]
   have nlt:∀ i,i < ws.length->nm.getD i 0 < ws.length:=fun i hi=>List.mem_range.mp (hp.mem_iff.mp (getD_mem (by omega)))
   refine ⟨_,rfl,a,rfl,⟨_,sm3.seq ha⟩,comp_list (K:=K) (a:=a) (xs:=vv ws) (fun i ys H4=>ys=vv (List.replicate i 0)/\H4=H3) ⟨rfl,rfl⟩ (by rw [vv_len,sizeLine_eq]; omega) (fun i ys H4 _ h=>by rw [h.2]; exact sm3.seq ha) ?_ ?_⟩
   ·rintro i x ys H4 hx hlt ⟨rfl,rfl⟩ hyl hys
    refine gset ?_
    refine yes ?_
    refine iteT ?_
    refine ⟨hys,Pn.snoc hlt hyl ⟨?_,rfl⟩⟩
    rw [List.replicate_succ',<- vv_snoc]
    rfl
   rintro ys H4 ⟨rfl,rfl⟩ hyl ml hml
   rw [vv_len]
   have hml0:H ml=none:=same_none sm3 hml
   have hnm:nl ≠ ml:=ne_of_none hn3 hml
   have sM:=same_upd (o:=.lst (vv (List.replicate ws.length 0))) sm3 hml
   have eN:upd H4 ml (.lst (vv (List.replicate ws.length 0))) nl=some (.lst (vv nm)):=by rw [upd_ne hnm]; exact hn3
   have eM:upd H4 ml (.lst (vv (List.replicate ws.length 0))) ml=some (.lst (vv (List.replicate ws.length 0))):=upd_same
   generalize upd H4 ml (.lst (vv (List.replicate ws.length 0)))=H5 at sM eN eM
   refine ⟨_,rfl,a,_,rfl,.inl (sM.seq ha),_,rfl,by rw [vv_len]; omega,by rw [vv_len]; omega,?_⟩
   rw [vv_len,Int.toNat_natCast]
   refine for_range (n:=ws.length) (fun i σ H6=>∃ (us:List Nat) (v5 v6:Option V),σ=[some (.ref a),some (.int c),some (.ref ll),some (.ref nl),some (.ref ml),v5,v6]/\Same H H6/\H6 nl=some (.lst (vv nm))/\H6 ml=some (.lst (vv us))/\us.length=ws.length/\∀ x y,bit us x y=true ↔ ∃ i' j',i' < i/\j' < ws.length/\nm.getD i' 0=x/\nm.getD j' 0=y/\bit ws i' j'=true)
    ⟨_,_,_,rfl,sM,eN,eM,List.length_replicate,fun x y=>by
     rw [bit_zero]
     constructor
     ·intro z
      cases z
     ·rintro ⟨_,_,h,_⟩
      exact absurd h (by omega)⟩ ?_ ?_
   ·rintro i σ H6 hi ⟨us,v5,v6,rfl,s6,n6,m6,l6,b6⟩
    have e0:(0:Int) + (i:Int)=((i:Nat):Int):=by omega
    rw [e0]
    refine ⟨_,rfl,a,_,rfl,.inl (s6.seq ha),_,rfl,by rw [vv_len]; omega,by rw [vv_len]; omega,?_⟩
    rw [vv_len,Int.toNat_natCast]
    refine for_range (n:=ws.length) (fun j σ H7=>∃ (us:List Nat) (v6:Option V),σ=[some (.ref a),some (.int c),some (.ref ll),some (.ref nl),some (.ref ml),some (.int (i:Int)),v6]/\Same H H7/\H7 nl=some (.lst (vv nm))/\H7 ml=some (.lst (vv us))/\us.length=ws.length/\∀ x y,bit us x y=true ↔ ∃ i' j',(i' < i\/(i'=i/\j' < j))/\j' < ws.length/\nm.getD i' 0=x/\nm.getD j' 0=y/\bit ws i' j'=true)
     ⟨us,_,rfl,s6,n6,m6,l6,fun x y=>by
      rw [b6]
      constructor
      ·rintro ⟨i',j',h1,h2⟩
       exact ⟨i',j',.inl h1,h2⟩
      ·rintro ⟨i',j',h1 | h1,h2⟩
       ·exact ⟨i',j',h1,h2⟩
       ·exact absurd h1.2 (by omega)⟩ ?_ ?_
    ·rintro j σ H7 hj ⟨vs,v6,rfl,s7,n7,m7,l7,b7⟩
     have e1:(0:Int) + (j:Int)=((j:Nat):Int):=by omega
     rw [e1]
     refine ⟨_,rfl,_,rfl,a,_,_,_,rfl,rfl,s7.seq ha,atI_nat (vv_get hi),_,rfl,_,_,rfl,rfl,Int.natCast_nonneg _,_,_,rfl,rfl,rfl,_,rfl,?_⟩
     rw [shr_bit]
     refine ite2 (fun hb=>?_) (fun hb=>?_)
     ·have hb':bit ws i j=true:=hb
      have hin:i < nm.length:=by omega
      have hjn:j < nm.length:=by omega
      have hil:nm.getD i 0 < vs.length:=by rw [l7]; exact nlt i hi
      have hjl:=nlt j hj
      refine ⟨_,rfl,_,rfl,_,rfl,nl,_,_,_,rfl,rfl,SqL.of n7,atI_nat (vv_get hin),ml,_,_,_,rfl,rfl,SqL.of m7,atI_nat (vv_get hil),_,rfl,_,rfl,nl,_,_,_,rfl,rfl,SqL.of n7,atI_nat (vv_get hjn),_,_,rfl,rfl,⟨by omega,by omega,by decide⟩,_,_,rfl,rfl,_,rfl,_,rfl,_,rfl,nl,_,_,_,rfl,rfl,SqL.of n7,atI_nat (vv_get hin),ml,_,_,_,rfl,rfl,m7,ixN_nat (by rw [vv_len]; exact hil),?_⟩
      dsimp only
      rw [shl_one,bitOr_nat,vv_set]
      refine ⟨_,_,rfl,same_upd' s7 hml0,by rw [upd_ne hnm]; exact n7,upd_same,by rw [List.length_set]; exact l7,fun x y=>?_⟩
      rw [bit_set_or hil,b7]
      constructor
      ·rintro (⟨i',j',h1,h2⟩ | ⟨h1,h2⟩)
       ·refine ⟨i',j',?_,h2⟩
        rcases h1 with h1 | ⟨h1,h3⟩
        ·exact .inl h1
        ·exact .inr ⟨h1,by omega⟩
       ·exact ⟨i,j,.inr ⟨rfl,by omega⟩,hj,h1.symm,h2.symm,hb'⟩
      ·rintro ⟨i',j',h1 | ⟨h1,h3⟩,h2,h4,h5,h6⟩
       ·exact .inl ⟨i',j',.inl h1,h2,h4,h5,h6⟩
       ·by_cases e:j'=j
        ·subst e h1
         exact .inr ⟨h4.symm,h5.symm⟩
        ·exact .inl ⟨i',j',.inr ⟨h1,by omega⟩,h2,h4,h5,h6⟩
     ·refine ⟨vs,_,rfl,s7,n7,m7,l7,fun x y=>?_⟩
      rw [b7]
      constructor
      ·rintro ⟨i',j',h1,h2⟩
       refine ⟨i',j',?_,h2⟩
       rcases h1 with h1 | ⟨h1,h3⟩
       ·exact .inl h1
       ·exact .inr ⟨h1,by omega⟩
      ·rintro ⟨i',j',h1 | ⟨h1,h3⟩,h2,h4,h5,h6⟩
       ·exact ⟨i',j',.inl h1,h2,h4,h5,h6⟩
       ·by_cases e:j'=j
        ·subst e h1
         exact absurd h6 hb
        ·exact ⟨i',j',.inr ⟨h1,by omega⟩,h2,h4,h5,h6⟩
    ·rintro σ H7 ⟨vs,v6,rfl,s7,n7,m7,l7,b7⟩
     refine ⟨vs,_,_,rfl,s7,n7,m7,l7,fun x y=>?_⟩
     rw [b7]
     constructor
     ·rintro ⟨i',j',h1 | ⟨h1,h3⟩,h2⟩
      ·exact ⟨i',j',by omega,h2⟩
      ·exact ⟨i',j',by omega,h2⟩
     ·rintro ⟨i',j',h1,h2⟩
      refine ⟨i',j',?_,h2⟩
      by_cases e:i'=i
      ·exact .inr ⟨e,h2.1⟩
      ·exact .inl (by omega)
   ·rintro σ H6 ⟨us,v5,v6,rfl,s6,n6,m6,l6,b6⟩
    obtain ⟨U,M⟩:=mapped_of W l6 hp b6
    exact ⟨_,rfl,k ml H6 us nm hml0 s6 m6 U M⟩
end
end Bw
namespace Bw
open PySem L2
theorem vv_flat (l:List Nat):(vv l).all flatV=true:=by
 rw [List.all_eq_true]
 intro x hx
 obtain ⟨i,hi⟩:=List.mem_iff_getElem?.mp hx
 obtain ⟨_,rfl⟩:=vv_at hi
 rfl
theorem inV_vv (p:Nat) (l:List Nat):inV (.int (p:Int)) (vv l)=decide (p ∈ l):=by
 unfold inV
 induction l with
 | nil=>rfl
 | cons a t ih =>
  show (eqV (V.int (a:Int)) (V.int (p:Int)) || (vv t).any fun y=>eqV y (V.int (p:Int)))=_
  rw [ih]
  show (((a:Int) == (p:Int)) || decide (p ∈ t))=_
  by_cases h:a=p
  ·subst h; simp
  ·have h1:¬ ((a:Int)=(p:Int)):=by omega
   have h2:¬ p=a:=fun z=>h z.symm
   have h3:((a:Int) == (p:Int))=false:=by simpa using h1
   rw [h3]
   simp [h2]
theorem iv_nil {g:List Nat}:iv g=[] ↔ g=[]:=by
 unfold iv
 exact List.map_eq_nil_iff
theorem filter_take_snoc (f:Nat->Bool) (l:List Nat) {i:Nat} (hi:i < l.length):(l.take (i + 1)).filter f=(l.take i).filter f ++ (if f (l.getD i 0) then [l.getD i 0] else []):=by
 rw [List.take_add_one,List.filter_append,List.getD_eq_getElem?_getD,List.getElem?_eq_getElem hi]
 show _ ++ [l[i]].filter f=_ ++ _
 congr 1
 cases h:f l[i] with
 | true=>simp [h]
 | false=>simp [h]
section
variable {P:Program} {w:World} {K:PySem.W.Frag} {mg:Str->Option Value} {base:Heap} {cs:Cl}
def ListsAt (H:Hp) (l:Addr) (rs:List Addr) (m i:Nat):Prop:=H l=some (.lst (rs.map V.ref))/\rs.length <= m/\∀ r ∈ rs,∃ g:List Nat,H r=some (.lst (vv g))/\g.length=i
theorem ListsAt.same {H H':Hp} {l:Addr} {rs:List Addr} {m i:Nat} (s:Same H H') (h:ListsAt H l rs m i):ListsAt H' l rs m i:=⟨s _ _ h.1,h.2.1,fun r hr=>by
 obtain ⟨g,h1,h2⟩:=h.2.2 r hr
 exact ⟨g,s _ _ h1,h2⟩⟩
def spLists:Sp:=fun vs H Q _=>∃ n:Nat,vs=[.int (n:Int)]/\n <= 5/\∀ (l:Addr) (rs:List Addr) (H':Hp),H l=none->Same H H'->ListsAt H' l rs 3125 n->Q (.ref l) H'
theorem scLawLists:FnScope ["_law_points","_law_found","_law_turn","_law_more","_law_some","_law_point"] ["_law_points"] (defScope sLawLists):=⟨rfl,rfl,rfl,by decide +kernel,rfl,by decide +kernel,by decide +kernel⟩
def cLawLists1:Scope:={ kind:=.function,names:=[(Str.ofString ".0",.local),(Str.ofString "_law_point",.local),(Str.ofString "_law_some",.free)],isGenerator:=false,isCoroutine:=false,more:=[] }
theorem cLawLists1s:CScope ["_law_points","_law_found","_law_turn","_law_more","_law_some","_law_point"] (defScope sLawLists) cLawLists1 ["_law_some","_law_point"] [4]:=⟨rfl,by decide +kernel,by decide +kernel,by decide +kernel,by decide,by decide +kernel,by decide +kernel⟩
theorem ok_lawLists (T:Txt K mg cs):Cal P w K mg base 1 "_law_lists" ["_law_points"] spLists:=by
 refine T.lawLists.cal scLawLists (fun vs H Q E h=>?_) (fun f cdv A outer s H vs Q E hr h=>?_)
 ·obtain ⟨n,rfl,_⟩:=h
  rfl
 ·obtain ⟨n,rfl,h5,k⟩:=h
  have hu:=hu_of hr
  have hu64:=hr.units
  refine ⟨_,(pss_cons (ps_set (i:=1) scLawLists.nd rfl (Or.inl rfl) (pe_lst (pa_cons (pe_lst pa_nil) pa_nil)))
   (pss_cons (ps_for PassesOwn.never rfl (pi_range1 rfl T.range (pa_cons (pv 0) pa_nil)) (pg_name (i:=2) scLawLists.nd rfl (Or.inl rfl))
   (pss_cons (ps_set (i:=3) scLawLists.nd rfl (Or.inl rfl) (pe_lst pa_nil))
    (pss_cons (ps_for PassesOwn.never rfl (pi_listK K (pv 1)) (pg_name (i:=4) scLawLists.nd rfl (Or.inr rfl))
    (pss_one (ps_for PassesOwn.never rfl (pi_listK K (pe_comp (sc:=cLawLists1) rfl (pi_range1 rfl T.range (pa_cons (pv 0) pa_nil)) cLawLists1s (fun _ _ _ _=>(pg_name (i:=1) cLawLists1s.nd rfl (Or.inl rfl))) (fun _ _ _ _=>(pif_one (pt_cmpR (op_notInK K) (pv 1) (pv 0) rfl))) (fun _ _ _ _=>(pv 1)))) (pg_name (i:=5) scLawLists.nd rfl (Or.inl rfl))
     (pss_one (ps_expr (pe_bm PySem.F.plainAttrs_list PySem.F.slot_list_append PySem.F.type_list_append mt_append (pv 3) (pa_cons (pe_op op_cat (pv 4) (pe_lst (pa_cons (pv 5) pa_nil))) pa_nil)))))))
    (pss_one (ps_set (i:=1) scLawLists.nd rfl (Or.inl rfl) (pv 3))))))
   (pss_one (ps_ret (pv 1))))),?_⟩
  refine ⟨Nat.zero_le _,fun l0 hl0=>?_⟩
  have s0:=same_upd (o:=.lst []) (Same.refl H) hl0
  have e0:upd H l0 (.lst []) l0=some (.lst (vv [])):=upd_same
  generalize upd H l0 (.lst [])=H0 at s0 e0
  refine ⟨by rw [sizeLine_eq]; show 1 <= _; decide,fun l1 hl1=>?_⟩
  have s1:=same_upd (o:=.lst [V.ref l0]) (Same.refl H0) hl1
  refine ⟨_,rfl,_,rfl,by omega,by omega,?_⟩
  rw [Int.toNat_natCast]
  refine for_range (n:=n) (fun i σ H1=>∃ (fl:Addr) (rs:List Addr) (v2 v3 v4 v5:Option V),σ=[some (.int (n:Int)),some (.ref fl),v2,v3,v4,v5]/\Same H H1/\H fl=none/\ListsAt H1 fl rs (5 ^ i) i)
   ⟨l1,[l0],_,_,_,_,rfl,s0.trans s1,same_none s0 hl1,upd_same,by show 1 <= 1; decide,fun r hr=>by rw [List.mem_singleton.mp hr]; exact ⟨[],s1 _ _ e0,rfl⟩⟩ ?_ ?_
  ·rintro i σ H1 hi ⟨fl,rs,v2,v3,v4,v5,rfl,sm,hfl,hL⟩
   have p5:5 ^ i <= 5 ^ 4:=Nat.pow_le_pow_right (by decide) (by omega)
   refine ⟨Nat.zero_le _,fun ml hml=>?_⟩
   have hml0:H ml=none:=same_none sm hml
   have s2:=same_upd (o:=.lst []) (Same.refl H1) hml
   have e2:upd H1 ml (.lst []) ml=some (.lst (([]:List Addr).map V.ref)):=upd_same
   generalize upd H1 ml (.lst [])=H2 at s2 e2
   refine ⟨_,rfl,fl,rfl,⟨_,SqL.of (s2 _ _ hL.1)⟩,for_list (K:=K) (a:=fl) (xs:=rs.map V.ref) (fun j σ H3=>∃ (ms:List Addr) (v2 v4 v5:Option V),σ=[some (.int (n:Int)),some (.ref fl),v2,some (.ref ml),v4,v5]/\Same H1 H3/\ListsAt H3 ml ms (j * 5) (i + 1))
    ⟨[],_,_,_,rfl,s2,e2,Nat.zero_le _,fun r hr=>nomatch hr⟩ (fun j σ H3 _ ⟨_,_,_,_,_,s,_⟩=>SqL.of (s _ _ hL.1)) ?_ ?_⟩
   ·rintro j x σ H3 hx ⟨ms,u2,u4,u5,rfl,s3,hM⟩
    obtain ⟨r,hr1,rfl⟩:=ref_at hx
    have hjl:j < rs.length:=(List.getElem?_eq_some_iff.mp hr1).1
    have hrm:=List.mem_of_getElem? hr1
    have hL2:=hL.2.1
    have p54:5 ^ 4=625:=by decide
    obtain ⟨g,hg,hgl⟩:=hL.2.2 r hrm
    have hg3:=s3 _ _ hg
    refine ⟨_,rfl,_,rfl,by omega,by omega,?_⟩
    rw [Int.toNat_natCast]
    refine comp_range (n:=n) (fun q ys H4=>ys=vv ((List.range q).filter fun p=>!decide (p ∈ g))/\Same H3 H4) ⟨rfl,Same.refl _⟩ (by rw [sizeLine_eq]; omega) ?_ ?_
    ·rintro q ys H4 hq ⟨rfl,s4⟩ hyl hys
     have eq0:(0:Int) + (q:Int)=((q:Nat):Int):=by omega
     rw [eq0]
     refine gset ?_
     refine ⟨_,rfl,_,rfl,r,vv g,rfl,.inl (SqL.of (s4 _ _ hg3)),rfl,vv_flat _,_,rfl,?_⟩
     have ein:(if true=true then !inV (V.int (q:Int)) (vv g) else inV (V.int (q:Int)) (vv g)) = !decide (q ∈ g):=by
      rw [if_pos rfl,inV_vv]
     rw [ein]
     have eft:(List.range (q + 1)).filter (fun p=>!decide (p ∈ g))=(List.range q).filter (fun p=>!decide (p ∈ g)) ++ if (!decide (q ∈ g))=true then [q] else []:=by
      rw [List.range_succ,List.filter_append]
      congr 1
      cases h:!decide (q ∈ g) <;> simp [h]
     refine ite2 (fun hb=>?_) (fun hb=>?_)
     ·refine ⟨_,rfl,hys,Pn.snoc hq hyl ⟨?_,s4⟩⟩
      rw [eft,if_pos hb,vv_snoc]
     ·refine Pn.mk hq (by omega) ⟨?_,s4⟩
      rw [eft,if_neg hb,List.append_nil]
    rintro ys H4 ⟨rfl,s4⟩ hyl cl hcl
    have s5:=same_upd (o:=.lst (vv ((List.range n).filter fun p=>!decide (p ∈ g)))) s4 hcl
    have e5:upd H4 cl (.lst (vv ((List.range n).filter fun p=>!decide (p ∈ g)))) cl=some (.lst (vv ((List.range n).filter fun p=>!decide (p ∈ g)))):=upd_same
    have ncm:ml ≠ cl:=ne_of_none (s4 _ _ hM.1) hcl
    have hql:((List.range n).filter fun p=>!decide (p ∈ g)).length <= 5:=by
     have:=List.length_filter_le (fun p=>!decide (p ∈ g)) (List.range n)
     rw [List.length_range] at this
     omega
    generalize (List.range n).filter (fun p=>!decide (p ∈ g))=qs at s5 e5 hql
    generalize upd H4 cl (.lst (vv qs))=H5 at s5 e5
    refine ⟨cl,rfl,⟨_,SqL.of e5⟩,for_list (K:=K) (a:=cl) (xs:=vv qs) (fun q σ H6=>∃ (ms:List Addr) (v2 v5:Option V),σ=[some (.int (n:Int)),some (.ref fl),v2,some (.ref ml),some (.ref r),v5]/\Same H1 H6/\H6 cl=some (.lst (vv qs))/\ListsAt H6 ml ms (j * 5 + q) (i + 1))
     ⟨ms,_,_,rfl,s3.trans s5,e5,hM.same s5⟩ (fun q σ H6 _ ⟨_,_,_,_,_,c,_⟩=>SqL.of c) ?_ ?_⟩
    ·rintro q x σ H6 hx ⟨ms,w2,w5,rfl,s6,c6,hM6⟩
     obtain ⟨hq,rfl⟩:=vv_at hx
     have hg6:=s6 _ _ hg
     refine ⟨_,rfl,.inl ⟨rfl,_,SqL.of hM6.1⟩,_,rfl,_,rfl,by rw [sizeLine_eq]; show 1 <= _; decide,fun t ht=>?_⟩
     have s7:=same_upd (o:=.lst [V.int ((qs.getD q 0:Nat):Int)]) (Same.refl H6) ht
     refine ⟨r,t,_,_,rfl,rfl,s7 _ _ hg6,upd_same,by rw [vv_len,sizeLine_eq]; show _ + 1 <= _; omega,fun y hy=>?_⟩
     rw [vv_snoc]
     have s8:=same_upd (o:=.lst (vv (g ++ [qs.getD q 0]))) s7 hy
     have e8:upd (upd H6 t (.lst [V.int ((qs.getD q 0:Nat):Int)])) y (.lst (vv (g ++ [qs.getD q 0]))) y=some (.lst (vv (g ++ [qs.getD q 0]))):=upd_same
     generalize upd (upd H6 t (.lst [V.int ((qs.getD q 0:Nat):Int)])) y (.lst (vv (g ++ [qs.getD q 0])))=H8 at s8 e8
     have hM8:=hM6.same s8
     have nym:y ≠ ml:=fun z=>by
      have:=s7 ml _ hM6.1
      rw [z,this] at hy
      cases hy
     have hmm:∀ r' ∈ ms,r' ≠ ml:=fun r' hr' z=>by
      obtain ⟨g',k1,_⟩:=hM8.2.2 r' hr'
      rw [z,hM8.1] at k1
      have k2:ms.map V.ref=vv g':=HO.lst.inj (Option.some.inj k1)
      have k3:V.ref r' ∈ vv g':=by
       rw [<- k2]
       exact List.mem_map.mpr ⟨r',hr',rfl⟩
      obtain ⟨ix,hix⟩:=List.mem_iff_getElem?.mp k3
      obtain ⟨_,k4⟩:=vv_at hix
      cases k4
     refine ⟨ml,_,_,rfl,rfl,hM8.1,by
      rw [List.length_map,sizeLine_eq]
      have:=hM8.2.1
      omega,?_⟩
     refine ⟨ms ++ [y],_,_,rfl,same_upd' (s6.trans s8) hml,by rw [upd_ne (Ne.symm ncm)]; exact s8 _ _ c6,by rw [upd_same,List.map_append]; rfl,by
      rw [List.length_append,List.length_singleton]
      have:=hM8.2.1
      omega,fun r' hr'=>?_⟩
     rcases List.mem_append.mp hr' with h | h
     ·obtain ⟨g',k1,k2⟩:=hM8.2.2 r' h
      exact ⟨g',by rw [upd_ne (hmm r' h)]; exact k1,k2⟩
     ·rw [List.mem_singleton.mp h]
      exact ⟨_,by rw [upd_ne nym]; exact e8,by rw [List.length_append,List.length_singleton,hgl]⟩
    ·rintro σ H6 ⟨ms,w2,w5,rfl,s6,c6,hM6⟩
     rw [vv_len] at hM6
     exact ⟨ms,_,_,_,rfl,s6,hM6.1,by have:=hM6.2.1; omega,hM6.2.2⟩
   ·rintro σ H3 ⟨ms,u2,u4,u5,rfl,s3,hM⟩
    rw [List.length_map] at hM
    refine ⟨_,rfl,?_⟩
    refine ⟨ml,ms,_,_,_,_,rfl,sm.trans s3,hml0,hM.1,?_,hM.2.2⟩
    have h1:=hM.2.1
    have h2:=hL.2.1
    rw [Nat.pow_succ]
    omega
  ·rintro σ H1 ⟨fl,rs,v2,v3,v4,v5,rfl,sm,hfl,hL⟩
   refine ⟨_,rfl,k fl rs H1 hfl sm ⟨hL.1,?_,hL.2.2⟩⟩
   have:5 ^ n <= 5 ^ 5:=Nat.pow_le_pow_right (by decide) h5
   have:=hL.2.1
   omega
end
end Bw
namespace Bw
open PySem L2
section
variable {P:Program} {w:World} {K:PySem.W.Frag} {mg:Str->Option Value} {base:Heap} {cs:Cl}
def tstP (ws:List Nat) (bi:Bool) (part:List Nat) (o:Nat):Bool:=decide (o ∉ part) && part.any fun q=>bit ws o q == bi
theorem nd_len:∀ {l m:List Nat},l.Nodup->(∀ x ∈ l,x ∈ m)->l.length <= m.length
 | [],_,_,_=>Nat.zero_le _
 | x::l,m,nd,h=>by
  obtain ⟨n1,n2⟩:=List.nodup_cons.mp nd
  obtain ⟨a,b,rfl⟩:=List.append_of_mem (h x (.head _))
  have ih:=nd_len (m:=a ++ b) n2 fun y hy=>by
   have:=h y (.tail _ hy)
   rcases List.mem_append.mp this with z | z
   ·exact List.mem_append.mpr (.inl z)
   ·rcases List.mem_cons.mp z with e | z
    ·subst e
     exact absurd hy n1
    ·exact List.mem_append.mpr (.inr z)
  rw [List.length_append] at ih
  rw [List.length_cons,List.length_append,List.length_cons]
  omega
theorem pIt_len {adj:Nat->Nat->Bool} {b:Bool} {left:List Nat} {x:Nat} (nd:left.Nodup) (hx:x ∈ left) (j:Nat):(pIt adj b left x j).length <= left.length:=by
 obtain ⟨h1,h2⟩:=pIt_ok (C:=left) (adj:=adj) (b:=b) nd hx (fun p _ o ho _ _=>ho) j
 exact nd_len h1 h2
theorem bit_is (ws:List Nat) (bi:Bool) (o q:Nat):decide (V.int (Builtin.bitAnd (((ws.getD o 0:Nat):Int) / 2 ^ ((q:Int)).toNat) 1)=V.int (if bi=true then 1 else 0))=(bit ws o q == bi):=by
 rw [shr_bit_int]
 have et:(ws.getD o 0).testBit q=bit ws o q:=rfl
 rw [et]
 cases bit ws o q <;> cases bi <;> simp
def muP8 (σ:St) (H:Hp):Nat:=match (σ.getD 4 none:Option V) with
 | some (V.ref l)=>lenL (H l)
 | _=>0
def spParted (K:PySem.W.Frag):Sp:=fun vs H Q _=>∃ (a b:Addr) (ws pts:List Nat) (bi:Bool) (us:List Tr),vs=[.ref a,.ref b,.int (if bi=true then 1 else 0)]/\SqL K H a (vv ws)/\SqL K H b (vv pts)/\ws.length <= 10/\(∀ p ∈ pts,p < ws.length)/\pts.length <= 10/\2 <= pts.length/\(ptsL us).Perm pts/\ClsT (bit ws) bi us /\
 ∀ (l:Addr) (rs:List Addr) (gs:List (List Nat)) (vs:List Tr) (H':Hp),H l=none->Same H H'->H' l=some (.lst (rs.map V.ref))->Paired (fun r g=>H' r=some (.lst (vv g))) rs gs->vs.Perm us->Paired (fun (g:List Nat) (u:Tr)=>g.Perm u.pts) gs vs->Q (.ref l) H'
theorem scLawParted:FnScope ["_law_web_here","_law_points","_law_bit","_law_found","_law_left","_law_part","_law_turn","_law_near"] ["_law_web_here","_law_points","_law_bit"] (defScope sLawParted):=⟨rfl,rfl,rfl,by decide +kernel,rfl,by decide +kernel,by decide +kernel⟩
def cLawParted1:Scope:={ kind:=.function,names:=[(Str.ofString ".0",.local),(Str.ofString "_law_one",.cell),(Str.ofString "any",.globalImplicit),(Str.ofString "_law_bit",.free),(Str.ofString "_law_part",.free),(Str.ofString "_law_web_here",.free)],isGenerator:=false,isCoroutine:=false,more:=[] }
theorem cLawParted1s:CScope ["_law_web_here","_law_points","_law_bit","_law_found","_law_left","_law_part","_law_turn","_law_near"] (defScope sLawParted) cLawParted1 ["_law_web_here","_law_bit","_law_part","_law_one"] [0,2,5]:=⟨rfl,by decide +kernel,by decide +kernel,by decide +kernel,by decide,by decide +kernel,by decide +kernel⟩
def cLawParted1r:Scope:={ kind:=.function,names:=[(Str.ofString ".0",.local),(Str.ofString "_law_one",.cell),(Str.ofString "any",.globalImplicit),(Str.ofString "_law_bit",.cell),(Str.ofString "_law_part",.cell),(Str.ofString "_law_web_here",.cell)],isGenerator:=false,isCoroutine:=false,more:=[] }
def cLawParted2:Scope:={ kind:=.function,names:=[(Str.ofString ".0",.local),(Str.ofString "_law_two",.local),(Str.ofString "_law_bit",.free),(Str.ofString "_law_one",.free),(Str.ofString "_law_web_here",.free)],isGenerator:=false,isCoroutine:=false,more:=[] }
theorem cLawParted2s:CScope ["_law_web_here","_law_bit","_law_part","_law_one"] cLawParted1r cLawParted2 ["_law_web_here","_law_bit","_law_one","_law_two"] [0,1,3]:=⟨rfl,by decide +kernel,by decide +kernel,by decide +kernel,by decide,by decide +kernel,by decide +kernel⟩
def cLawParted3:Scope:={ kind:=.function,names:=[(Str.ofString ".0",.local),(Str.ofString "_law_point",.local),(Str.ofString "_law_part",.free)],isGenerator:=false,isCoroutine:=false,more:=[] }
theorem cLawParted3s:CScope ["_law_web_here","_law_points","_law_bit","_law_found","_law_left","_law_part","_law_turn","_law_near"] (defScope sLawParted) cLawParted3 ["_law_part","_law_point"] [5]:=⟨rfl,by decide +kernel,by decide +kernel,by decide +kernel,by decide,by decide +kernel,by decide +kernel⟩
theorem ok_lawParted (T:Txt K mg cs):Cal P w K mg base 1 "_law_parted" ["_law_web_here","_law_points","_law_bit"] (spParted K):=by
 refine T.lawParted.cal scLawParted (fun vs H Q E h=>?_) (fun f cdv A outer s H vs Q E hr h=>?_)
 ·obtain ⟨a,b,ws,pts,bi,us,rfl,_⟩:=h
  rfl
 ·obtain ⟨a,b,ws,pts,bi,us,rfl,hw,hb,hw10,hplt,hp10,hp2,hus,C,k⟩:=h
  have hu:=hu_of hr
  have hu64:=hr.units
  refine ⟨_,(pss_cons (ps_set (i:=3) scLawParted.nd rfl (Or.inl rfl) (pe_lst pa_nil))
   (pss_cons (ps_set (i:=4) scLawParted.nd rfl (Or.inl rfl) (pe_callTy call_list_of (by rfl) T.list PyProof.Rows.boot_list (pa_cons (pv 1) pa_nil)))
   (pss_cons (ps_while PassesOwn.never (pt_cmpR (op_neL hu64) (pv 4) (pe_lst pa_nil) (nomark _))
   (pss_cons (ps_set (i:=5) scLawParted.nd rfl (Or.inr rfl) (pe_lst (pa_cons (pe_ix (ix_listK K) (pv 4) pe_int (fun _ _=>rfl)) pa_nil)))
    (pss_cons (ps_for PassesOwn.never rfl (pi_listK K (pv 1)) (pg_name (i:=6) scLawParted.nd rfl (Or.inl rfl))
    (pss_cons (ps_setComp (i:=7) (sc:=cLawParted1) scLawParted.nd rfl rfl rfl (pi_listK K (pv 4)) cLawParted1s (fun _ _ _ _=>(pg_name (i:=3) cLawParted1s.nd rfl (Or.inr rfl))) (fun _ _ _ _=>(pif_one (PW.pt (pw_and (pt_cmpR (op_notInK K) (pv 3) (pv 2) rfl) (pw_and1 (pt_val (pe_callB (call_anyK K rfl) (by rfl) T.any PyProof.Rows.boot_any (pa_cons (pe_comp (sc:=cLawParted2) rfl (pi_listK K (pv 2)) cLawParted2s (fun _ _ _ _=>(pg_name (i:=3) cLawParted2s.nd rfl (Or.inl rfl))) (fun _ _ _ _=>pif_nil) (fun _ _ _ _=>(pe_cmpR op_eq (pe_op op_and (pe_op op_shr (pe_ix (ix_listK K) (pv 0) (pv 2) (fun _ _=>rfl)) (pv 3)) pe_int) (pv 1) (nomark _)))) pa_nil)))))))) (fun _ _ _ _=>(pv 3)))
     (pss_one (ps_set (i:=5) scLawParted.nd rfl (Or.inr rfl) (pe_op op_cat (pv 5) (pv 7))))))
    (pss_cons (ps_expr (pe_bm PySem.F.plainAttrs_list PySem.F.slot_list_append PySem.F.type_list_append mt_append (pv 3) (pa_cons (pv 5) pa_nil)))
    (pss_one (ps_setComp (i:=4) (sc:=cLawParted3) scLawParted.nd rfl rfl rfl (pi_listK K (pv 4)) cLawParted3s (fun _ _ _ _=>(pg_name (i:=1) cLawParted3s.nd rfl (Or.inl rfl))) (fun _ _ _ _=>(pif_one (pt_cmpR (op_notInK K) (pv 1) (pv 0) rfl))) (fun _ _ _ _=>(pv 1))))))))
   (pss_one (ps_ret (pv 3)))))),?_⟩
  refine ⟨Nat.zero_le _,fun fl hfl=>?_⟩
  have sF:Same H (upd H fl (.lst [])):=same_upd (Same.refl H) hfl
  refine ⟨_,rfl,b,_,rfl,.inl (sF.seq hb),fun ll hll=>?_⟩
  have hfl2:fl ≠ ll:=ne_of_none upd_same hll
  have ndp:pts.Nodup:=hus.nodup_iff.mp C.nd
  refine while_of (fun σ H'=>∃ (ll:Addr) (left:List Nat) (rs:List Addr) (gs:List (List Nat)) (us1 us2:List Tr) (v5 v6 v7:Option V),σ=[some (.ref a),some (.ref b),some (.int (if bi=true then 1 else 0)),some (.ref fl),some (.ref ll),v5,v6,v7]/\H' fl=some (.lst (rs.map V.ref))/\Paired (fun r g=>r ≠ fl/\H' r=some (.lst (vv g))) rs gs /\
    Paired (fun (g:List Nat) (u:Tr)=>g.Perm u.pts) gs us1/\(us1 ++ us2).Perm us/\(ptsL us2).Perm left/\left.Nodup/\(∀ p ∈ left,p ∈ pts)/\H' ll=some (.lst (vv left))/\ll ≠ fl/\Same H H'/\rs.length + left.length <= 10) muP8 ?_ ?_
  ·exact ⟨ll,pts,[],[],[],us,_,_,_,rfl,by rw [upd_ne hfl2,upd_same]; rfl,.nil,.nil,.refl _,hus,ndp,fun p h=>h,upd_same,Ne.symm hfl2,same_upd sF hll,by simpa using hp10⟩
  rintro σ H' ⟨ll,left,rs,gs,us1,us2,v5,v6,v7,rfl,hf,hpr,hpg,hpu,hpl,ndl,hsub,hl,hlf,sm,hcnt⟩
  have h10:left.length <= 10:=by omega
  refine ⟨_,rfl,Nat.zero_le _,fun e he=>⟨ll,e,iv left,[],rfl,rfl,SqL.of (by rw [upd_ne (ne_of_none hl he)]; exact hl),SqL.of upd_same,_,rfl,?_⟩⟩
  have ecmp:(if true=true then !decide (iv left=[]) else decide (iv left=[])) = !decide (left=[]):=by
   rw [if_pos rfl]
   simp only [iv_nil]
  rw [ecmp]
  have s1:Same H' (upd H' e (.lst [])):=same_upd (Same.refl H') he
  by_cases hnil:left=[]
  ·rw [decide_eq_true hnil]
   refine iteF ?_
   subst hnil
   have hu2:us2=[]:=by
    cases us2 with
    | nil=>rfl
    | cons u r =>
     exfalso
     have hm:u ∈ us:=hpu.mem_iff.mp (List.mem_append.mpr (.inr (.head _)))
     obtain ⟨p,hp⟩:=List.exists_mem_of_ne_nil _ (C.ne u hm)
     have:=hpl.mem_iff.mp (ptsL_sub (.head r) p hp)
     cases this
   subst hu2
   rw [List.append_nil] at hpu
   exact ⟨_,rfl,k fl rs gs us1 _ hfl (sm.trans s1) (s1 _ _ hf) (paired_imp (fun r g h=>s1 _ _ h.2) hpr) hpu hpg⟩
  ·rw [decide_eq_false hnil]
   refine iteT ?_
   obtain ⟨x0,r0,rfl⟩:∃ x0 r0,left=x0::r0:=by
    cases left with
    | nil=>exact absurd rfl hnil
    | cons x r=>exact ⟨x,r,rfl⟩
   refine ⟨_,wh,?_⟩
   refine ⟨_,rfl,ll,_,_,V.int (x0:Int),rfl,rfl,SqL.of (s1 _ _ hl),atI_nat (j:=0) rfl,by rw [sizeLine_eq]; show 1 <= _; decide,fun p0 hp0=>?_⟩
   have hp0':H' p0=none:=same_none s1 hp0
   have s2:Same H' (upd (upd H' e (.lst [])) p0 (.lst [V.int (x0:Int)])):=same_upd s1 hp0
   refine ⟨_,rfl,b,rfl,⟨_,(sm.trans s2).seq hb⟩,for_list (K:=K) (a:=b) (xs:=vv pts) (fun j σ H2=>∃ (pl:Addr) (v6 v7:Option V),σ=[some (.ref a),some (.ref b),some (.int (if bi=true then 1 else 0)),some (.ref fl),some (.ref ll),some (.ref pl),v6,v7]/\H2 pl=some (.lst (vv (pIt (bit ws) bi (x0::r0) x0 j)))/\H' pl=none/\Same H' H2)
    ⟨p0,_,_,rfl,upd_same,hp0',s2⟩ (fun j σ H2 _ ⟨_,_,_,_,_,_,s⟩=>(sm.trans s).seq hb) ?_ ?_⟩
   ·rintro j xw σ H2 hxw ⟨pl,u6,u7,rfl,h2p,hpl0,s2⟩
    have h2l:=s2 _ _ hl
    have hlp:=pIt_len (adj:=bit ws) (b:=bi) ndl (.head _) j
    generalize hpt:pIt (bit ws) bi (x0::r0) x0 j=part at h2p hlp
    refine ⟨_,rfl,ll,rfl,⟨_,SqL.of h2l⟩,comp_list (K:=K) (a:=ll) (xs:=vv (x0::r0)) (fun i ys H3=>ys=vv (((x0::r0).take i).filter (tstP ws bi part))/\Same H2 H3) ⟨rfl,Same.refl _⟩ (by rw [vv_len,sizeLine_eq]; omega) (fun i ys H3 _ h=>SqL.of (h.2 _ _ h2l)) ?_ ?_⟩
    ·rintro i x ys H3 hx hlt ⟨rfl,s3⟩ hyl hys
     obtain ⟨hi,rfl⟩:=vv_at hx
     have hpm:=getD_mem hi
     have hpw:=hplt _ (hsub _ hpm)
     have eft:=filter_take_snoc (tstP ws bi part) (x0::r0) hi
     generalize hpp:(x0::r0).getD i 0=p at hpw eft
     have yes1:tstP ws bi part p=true->vv (((x0::r0).take i).filter (tstP ws bi part)) ++ [V.int (p:Int)]=vv (((x0::r0).take (i + 1)).filter (tstP ws bi part)):=fun h=>by
      rw [eft,if_pos h,vv_snoc]
     have no1:tstP ws bi part p=false->((x0::r0).take i).filter (tstP ws bi part)=((x0::r0).take (i + 1)).filter (tstP ws bi part):=fun h=>by
      rw [eft,if_neg (by rw [h]; exact Bool.false_ne_true),List.append_nil]
     refine gset ?_
     refine ⟨_,rfl,_,rfl,pl,vv part,rfl,.inl (SqL.of (s3 _ _ h2p)),rfl,vv_flat _,_,rfl,?_⟩
     have ein:(if true=true then !inV (V.int (p:Int)) (vv part) else inV (V.int (p:Int)) (vv part)) = !decide (p ∈ part):=by
      rw [if_pos rfl,inV_vv]
     rw [ein]
     by_cases hm:p ∈ part
     ·rw [decide_eq_true hm]
      refine iteF ?_
      refine iteF ?_
      refine Pn.mk hlt (by omega) ⟨?_,s3⟩
      rw [no1 (by unfold tstP; rw [decide_eq_false (fun z=>z hm)]; rfl)]
     ·rw [decide_eq_false hm]
      refine iteT ?_
      refine ⟨_,rfl,pl,rfl,⟨_,SqL.of (s3 _ _ h2p)⟩,comp_list (K:=K) (a:=pl) (xs:=vv part) (fun m zs H4=>zs=((part.take m).map fun q=>bit ws p q == bi).map V.bl/\Same H3 H4) ⟨rfl,Same.refl _⟩ ?_ (fun m zs H4 _ h=>SqL.of (h.2 _ _ (s3 _ _ h2p))) ?_ ?_⟩
      ·rw [vv_len,sizeLine_eq]
       omega
      ·rintro m y zs H4 hy hlt2 ⟨rfl,s4⟩ hzl hzs
       obtain ⟨hm2,rfl⟩:=vv_at hy
       refine gset ?_
       refine yes ?_
       refine iteT ?_
       refine ⟨_,rfl,_,rfl,a,_,_,_,rfl,rfl,((sm.trans s2).trans (s3.trans s4)).seq hw,atI_nat (vv_get hpw),_,rfl,_,_,rfl,rfl,Int.natCast_nonneg _,_,_,rfl,rfl,_,rfl,rfl,hzs,Pn.snoc hlt2 hzl ⟨?_,s4⟩⟩
       have eg:part.getD m 0=part[m]:=by rw [List.getD_eq_getElem?_getD,List.getElem?_eq_getElem hm2]; rfl
       dsimp only
       rw [bit_is,eg,List.take_add_one,List.map_append,List.map_append,List.getElem?_eq_getElem hm2]
       rfl
      ·rintro zs H4 ⟨rfl,s4⟩ hzl l hl4
       refine ⟨l,part.map fun q=>bit ws p q == bi,rfl,SqL.of (by rw [upd_same,vv_len,List.take_length]),_,rfl,?_⟩
       have eany:(part.map fun q=>bit ws p q == bi).any id=tstP ws bi part p:=by
        unfold tstP
        rw [decide_eq_true hm,Bool.true_and,List.any_map]
        rfl
       rw [eany]
       refine ite2 (fun hb=>?_) (fun hb=>?_)
       ·exact ⟨_,rfl,hys,Pn.snoc hlt hyl ⟨yes1 hb,s3.trans (same_upd s4 hl4)⟩⟩
       ·refine Pn.mk hlt (by omega) ⟨?_,s3.trans (same_upd s4 hl4)⟩
        rw [no1 (by simpa using hb)]
    ·rintro ys H3 ⟨rfl,s3⟩ hyl nl hnl
     rw [vv_len,List.take_length]
     have s4:=same_upd (o:=.lst (vv ((x0::r0).filter (tstP ws bi part)))) s3 hnl
     have e4:upd H3 nl (.lst (vv ((x0::r0).filter (tstP ws bi part)))) nl=some (.lst (vv ((x0::r0).filter (tstP ws bi part)))):=upd_same
     have hfl':=List.length_filter_le (tstP ws bi part) (x0::r0)
     refine ⟨_,rfl,_,rfl,pl,nl,_,_,rfl,rfl,s4 _ _ h2p,e4,by rw [vv_len,vv_len,sizeLine_eq]; omega,fun l hl4=>?_⟩
     rw [vv_app]
     refine ⟨l,_,_,rfl,?_,same_none (s2.trans s4) hl4,same_upd (s2.trans s4) hl4⟩
     rw [upd_same,<- hpt]
     rfl
   ·rintro σ H2 ⟨pl,u6,u7,rfl,h2p,hpl0,s2⟩
    rw [vv_len] at h2p
    obtain ⟨y,ua,uz,rfl,hpy,hprest⟩:=part_one C ndl (vs:=us2) (fun v hv=>hpu.mem_iff.mp (List.mem_append.mpr (.inr hv))) hpl hp2
    have hxin:x0 ∈ pIt (bit ws) bi (x0::r0) x0 pts.length:=pIt_mono (Nat.zero_le _) (.head _)
    generalize pIt (bit ws) bi (x0::r0) x0 pts.length=part at h2p hpy hprest hxin
    have h2f:=s2 _ _ hf
    have h2l:=s2 _ _ hl
    have npf:pl ≠ fl:=fun z=>by rw [z,hf] at hpl0; cases hpl0
    refine ⟨_,rfl,.inl ⟨rfl,_,SqL.of h2f⟩,_,rfl,fl,_,_,rfl,rfl,h2f,by rw [List.length_map,sizeLine_eq]; omega,?_⟩
    have h3l:upd H2 fl (.lst (rs.map V.ref ++ [V.ref pl])) ll=some (.lst (vv (x0::r0))):=by rw [upd_ne hlf]; exact h2l
    have h3p:upd H2 fl (.lst (rs.map V.ref ++ [V.ref pl])) pl=some (.lst (vv part)):=by rw [upd_ne npf]; exact h2p
    refine ⟨_,rfl,ll,rfl,⟨_,SqL.of h3l⟩,comp_list (K:=K) (a:=ll) (xs:=vv (x0::r0)) (fun i ys H4=>ys=vv (((x0::r0).take i).filter fun p=>decide (p ∉ part))/\Same (upd H2 fl (.lst (rs.map V.ref ++ [V.ref pl]))) H4) ⟨rfl,Same.refl _⟩ (by rw [vv_len,sizeLine_eq]; omega) (fun i ys H4 _ h=>SqL.of (h.2 _ _ h3l)) ?_ ?_⟩
    ·rintro i x ys H4 hx hlt ⟨rfl,s4⟩ hyl hys
     obtain ⟨hi,rfl⟩:=vv_at hx
     have eft:=filter_take_snoc (fun p=>decide (p ∉ part)) (x0::r0) hi
     generalize hpp:(x0::r0).getD i 0=p at eft
     refine gset ?_
     refine ⟨_,rfl,_,rfl,pl,vv part,rfl,.inl (SqL.of (s4 _ _ h3p)),rfl,vv_flat _,_,rfl,?_⟩
     have ein:(if true=true then !inV (V.int (p:Int)) (vv part) else inV (V.int (p:Int)) (vv part))=decide (p ∉ part):=by
      rw [if_pos rfl,inV_vv]
      by_cases h:p ∈ part <;> simp [h]
     rw [ein]
     refine ite2 (fun hb=>?_) (fun hb=>?_)
     ·refine ⟨_,rfl,hys,Pn.snoc hlt hyl ⟨?_,s4⟩⟩
      rw [eft,if_pos hb,vv_snoc]
     ·refine Pn.mk hlt (by omega) ⟨?_,s4⟩
      rw [eft,if_neg hb,List.append_nil]
    ·rintro ys H4 ⟨rfl,s4⟩ hyl l hl4
     rw [vv_len,List.take_length]
     have s5:Same (upd H2 fl (.lst (rs.map V.ref ++ [V.ref pl]))) (upd H4 l (.lst (vv ((x0::r0).filter fun p=>decide (p ∉ part))))):=same_upd s4 hl4
     have hlt:((x0::r0).filter fun p=>decide (p ∉ part)).length < (x0::r0).length :=
      List.length_filter_lt_length_iff_exists.mpr ⟨x0,.head _,by simp [hxin]⟩
     have nlf:l ≠ fl:=fun z=>by
      have:=s4 fl _ upd_same
      rw [z,this] at hl4
      cases hl4
     refine ⟨⟨l,(x0::r0).filter fun p=>decide (p ∉ part),rs ++ [pl],gs ++ [part],us1 ++ [y],ua ++ uz,_,_,_,rfl,?_,?_,Paired.snoc hpg hpy,?_,hprest,ndl.filter _,fun p hp=>hsub p (List.mem_filter.mp hp).1,upd_same,nlf,?_,?_⟩,?_⟩
     ·rw [List.map_append]
      exact s5 fl _ upd_same
     ·refine Paired.snoc (paired_imp (fun r ns h=>⟨h.1,s5 _ _ (by rw [upd_ne h.1]; exact s2 _ _ h.2)⟩) hpr) ⟨npf,s5 _ _ h3p⟩
     ·refine List.Perm.trans ?_ hpu
      rw [List.append_assoc]
      refine List.Perm.append_left us1 ?_
      rw [List.singleton_append]
      exact List.perm_middle.symm
     ·exact (same_upd' (sm.trans s2) hfl).trans s5
     ·rw [List.length_append,List.length_singleton]
      omega
     ·show lenL (upd H4 l _ l) < lenL (H' ll)
      rw [upd_same,hl]
      show (vv ((x0::r0).filter fun p=>decide (p ∉ part))).length < (vv (x0::r0)).length
      rw [vv_len,vv_len]
      exact hlt
end
end Bw
namespace Bw
open PySem L2
theorem em8:Str.ofString "("=sx [40]/\Str.ofString ")"=sx [41]/\Str.ofString "+"=sx [sgnC false]/\Str.ofString "*"=sx [sgnC true]/\Str.ofString "o"=sx [111]:=by decide +kernel
theorem brk8 (x:List Nat):(Str.ofString "(" ++ sx x) ++ Str.ofString ")"=sx (brkC x):=by
 rw [em8.1,em8.2.1,sx_app,sx_app]
 rfl
mutual
theorem can_two:∀ t:Tr,t.can->(∀ p ∈ t.pts,p < 10)->t.two
 | .pt n,_,h=>h n (.head _)
 | .doing ac ts,h,hp=>⟨h.1,canL_two ac ts h.2 hp⟩
theorem canL_two (ac:Bool):∀ ts:List Tr,canL ac ts->(∀ p ∈ ptsL ts,p < 10)->twoL ts
 | [],_,_=>trivial
 | t::ts,h,hp=>by
  have h':(t.can/\t.isD ac=false)/\canL ac ts:=h
  exact ⟨can_two t h'.1.1 fun p hq=>hp p (ptsL_sub (.head _) p hq),canL_two ac ts h'.2 fun p hq=>hp p (List.mem_append.mpr (.inr hq))⟩
end
theorem len_ptsL:∀ {ts:List Tr},(∀ t ∈ ts,t.pts ≠ [])->ts.length <= (ptsL ts).length
 | [],_=>Nat.le_refl _
 | t::ts,h=>by
  show ts.length + 1 <= (t.pts ++ ptsL ts).length
  rw [List.length_append]
  have h1:=List.length_pos_iff.mpr (h t (.head _))
  have h2:=len_ptsL (ts:=ts) fun u hu=>h u (.tail _ hu)
  omega
section
variable {P:Program} {w:World} {K:PySem.W.Frag} {mg:Str->Option Value} {base:Heap} {cs:Cl}
structure ToldT (ws pts:List Nat) (tr:Tr):Prop where
 perm:tr.pts.Perm pts
 nd:tr.pts.Nodup
 can:tr.can
 tells:tr.tells (bit ws)
def spLShape (K:PySem.W.Frag) (k:Nat):Sp:=fun vs H Q _=>∃ (a b:Addr) (ws pts:List Nat) (tr:Tr),vs=[.ref a,.ref b]/\SqL K H a (vv ws)/\SqL K H b (vv pts)/\Web ws/\(∀ p ∈ pts,p < ws.length)/\ToldT ws pts tr/\tr.pts.length <= k/\∀ H',Same H H'->Q (.str (sx tr.shape)) H'
theorem scLawShape:FnScope ["_law_web_here","_law_points","_law_some","_law_sign"] ["_law_web_here","_law_points"] (defScope sLawShape):=⟨rfl,rfl,rfl,by decide +kernel,rfl,by decide +kernel,by decide +kernel⟩
def cLawShape1:Scope:={ kind:=.function,names:=[(Str.ofString ".0",.local),(Str.ofString "_law_part",.local),(Str.ofString "_law_shape",.globalImplicit),(Str.ofString "_law_web_here",.free)],isGenerator:=false,isCoroutine:=false,more:=[] }
theorem cLawShape1s:CScope ["_law_web_here","_law_points","_law_some","_law_sign"] (defScope sLawShape) cLawShape1 ["_law_web_here","_law_part"] [0]:=⟨rfl,by decide +kernel,by decide +kernel,by decide +kernel,by decide,by decide +kernel,by decide +kernel⟩
def tLShape (H:Hp) (a b:Addr) (ac:Bool) (ts:List Tr):TS:=fun D σ H1=>∃ (l:Addr) (rs:List Addr) (gs:List (List Nat)) (vs:List Tr),σ=[some (.ref a),some (.ref b),some (.ref l),some (.str (sx [sgnC ac]))]/\Same H H1/\H1 l=some (.lst (rs.map V.ref))/\Paired (fun r g=>H1 r=some (.lst (vv g))) rs gs/\vs.Perm ts/\Paired (fun (g:List Nat) (u:Tr)=>g.Perm u.pts) gs vs /\
 ∀ H',Same H H'->D.rt (.str (sx (Tr.doing ac ts).shape)) H'
theorem pss_impS {X:Cx} {st:List Stmt} {t t':TS} (h:PSs X st t) (hi:∀ D σ H,t' D σ H->t D σ H):PSs X st t':=fun pins s σ H D I hw=>h pins s σ H D I (hi D σ H hw)
theorem ints_eq1 (n:Nat):decide (V.int ((n:Nat):Int)=V.int 1)=decide (n=1):=by
 rw [decide_eq_decide]
 exact ⟨fun z=>by have:=V.int.inj z; omega,fun z=>by rw [z]; rfl⟩
theorem shapeL_perm {ts us:List Tr} (h:ts.Perm us):(shapeL ts).Perm (shapeL us):=by
 rw [shapeL_map,shapeL_map]
 exact h.map _
theorem lshape_all (T:Txt K mg cs):∀ k:Nat,k <= 10->Cal P w K mg base (k + 2) "_law_shape" ["_law_web_here","_law_points"] (spLShape K k)
 | 0,_=>by
  refine FnT.cal (k:=1) T.lawShape scLawShape (fun vs H Q E h=>?_) (fun f cdv A outer s H vs Q E hr h=>?_)
  ·obtain ⟨a,b,ws,pts,tr,rfl,_⟩:=h
   rfl
  ·obtain ⟨a,b,ws,pts,tr,rfl,_,_,_,_,hT,h0,_⟩:=h
   have:=List.length_pos_iff.mpr (can_ne tr hT.can)
   omega
 | k + 1,hk=>by
  have CLawShape:=lshape_all T k (by omega)
  have CLawParted:Cal P w K mg base (k + 2) "_law_parted" ["_law_web_here","_law_points","_law_bit"] (spParted K):=(ok_lawParted T).mono (by omega)
  refine FnT.cal (k:=k + 2) T.lawShape scLawShape (fun vs H Q E h=>?_) (fun f cdv A outer s H vs Q E hr h=>?_)
  ·obtain ⟨a,b,ws,pts,tr,rfl,_⟩:=h
   rfl
  ·obtain ⟨a,b,ws,pts,tr,rfl,hw,hb,W,hlt,hT,hk1,q⟩:=h
   have h10:=W.le
   have hpl:tr.pts.length=pts.length:=hT.perm.length_eq
   have lens:∀ tss:List (List Nat),(((tss.map sx).map (·.length)).sum)=(tss.map (·.length)).sum:=fun tss=>by
    rw [List.map_map]
    congr 1
   cases tr with
   | pt n =>
    have h1:pts.length=1:=hpl.symm
    refine ⟨_,(pss_cons (ps_if (pt_cmpR op_eq (pe_callB (call_lenK K) (by rfl) T.len PySem.boot_len (pa_cons (pv 1) pa_nil)) pe_int (nomark _))
   (pss_one (ps_ret pe_str))
   pss_nil)
   (pss_cons (ps_set (i:=2) scLawShape.nd rfl (Or.inl rfl) (pe_cal CLawParted hr (by rfl) (pa_cons (pv 0) (pa_cons (pv 1) (pa_cons pe_int pa_nil)))))
   (pss_cons (ps_set (i:=3) scLawShape.nd rfl (Or.inl rfl) pe_str)
   (pss_cons (ps_if (pt_cmpR op_eq (pe_callB (call_lenK K) (by rfl) T.len PySem.boot_len (pa_cons (pv 2) pa_nil)) pe_int (nomark _))
   (pss_cons (ps_set (i:=2) scLawShape.nd rfl (Or.inl rfl) (pe_cal CLawParted hr (by rfl) (pa_cons (pv 0) (pa_cons (pv 1) (pa_cons pe_int pa_nil)))))
    (pss_one (ps_set (i:=3) scLawShape.nd rfl (Or.inl rfl) pe_str)))
   pss_nil)
   (pss_one (ps_ret (pe_op op_add_str (pe_op op_add_str pe_str (pe_bm PySem.F.plainAttrs_str PySem.F.slot_str_join PySem.F.type_str_join (mt_join K) (pv 3) (pa_cons (pe_callB (call_sortS K) (by rfl) T.sorted PyProof.Rows.boot_sorted (pa_cons (pe_comp (sc:=cLawShape1) rfl (pi_listK K (pv 2)) cLawShape1s (fun _ _ _ _=>(pg_name (i:=1) cLawShape1s.nd rfl (Or.inl rfl))) (fun _ _ _ _=>pif_nil) (fun _ _ _ _=>(pe_cal CLawShape hr (by rfl) (pa_cons (pv 0) (pa_cons (pv 1) pa_nil))))) pa_nil)) pa_nil))) pe_str))))))),?_⟩
    refine ⟨_,rfl,b,_,rfl,.inl hb,rfl,_,rfl,?_⟩
    rw [vv_len,ints_eq1,decide_eq_true h1]
    refine iteT ?_
    have:=q H (Same.refl H)
    have e:sx (Tr.pt n).shape=Str.ofString "o":=em8.2.2.2.2.symm
    rw [e] at this
    exact this
   | doing ac ts =>
    have hc:2 <= ts.length/\canL ac ts:=hT.can
    have hnd:(ptsL ts).Nodup:=hT.nd
    have htl:tellsL (bit ws) ac ts:=hT.tells
    have hpp:(ptsL ts).Perm pts:=hT.perm
    have hkl:(ptsL ts).length <= k + 1:=hk1
    have hlen:ts.length <= (ptsL ts).length:=len_ptsL fun t ht=>can_ne t (canL_iff.mp hc.2 t ht).1
    have hpl':(ptsL ts).length=pts.length:=hpl
    have hp10:∀ p ∈ ptsL ts,p < 10:=fun p hp=>Nat.lt_of_lt_of_le (hlt p (hpp.mem_iff.mp hp)) h10
    have hp2:2 <= pts.length:=by omega
    have htw:=canL_two ac ts hc.2 hp10
    have hss:=shapeL_len ts htw
    have esl:(shapeL ts).length=ts.length:=by rw [shapeL_map,List.length_map]
    refine ⟨_,(pss_cons (ps_if (pt_cmpR op_eq (pe_callB (call_lenK K) (by rfl) T.len PySem.boot_len (pa_cons (pv 1) pa_nil)) pe_int (nomark _))
      (pss_one (ps_ret pe_str))
      pss_nil)
     (pss_cons (ps_set (i:=2) scLawShape.nd rfl (Or.inl rfl) (pe_cal CLawParted hr (by rfl) (pa_cons (pv 0) (pa_cons (pv 1) (pa_cons pe_int pa_nil)))))
     (pss_cons (ps_set (i:=3) scLawShape.nd rfl (Or.inl rfl) pe_str)
     (pss_cons (ps_if (pt_cmpR op_eq (pe_callB (call_lenK K) (by rfl) T.len PySem.boot_len (pa_cons (pv 2) pa_nil)) pe_int (nomark _))
      (pss_cons (ps_set (i:=2) scLawShape.nd rfl (Or.inl rfl) (pe_cal CLawParted hr (by rfl) (pa_cons (pv 0) (pa_cons (pv 1) (pa_cons pe_int pa_nil)))))
       (pss_one (ps_set (i:=3) scLawShape.nd rfl (Or.inl rfl) pe_str)))
      pss_nil)
     (pss_impS (t':=tLShape H a b ac ts) (pss_one (ps_ret (pe_op op_add_str (pe_op op_add_str pe_str (pe_bm PySem.F.plainAttrs_str PySem.F.slot_str_join PySem.F.type_str_join (mt_join K) (pv 3) (pa_cons (pe_callB (call_sortS K) (by rfl) T.sorted PyProof.Rows.boot_sorted (pa_cons (pe_comp (sc:=cLawShape1) rfl (pi_listK K (pv 2)) cLawShape1s (fun _ _ _ _=>(pg_name (i:=1) cLawShape1s.nd rfl (Or.inl rfl))) (fun _ _ _ _=>pif_nil) (fun _ _ _ _=>(pe_cal CLawShape hr (by rfl) (pa_cons (pv 0) (pa_cons (pv 1) pa_nil))))) pa_nil)) pa_nil))) pe_str))) ?tl))))),?_⟩
    case tl =>
     rintro D σ H1 ⟨l,rs,gs,vs,rfl,s1,hl,hpr,hpv,hpg,kk⟩
     have hrl:=paired_len hpr
     have hgl:=paired_len hpg
     have hvl:=hpv.length_eq
     refine ⟨_,rfl,rfl,_,rfl,l,rfl,⟨_,SqL.of hl⟩,comp_list (K:=K) (a:=l) (xs:=rs.map V.ref) (fun i ys H2=>ys=tstrs (shapeL (vs.take i))/\Same H1 H2) ⟨rfl,Same.refl _⟩ (by rw [List.length_map,sizeLine_eq]; omega) (fun i ys H2 _ h=>SqL.of (h.2 _ _ hl)) ?_ ?_⟩
     ·rintro i x ys H2 hx hlt2 ⟨rfl,s2⟩ hyl hys
      obtain ⟨r,hr1,rfl⟩:=ref_at hx
      obtain ⟨g,hg1,hg2⟩:=paired_get hpr hr1
      obtain ⟨u,hu1,hu2⟩:=paired_get hpg hg1
      have hum:u ∈ ts:=hpv.mem_iff.mp (List.mem_of_getElem? hu1)
      refine gset ?_
      refine yes ?_
      refine iteT ?_
      refine ⟨_,rfl,_,rfl,a,r,ws,g,u,rfl,(s1.trans s2).seq hw,SqL.of (s2 _ _ hg2),W,fun p hp=>hlt p (hpp.mem_iff.mp (ptsL_sub hum p (hu2.mem_iff.mp hp))),⟨hu2.symm,ptsL_nd hnd u hum,(canL_iff.mp hc.2 u hum).1,tells_of W.sym htl u hum⟩,?_,fun H3 s3=>?_⟩
      ·have:=can_len hc.1 hc.2 hnd hum
       omega
      ·exact ⟨hys,Pn.snoc hlt2 hyl ⟨by rw [tstrs_snoc,shapeL_take hu1],s2.trans s3⟩⟩
     rintro ys H2 ⟨rfl,s2⟩ hyl l4 hl4
     rw [show shapeL (vs.take (rs.map V.ref).length)=shapeL vs by rw [List.length_map,hrl,hgl,List.take_length]]
     have s3:=same_upd (o:=.lst (tstrs (shapeL vs))) s2 hl4
     have evl:(shapeL vs).length=ts.length:=by rw [shapeL_map,List.length_map,hvl]
     refine ⟨l4,(shapeL vs).map sx,rfl,SqL.of upd_same,by rw [List.length_map]; omega,fun l5 zs hl5 hp5 hs5=>?_⟩
     have ez:=sort_sx hp5 hs5
     subst ez
     rw [sortC_of_perm (shapeL_perm hpv)]
     have s4:=same_upd (o:=.lst (tstrs (sortC (shapeL ts)))) s3 hl5
     refine ⟨sx [sgnC ac],l5,(sortC (shapeL ts)).map sx,rfl,rfl,SqL.of upd_same,?_,?_⟩
     ·rw [lens,List.length_map,sx_len,sortC_sum,sortC_len,esl]
      show _ + ts.length * 1 <= _
      omega
     rw [join_sx]
     have hjs:=joinC_len (sgnC ac) (sortC (shapeL ts))
     rw [sortC_sum,sortC_len] at hjs
     refine ⟨_,_,rfl,rfl,?_,_,_,rfl,rfl,?_,?_⟩
     ·rw [em8.1,sx_len,sx_len,sizeLine_eq]
      show 1 + _ <= _
      omega
     ·rw [em8.1,em8.2.1,sx_app,sx_len,sx_len,sizeLine_eq,List.length_append]
      show 1 + _ + 1 <= _
      omega
     ·rw [brk8]
      exact kk _ (s1.trans s4)
    refine ⟨_,rfl,b,_,rfl,.inl hb,rfl,_,rfl,?_⟩
    rw [vv_len,ints_eq1,decide_eq_false (by omega)]
    refine iteF ?_
    cases ac with
    | false =>
     refine ⟨_,rfl,_,rfl,a,b,ws,pts,true,ts,rfl,hw,hb,h10,hlt,by omega,hp2,hpp,cls_trees W.sym hc.2 hnd htl,fun l rs gs vs H1 hl s1 e1 hpr hpv hpg=>?_⟩
     have hrl:=paired_len hpr
     have hgl:=paired_len hpg
     have hvl:=hpv.length_eq
     refine ⟨_,rfl,l,_,rfl,.inl (SqL.of e1),rfl,_,rfl,?_⟩
     rw [List.length_map,ints_eq1,decide_eq_false (by omega)]
     refine iteF ?_
     refine ⟨l,rs,gs,vs,?_,s1,e1,hpr,hpv,hpg,q⟩
     rw [<- em8.2.2.1]
     rfl
    | true =>
     refine ⟨_,rfl,_,rfl,a,b,ws,pts,true,[.doing true ts],rfl,hw,hb,h10,hlt,by omega,hp2,(by show (ptsL ts ++ []).Perm pts; rw [List.append_nil]; exact hpp),cls_whole W.sym hc.1 hc.2 hnd htl,fun l rs gs vs H1 hl s1 e1 hpr hpv hpg=>?_⟩
     have hrl:=paired_len hpr
     have hgl:=paired_len hpg
     have hvl:=hpv.length_eq
     refine ⟨_,rfl,l,_,rfl,.inl (SqL.of e1),rfl,_,rfl,?_⟩
     rw [List.length_map,ints_eq1,decide_eq_true (by rw [hrl,hgl,hvl]; rfl)]
     refine iteT ?_
     refine ⟨_,rfl,_,rfl,a,b,ws,pts,false,ts,rfl,s1.seq hw,s1.seq hb,h10,hlt,by omega,hp2,hpp,cls_trees W.sym hc.2 hnd htl,fun l2 rs2 gs2 vs2 H2 hl2 s2 e2 hpr2 hpv2 hpg2=>?_⟩
     refine ⟨l2,rs2,gs2,vs2,?_,s1.trans s2,e2,hpr2,hpv2,hpg2,q⟩
     rw [<- em8.2.2.2.1]
     rfl
end
end Bw
namespace L2
open PySem PySem.Spec PyProof.Rows Bw
section
variable {K:PySem.W.Frag}
theorem SameT.at {t a:Addr} {H H':Hp} {o:HO} {ps:Array Value} (s:SameT [t] H H') (ht:H t=some (.tbl ps)) (h:H a=some o) (hn:∀ qs,o ≠ .tbl qs):H' a=some o :=
 s a o (fun z=>by
  rw [List.mem_singleton.mp z,ht] at h
  cases h
  exact hn _ rfl) h
theorem SameT.of {t:Addr} {H H':Hp} (s:Same H H'):SameT [t] H H':=fun a o _ e=>s a o e
theorem SameT.seq {t a:Addr} {H H':Hp} {xs:List V} {ps:Array Value} (s:SameT [t] H H') (ht:H t=some (.tbl ps)) (h:SqL K H a xs):SqL K H' a xs:=by
 rcases h with (h | ⟨o,h⟩) | h
 ·exact .inl (.inl (s.at ht h (fun _ z=>nomatch z)))
 ·exact .inl (.inr ⟨o,s.at ht h (fun _ z=>nomatch z)⟩)
 ·exact .inr h
theorem sameT_upd {t l:Addr} {H H':Hp} {o:HO} (s:SameT [t] H H') (hl:H l=none):SameT [t] H (upd H' l o):=fun a u ha e=>by
 rw [upd_ne (ne_of_none e hl)]
 exact s a u ha e
theorem TabOk.same {H H':Hp} {t:Addr} {qs:List (Pos × Str)} (s:Same H H') (h:TabOk H t qs):TabOk H' t qs:=by
 obtain ⟨ps,h1,h2,h3⟩:=h
 refine ⟨ps,s _ _ h1,h2,fun q hq=>?_⟩
 rcases h3 q hq with z | ⟨c,z,o,vs,tk,z1,z2⟩
 ·exact .inl z
 ·exact .inr ⟨c,z,o,vs,tk,s _ _ z1,z2⟩
theorem CodeT.same {H H':Hp} {c:Addr} {qual:Str} (s:Same H H') (h:CodeT H c qual):CodeT H' c qual:=by
 obtain ⟨o,vs,tk,z1,z2⟩:=h
 exact ⟨o,vs,tk,s _ _ z1,z2⟩
end
end L2
namespace Bw
open PySem L2
section
variable {P:Program} {w:World} {K:PySem.W.Frag} {mg:Str->Option Value} {base:Heap} {cs:Cl}
theorem Txt.kDPoint (T:Txt K mg cs) (ac:Bool):PySem.W.kitOne K (.ref (cD cs ac)) (.ref cs.Point)=some false:=by
 cases ac
 ·exact T.kBesidePoint
 ·exact T.kAcrossPoint
def offT (t:Addr) (H:Hp):Hp:=fun a=>if a=t then none else H a
theorem offT_at {t a:Addr} {H:Hp} {o:HO} {ps:Array Value} (ht:H t=some (.tbl ps)) (h:H a=some o) (hn:∀ qs,o ≠ .tbl qs):offT t H a=some o:=by
 unfold offT
 rw [if_neg]
 ·exact h
 ·intro z
  rw [z,ht] at h
  cases h
  exact hn _ rfl
theorem offT_same {t:Addr} {H H':Hp} (s:SameT [t] H H'):Same (offT t H) H':=fun a o e=>by
 unfold offT at e
 split at e
 ·cases e
 ·rename_i hne
  exact s a o (fun z=>hne (List.mem_singleton.mp z)) e
theorem TreeAt.off {t:Addr} {H:Hp} {ps:Array Value} (ht:H t=some (.tbl ps)):∀ {k:Nat} {a:Addr} {tr:Tr},TreeAt cs H k a tr->TreeAt cs (offT t H) k a tr
 | 0,_,_,h=>h.elim
 | k + 1,a,.pt n,h=>⟨let ⟨dx,e⟩:=h.1; ⟨dx,offT_at ht e (fun _ z=>nomatch z)⟩,h.2⟩
 | k + 1,a,.doing ac ts,h=>by
  obtain ⟨dx,l,t',rs,h1,h2,h3,h4,h5⟩:=h
  exact ⟨dx,l,t',rs,offT_at ht h1 (fun _ z=>nomatch z),offT_at ht h2 (fun _ z=>nomatch z),offT_at ht h3 (fun _ z=>nomatch z),paired_mono (fun _ _ z=>TreeAt.off ht z) h4,h5⟩
theorem TreeAt.sameT {t:Addr} {H H':Hp} {ps:Array Value} (s:SameT [t] H H') (ht:H t=some (.tbl ps)) {k:Nat} {a:Addr} {tr:Tr} (h:TreeAt cs H k a tr):TreeAt cs H' k a tr:=(h.off ht).same (offT_same s)
theorem sx_cps (l:List Nat):(sx l).cps.toList=l:=by simp [sx]
theorem bykey_trees {F:Addr->Tr->Prop} {rs zs:List Addr} {ts:List Tr} (hp:Paired F rs ts) (h:ByKey (ts.map fun t=>sx t.shape) rs zs):∃ us:List Tr,us.Perm ts/\us.Pairwise (fun a b=>leC a.shape b.shape=true)/\Paired F zs us:=by
 obtain ⟨ps,h1,rfl,h3⟩:=h
 have hl:=paired_len hp
 have e:(ts.map fun t=>sx t.shape).zip rs=(rs.zip ts).map fun q=>(sx q.2.shape,q.1):=by
  clear h1 h3 hp
  induction rs generalizing ts with
  | nil=>cases ts <;> simp at hl ⊢
  | cons r rs ih =>
   cases ts with
   | nil=>simp at hl
   | cons t ts=>simp [ih (Nat.succ.inj hl)]
 rw [e] at h1
 obtain ⟨qs,q1,rfl⟩:=perm_back h1 _ rfl
 have hts:(rs.zip ts).map Prod.snd=ts:=List.map_snd_zip (by omega)
 have hF:∀ q ∈ qs,F q.1 q.2:=fun q hq=>by
  have hm:=q1.mem_iff.mp hq
  clear h1 h3 q1 hq e hts
  induction hp with
  | nil=>cases hm
  | cons z _ ih =>
   rw [List.zip_cons_cons] at hm
   rcases List.mem_cons.mp hm with e | hm
   ·rw [e]
    exact z
   ·exact ih (by simpa using hl) hm
 refine ⟨qs.map Prod.snd,?_,?_,?_⟩
 ·have:=q1.map Prod.snd
  rwa [hts] at this
 ·rw [List.pairwise_map] at h3 ⊢
  refine h3.imp fun {a b} h=>?_
  have h':decide ((sx b.2.shape).cps.toList < (sx a.2.shape).cps.toList)=false:=h
  rw [sx_cps,sx_cps] at h'
  unfold leC
  rw [h']
  rfl
 ·clear q1 h3 e hts h1
  rw [List.map_map]
  induction qs with
  | nil=>exact .nil
  | cons q qs ih=>exact .cons (hF q (.head _)) (ih fun q' hq'=>hF q' (.tail _ hq'))
abbrev aPbs:Addr:=516
abbrev qPbs:List (Pos × Str):=[(⟨241,40,241,65⟩,"points_by_shape.<locals>.<lambda>")]
def lamPbs:Scope:={ kind:=.function,names:=[(Str.ofString "each",.local)],isGenerator:=false,isCoroutine:=false,more:=[] }
theorem lamPbsS:LamScope ["each"] ["each"] lamPbs []:=⟨rfl,rfl,rfl,by decide +kernel,rfl,by decide +kernel,by decide +kernel,fun x h=>by
 have:(([(Str.ofString "each",NameKind.local)]:List (Str × NameKind)).lookup x)=some .free:=h
 rw [List.lookup_cons] at this
 split at this <;> simp at this,fun x c h=>by simp at h,fun x y c h=>by simp at h⟩
def spPbs (cs:Cl) (k:Nat):Sp:=fun vs H Q _=>∃ (a:Addr) (tr:Tr),vs=[.ref a]/\TreeAt cs H k a tr/\tr.pts.length <= 10/\TabOk H aPbs qPbs/\∀ (l:Addr) (H':Hp) (ls:List Nat),H l=none->SameT [aPbs] H H'->TabOk H' aPbs qPbs->H' l=some (.lst (vv ls))->By tr ls->Q (.ref l) H'
def spEach (cs:Cl) (c':Addr) (k:Nat):Sp:=fun vs H Q _=>∃ (r:Addr) (tr:Tr),vs=[.ref r]/\TreeAt cs H k r tr/\tr.pts.length <= 10/\CodeT H c' "points_by_shape.<locals>.<lambda>"/\∀ H',Same H H'->Q (.str (sx tr.shape)) H'
theorem scPointsByShape:FnScope ["tree","points","inner"] ["tree"] (defScope sPointsByShape):=⟨rfl,rfl,rfl,by decide +kernel,rfl,by decide +kernel,by decide +kernel⟩
theorem by_len {us:List Tr} {ls:List (List Nat)} (hl:ls.length <= us.length) (h:∀ (i:Nat) (u:Tr) (l:List Nat),us[i]? = some u->ls[i]? = some l->By u l):ls.flatten.length <= (ptsL us).length:=by
 induction ls generalizing us with
 | nil=>exact Nat.zero_le _
 | cons l ls ih =>
  cases us with
  | nil=>simp at hl
  | cons u us =>
   rw [List.flatten_cons,List.length_append]
   show _ <= (u.pts ++ ptsL us).length
   rw [List.length_append,(h 0 u l rfl rfl).perm.length_eq]
   have:=ih (us:=us) (by simpa using hl) fun i u' l' h1 h2=>h (i + 1) u' l' h1 h2
   omega
theorem pbs_all (T:Txt K mg cs):∀ k:Nat,Cal P w K mg base (k + 4) "points_by_shape" ["tree"] (spPbs cs k)
 | 0=>by
  refine FnTC.cal (k:=3) T.pointsByShape scPointsByShape (fun vs H Q E h=>?_) (fun f c A outer s H vs Q E hC hr h=>?_)
  ·obtain ⟨a,tr,rfl,_⟩:=h
   rfl
  ·obtain ⟨a,tr,rfl,hT,_⟩:=h
   exact hT.elim
 | k + 1=>by
  have CPointsByShape:Cal P w K mg base (k + 4) "points_by_shape" ["tree"] (spPbs cs k):=pbs_all T k
  refine FnTC.cal (k:=k + 4) T.pointsByShape scPointsByShape (fun vs H Q E h=>?_) (fun f c A outer s H vs Q E hC hr h=>?_)
  ·obtain ⟨a,tr,rfl,_⟩:=h
   rfl
  ·obtain ⟨a,tr,rfl,hT,h10,hTab,kq⟩:=h
   refine ⟨_,(pss_cons (ps_if (pt_val (pe_callB (call_isC K) (by rfl) T.isinst PyProof.Rows.boot_isinstance (pa_cons (pv 0) (pa_cons (pe_glob (v:=.ref cs.Point) (by rfl) T.gPoint rfl) pa_nil))))
     (pss_one (ps_ret (pe_lst (pa_cons (pe_fld (pv 0) rfl) pa_nil))))
     pss_nil)
    (pss_cons (ps_set (i:=1) scPointsByShape.nd rfl (Or.inl rfl) (pe_lst pa_nil))
    (pss_cons (ps_for PassesOwn.never rfl (pi_listK K (pe_sortKey (kk:=k + 2) (P:=aPbs) (qs:=qPbs) (qual:="points_by_shape.<locals>.<lambda>") (c:=c) P w K mg rfl hr (by rfl) T.sorted ⟨rfl,hC,T.blt.at T.tPointsByShape,by decide,.head _,rfl,fun q hq hne=>absurd (List.mem_singleton.mp hq) hne⟩ rfl (pa_cons (pe_fld (pv 0) rfl) pa_nil))) (pg_name (i:=2) scPointsByShape.nd rfl (Or.inl rfl))
     (pss_one (ps_expr (pe_bm PySem.F.plainAttrs_list PySem.F.slot_list_extend PySem.F.type_list_extend mt_extend (pv 1) (pa_cons (pe_cal CPointsByShape hr (by rfl) (pa_cons (pv 2) pa_nil)) pa_nil)))))
    (pss_one (ps_ret (pv 1)))))),?_⟩
   cases tr with
   | pt m =>
    obtain ⟨⟨dx,e⟩,hm⟩:=hT
    refine ⟨_,rfl,_,_,_,_,rfl,T.oPoint.ty e,T.kPointPoint,true,rfl,iteT ?_⟩
    refine ⟨_,rfl,a,cs.Point,dx,_,_,rfl,e,T.oPoint.cl,T.nPointAt,fP_at _,by rw [sizeLine_eq]; show 1 <= _; decide,fun l hl=>?_⟩
    have s1:=same_upd (o:=.lst [V.int (m:Int)]) (Same.refl H) hl
    exact kq l _ [m] hl (SameT.of s1) (hTab.same s1) upd_same (.pt m)
   | doing ac ts =>
    have hT':=hT
    obtain ⟨dx,l,t,rs,e,ht,hl,hp,h2⟩:=hT
    have h10':(ptsL ts).length <= 10:=h10
    have hrl:=paired_len hp
    have hge:ts.length <= (ptsL ts).length:=by
     clear hrl h2 h10 h10' kq hT'
     clear hl ht
     induction hp with
     | nil=>exact Nat.le_refl _
     | cons z _ ih =>
      show _ + 1 <= List.length (_ ++ _)
      rw [List.length_append]
      have:=TreeAt.pos z
      omega
    refine ⟨_,rfl,_,_,_,_,rfl,(T.ownD ac).ty e,T.kDPoint ac,false,rfl,iteF ?_⟩
    refine ⟨Nat.zero_le _,fun pl hpl=>?_⟩
    have s1:=same_upd (o:=.lst []) (Same.refl H) hpl
    have e1:upd H pl (.lst []) pl=some (.lst (vv [])):=upd_same
    generalize upd H pl (.lst [])=H1 at s1 e1
    refine ⟨_,rfl,a,_,dx,_,_,rfl,s1 _ _ e,(T.ownD ac).cl,T.nT ac,fD_trees _ _,l,rs,ts.map (fun t=>sx t.shape),rfl,SqL.of (s1 _ _ hl),by omega,by rw [List.length_map]; omega,hTab.same s1,fun fl c' H2 hfl sT2 hTab2 hcT=>?_⟩
    obtain ⟨tps,htp,_⟩:=id (hTab.same s1)
    obtain ⟨tps2,htp2,_⟩:=id hTab2
    have hp2:Paired (TreeAt cs H2 k) rs ts:=paired_mono (fun _ _ z=>TreeAt.sameT sT2 htp (z.same s1)) hp
    refine ⟨sT2.seq htp (SqL.of (s1 _ _ hl)),["each"],spEach cs c' k,fun base' hL=>?_,fun i r ky H3 hr1 hk1 s3=>?_,fun D zs H4 hD s4 hBy=>?_⟩
    ·obtain ⟨⟨pm,ctv,hf⟩,hcl⟩:=hL
     refine ⟨_,.all fun us hl=>match us,hl with | [_],_=>rfl,lam_fn (k:=k + 1) hf lamPbsS hcl (fun vs H Q E h=>?_) (fun vs H Q E h=>?_) (fun A outer s H vs Q E hr h=>?_)⟩
     ·obtain ⟨r,tr,rfl,_⟩:=h
      rfl
     ·obtain ⟨r,tr,_,_,_,h,_⟩:=h
      exact h
     ·obtain ⟨r,tr,rfl,hTr,hlr,_,q⟩:=h
      refine ⟨_,pe_md0 P w K mg base' _ (pv 0),_,rfl,asked_use (shape_all T k hTr hlr q) hr⟩
    ·obtain ⟨tr,htr,hTr⟩:=paired_get hp2 hr1
     have b1:=ptsL_mem htr
     rw [List.getElem?_map,htr] at hk1
     cases hk1
     exact ⟨r,tr,rfl,hTr.same s3,by omega,hcT.same s3,fun H' s'=>⟨rfl,s3.trans s'⟩⟩
    ·obtain ⟨tps0,htp0,_⟩:=id hTab
     obtain ⟨us,hus,hpw,hpz⟩:=bykey_trees (paired_mono (fun _ _ z=>TreeAt.off htp0 z) hp) hBy
     have hzl:=paired_len hpz
     have hul:=hus.length_eq
     have e2:H2 pl=some (.lst (vv [])):=sT2.at htp e1 (fun _ z=>nomatch z)
     have hpu:(ptsL us).Perm (ptsL ts):=ptsL_perm hus
     have s5:=same_upd (o:=.lst (zs.map V.ref)) s4 hD
     have hD5:upd H4 D (.lst (zs.map V.ref)) D=some (.lst (zs.map V.ref)):=upd_same
     have nDp:D ≠ pl:=fun z=>by rw [z,s4 _ _ e2] at hD; cases hD
     generalize upd H4 D (.lst (zs.map V.ref))=H5 at s5 hD5
     have sT5:SameT [aPbs] H H5:=(SameT.of s1).trans (sT2.trans (SameT.of s5))
     have hTab5:=hTab2.same s5
     obtain ⟨tps5,htp5,_⟩:=id hTab5
     refine ⟨D,rfl,⟨_,SqL.of hD5⟩,for_list (K:=K) (a:=D) (xs:=zs.map V.ref) (fun i σ H6=>∃ (ls:List (List Nat)) (v2:Option V),σ=[some (.ref a),some (.ref pl),v2]/\ls.length=i/\(∀ (j:Nat) (u:Tr) (l:List Nat),us[j]? = some u->ls[j]? = some l->By u l)/\H6 pl=some (.lst (vv ls.flatten))/\H6 D=some (.lst (zs.map V.ref))/\SameT [aPbs] H H6/\TabOk H6 aPbs qPbs)
      ⟨[],_,rfl,rfl,fun j u l h1 h2=>by simp at h2,s5 _ _ e2,hD5,sT5,hTab5⟩ (fun i σ H6 _ ⟨_,_,_,_,_,_,z,_⟩=>SqL.of z) ?_ ?_⟩
     ·rintro i x σ H6 hx ⟨ls,v2,rfl,hli,hby,hp6,hD6,sT6,hTab6⟩
      obtain ⟨r,hr1,rfl⟩:=ref_at hx
      obtain ⟨u,hu,hTu0⟩:=paired_get hpz hr1
      have hTu:=hTu0.same (offT_same sT6)
      have hi:i < us.length:=(List.getElem?_eq_some_iff.mp hu).1
      have b1:=ptsL_mem hu
      have b2:=hpu.length_eq
      have b3:=by_len (us:=us) (ls:=ls) (by omega) hby
      obtain ⟨tps6,htp6,_⟩:=id hTab6
      refine ⟨_,rfl,.inl ⟨rfl,_,SqL.of hp6⟩,_,rfl,r,u,rfl,hTu,by omega,hTab6,fun ll H7 lu hll sT7 hTab7 hll7 hbu=>?_⟩
      have hp7:H7 pl=some (.lst (vv ls.flatten)):=sT7.at htp6 hp6 (fun _ z=>nomatch z)
      have hD7:H7 D=some (.lst (zs.map V.ref)):=sT7.at htp6 hD6 (fun _ z=>nomatch z)
      have hlb:=hbu.perm.length_eq
      have npl:ll ≠ pl:=fun z=>by rw [z,hp6] at hll; cases hll
      obtain ⟨tps7,htp7,_⟩:=id hTab7
      refine ⟨pl,ll,_,_,rfl,rfl,hp7,hll7,by rw [vv_len,vv_len,sizeLine_eq]; omega,?_⟩
      rw [vv_app]
      have npt:pl ≠ aPbs:=fun z=>by rw [z,htp7] at hp7; cases hp7
      have sTu:SameT [aPbs] H (upd H7 pl (.lst (vv (ls.flatten ++ lu)))):=sameT_upd (sT6.trans sT7) hpl
      refine ⟨ls ++ [lu],_,rfl,by rw [List.length_append,List.length_singleton,hli],fun j u' l' h1 h2=>?_,by rw [upd_same,List.flatten_append]; simp,by rw [upd_ne nDp]; exact hD7,sTu,?_⟩
      ·by_cases hj:j < ls.length
       ·rw [List.getElem?_append_left hj] at h2
        exact hby j u' l' h1 h2
       ·have hj2:j=ls.length:=by
         have:=(List.getElem?_eq_some_iff.mp h2).1
         rw [List.length_append,List.length_singleton] at this
         omega
        subst hj2
        rw [List.getElem?_append_right (Nat.le_refl _),Nat.sub_self] at h2
        cases h2
        rw [hli,hu] at h1
        cases h1
        exact hbu
      ·obtain ⟨tp,g1,g2,g3⟩:=hTab7
       refine ⟨tp,by rw [upd_ne (Ne.symm npt)]; exact g1,g2,fun q hq=>?_⟩
       rcases g3 q hq with z | ⟨cc,z,o,vs,tk,z1,z2⟩
       ·exact .inl z
       ·refine .inr ⟨cc,z,o,vs,tk,?_,z2⟩
        rw [upd_ne (fun w=>by rw [w,hp7] at z1; cases z1)]
        exact z1
     ·rintro σ H6 ⟨ls,v2,rfl,hli,hby,hp6,hD6,sT6,hTab6⟩
      rw [List.length_map] at hli
      exact ⟨_,rfl,kq pl H6 _ hpl sT6 hTab6 hp6 (.doing ac ts us ls hus hpw (by omega) hby)⟩
end
end Bw
namespace Bw
open PySem L2
section
variable {P:Program} {w:World} {K:PySem.W.Frag} {mg:Str->Option Value} {base:Heap} {cs:Cl}
theorem plain_len {ws:List Nat} (p:Plain ws):(treeM 10 ws (List.range ws.length)).pts.length <= 10:=by
 have:=p.len
 unfold treeW at this
 rw [this]
 exact p.web.le
def spShapeOf (cs:Cl):Sp:=fun vs H Q E=>∃ (a:Addr) (ws:List Nat),vs=[.ref a]/\H a=some (.lst (vv ws))/\Web ws/\(Plain ws->∀ H',Same H H'->Q (.str (sx (treeW ws).shape)) H')/\∀ (r:List Nat) (rest:List (List Nat)),stepsM ws 4=r::rest->notMade cs H E r
theorem scShapeOf:FnScope ["web"] ["web"] (defScope sShapeOf):=⟨rfl,rfl,rfl,by decide +kernel,rfl,by decide +kernel,by decide +kernel⟩
theorem ok_shapeOf (T:Txt K mg cs):CalX P w K mg base 38 "shape_of" ["web"] (spShapeOf cs):=by
 have CTreeOf:CalX P w K mg base 37 "tree_of" ["web"] (spTreeOf cs):=ok_treeOf T
 refine T.shapeOf.calX scShapeOf (fun vs H Q E h=>?_) (fun f cdv A outer s H vs Q E hr h=>?_)
 ·obtain ⟨a,ws,rfl,_⟩:=h
  rfl
 ·obtain ⟨a,ws,rfl,ha,W,k1,k2⟩:=h
  refine ⟨_,pss_one (ps_ret (pe_md0 P w K mg base _ (pe_calX CTreeOf hr (by rfl) throws_def (pa_cons (pv 0) pa_nil)))),?_⟩
  refine ⟨_,rfl,a,ws,rfl,ha,W,fun N x H1 hx s1 hT=>?_,k2⟩
  exact asked_use ((shape_all T 10 (hT.same fresh_sub) (plain_len ⟨W,N⟩) fun H2 s2=>k1 ⟨W,N⟩ H2 (s1.trans s2)).mono (by decide)) hr
def spSame (cs:Cl):Sp:=fun vs H Q E=>∃ (a b:Addr) (ws us:List Nat),vs=[.ref a,.ref b]/\H a=some (.lst (vv ws))/\H b=some (.lst (vv us))/\Web ws/\Web us/\TabOk H aPbs qPbs /\
 (∀ (r:List Nat) (rest:List (List Nat)),stepsM ws 4=r::rest->notMade cs H E r)/\(Plain ws->∀ (r:List Nat) (rest:List (List Nat)),stepsM us 4=r::rest->notMade cs H E r) /\
 (Plain ws->Plain us->((treeW ws).shape ≠ (treeW us).shape->∀ H',Same H H'->Q .non H')/\((treeW ws).shape=(treeW us).shape->∀ (l:Addr) (H':Hp) (g:List Nat),H l=none->SameT [aPbs] H H'->TabOk H' aPbs qPbs->H' l=some (.lst (vv g))->Mapped ws us g->Q (.ref l) H'))
theorem scSame:FnScope ["one","other","tree","like","found","point","image"] ["one","other"] (defScope sSame):=⟨rfl,rfl,rfl,by decide +kernel,rfl,by decide +kernel,by decide +kernel⟩
def cSame1:Scope:={ kind:=.function,names:=[(Str.ofString ".0",.local),(Str.ofString "point",.local)],isGenerator:=false,isCoroutine:=false,more:=[] }
theorem cSame1s:CScope ["one","other","tree","like","found","point","image"] (defScope sSame) cSame1 ["point"] []:=⟨rfl,by decide +kernel,by decide +kernel,by decide +kernel,by decide,by decide +kernel,by decide +kernel⟩
theorem sx_inj {a b:List Nat} (h:sx a=sx b):a=b:=by
 have:=congrArg (fun s=>s.cps.toList) h
 simpa [sx] using this
theorem ok_same (T:Txt K mg cs):CalX P w K mg base 39 "same" ["one","other"] (spSame cs):=by
 have CCheckWeb:Cal P w K mg base 38 "check_web" ["web"] spCheckWeb:=(ok_checkWeb T).mono (by decide)
 have CTreeOf:CalX P w K mg base 38 "tree_of" ["web"] (spTreeOf cs):=(ok_treeOf T).mono (by decide)
 have CPointsByShape:Cal P w K mg base 38 "points_by_shape" ["tree"] (spPbs cs 10):=(pbs_all T 10).mono (by decide)
 refine T.same.calX scSame (fun vs H Q E h=>?_) (fun f cdv A outer s H vs Q E hr h=>?_)
 ·obtain ⟨a,b,ws,us,rfl,_⟩:=h
  rfl
 ·obtain ⟨a,b,ws,us,rfl,ha,hb,W,U,hTab,k1,k2,k3⟩:=h
  refine ⟨_,(pss_cons (ps_expr (pe_cal CCheckWeb hr (by rfl) (pa_cons (pv 0) pa_nil)))
   (pss_cons (ps_expr (pe_cal CCheckWeb hr (by rfl) (pa_cons (pv 1) pa_nil)))
   (pss_cons (ps_set (i:=2) scSame.nd rfl (Or.inl rfl) (pe_calX CTreeOf hr (by rfl) throws_def (pa_cons (pv 0) pa_nil)))
   (pss_cons (ps_set (i:=3) scSame.nd rfl (Or.inl rfl) (pe_calX CTreeOf hr (by rfl) throws_def (pa_cons (pv 1) pa_nil)))
   (pss_cons (ps_if (pt_cmpR op_ne (pe_md0 P w K mg base _ (pv 2)) (pe_md0 P w K mg base _ (pv 3)) (nomark _))
    (pss_one (ps_ret pe_non))
    pss_nil)
   (pss_cons (ps_setComp (i:=4) (sc:=cSame1) scSame.nd rfl rfl rfl (pi_listK K (pv 0)) cSame1s (fun _ _ _ _=>(pg_name (i:=0) cSame1s.nd rfl (Or.inl rfl))) (fun _ _ _ _=>pif_nil) (fun _ _ _ _=>pe_int))
   (pss_cons (ps_for PassesOwn.leaving rfl (pi_zip K (by rfl) T.zip (pa_cons (pe_cal CPointsByShape hr (by rfl) (pa_cons (pv 2) pa_nil)) (pa_cons (pe_cal CPointsByShape hr (by rfl) (pa_cons (pv 3) pa_nil)) pa_nil))) (pg_tupK (n:=2) K rfl (pgs_cons (pg_name (i:=5) scSame.nd rfl (Or.inl rfl)) (pgs_cons (pg_name (i:=6) scSame.nd rfl (Or.inl rfl)) pgs_nil)))
    (pss_one (ps_asg (pv 6) (pg_sub (pv 4) (pv 5) set_list))))
   (pss_one (ps_ret (pv 4)))))))))),?_⟩
  have h10:=W.le
  refine ⟨_,rfl,a,ws,rfl,ha,W,?_⟩
  refine ⟨_,rfl,b,us,rfl,hb,U,?_⟩
  refine ⟨_,rfl,a,ws,rfl,ha,W,fun N x H1 hx s1 hTx=>?_,k1⟩
  have p:Plain ws:=⟨W,N⟩
  refine ⟨_,rfl,b,us,rfl,s1 _ _ hb,U,fun M y H2 hy s2 hTy=>?_,fun r rest e=>(k2 p r rest e).same s1⟩
  have q:Plain us:=⟨U,M⟩
  obtain ⟨k4,k5⟩:=k3 p q
  have hTx2:=(hTx.same fresh_sub).same s2
  have hTy2:=hTy.same fresh_sub
  have lx:=plain_len p
  have ly:=plain_len q
  refine ⟨_,rfl,asked_use ((shape_all T 10 hTx2 lx fun H3 s3=>?_).mono (by decide)) hr⟩
  refine ⟨_,rfl,asked_use ((shape_all T 10 (hTy2.same s3) ly fun H4 s4=>?_).mono (by decide)) hr⟩
  have s04:=(s1.trans s2).trans (s3.trans s4)
  refine ⟨rfl,_,rfl,?_⟩
  by_cases hsh:(treeW ws).shape=(treeW us).shape
  rotate_left
  ·refine iteT' ?_ ?_
   ·have e:¬ V.str (sx (treeM 10 ws (List.range ws.length)).shape)=V.str (sx (treeM 10 us (List.range us.length)).shape):=fun z=>hsh (sx_inj (V.str.inj z))
    rw [decide_eq_false e]
    rfl
   ·exact k4 hsh H4 s04
  refine iteF' ?_ ?_
  ·have e:V.str (sx (treeM 10 ws (List.range ws.length)).shape)=V.str (sx (treeM 10 us (List.range us.length)).shape):=congrArg (fun l=>V.str (sx l)) hsh
   rw [decide_eq_true e]
   rfl
  refine ⟨_,rfl,a,rfl,⟨_,SqL.of (s04 _ _ ha)⟩,comp_list (K:=K) (a:=a) (xs:=vv ws) (fun i ys H5=>ys=vv (List.replicate i 0)/\H5=H4) ⟨rfl,rfl⟩ (by rw [vv_len,sizeLine_eq]; omega) (fun i ys H5 _ h=>by rw [h.2]; exact SqL.of (s04 _ _ ha)) ?_ ?_⟩
  ·rintro i v ys H5 hv hlt ⟨rfl,rfl⟩ hyl hys
   refine gset ?_
   refine yes ?_
   refine iteT ?_
   refine ⟨hys,Pn.snoc hlt hyl ⟨?_,rfl⟩⟩
   rw [List.replicate_succ',<- vv_snoc]
   rfl
  rintro ys H5 ⟨rfl,rfl⟩ hyl fl hfl
  rw [vv_len]
  have hfl0:H fl=none:=same_none s04 hfl
  have s5:=same_upd (o:=.lst (vv (List.replicate ws.length 0))) (Same.refl H5) hfl
  have e5:upd H5 fl (.lst (vv (List.replicate ws.length 0))) fl=some (.lst (vv (List.replicate ws.length 0))):=upd_same
  generalize upd H5 fl (.lst (vv (List.replicate ws.length 0)))=H6 at s5 e5
  have s06:=s04.trans s5
  have s26:=(s3.trans s4).trans s5
  have hTab6:=hTab.same s06
  refine ⟨_,rfl,x,_,rfl,hTx2.same s26,lx,hTab6,fun l1 H7 ls1 hl1 sT7 hTab7 h7 hb1=>?_⟩
  obtain ⟨tp6,htp6,_⟩:=id hTab6
  obtain ⟨tp7,htp7,_⟩:=id hTab7
  refine ⟨_,rfl,y,_,rfl,TreeAt.sameT sT7 htp6 (hTy2.same s26),ly,hTab7,fun l2 H8 ls2 hl2 sT8 hTab8 h8 hb2=>?_⟩
  obtain ⟨tp8,htp8,_⟩:=id hTab8
  have h8l1:=sT8.at htp7 h7 (fun _ z=>nomatch z)
  have e8:H8 fl=some (.lst (vv (List.replicate ws.length 0))):=sT8.at htp7 (sT7.at htp6 e5 (fun _ z=>nomatch z)) (fun _ z=>nomatch z)
  have n1:l1 ≠ fl:=fun z=>by rw [z,e5] at hl1; cases hl1
  have n2:l2 ≠ fl:=fun z=>by
   have:=sT7.at htp6 e5 (fun _ z=>nomatch z)
   rw [z,this] at hl2
   cases hl2
  have sT08:SameT [aPbs] H H8:=(SameT.of s06).trans (sT7.trans sT8)
  have pl1:=hb1.perm.trans p.perm
  have hlen1:ls1.length=ws.length:=by rw [pl1.length_eq,List.length_range]
  have eqs:=(by_map p.web.sym q.web.sym hb1 hb2 p.can q.can p.tells q.tells p.nd q.nd hsh).1
  refine ⟨l1,l2,rfl,⟨_,SqL.of h8l1⟩,⟨_,SqL.of h8⟩,for_zip (K:=K) (a:=l1) (b:=l2) (xs:=vv ls1) (ys:=vv ls2) (fun i σ H9=>∃ (v5 v6:Option V),σ=[some (.ref a),some (.ref b),some (.ref x),some (.ref y),some (.ref fl),v5,v6]/\H9 fl=some (.lst (vv (putG ((ls1.zip ls2).take i) (List.replicate ws.length 0))))/\H9 l1=some (.lst (vv ls1))/\H9 l2=some (.lst (vv ls2))/\SameT [aPbs] H H9/\TabOk H9 aPbs qPbs)
   ⟨_,_,rfl,e8,h8l1,h8,sT08,hTab8⟩ (by rw [vv_len,vv_len]; exact eqs) (fun i σ H9 _ ⟨_,_,_,_,z1,z2,_⟩=>⟨SqL.of z1,SqL.of z2⟩) ?_ ?_⟩
  ·rintro i u v σ H9 t hu hv ⟨v5,v6,rfl,f9,g9,k9,sT9,hTab9⟩ ht
   obtain ⟨hi1,rfl⟩:=vv_at hu
   obtain ⟨hi2,rfl⟩:=vv_at hv
   have st:=same_upd (o:=.tup [V.int ((ls1.getD i 0:Nat):Int),V.int ((ls2.getD i 0:Nat):Int)]) (Same.refl H9) ht
   refine ⟨t,_,rfl,SqT.of upd_same,rfl,_,_,rfl,_,_,rfl,rfl,?_⟩
   have hlt:ls1.getD i 0 < ws.length:=List.mem_range.mp (pl1.mem_iff.mp (getD_mem hi1))
   have f10:=st _ _ f9
   have g10:=st _ _ g9
   have k10:=st _ _ k9
   have sT10:SameT [aPbs] H _:=sT9.trans (SameT.of st)
   have hTab10:=hTab9.same st
   generalize upd H9 t _=H10 at f10 g10 k10 sT10 hTab10
   refine ⟨_,rfl,_,rfl,_,rfl,fl,_,_,_,rfl,rfl,f10,ixN_nat (by rw [vv_len,putG_len,List.length_replicate]; exact hlt),?_⟩
   rw [vv_set]
   obtain ⟨tp10,g1,g2,g3⟩:=hTab10
   have nfl:fl ≠ aPbs:=fun z=>by rw [z,g1] at f10; cases f10
   refine ⟨_,_,rfl,?_,by rw [upd_ne n1]; exact g10,by rw [upd_ne n2]; exact k10,sameT_upd sT10 hfl0,tp10,by rw [upd_ne (Ne.symm nfl)]; exact g1,g2,fun qq hqq=>?_⟩
   ·have hz:(ls1.zip ls2)[i]? = some (ls1.getD i 0,ls2.getD i 0):=by
     rw [List.getElem?_zip_eq_some]
     exact ⟨by show _=some (ls1.getD i 0); rw [List.getD_eq_getElem?_getD,List.getElem?_eq_getElem hi1]; rfl,by show _=some (ls2.getD i 0); rw [List.getD_eq_getElem?_getD,List.getElem?_eq_getElem hi2]; rfl⟩
    rw [upd_same,List.take_add_one,hz]
    show _=some (HO.lst (vv (putG ((ls1.zip ls2).take i ++ [(ls1.getD i 0,ls2.getD i 0)]) (List.replicate ws.length 0))))
    rw [putG_snoc]
   ·rcases g3 qq hqq with z | ⟨cc,z,o,vs,tk,z1,z2⟩
    ·exact .inl z
    ·refine .inr ⟨cc,z,o,vs,tk,?_,z2⟩
     rw [upd_ne (fun w=>by rw [w,f10] at z1; cases z1)]
     exact z1
  ·rintro σ H9 ⟨v5,v6,rfl,f9,g9,k9,sT9,hTab9⟩
   have ez:(ls1.zip ls2).take (vv ls1).length=ls1.zip ls2:=List.take_of_length_le (by rw [List.length_zip,vv_len]; omega)
   rw [ez] at f9
   exact ⟨_,rfl,k5 hsh fl H9 _ hfl0 sT9 hTab9 f9 (found_mapped p q hb1 hb2 hsh)⟩
end
end Bw
namespace Bw
open PySem L2
section
variable {P:Program} {w:World} {K:PySem.W.Frag} {mg:Str->Option Value} {base:Heap} {cs:Cl}
def spRefL (P:Program) (w:World) (K:PySem.W.Frag) (mg:Str->Option Value) (base:Heap) (cs:Cl) (k:Nat):Sp:=fun vs H Q _=>∃ (f a:Addr) (ps:List Str) (sp:Sp) (r:List Nat),vs=[.ref f,.ref a]/\FnW P w K mg base k f ps sp/\(∀ Q',sp [.ref a] H Q' (XFour cs H r)) /\
 ∀ (l:Addr) (H':Hp),H l=none->Same H H'->H' l=some (.lst (vv r))->Q (.ref l) H'
theorem ok_lawRefL (T:Txt K mg cs) (kk:Nat):Cal P w K mg base (kk + 1) "_law_refused" ["_law_ask","_law_web_here"] (spRefL P w K mg base cs kk):=by
 refine FnT.cal (k:=kk) T.lawRefused scLawRefused (fun vs H Q E h=>?_) (fun f cdv A outer s H vs Q E hr h=>?_)
 ·obtain ⟨f,a,ps,sp,r,rfl,_⟩:=h
  rfl
 ·obtain ⟨fa,aw,ps,sp,r,rfl,hF,hsp,k⟩:=h
  refine ⟨_,(pss_cons (ps_try_as (i:=2) (E:=XFour cs H r) ["_law_ask","_law_web_here","error","_law_others"] K rfl rfl
    (fun pn W hth=>pss_one (ps_expr (pe_calW (i:=0) P w K mg base rfl (.inl rfl) hr hth (pa_cons (pv 1) pa_nil)))) (by rfl) T.gWebError T.cWebError
    (fun a=>pss_cons (ps_set (i:=3) scLawRefused.nd rfl (Or.inl rfl) (pe_lst (pa_cons (pe_callB (call_isX K) (by rfl) T.isinst PyProof.Rows.boot_isinstance (pa_cons (pv 2) (pa_cons (pe_glob (v:=.ref cs.BadWeb) (by rfl) T.gBadWeb rfl) pa_nil)))
      (pa_cons (pe_callB (call_isX K) (by rfl) T.isinst PyProof.Rows.boot_isinstance (pa_cons (pv 2) (pa_cons (pe_glob (v:=.ref cs.BadTree) (by rfl) T.gBadTree rfl) pa_nil)))
      (pa_cons (pe_callB (call_isX K) (by rfl) T.isinst PyProof.Rows.boot_isinstance (pa_cons (pv 2) (pa_cons (pe_glob (v:=.ref cs.NoPoint) (by rfl) T.gNoPoint rfl) pa_nil))) pa_nil)))))
     (pss_cons (ps_if (PW.pt (pw_or (pt_val (pe_callB (call_anyX K rfl) (by rfl) T.any PyProof.Rows.boot_any (pa_cons (pv 3) pa_nil)))
       (pw_or (pt_val (pe_callB (call_isX K) (by rfl) T.isinst PyProof.Rows.boot_isinstance (pa_cons (pv 2) (pa_cons (pe_glob (v:=.ref cs.BadText) (by rfl) T.gBadText rfl) pa_nil))))
       (pw_or1 (pt_not (pt_val (pe_callB (call_isX K) (by rfl) T.isinst PyProof.Rows.boot_isinstance (pa_cons (pv 2) (pa_cons (pe_glob (v:=.ref cs.NotMade) (by rfl) T.gNotMade rfl) pa_nil)))))))))
      (pss_one (ps_ret (pe_lst pa_nil))) pss_nil)
     (pss_one (ps_ret (pe_ifExp (pt_val (pe_callB (call_isX K) (by rfl) T.isinst PyProof.Rows.boot_isinstance (pa_cons (pv 2) (pa_cons (pe_bltn (v:=.ty "ValueError") (by rfl) T.valueError PyProof.Rows.Boot.«ValueError» rfl) pa_nil))))
      (pe_xfld (pv 2) rfl K) (pe_lst pa_nil))))))
    scLawRefused.nd rfl rfl)
   (pss_one (ps_ret (pe_lst pa_nil)))),?_⟩
  refine ⟨?_,?_⟩
  ·exact ⟨fa,ps,sp,rfl,hF,_,rfl,hsp _⟩
  ·rintro a C dx H' ⟨rfl,d,l,rfl,hl0,hd,hll,sm⟩ hat
   refine ⟨cs.NotMade,rfl,T.eNotMadeWebError,?_⟩
   refine ⟨_,rfl,a,cs.NotMade,d,_,_,.ref cs.BadWeb,false,rfl,rfl,(fun u h=>h),hat,hd,T.xNotMade,T.kNotMadeBadWeb,?_⟩
   refine ⟨_,rfl,a,cs.NotMade,d,_,_,.ref cs.BadTree,false,rfl,rfl,(fun u h=>h),hat,hd,T.xNotMade,T.kNotMadeBadTree,?_⟩
   refine ⟨_,rfl,a,cs.NotMade,d,_,_,.ref cs.NoPoint,false,rfl,rfl,(fun u h=>h),hat,hd,T.xNotMade,T.kNotMadeNoPoint,?_⟩
   refine ⟨(by rw [sizeLine_eq]; show 3 <= _; decide),fun q hq=>?_⟩
   have s1:=same_upd (o:=.lst [V.bl false,V.bl false,V.bl false]) (Same.refl H') hq
   have hat1:=s1 _ _ hat
   have hd1:=s1 _ _ hd
   refine ⟨_,rfl,q,[false,false,false],_,_,rfl,SqL.of upd_same,hat1,_,rfl,iteF' rfl ?_⟩
   refine ⟨_,rfl,a,cs.NotMade,d,_,_,.ref cs.BadText,false,rfl,rfl,(fun u h=>h),hat1,hd1,T.xNotMade,T.kNotMadeBadText,_,rfl,iteF' rfl ?_⟩
   refine ⟨_,rfl,a,cs.NotMade,d,_,_,.ref cs.NotMade,true,rfl,rfl,(fun u h=>h),hat1,hd1,T.xNotMade,T.kNotMadeNotMade,_,rfl,iteF' rfl ?_⟩
   refine ⟨_,rfl,a,cs.NotMade,d,_,_,.type "ValueError",true,rfl,rfl,(fun u h=>h),hat1,hd1,T.xNotMade,T.kNotMadeV,_,rfl,iteT' rfl ?_⟩
   exact ⟨_,rfl,a,cs.NotMade,d,_,_,rfl,hat1,hd1,T.xNotMade,T.nNotMadeFour,rfl,k l _ hl0 (sm.trans s1) (s1 _ _ hll)⟩
abbrev aBoth:Addr:=597
abbrev nBoth:Str:="_law_both.<locals>.<lambda>"
abbrev qBoth:List (Pos × Str):=[(⟨360,38,360,81⟩,nBoth),(⟨363,38,363,84⟩,nBoth)]
structure Tabs (H:Hp):Prop where
 p:TabOk H aPbs qPbs
 b:TabOk H aBoth qBoth
abbrev S2 (H H':Hp):Prop:=SameT [aPbs,aBoth] H H'
theorem Tabs.same {H H':Hp} (s:Same H H') (t:Tabs H):Tabs H':=⟨t.p.same s,t.b.same s⟩
theorem s2_of {H H':Hp} (s:Same H H'):S2 H H':=fun a o _ e=>s a o e
theorem s2_p {H H':Hp} (s:SameT [aPbs] H H'):S2 H H':=fun a o ha e=>s a o (fun z=>ha (by rw [List.mem_singleton.mp z]; exact .head _)) e
theorem s2_b {H H':Hp} (s:SameT [aBoth] H H'):S2 H H':=fun a o ha e=>s a o (fun z=>ha (by rw [List.mem_singleton.mp z]; exact .tail _ (.head _))) e
theorem s2_at {H H':Hp} {a:Addr} {o:HO} (s:S2 H H') (t:Tabs H) (h:H a=some o) (hn:∀ qs,o ≠ .tbl qs):H' a=some o:=by
 obtain ⟨p1,h1,_⟩:=t.p
 obtain ⟨p2,h2,_⟩:=t.b
 refine s a o (fun z=>?_) h
 simp only [List.mem_cons,List.not_mem_nil,or_false] at z
 rcases z with rfl | rfl
 ·rw [h1] at h; cases h; exact hn _ rfl
 ·rw [h2] at h; cases h; exact hn _ rfl
theorem s2_lst {H H':Hp} {a:Addr} {xs:List V} (s:S2 H H') (t:Tabs H) (h:H a=some (.lst xs)):H' a=some (.lst xs):=s2_at s t h (fun _ z=>nomatch z)
theorem s2_seq {H H':Hp} {a:Addr} {xs:List V} (s:S2 H H') (t:Tabs H) (h:SqL K H a xs):SqL K H' a xs:=by
 rcases h with (h | ⟨o,h⟩) | h
 ·exact .inl (.inl (s2_at s t h (fun _ z=>nomatch z)))
 ·exact .inl (.inr ⟨o,s2_at s t h (fun _ z=>nomatch z)⟩)
 ·exact .inr h
theorem tab_over {H H':Hp} {t u:Addr} {qs:List (Pos × Str)} {ps:Array Value} (s:SameT [t] H H') (ht:H t=some (.tbl ps)) (hne:u ≠ t) (h:TabOk H u qs):TabOk H' u qs:=by
 obtain ⟨us,h1,h2,h3⟩:=h
 refine ⟨us,s u _ (fun z=>hne (List.mem_singleton.mp z)) h1,h2,fun q hq=>?_⟩
 rcases h3 q hq with z | ⟨c,z,o,vs,tk,z1,z2⟩
 ·exact .inl z
 ·exact .inr ⟨c,z,o,vs,tk,s.at ht z1 (fun _ z=>nomatch z),z2⟩
theorem tabs_p {H H':Hp} (t:Tabs H) (s:SameT [aPbs] H H') (h:TabOk H' aPbs qPbs):Tabs H':=by
 obtain ⟨p1,h1,_⟩:=id t.p
 exact ⟨h,tab_over s h1 (by decide) t.b⟩
theorem tabs_b {H H':Hp} (t:Tabs H) (s:SameT [aBoth] H H') (h:TabOk H' aBoth qBoth):Tabs H':=by
 obtain ⟨p1,h1,_⟩:=id t.b
 exact ⟨tab_over s h1 (by decide) t.p,h⟩
theorem s2_trans {H H1 H2:Hp} (a:S2 H H1) (b:S2 H1 H2):S2 H H2:=SameT.trans a b
def lamB1:Scope:={ kind:=.function,names:=[(Str.ofString "_law_one",.local),(Str.ofString "_law_other",.free),(Str.ofString "same",.globalImplicit)],isGenerator:=false,isCoroutine:=false,more:=[] }
def lamB2:Scope:={ kind:=.function,names:=[(Str.ofString "_law_one",.local),(Str.ofString "_law_web_here",.free),(Str.ofString "same",.globalImplicit)],isGenerator:=false,isCoroutine:=false,more:=[] }
theorem look3 {x p y s:Str} (h:([(p,NameKind.local),(y,.free),(s,.globalImplicit)]:List (Str × NameKind)).lookup x=some .free):x=y:=by
 rw [lookup_cons'] at h
 split at h
 ·cases h
 ·rw [lookup_cons'] at h
  split at h
  ·assumption
  ·rw [lookup_cons'] at h
   split at h
   ·cases h
   ·cases h
theorem look1 {x y:Str} {c c':Addr} (h:([(y,c)]:List (Str × Addr)).lookup x=some c'):x=y/\c'=c:=by
 rw [lookup_cons'] at h
 split at h
 ·rename_i e
  cases h
  exact ⟨e,rfl⟩
 ·cases h
theorem lamB1S (cc:Addr):LamScope ["_law_one","_law_other"] ["_law_one"] lamB1 [("_law_other",cc)]:=⟨rfl,rfl,rfl,by decide +kernel,rfl,by decide +kernel,by decide +kernel,fun x h=>by
 rw [look3 h]
 exact ⟨cc,by rw [lookup_cons',if_pos rfl]⟩,fun x c h=>by
 rw [(look1 h).1]
 rfl,fun x y c h1 h2=>by rw [(look1 h1).1,(look1 h2).1]⟩
theorem lamB2S (cc:Addr):LamScope ["_law_one","_law_web_here"] ["_law_one"] lamB2 [("_law_web_here",cc)]:=⟨rfl,rfl,rfl,by decide +kernel,rfl,by decide +kernel,by decide +kernel,fun x h=>by
 rw [look3 h]
 exact ⟨cc,by rw [lookup_cons',if_pos rfl]⟩,fun x c h=>by
 rw [(look1 h).1]
 rfl,fun x y c h1 h2=>by rw [(look1 h1).1,(look1 h2).1]⟩
end
end Bw
namespace Bw
open PySem L2
section
variable {P:Program} {w:World} {K:PySem.W.Frag} {mg:Str->Option Value} {base:Heap} {cs:Cl}
def spBoth:Sp:=fun vs H Q _=>∃ (a b:Addr) (ws us:List Nat),vs=[.ref a,.ref b]/\H a=some (.lst (vv ws))/\H b=some (.lst (vv us))/\Web ws/\Web us/\Tabs H/\∀ H',S2 H H'->Tabs H'->Q (.bl true) H'
theorem scLawBoth:FnScope ["_law_web_here","_law_other","_law_four_here","_law_found"] ["_law_web_here","_law_other"] (defScope sLawBoth):=⟨rfl,rfl,rfl,by decide +kernel,rfl,by decide +kernel,by decide +kernel⟩
def cLawBoth1:Scope:={ kind:=.function,names:=[(Str.ofString ".0",.local),(Str.ofString "_law_some",.local),(Str.ofString "_law_mapped",.globalImplicit),(Str.ofString "_law_other",.free),(Str.ofString "_law_web_here",.free)],isGenerator:=false,isCoroutine:=false,more:=[] }
theorem cLawBoth1s:CScope ["_law_web_here","_law_other","_law_four_here","_law_found"] (defScope sLawBoth) cLawBoth1 ["_law_web_here","_law_other","_law_some"] [0,1]:=⟨rfl,by decide +kernel,by decide +kernel,by decide +kernel,by decide,by decide +kernel,by decide +kernel⟩
theorem nd1:∀ q ∈ qBoth,q ≠ ((⟨360,38,360,81⟩:Pos),nBoth)->¬ (((⟨360,38,360,81⟩:Pos).line:Int)=q.1.line/\((⟨360,38,360,81⟩:Pos).col:Int)=q.1.col):=by
 intro q hq hne
 simp only [qBoth,List.mem_cons,List.not_mem_nil,or_false] at hq
 rcases hq with rfl | rfl
 ·exact absurd rfl hne
 ·decide
theorem nd2:∀ q ∈ qBoth,q ≠ ((⟨363,38,363,84⟩:Pos),nBoth)->¬ (((⟨363,38,363,84⟩:Pos).line:Int)=q.1.line/\((⟨363,38,363,84⟩:Pos).col:Int)=q.1.col):=by
 intro q hq hne
 simp only [qBoth,List.mem_cons,List.not_mem_nil,or_false] at hq
 rcases hq with rfl | rfl
 ·decide
 ·exact absurd rfl hne
theorem clos1 {env:Env} {p y z:Str} {cc:Addr} {sc:Scope} (hs:sc.names=[(p,.local),(y,.free),(z,.globalImplicit)]) (hc:env.cells.lookup y=some cc):closureFor sc env=pure [(y,cc)]:=by
 rw [closure_eq,hs]
 ·show pure [(y,(env.cells.lookup y).getD 0)]=_
  rw [hc]
  rfl
 ·intro q hq hf
  rw [hs] at hq
  simp only [List.mem_cons,List.not_mem_nil,or_false] at hq
  rcases hq with rfl | rfl | rfl
  ·cases hf
  ·exact ⟨cc,hc⟩
  ·cases hf
def spL1 (cs:Cl) (c' b:Addr):Sp:=fun vs H Q E=>CodeT H c' nBoth/\∃ v,vs=[v]/\spSame cs [v,.ref b] H Q E
def spL2 (cs:Cl) (c' a:Addr):Sp:=fun vs H Q E=>CodeT H c' nBoth/\∃ v,vs=[v]/\spSame cs [.ref a,v] H Q E
theorem ok_lawBoth (T:Txt K mg cs):Cal P w K mg base 42 "_law_both" ["_law_web_here","_law_other"] spBoth:=by
 have CLawBarred:Cal P w K mg base 41 "_law_barred" ["_law_web_here"] (spBarred K):=(ok_lawBarred T).mono (by decide)
 have CLawFour:Cal P w K mg base 41 "_law_four" ["_law_web_here","_law_four_here"] (spFour K):=(ok_lawFour T).mono (by decide)
 have CLawMapped:Cal P w K mg base 41 "_law_mapped" ["_law_one","_law_other","_law_found"] (spMapped K):=(ok_lawMapped T).mono (by decide)
 have CLawLists:Cal P w K mg base 41 "_law_lists" ["_law_points"] spLists:=(ok_lawLists T).mono (by decide)
 have CSame:CalX P w K mg base 41 "same" ["one","other"] (spSame cs):=(ok_same T).mono (by decide)
 have CShapeOf:CalX P w K mg base 41 "shape_of" ["web"] (spShapeOf cs):=(ok_shapeOf T).mono (by decide)
 refine FnTC.cal (k:=41) T.lawBoth scLawBoth (fun vs H Q E h=>?_) (fun f c A outer s H vs Q E hC hr h=>?_)
 ·obtain ⟨a,b,ws,us,rfl,_⟩:=h
  rfl
 ·obtain ⟨a,b,ws,us,rfl,ha,hb,W,U,hT,k⟩:=h
  refine ⟨_,(pss_cons (ps_if (pt_val (pe_cal CLawBarred hr (by rfl) (pa_cons (pv 0) pa_nil)))
   (pss_cons (ps_set (i:=2) scLawBoth.nd rfl (Or.inl rfl) (pe_calL (k:=41) (spg:=fun base'=>spRefL P w K mg base' cs 40) (j:=1) (y:="_law_other") (c:=c) (P:=aBoth) (qs:=qBoth) (qual:=nBoth) (fun base'=>ok_lawRefL T 40) hr (by rfl) ⟨rfl,hC,T.blt.at T.tLawBoth,by decide,.head _,rfl,nd1⟩ (fun _=>rfl) rfl rfl (fun cc h=>clos1 rfl h) (pv 0)))
    (pss_one (ps_ret (pe_cal CLawFour hr (by rfl) (pa_cons (pv 0) (pa_cons (pv 2) pa_nil))))))
   pss_nil)
   (pss_cons (ps_if (pt_val (pe_cal CLawBarred hr (by rfl) (pa_cons (pv 1) pa_nil)))
   (pss_cons (ps_set (i:=2) scLawBoth.nd rfl (Or.inl rfl) (pe_calL (k:=41) (spg:=fun base'=>spRefL P w K mg base' cs 40) (j:=0) (y:="_law_web_here") (c:=c) (P:=aBoth) (qs:=qBoth) (qual:=nBoth) (fun base'=>ok_lawRefL T 40) hr (by rfl) ⟨rfl,hC,T.blt.at T.tLawBoth,by decide,.tail _ (.head _),rfl,nd2⟩ (fun _=>rfl) rfl rfl (fun cc h=>clos1 rfl h) (pv 1)))
    (pss_one (ps_ret (pe_cal CLawFour hr (by rfl) (pa_cons (pv 1) (pa_cons (pv 2) pa_nil))))))
   pss_nil)
   (pss_cons (ps_set (i:=3) scLawBoth.nd rfl (Or.inl rfl) (pe_calX CSame hr (by rfl) throws_no (pa_cons (pv 0) (pa_cons (pv 1) pa_nil))))
   (pss_cons (ps_if (pt_cmpR op_ne (pe_cmp (pc_isN (pv 3))) (pe_cmpR op_ne (pe_calX CShapeOf hr (by rfl) throws_no (pa_cons (pv 0) pa_nil)) (pe_calX CShapeOf hr (by rfl) throws_no (pa_cons (pv 1) pa_nil)) (nomark _)) (nomark _))
   (pss_one (ps_ret pe_bl))
   pss_nil)
   (pss_cons (ps_if (pt_cmp (pc_notN (pv 3)))
   (pss_one (ps_ret (pe_cal CLawMapped hr (by rfl) (pa_cons (pv 0) (pa_cons (pv 1) (pa_cons (pv 3) pa_nil))))))
   pss_nil)
   (pss_cons (ps_if (PW.pt (pw_or (pt_cmpR op_ne (pe_callB (call_lenK K) (by rfl) T.len PySem.boot_len (pa_cons (pv 0) pa_nil)) (pe_callB (call_lenK K) (by rfl) T.len PySem.boot_len (pa_cons (pv 1) pa_nil)) (nomark _)) (pw_or1 (pt_cmpR op_gt (pe_callB (call_lenK K) (by rfl) T.len PySem.boot_len (pa_cons (pv 0) pa_nil)) pe_int (nomark _)))))
   (pss_one (ps_ret pe_bl))
   pss_nil)
   (pss_one (ps_ret (pe_not (pe_callB (call_anyK K rfl) (by rfl) T.any PyProof.Rows.boot_any (pa_cons (pe_comp (sc:=cLawBoth1) rfl (pi_listK K (pe_cal CLawLists hr (by rfl) (pa_cons (pe_callB (call_lenK K) (by rfl) T.len PySem.boot_len (pa_cons (pv 0) pa_nil)) pa_nil))) cLawBoth1s (fun _ _ _ _=>(pg_name (i:=2) cLawBoth1s.nd rfl (Or.inl rfl))) (fun _ _ _ _=>pif_nil) (fun _ _ _ _=>(pe_cal CLawMapped hr (by rfl) (pa_cons (pv 0) (pa_cons (pv 1) (pa_cons (pv 2) pa_nil)))))) pa_nil))))))))))),?_⟩
  have h10:=W.le
  have u10:=U.le
  refine ⟨_,rfl,a,ws,rfl,SqL.of ha,W,_,rfl,ite2 (fun hbar=>?_) (fun hbar=>?_)⟩
  ·obtain ⟨r,rest,hst⟩:=bar_row W hbar
   obtain ⟨hf4,hlt,hl4⟩:=steps_four W hst
   have no:¬ Plain ws:=fun N=>by
    have:=(noRow_iff W).mpr N.no
    rw [hst] at this
    cases this
   refine ⟨_,rfl,hT.b,fun f1 c' H1 hf1 sT1 hTb1 hcT=>?_⟩
   have hT1:=tabs_b hT sT1 hTb1
   have ha1:=s2_lst (s2_b sT1) hT ha
   have hb1:=s2_lst (s2_b sT1) hT hb
   refine ⟨_,rfl,fun base' cc lam=>?_⟩
   obtain ⟨⟨pm,ctv,hfl⟩,hcl⟩:=lam
   refine ⟨f1,a,["_law_one"],spL1 cs c' b,r,rfl,⟨_,.inr ⟨_,_,_,_,hfl⟩,.all (fun us hl=>match us,hl with | [_],_=>rfl),lam_fn (CX:=CXe P w) (k:=39) hfl (lamB1S cc) hcl (fun vs H Q E h=>?_) (fun vs H Q E h=>h.1) (fun A outer s H vs Q E hr h=>?_)⟩,fun Q'=>⟨hcT,_,rfl,a,b,ws,us,rfl,ha1,hb1,W,U,hT1.p,fun r' rest' e=>?_,fun N=>absurd N no,fun N=>absurd N no⟩,fun l H2 hl s2 h2=>?_⟩
   ·obtain ⟨_,v,rfl,_⟩:=h
    rfl
   ·obtain ⟨_,v,rfl,h⟩:=h
    exact ⟨_,pe_calX (ok_same T) hr (by rfl) throws_lam (pa_cons (pv 0) (pa_cons (pv 1) pa_nil)),⟨_,rfl,_,rfl,h⟩⟩
   ·rw [hst] at e
    rw [<- (List.cons.inj e).1]
    exact xfour H1 r
   ·refine ⟨_,rfl,_,rfl,a,l,ws,r,rfl,SqL.of (s2 _ _ ha1),h2,h10,by omega,hlt,fun H3 s3=>?_⟩
    rw [hf4]
    exact k H3 (s2_trans (s2_b sT1) (s2_of (s2.trans s3))) (hT1.same (s2.trans s3))
  have p:Plain ws:=⟨W,bar_no W (Bool.eq_false_iff.mpr hbar)⟩
  refine ⟨_,rfl,b,us,rfl,SqL.of hb,U,_,rfl,ite2 (fun hbar2=>?_) (fun hbar2=>?_)⟩
  ·obtain ⟨r,rest,hst⟩:=bar_row U hbar2
   obtain ⟨hf4,hlt,hl4⟩:=steps_four U hst
   have no:¬ Plain us:=fun N=>by
    have:=(noRow_iff U).mpr N.no
    rw [hst] at this
    cases this
   refine ⟨_,rfl,hT.b,fun f1 c' H1 hf1 sT1 hTb1 hcT=>?_⟩
   have hT1:=tabs_b hT sT1 hTb1
   have ha1:=s2_lst (s2_b sT1) hT ha
   have hb1:=s2_lst (s2_b sT1) hT hb
   refine ⟨_,rfl,fun base' cc lam=>?_⟩
   obtain ⟨⟨pm,ctv,hfl⟩,hcl⟩:=lam
   refine ⟨f1,b,["_law_one"],spL2 cs c' a,r,rfl,⟨_,.inr ⟨_,_,_,_,hfl⟩,.all (fun us hl=>match us,hl with | [_],_=>rfl),lam_fn (CX:=CXe P w) (k:=39) hfl (lamB2S cc) hcl (fun vs H Q E h=>?_) (fun vs H Q E h=>h.1) (fun A outer s H vs Q E hr h=>?_)⟩,fun Q'=>⟨hcT,_,rfl,a,b,ws,us,rfl,ha1,hb1,W,U,hT1.p,fun r' rest' e=>?_,fun _ r' rest' e=>?_,fun _ N=>absurd N no⟩,fun l H2 hl s2 h2=>?_⟩
   ·obtain ⟨_,v,rfl,_⟩:=h
    rfl
   ·obtain ⟨_,v,rfl,h⟩:=h
    exact ⟨_,pe_calX (ok_same T) hr (by rfl) throws_lam (pa_cons (pv 1) (pa_cons (pv 0) pa_nil)),⟨_,rfl,_,rfl,h⟩⟩
   ·have:=(noRow_iff W).mpr p.no
    rw [e] at this
    cases this
   ·rw [hst] at e
    rw [<- (List.cons.inj e).1]
    exact xfour H1 r
   ·refine ⟨_,rfl,_,rfl,b,l,us,r,rfl,SqL.of (s2 _ _ hb1),h2,u10,by omega,hlt,fun H3 s3=>?_⟩
    rw [hf4]
    exact k H3 (s2_trans (s2_b sT1) (s2_of (s2.trans s3))) (hT1.same (s2.trans s3))
  have q:Plain us:=⟨U,bar_no U (Bool.eq_false_iff.mpr hbar2)⟩
  have noW:∀ r rest,stepsM ws 4=r::rest->False:=fun r rest e=>by
   have:=(noRow_iff W).mpr p.no
   rw [e] at this
   cases this
  have noU:∀ r rest,stepsM us 4=r::rest->False:=fun r rest e=>by
   have:=(noRow_iff U).mpr q.no
   rw [e] at this
   cases this
  refine ⟨_,rfl,_,rfl,a,b,ws,us,rfl,ha,hb,W,U,hT.p,fun r rest e=>(noW r rest e).elim,fun _ r rest e=>(noU r rest e).elim,fun _ _=>⟨fun hne H1 s1=>?_,fun heq fl H1 g hfl sT1 hTp1 h1 hM=>?_⟩⟩
  ·refine ⟨_,rfl,_,rfl,a,ws,rfl,s1 _ _ ha,W,fun _ H2 s2=>?_,fun r rest e=>(noW r rest e).elim⟩
   have s12:=s1.trans s2
   refine ⟨_,rfl,b,us,rfl,s12 _ _ hb,U,fun _ H3 s3=>?_,fun r rest e=>(noU r rest e).elim⟩
   have s03:=s12.trans s3
   refine ⟨rfl,rfl,_,rfl,iteF' ?_ ?_⟩
   ·have e:¬ V.str (sx (treeW ws).shape)=V.str (sx (treeW us).shape):=fun z=>hne (sx_inj (V.str.inj z))
    rw [decide_eq_false e]
    rfl
   refine ⟨_,rfl,_,rfl,iteF ?_⟩
   refine ⟨_,rfl,a,_,rfl,.inl (SqL.of (s03 _ _ ha)),_,rfl,b,_,rfl,.inl (SqL.of (s03 _ _ hb)),rfl,_,rfl,ite2 (fun _=>k H3 (s2_of s03) (hT.same s03)) fun hll=>?_⟩
   refine ⟨_,rfl,a,_,rfl,.inl (SqL.of (s03 _ _ ha)),_,_,rfl,rfl,_,rfl,ite2 (fun _=>k H3 (s2_of s03) (hT.same s03)) fun hl5=>?_⟩
   have hl5':ws.length <= 5:=by
    simp [vv_len] at hl5
    omega
   refine ⟨_,rfl,a,_,rfl,.inl (SqL.of (s03 _ _ ha)),ws.length,by rw [vv_len]; rfl,hl5',fun l rs H4 hl s4 hLs=>?_⟩
   have s04:=s03.trans s4
   have hrl:rs.length <= 3125:=hLs.2.1
   refine ⟨l,rfl,⟨_,SqL.of hLs.1⟩,comp_list (K:=K) (a:=l) (xs:=rs.map V.ref) (fun i ys H5=>ys=(List.replicate i false).map V.bl/\Same H4 H5) ⟨rfl,Same.refl _⟩ (by rw [List.length_map,sizeLine_eq]; omega) (fun i ys H5 _ h=>SqL.of (h.2 _ _ hLs.1)) ?_ ?_⟩
   ·rintro i v ys H5 hv hlt ⟨rfl,s5⟩ hyl hys
    obtain ⟨r,hr1,rfl⟩:=ref_at hv
    obtain ⟨g,hg,hgl⟩:=hLs.2.2 r (List.mem_of_getElem? hr1)
    have s05:=s04.trans s5
    refine gset ?_
    refine yes ?_
    refine iteT ?_
    refine ⟨_,rfl,_,rfl,_,rfl,a,b,r,ws,us,g,rfl,SqL.of (s05 _ _ ha),SqL.of (s05 _ _ hb),s5 _ _ hg,h10,u10,by omega,fun H6 s6=>?_⟩
    rw [mapB_no fun M=>hne (M.shape p q)]
    refine ⟨hys,Pn.snoc hlt hyl ⟨?_,s5.trans s6⟩⟩
    rw [List.replicate_succ',List.map_append]
    rfl
   rintro ys H5 ⟨rfl,s5⟩ hyl m hm
   refine ⟨m,_,rfl,SqL.of upd_same,?_⟩
   have s6:=same_upd (o:=.lst ((List.replicate (rs.map V.ref).length false).map V.bl)) (s04.trans s5) hm
   have e:(List.replicate (rs.map V.ref).length false).any id=false:=by
    rw [List.any_eq_false]
    intro x hx
    rw [(List.mem_replicate.mp hx).2]
    decide
   rw [e]
   exact ⟨_,rfl,k _ (s2_of s6) (hT.same s6)⟩
  ·have hT1:=tabs_p hT sT1 hTp1
   have sA:=s2_p sT1
   have ha1:=s2_lst sA hT ha
   have hb1:=s2_lst sA hT hb
   refine ⟨_,rfl,_,rfl,a,ws,rfl,ha1,W,fun _ H2 s2=>?_,fun r rest e=>(noW r rest e).elim⟩
   refine ⟨_,rfl,b,us,rfl,s2 _ _ hb1,U,fun _ H3 s3=>?_,fun r rest e=>(noU r rest e).elim⟩
   have s13:=s2.trans s3
   refine ⟨rfl,rfl,_,rfl,iteF' ?_ ?_⟩
   ·have e:V.str (sx (treeW ws).shape)=V.str (sx (treeW us).shape):=congrArg (fun l=>V.str (sx l)) heq
    rw [decide_eq_true e]
    rfl
   refine ⟨_,rfl,_,rfl,iteT ?_⟩
   have hgl:=hM.len
   refine ⟨_,rfl,_,rfl,_,rfl,a,b,fl,ws,us,g,rfl,SqL.of (s13 _ _ ha1),SqL.of (s13 _ _ hb1),s13 _ _ h1,h10,u10,by omega,fun H4 s4=>?_⟩
   rw [mapB_yes hM]
   exact k H4 (s2_trans sA (s2_of (s13.trans s4))) (hT1.same (s13.trans s4))
end
end Bw
namespace Bw
open PySem L2
section
variable {P:Program} {w:World} {K:PySem.W.Frag} {mg:Str->Option Value} {base:Heap} {cs:Cl}
theorem tab_nil {H:Hp} {t:Addr} {qs:List (Pos × Str)} (h:H t=some (.tbl #[])):TabOk H t qs:=⟨#[],h,trivial,fun _ _=>.inl rfl⟩
theorem tab_upd {H:Hp} {t l:Addr} {qs:List (Pos × Str)} {xs:List V} {o:HO} (hl:H l=some (.lst xs)) (h:TabOk H t qs):TabOk (upd H l o) t qs:=by
 obtain ⟨us,h1,h2,h3⟩:=h
 refine ⟨us,?_,h2,fun q hq=>?_⟩
 ·rw [upd_ne (fun z=>by rw [<- z,h1] at hl; cases hl)]
  exact h1
 ·rcases h3 q hq with z | ⟨c,z,o',vs,tk,z1,z2⟩
  ·exact .inl z
  ·refine .inr ⟨c,z,o',vs,tk,?_,z2⟩
   rw [upd_ne (fun y=>by rw [<- y,z1] at hl; cases hl)]
   exact z1
theorem s2_upd {l:Addr} {H H':Hp} {o:HO} (s:S2 H H') (hl:H l=none):S2 H (upd H' l o):=fun a u ha e=>by
 rw [upd_ne (ne_of_none e hl)]
 exact s a u ha e
def spLaw (K:PySem.W.Frag):Sp:=fun vs H Q _=>∃ (a:Addr) (ns:List Int),vs=[.ref a]/\SqL K H a (ns.map V.int)/\ns.length <= 63/\H aPbs=some (.tbl #[])/\H aBoth=some (.tbl #[])/\∀ H',Q (.bl true) H'
theorem scLaw:FnScope ["_law_script","_law_web_here","_law_named","_law_handed"] ["_law_script"] (defScope sLaw):=⟨rfl,rfl,rfl,by decide +kernel,rfl,by decide +kernel,by decide +kernel⟩
theorem ok_law {f:Addr} {fd:FuncData} (T:Txt K mg cs) (F:Fun K "law" "law" sLaw f fd):FnOk P w K mg base CX0 43 f fd ["_law_script"] (spLaw K):=by
 have CLawWeb:Cal P w K mg base 42 "_law_web" ["_law_script","_law_first","_law_most"] (spWeb K):=(ok_web T).mono (by decide)
 have CLawCellAt:Cal P w K mg base 42 "_law_cell_at" ["_law_script","_law_k"] (spCellAt K):=(ok_cellAt T).mono (by decide)
 have CLawRenumbered:Cal P w K mg base 42 "_law_renumbered" ["_law_web_here","_law_cell"] (spRenum K):=(ok_lawRenum T).mono (by decide)
 have CLawBoth:Cal P w K mg base 42 "_law_both" ["_law_web_here","_law_other"] spBoth:=ok_lawBoth T
 have CLawBarred:Cal P w K mg base 42 "_law_barred" ["_law_web_here"] (spBarred K):=(ok_lawBarred T).mono (by decide)
 have CLawFour:Cal P w K mg base 42 "_law_four" ["_law_web_here","_law_four_here"] (spFour K):=(ok_lawFour T).mono (by decide)
 have CLawMapped:Cal P w K mg base 42 "_law_mapped" ["_law_one","_law_other","_law_found"] (spMapped K):=(ok_lawMapped T).mono (by decide)
 have CLawShape:Cal P w K mg base 42 "_law_shape" ["_law_web_here","_law_points"] (spLShape K 10):=(lshape_all T 10 (by decide)).mono (by decide)
 have CSame:CalX P w K mg base 42 "same" ["one","other"] (spSame cs):=(ok_same T).mono (by decide)
 have CShapeOf:CalX P w K mg base 42 "shape_of" ["web"] (spShapeOf cs):=(ok_shapeOf T).mono (by decide)
 have CLawRefused:Cal P w K mg base 42 "_law_refused" ["_law_ask","_law_web_here"] (spRefused P w K mg base cs 41):=ok_lawRefused T 41
 obtain ⟨f_shape_of,d_shape_of,g_shape_of,k_shape_of,b_shape_of,o_shape_of⟩:=(ok_shapeOf (P:=P) (w:=w) (base:=base) T).mono (show 38 <= 41 by decide)
 refine F.ok scLaw (fun vs H Q E h=>?_) (fun cdv A outer s H vs Q E hr h=>?_)
 ·obtain ⟨a,ns,rfl,_⟩:=h
  rfl
 ·obtain ⟨a,ns,rfl,hs,hlen,ht1,ht2,k⟩:=h
  have hu64:=hr.units
  refine ⟨_,(pss_cons (ps_set (i:=1) scLaw.nd rfl (Or.inl rfl) (pe_cal CLawWeb hr (by rfl) (pa_cons (pv 0) (pa_cons pe_int (pa_cons pe_int pa_nil)))))
   (pss_cons (ps_set (i:=2) scLaw.nd rfl (Or.inl rfl) (pe_cal CLawRenumbered hr (by rfl) (pa_cons (pv 1) (pa_cons (pe_cal CLawCellAt hr (by rfl) (pa_cons (pv 0) (pa_cons pe_int pa_nil))) pa_nil))))
   (pss_cons (ps_set (i:=3) scLaw.nd rfl (Or.inl rfl) (pe_lst (pa_cons (pe_callTy call_list_of (by rfl) T.list PyProof.Rows.boot_list (pa_cons (pv 1) pa_nil)) (pa_cons (pe_callTy call_list_of (by rfl) T.list PyProof.Rows.boot_list (pa_cons (pv 2) pa_nil)) pa_nil))))
   (pss_cons (ps_if (PW.pt (pw_or (pt_not (pt_val (pe_cal CLawBoth hr (by rfl) (pa_cons (pe_ix (ix_listK K) (pv 3) pe_int (fun _ _=>rfl)) (pa_cons (pe_ix (ix_listK K) (pv 3) pe_int (fun _ _=>rfl)) pa_nil))))) (pw_or1 (pt_cmpR (op_neLL hu64) (pv 3) (pe_lst (pa_cons (pv 1) (pa_cons (pv 2) pa_nil))) (nomark _)))))
   (pss_one (ps_ret pe_bl))
   pss_nil)
   (pss_cons (ps_if (pt_val (pe_cal CLawBarred hr (by rfl) (pa_cons (pv 1) pa_nil)))
   (pss_one (ps_if (pt_not (pt_val (pe_cal CLawFour hr (by rfl) (pa_cons (pv 1) (pa_cons (pe_cal CLawRefused hr (by rfl) (pa_cons (pe_glob (v:=.ref f_shape_of) (by rfl) g_shape_of rfl) (pa_cons (pv 1) pa_nil))) pa_nil)))))
    (pss_one (ps_ret pe_bl))
    pss_nil))
   (pss_cons (ps_if (PW.pt (pw_or (pt_cmp (pc_isN (pe_calX CSame hr (by rfl) throws_no (pa_cons (pv 1) (pa_cons (pv 2) pa_nil))))) (pw_or1 (pt_cmpR op_ne (pe_calX CShapeOf hr (by rfl) throws_no (pa_cons (pv 1) pa_nil)) (pe_cal CLawShape hr (by rfl) (pa_cons (pv 1) (pa_cons (pe_callTy (call_list_rng rfl) (by rfl) T.list PyProof.Rows.boot_list (pa_cons (pe_callTy call_range1 (by rfl) T.range PyProof.Rows.boot_range (pa_cons (pe_callB (call_lenK K) (by rfl) T.len PySem.boot_len (pa_cons (pv 1) pa_nil)) pa_nil)) pa_nil)) pa_nil))) (nomark _)))))
    (pss_one (ps_ret pe_bl))
    pss_nil)
    (pss_cons (ps_expr (pe_bm0 PySem.F.plainAttrs_list PySem.F.slot_list_clear PySem.F.type_list_clear mt_clear (pe_calX CSame hr (by rfl) throws_no (pa_cons (pv 1) (pa_cons (pv 2) pa_nil)))))
    (pss_one (ps_if (pt_not (pt_val (pe_cal CLawMapped hr (by rfl) (pa_cons (pv 1) (pa_cons (pv 2) (pa_cons (pe_calX CSame hr (by rfl) throws_no (pa_cons (pv 1) (pa_cons (pv 2) pa_nil))) pa_nil))))))
    (pss_one (ps_ret pe_bl))
    pss_nil)))))
   (pss_one (ps_ret (pe_and (pe_cal CLawBoth hr (by rfl) (pa_cons (pv 1) (pa_cons (pe_cal CLawWeb hr (by rfl) (pa_cons (pv 0) (pa_cons pe_int (pa_cons pe_int pa_nil)))) pa_nil))) (pe_one (pe_cal CLawBoth hr (by rfl) (pa_cons (pe_cal CLawWeb hr (by rfl) (pa_cons (pv 0) (pa_cons pe_int (pa_cons pe_int pa_nil)))) (pa_cons (pe_cal CLawWeb hr (by rfl) (pa_cons (pv 0) (pa_cons pe_int (pa_cons pe_int pa_nil)))) pa_nil)))))))))))),?_⟩
  have hT0:Tabs H:=⟨tab_nil ht1,tab_nil ht2⟩
  refine ⟨_,rfl,a,ns,0,10,rfl,by decide,by decide,hs,fun wl H1 ws hwl s1 W h1w=>?_⟩
  have h10:=W.le
  refine ⟨_,rfl,_,rfl,a,ns,2,rfl,s1.seq hs,fun z=>?_⟩
  refine ⟨wl,z,ws,rfl,SqL.of h1w,W,fun nl H2 us g hnl s2 h2n U M=>?_⟩
  have h2w:=s2 _ _ h1w
  have u10:=U.le
  have s02:=s1.trans s2
  refine ⟨_,rfl,wl,vv ws,rfl,.inl (SqL.of h2w),fun p1 hp1=>?_⟩
  have s3:=same_upd (o:=.lst (vv ws)) (Same.refl H2) hp1
  have e3:upd H2 p1 (.lst (vv ws)) p1=some (.lst (vv ws)):=upd_same
  generalize upd H2 p1 (.lst (vv ws))=H3 at s3 e3
  refine ⟨_,rfl,nl,vv us,rfl,.inl (SqL.of (s3 _ _ h2n)),fun p2 hp2=>?_⟩
  have s4:=same_upd (o:=.lst (vv us)) (Same.refl H3) hp2
  have e4:upd H3 p2 (.lst (vv us)) p2=some (.lst (vv us)):=upd_same
  generalize upd H3 p2 (.lst (vv us))=H4 at s4 e4
  refine ⟨by rw [sizeLine_eq]; show 2 <= _; decide,fun hl hhl=>?_⟩
  have s5:=same_upd (o:=.lst [V.ref p1,V.ref p2]) (Same.refl H4) hhl
  have e5:upd H4 hl (.lst [V.ref p1,V.ref p2]) hl=some (.lst [V.ref p1,V.ref p2]):=upd_same
  generalize upd H4 hl (.lst [V.ref p1,V.ref p2])=H5 at s5 e5
  have s25:=(s3.trans s4).trans s5
  have s05:=s02.trans s25
  have hT5:=hT0.same s05
  have h5p1:=(s4.trans s5) _ _ e3
  have h5p2:=s5 _ _ e4
  refine ⟨_,rfl,hl,_,_,_,rfl,rfl,SqL.of e5,atI_nat (j:=0) rfl,_,rfl,hl,_,_,_,rfl,rfl,SqL.of e5,atI_nat (j:=1) rfl,?_⟩
  refine ⟨p1,p2,ws,us,rfl,h5p1,h5p2,W,U,hT5,fun H6 s6 hT6=>⟨_,rfl,iteF ?_⟩⟩
  have h6p1:=s2_lst s6 hT5 h5p1
  have h6p2:=s2_lst s6 hT5 h5p2
  have h6h:=s2_lst s6 hT5 e5
  have h6w:=s2_lst s6 hT5 (s25 _ _ h2w)
  have h6n:=s2_lst s6 hT5 (s25 _ _ h2n)
  have hs6:=s2_seq s6 hT5 (s05.seq hs)
  refine ⟨_,rfl,_,rfl,_,rfl,by rw [sizeLine_eq]; show 2 <= _; decide,fun cl hcl=>?_⟩
  have s7:=same_upd (o:=.lst [V.ref wl,V.ref nl]) (Same.refl H6) hcl
  have e7:upd H6 cl (.lst [V.ref wl,V.ref nl]) cl=some (.lst [V.ref wl,V.ref nl]):=upd_same
  generalize upd H6 cl (.lst [V.ref wl,V.ref nl])=H7 at s7 e7
  have h7w:=s7 _ _ h6w
  have h7n:=s7 _ _ h6n
  have hs7:=s7.seq hs6
  have hT7:=hT6.same s7
  refine ⟨hl,cl,[iv ws,iv us],[iv ws,iv us],rfl,rfl,⟨[p1,p2],SqL.of (s7 _ _ h6h),.cons (SqL.of (s7 _ _ h6p1)) (.cons (SqL.of (s7 _ _ h6p2)) .nil)⟩,⟨[wl,nl],SqL.of e7,.cons (SqL.of h7w) (.cons (SqL.of h7n) .nil)⟩,_,rfl,iteNS rfl ?_⟩
  refine ⟨_,rfl,wl,ws,rfl,SqL.of h7w,W,_,rfl,ite2 (fun hb=>?_) (fun hb=>?_)⟩
  ·obtain ⟨r,rest,hst⟩:=bar_row W hb
   obtain ⟨hf,hlt,hl4⟩:=steps_four W hst
   have no:¬ Plain ws:=fun N=>by
    have:=(noRow_iff W).mpr N.no
    rw [hst] at this
    cases this
   refine ⟨_,rfl,_,rfl,f_shape_of,wl,_,_,r,rfl,⟨d_shape_of,k_shape_of,b_shape_of,o_shape_of⟩,fun Q'=>⟨wl,ws,rfl,h7w,W,fun N=>absurd N no,fun r' rest' e=>?_⟩,fun l H8 hl8 s8 h8=>?_⟩
   ·rw [hst] at e
    rw [<- (List.cons.inj e).1]
    exact xfour H7 r
   refine ⟨wl,l,ws,r,rfl,SqL.of (s8 _ _ h7w),h8,h10,by omega,hlt,fun H9 s9=>⟨_,rfl,?_⟩⟩
   have s79:=s8.trans s9
   rw [hf]
   refine iteF ?_
   refine ⟨_,rfl,_,rfl,a,ns,3,8,rfl,by decide,by decide,(s79.seq hs7),fun l1 G1 us1 hl1 t1 U1 g1=>?_⟩
   have hTG1:=(hT7.same s79).same t1
   refine ⟨wl,l1,ws,us1,rfl,t1 _ _ (s79 _ _ h7w),g1,W,U1,hTG1,fun G2 t2 hTG2=>?_⟩
   refine ⟨_,rfl,iteT ?_⟩
   refine ⟨_,rfl,a,ns,3,5,rfl,by decide,by decide,s2_seq t2 hTG1 (t1.seq (s79.seq hs7)),fun l2 G3 us2 hl2 t3 U2 g3=>?_⟩
   refine ⟨_,rfl,a,ns,5,5,rfl,by decide,by decide,t3.seq (s2_seq t2 hTG1 (t1.seq (s79.seq hs7))),fun l3 G4 us3 hl3 t4 U3 g4=>?_⟩
   exact ⟨l2,l3,us2,us3,rfl,t4 _ _ g3,g4,U2,U3,(hTG2.same t3).same t4,fun G5 _ _=>k G5⟩
  ·have p:Plain ws:=⟨W,bar_no W (Bool.eq_false_iff.mpr hb)⟩
   have q:Plain us:=⟨U,M.noRow W U p.no⟩
   have hsh:=M.shape p q
   have noW:∀ r rest,stepsM ws 4=r::rest->False:=fun r rest e=>by
    have:=(noRow_iff W).mpr p.no
    rw [e] at this
    cases this
   have noU:∀ r rest,stepsM us 4=r::rest->False:=fun r rest e=>by
    have:=(noRow_iff U).mpr q.no
    rw [e] at this
    cases this
   refine ⟨_,rfl,_,rfl,wl,nl,ws,us,rfl,h7w,h7n,W,U,hT7.p,fun r rest e=>(noW r rest e).elim,fun _ r rest e=>(noU r rest e).elim,fun _ _=>⟨fun hne=>absurd hsh hne,fun _ fl H8 g8 hfl sT8 hTp8 h8 hM8=>?_⟩⟩
   have hT8:=tabs_p hT7 sT8 hTp8
   have h8w:=s2_lst (s2_p sT8) hT7 h7w
   have h8n:=s2_lst (s2_p sT8) hT7 h7n
   have hs8:=s2_seq (s2_p sT8) hT7 hs7
   refine ⟨_,rfl,iteF ?_⟩
   refine ⟨_,rfl,wl,ws,rfl,h8w,W,fun _ H9 s9=>?_,fun r rest e=>(noW r rest e).elim⟩
   refine ⟨_,rfl,_,rfl,wl,_,rfl,.inl (SqL.of (s9 _ _ h8w)),_,rfl,fun rg hrg=>?_⟩
   have s10:=same_upd (o:=.rng 0 ((vv ws).length:Nat)) s9 hrg
   refine ⟨rg,0,_,rfl,upd_same,by decide,by decide,by rw [vv_len]; omega,by rw [vv_len]; omega,by rw [vv_len]; omega,fun ll hll=>?_⟩
   rw [list_rng_vv]
   have s11:=same_upd (o:=.lst (vv (List.range ws.length))) s10 hll
   have e11:upd (upd H9 rg (.rng 0 ((vv ws).length:Nat))) ll (.lst (vv (List.range ws.length))) ll=some (.lst (vv (List.range ws.length))):=upd_same
   generalize upd (upd H9 rg (.rng 0 ((vv ws).length:Nat))) ll (.lst (vv (List.range ws.length)))=H11 at s11 e11
   refine ⟨wl,ll,ws,List.range ws.length,treeW ws,rfl,SqL.of (s11 _ _ h8w),SqL.of e11,W,fun i hi=>List.mem_range.mp hi,⟨p.perm,p.nd,p.can,p.tells⟩,by rw [p.len]; exact h10,fun H12 s12=>?_⟩
   refine ⟨rfl,_,rfl,iteNS rfl ?_⟩
   have t12:=s11.trans s12
   have hT12:=hT8.same t12
   have h12w:=t12 _ _ h8w
   have h12n:=t12 _ _ h8n
   have hs12:=t12.seq hs8
   refine ⟨_,rfl,_,rfl,wl,nl,ws,us,rfl,h12w,h12n,W,U,hT12.p,fun r rest e=>(noW r rest e).elim,fun _ r rest e=>(noU r rest e).elim,fun _ _=>⟨fun hne=>absurd hsh hne,fun _ fl2 H13 g13 hfl2 sT13 hTp13 h13 hM13=>?_⟩⟩
   have hT13:=tabs_p hT12 sT13 hTp13
   refine ⟨.inl ⟨rfl,_,SqL.of h13⟩,fl2,_,rfl,rfl,h13,?_⟩
   have hS14:S2 H12 (upd H13 fl2 (.lst [])):=s2_upd (s2_p sT13) hfl2
   have hT14:Tabs (upd H13 fl2 (.lst [])):=⟨tab_upd h13 hT13.p,tab_upd h13 hT13.b⟩
   generalize upd H13 fl2 (.lst [])=H14 at hS14 hT14
   have h14w:=s2_lst hS14 hT12 h12w
   have h14n:=s2_lst hS14 hT12 h12n
   have hs14:=s2_seq hS14 hT12 hs12
   refine ⟨_,rfl,_,rfl,_,rfl,_,rfl,wl,nl,ws,us,rfl,h14w,h14n,W,U,hT14.p,fun r rest e=>(noW r rest e).elim,fun _ r rest e=>(noU r rest e).elim,fun _ _=>⟨fun hne=>absurd hsh hne,fun _ fl3 H15 g15 hfl3 sT15 hTp15 h15 hM15=>?_⟩⟩
   have hT15:=tabs_p hT14 sT15 hTp15
   have h15w:=s2_lst (s2_p sT15) hT14 h14w
   have h15n:=s2_lst (s2_p sT15) hT14 h14n
   have hs15:=s2_seq (s2_p sT15) hT14 hs14
   have hgl:=hM15.len
   refine ⟨wl,nl,fl3,ws,us,g15,rfl,SqL.of h15w,SqL.of h15n,h15,h10,u10,by omega,fun H16 s16=>⟨_,rfl,?_⟩⟩
   rw [mapB_yes hM15]
   refine iteF ?_
   refine ⟨_,rfl,_,rfl,a,ns,3,8,rfl,by decide,by decide,(s16.seq hs15),fun l1 G1 us1 hl1 t1 U1 g1=>?_⟩
   have hTG1:=(hT15.same s16).same t1
   refine ⟨wl,l1,ws,us1,rfl,t1 _ _ (s16 _ _ h15w),g1,W,U1,hTG1,fun G2 t2 hTG2=>?_⟩
   refine ⟨_,rfl,iteT ?_⟩
   refine ⟨_,rfl,a,ns,3,5,rfl,by decide,by decide,s2_seq t2 hTG1 (t1.seq (s16.seq hs15)),fun l2 G3 us2 hl2 t3 U2 g3=>?_⟩
   refine ⟨_,rfl,a,ns,5,5,rfl,by decide,by decide,t3.seq (s2_seq t2 hTG1 (t1.seq (s16.seq hs15))),fun l3 G4 us3 hl3 t4 U3 g4=>?_⟩
   exact ⟨l2,l3,us2,us3,rfl,t4 _ _ g3,g4,U2,U3,(hTG2.same t3).same t4,fun G5 _ _=>k G5⟩
end
end Bw
namespace Bw
open PySem L2
theorem txt_mk {l:PySem.W.OpenLaw} {w:World} {K:PySem.W.Frag} {h:Heap} {mg:Str->Option Value} {fa f cTree cPoint cDoing cBeside cAcross cAnswer cMade cRow cWebError cBadWeb cBadTree cNoPoint cNotMade cBadText:Addr} {oc kV doc pm cdv ct:Value} {od an:Option Addr} {osl:Array (Option Value)} (X:K.In h) (G:h.Ns mainGlobals mg) (hfa:mg "law"=some (.ref fa))
  (a_Tree:PySem.W.nsIn K mainGlobals "Tree"=some (some (.ref cTree)))
  (a_Point:PySem.W.nsIn K mainGlobals "Point"=some (some (.ref cPoint)))
  (a_Doing:PySem.W.nsIn K mainGlobals "Doing"=some (some (.ref cDoing)))
  (a_Beside:PySem.W.nsIn K mainGlobals "Beside"=some (some (.ref cBeside)))
  (a_Across:PySem.W.nsIn K mainGlobals "Across"=some (some (.ref cAcross)))
  (a_Answer:PySem.W.nsIn K mainGlobals "Answer"=some (some (.ref cAnswer)))
  (a_Made:PySem.W.nsIn K mainGlobals "Made"=some (some (.ref cMade)))
  (a_Row:PySem.W.nsIn K mainGlobals "Row"=some (some (.ref cRow)))
  (a_WebError:PySem.W.nsIn K mainGlobals "WebError"=some (some (.ref cWebError)))
  (a_BadWeb:PySem.W.nsIn K mainGlobals "BadWeb"=some (some (.ref cBadWeb)))
  (a_BadTree:PySem.W.nsIn K mainGlobals "BadTree"=some (some (.ref cBadTree)))
  (a_NoPoint:PySem.W.nsIn K mainGlobals "NoPoint"=some (some (.ref cNoPoint)))
  (a_NotMade:PySem.W.nsIn K mainGlobals "NotMade"=some (some (.ref cNotMade)))
  (a_BadText:PySem.W.nsIn K mainGlobals "BadText"=some (some (.ref cBadText)))
  (F_cWebError:Catch K cWebError)
  (F_iWebError:BaseI K cWebError)
  (F_xNotMade:XCls K cNotMade)
  (F_eNotMadeWebError:PySem.W.mroIn K cNotMade (.ref cWebError)=some true)
  (F_kNotMadeV:PySem.W.kitOne K (.ref cNotMade) (.type "ValueError")=some true)
  (F_kNotMadeBadWeb:PySem.W.kitOne K (.ref cNotMade) (.ref cBadWeb)=some false)
  (F_kNotMadeBadTree:PySem.W.kitOne K (.ref cNotMade) (.ref cBadTree)=some false)
  (F_kNotMadeNoPoint:PySem.W.kitOne K (.ref cNotMade) (.ref cNoPoint)=some false)
  (F_kNotMadeNotMade:PySem.W.kitOne K (.ref cNotMade) (.ref cNotMade)=some true)
  (F_kNotMadeBadText:PySem.W.kitOne K (.ref cNotMade) (.ref cBadText)=some false)
  (F_eNotMade:ExcT K cNotMade "NotMade.__init__" sNotmadeInit ["self","four"])
  (F_nNotMadeFour:NoAttr K cNotMade "four")
  (F_valueError:mg "ValueError"=none)
  (F_blt:BltK K mg)
  (F_tPointsByShape:K.lookup 516=none)
  (F_tLawBoth:K.lookup 597=none)
  (F_isBelow:FnT K mg "is_below" sIsBelow ["value","bound"])
  (F_tied:FnT K mg "tied" sTied ["web","one","other"])
  (F_hasPoints:FnT K mg "has_points" sHasPoints ["web","points"])
  (F_checkWeb:FnT K mg "check_web" sCheckWeb ["web"])
  (F_checkTies:FnT K mg "check_ties" sCheckTies ["web","point"])
  (F_checkPoints:FnT K mg "check_points" sCheckPoints ["web","points"])
  (F_bracketed:FnT K mg "bracketed" sBracketed ["texts","sign"])
  (F_checkTrees:FnT K mg "check_trees" sCheckTrees ["trees"])
  (F_turned:FnT K mg "turned" sTurned ["web"])
  (F_among:FnT K mg "among" sAmong ["web","points"])
  (F_tiesAmong:FnT K mg "ties_among" sTiesAmong ["web","point","points"])
  (F_parts:FnT K mg "parts" sParts ["web"])
  (F_hangingWith:FnT K mg "hanging_with" sHangingWith ["web","start"])
  (F_telling:FnT K mg "telling" sTelling ["web"])
  (F_treeOf:FnT K mg "tree_of" sTreeOf ["web"])
  (F_goesOn:FnT K mg "goes_on" sGoesOn ["web","row","point"])
  (F_rowIn:FnT K mg "row_in" sRowIn ["web"])
  (F_longerRows:FnT K mg "longer_rows" sLongerRows ["web","rows"])
  (F_treeAmong:FnT K mg "tree_among" sTreeAmong ["web","points"])
  (F_treesAmong:FnT K mg "trees_among" sTreesAmong ["web","points","groups"])
  (F_shapeOf:FnT K mg "shape_of" sShapeOf ["web"])
  (F_same:FnT K mg "same" sSame ["one","other"])
  (F_pointsByShape:FnTC K mg "points_by_shape" sPointsByShape ["tree"] 516)
  (F_lawCellAt:FnT K mg "_law_cell_at" sLawCellAt ["_law_script","_law_k"])
  (F_lawDraw:FnT K mg "_law_draw" sLawDraw ["_law_cell","_law_k","_law_many"])
  (F_lawWeb:FnT K mg "_law_web" sLawWeb ["_law_script","_law_first","_law_most"])
  (F_lawTie:FnT K mg "_law_tie" sLawTie ["_law_web_here","_law_one","_law_other"])
  (F_lawFour:FnT K mg "_law_four" sLawFour ["_law_web_here","_law_four_here"])
  (F_lawRefused:FnT K mg "_law_refused" sLawRefused ["_law_ask","_law_web_here"])
  (F_lawBarred:FnT K mg "_law_barred" sLawBarred ["_law_web_here"])
  (F_lawMapped:FnT K mg "_law_mapped" sLawMapped ["_law_one","_law_other","_law_found"])
  (F_lawLists:FnT K mg "_law_lists" sLawLists ["_law_points"])
  (F_lawRenumbered:FnT K mg "_law_renumbered" sLawRenumbered ["_law_web_here","_law_cell"])
  (F_lawParted:FnT K mg "_law_parted" sLawParted ["_law_web_here","_law_points","_law_bit"])
  (F_lawShape:FnT K mg "_law_shape" sLawShape ["_law_web_here","_law_points"])
  (F_lawBoth:FnTC K mg "_law_both" sLawBoth ["_law_web_here","_law_other"] 597)
  (F_oPoint:Own K cPoint)
  (F_nPointAt:NoAttr K cPoint "at")
  (F_mkPoint:MakeT K cPoint "Point.__init__" sPointInit ["self","at"])
  (F_mPointPoints:MethT K cPoint "points" "Point.points" sPointPoints ["self"])
  (F_mPointShape:MethT K cPoint "shape" "Point.shape" sPointShape ["self"])
  (F_oBeside:Own K cBeside)
  (F_nBesideTrees:NoAttr K cBeside "trees")
  (F_nBesideLaid:NoAttr K cBeside "laid")
  (F_mkBeside:MakeT K cBeside "Beside.__init__" sBesideInit ["self","trees"])
  (F_mBesidePoints:MethT K cBeside "points" "Doing.points" sDoingPoints ["self"])
  (F_mBesideShape:MethT K cBeside "shape" "Doing.shape" sDoingShape ["self"])
  (F_mBesideLay:MethT K cBeside "lay" "Doing.lay" sDoingLay ["self","trees"])
  (F_mBesideSign:MethT K cBeside "sign" "Beside.sign" sBesideSign ["self"])
  (F_oAcross:Own K cAcross)
  (F_nAcrossTrees:NoAttr K cAcross "trees")
  (F_nAcrossLaid:NoAttr K cAcross "laid")
  (F_mkAcross:MakeT K cAcross "Across.__init__" sAcrossInit ["self","trees"])
  (F_mAcrossPoints:MethT K cAcross "points" "Doing.points" sDoingPoints ["self"])
  (F_mAcrossShape:MethT K cAcross "shape" "Doing.shape" sDoingShape ["self"])
  (F_mAcrossLay:MethT K cAcross "lay" "Doing.lay" sDoingLay ["self","trees"])
  (F_mAcrossSign:MethT K cAcross "sign" "Across.sign" sAcrossSign ["self"])
  (F_oMade:Own K cMade)
  (F_nMadeTree:NoAttr K cMade "tree")
  (F_mkMade:MakeT K cMade "Made.__init__" sMadeInit ["self","tree"])
  (F_oRow:Own K cRow)
  (F_nRowFour:NoAttr K cRow "four")
  (F_mkRow:MakeT K cRow "Row.__init__" sRowInit ["self","four"])
  (F_kPointTree:PySem.W.kitOne K (.ref cPoint) (.ref cTree)=some true)
  (F_kPointPoint:PySem.W.kitOne K (.ref cPoint) (.ref cPoint)=some true)
  (F_kBesideTree:PySem.W.kitOne K (.ref cBeside) (.ref cTree)=some true)
  (F_kBesidePoint:PySem.W.kitOne K (.ref cBeside) (.ref cPoint)=some false)
  (F_kAcrossTree:PySem.W.kitOne K (.ref cAcross) (.ref cTree)=some true)
  (F_kAcrossPoint:PySem.W.kitOne K (.ref cAcross) (.ref cPoint)=some false)
  (F_kMadeRow:PySem.W.kitOne K (.ref cMade) (.ref cRow)=some false)
  (F_kRowRow:PySem.W.kitOne K (.ref cRow) (.ref cRow)=some true)
  (F_vMOST_POINTS:∃ t,mg "MOST_POINTS"=some (.int 10 t))
  (F_all:mg "all"=none)
  (F_any:mg "any"=none)
  (F_bool:mg "bool"=none)
  (F_enum:mg "enumerate"=none)
  (F_int:mg "int"=none)
  (F_isinst:mg "isinstance"=none)
  (F_len:mg "len"=none)
  (F_list:mg "list"=none)
  (F_min:mg "min"=none)
  (F_range:mg "range"=none)
  (F_set:mg "set"=none)
  (F_sorted:mg "sorted"=none)
  (F_tuple:mg "tuple"=none)
  (F_zip:mg "zip"=none)
  (a:PySem.W.nsIn K mainGlobals "law"=some (some (.ref f)))
  (lk:K.lookup f=some ⟨oc,od,.func (PySem.W.fnOf "law" "law" (defArgs sLaw) (defBody sLaw) (defScope sLaw) .none kV doc pm an cdv ct),osl⟩) (cd:PySem.W.codeIn K cdv "law"=true) (kp:PySem.W.keepIn K (.ref f)=true) :
  ∃ fd:FuncData,(∀ (s:Shared) (v:Value),BindsTo s fd ⟨[v],[]⟩ [("_law_script",v)])/\∀ base:Heap,K.In base->base.Ns mainGlobals mg->FnOk l.prog w K mg base CX0 43 fa fd ["_law_script"] (spLaw K):=by
 have e:=hfa.symm.trans (PySem.W.mg_of X G a)
 cases e
 have T:Txt K mg ⟨cTree,cPoint,cDoing,cBeside,cAcross,cAnswer,cMade,cRow,cWebError,cBadWeb,cBadTree,cNoPoint,cNotMade,cBadText⟩:=⟨PySem.W.mg_of X G a_Tree,PySem.W.mg_of X G a_Point,PySem.W.mg_of X G a_Doing,PySem.W.mg_of X G a_Beside,PySem.W.mg_of X G a_Across,PySem.W.mg_of X G a_Answer,PySem.W.mg_of X G a_Made,PySem.W.mg_of X G a_Row,PySem.W.mg_of X G a_WebError,PySem.W.mg_of X G a_BadWeb,PySem.W.mg_of X G a_BadTree,PySem.W.mg_of X G a_NoPoint,PySem.W.mg_of X G a_NotMade,PySem.W.mg_of X G a_BadText,F_cWebError,F_iWebError,F_xNotMade,F_eNotMadeWebError,F_kNotMadeV,F_kNotMadeBadWeb,F_kNotMadeBadTree,F_kNotMadeNoPoint,F_kNotMadeNotMade,F_kNotMadeBadText,F_eNotMade,F_nNotMadeFour,F_valueError,F_blt,F_tPointsByShape,F_tLawBoth,F_isBelow,F_tied,F_hasPoints,F_checkWeb,F_checkTies,F_checkPoints,F_bracketed,F_checkTrees,F_turned,F_among,F_tiesAmong,F_parts,F_hangingWith,F_telling,F_treeOf,F_goesOn,F_rowIn,F_longerRows,F_treeAmong,F_treesAmong,F_shapeOf,F_same,F_pointsByShape,F_lawCellAt,F_lawDraw,F_lawWeb,F_lawTie,F_lawFour,F_lawRefused,F_lawBarred,F_lawMapped,F_lawLists,F_lawRenumbered,F_lawParted,F_lawShape,F_lawBoth,F_oPoint,F_nPointAt,F_mkPoint,F_mPointPoints,F_mPointShape,F_oBeside,F_nBesideTrees,F_nBesideLaid,F_mkBeside,F_mBesidePoints,F_mBesideShape,F_mBesideLay,F_mBesideSign,F_oAcross,F_nAcrossTrees,F_nAcrossLaid,F_mkAcross,F_mAcrossPoints,F_mAcrossShape,F_mAcrossLay,F_mAcrossSign,F_oMade,F_nMadeTree,F_mkMade,F_oRow,F_nRowFour,F_mkRow,F_kPointTree,F_kPointPoint,F_kBesideTree,F_kBesidePoint,F_kAcrossTree,F_kAcrossPoint,F_kMadeRow,F_kRowRow,F_vMOST_POINTS,F_all,F_any,F_bool,F_enum,F_int,F_isinst,F_len,F_list,F_min,F_range,F_set,F_sorted,F_tuple,F_zip⟩
 exact ⟨PySem.W.fnOf "law" "law" (defArgs sLaw) (defBody sLaw) (defScope sLaw) .none kV doc pm an cdv ct,fun s v=>.of_eq rfl,fun base _ _=>ok_law T (fun_mk (st:=sLaw) lk cd kp)⟩
theorem look_n {x n:Addr} {v:Obj} {l:PySem.W.Frag} (h:x ≠ n):List.lookup x ((n,v)::l)=l.lookup x:=by
 show (match x == n with | true=>some v | false=>l.lookup x)=_
 rw [beq_eq_false_iff_ne.mpr h]
theorem look_s (n:Addr) (v:Obj) (l:PySem.W.Frag):List.lookup n ((n,v)::l)=some v:=by
 show (match n == n with | true=>some v | false=>l.lookup n)=_
 rw [beq_self_eq_true]
theorem code_table {h:Heap} {c t:Addr} (x:PySem.W.CodeHd h c t):isCodeTable h t:=by
 obtain ⟨o,vs,_,_,_,_,_,_,_,a,b,d,e,_⟩:=x
 exact ⟨c,o,vs,a,b,d,e⟩
theorem kb1 (P:Params):(KB P).lookup 516=none:=by kernel_rfl
theorem kb2 (P:Params):(KB P).lookup 597=none:=by kernel_rfl
theorem kc1 (P:Params):codeTab (KB P) (.ref 520)=some 516:=by kernel_rfl
theorem kc2 (P:Params):codeTab (KB P) (.ref 599)=some 597:=by kernel_rfl
theorem kk_sub (P:Params) (h:Heap) (X:(KK P).In h):(KB P).In h/\(∀ t ∈ ([516,597]:List Addr),h.get? t=some (PySem.W.tabObj #[]))/\∀ t ∈ ([516,597]:List Addr),isCodeTable h t:=by
 have XB:(KB P).In h:=fun b o e=>X b o (by
  have n1:b ≠ 516:=fun z=>by rw [z,kb1] at e; cases e
  have n2:b ≠ 597:=fun z=>by rw [z,kb2] at e; cases e
  exact (look_n n1).trans ((look_n n2).trans e))
 refine ⟨XB,fun t ht=>?_,fun t ht=>?_⟩
 ·simp only [List.mem_cons,List.not_mem_nil,or_false] at ht
  rcases ht with rfl | rfl
  ·exact X _ _ (look_s 516 _ _)
  ·exact X _ _ ((look_n (by decide)).trans (look_s 597 _ _))
 ·simp only [List.mem_cons,List.not_mem_nil,or_false] at ht
  rcases ht with rfl | rfl
  ·obtain ⟨c,_,hc⟩:=codeTab_hd (kc1 P)
   exact code_table (hc h XB)
  ·obtain ⟨c,_,hc⟩:=codeTab_hd (kc2 P)
   exact code_table (hc h XB)
theorem walk {l:PySem.W.OpenLaw} {q:Program} {loose:List Str} {XP:(Str->Option Value)->Heap->Prop} {YP:World->Heap->Prop} {d:DefRec} (hn:l.most=some 63) (hdf:d.params.defaults=[])
  (hY:∀ (w:World) (h:Heap),YP w h->(KK w.params).In h)
  (F:∀ (w:World) (mg:Str->Option Value) (fa:Addr) (h:Heap),(KB w.params).In h->h.Ns mainGlobals mg->mg d.name=some (.ref fa) ->
   ∃ fd:FuncData,(∀ (s:Shared) (u:Value),BindsTo s fd ⟨[u],[]⟩ [("_law_script",u)])/\∀ base:Heap,(KB w.params).In base->base.Ns mainGlobals mg->FnOk l.prog w (KB w.params) mg base CX0 43 fa fd ["_law_script"] (spLaw (KB w.params))) :
  PySem.W.WalkO q loose XP YP l.row.toRowW d [] (fun f vs=>PySem.call f vs) :=
 L2.walk_tabs (n:=63) (k:=43) (x:="_law_script") (KR:=KK) (K:=KB) (Ts:=[516,597]) (CX:=fun _=>CX0) (sp:=fun w=>spLaw (KB w.params)) hn (by decide) hdf ⟨rfl,by decide,by decide⟩ hY (fun w h X=>kk_sub w.params h X) (fun w t ht=>by
  simp only [List.mem_cons,List.not_mem_nil,or_false] at ht
  rcases ht with rfl | rfl
  ·exact kb1 _
  ·exact kb2 _) F (fun _ _ a ns hl hS hT=>⟨a,ns,rfl,hS,hl,hT 516 (.head _),hT 597 (.tail _ (.head _)),fun _=>rfl⟩) fun _ _ _ _ _ z=>z
end Bw
open PySem PySem.W PyProof.Rows
set_option maxRecDepth 100000 in
set_option maxHeartbeats 0 in
theorem PySem.Challenge.cw_besideweb_k08_whole_same_holds : PySem.Challenge.rw_besideweb_k08_whole_same.Holds := by
 w_on; o_law
 refine holds_open (q:=Bw.qv) (loose:=Bw.looseK) (Xt:=fun s=>xlAt Bw.qv [] s && recOk (RowW.records (OpenRow.toRowW PySem.Challenge.rw_besideweb_k08_whole_same.row)) s) (XP:=XL Bw.qv []) (Yf:=Hook.obs Bw.kH) (Ya:=Hook.val Bw.kH) (YP:=Hook.says Bw.kH) Bw.head_left (Hook.of Bw.kH) (Hook.keeps Bw.kH) (fun s e=>xl_of s (Bool.and_eq_true_iff.mp e).1) XL.keeps (by rfl) (by rfl) (by rfl) (fun s e=>recFacts_of (Bool.and_eq_true_iff.mp e).2) (by rfl) (by first | assumption | decide +kernel) (by decide +kernel) ⟨rfl,rfl,rfl,rfl,rfl,by decide +kernel⟩ ?hw ?hc
 (case hw=>w_witness2)
 refine Bw.walk (l:=PySem.Challenge.rw_besideweb_k08_whole_same) rfl rfl (fun w h Y=>PySem.W.kIn_of (K:=Bw.KK) (as:=Bw.KAs) Y) ?F
 case F =>
  k_fill
  intro w mg fa h KX G hmg
  refine' Bw.txt_mk KX G hmg ?a_Tree ?a_Point ?a_Doing ?a_Beside ?a_Across ?a_Answer ?a_Made ?a_Row ?a_WebError ?a_BadWeb ?a_BadTree ?a_NoPoint ?a_NotMade ?a_BadText ?F_cWebError ?F_iWebError ?F_xNotMade ?F_eNotMadeWebError ?F_kNotMadeV ?F_kNotMadeBadWeb ?F_kNotMadeBadTree ?F_kNotMadeNoPoint ?F_kNotMadeNotMade ?F_kNotMadeBadText ?F_eNotMade ?F_nNotMadeFour ?F_valueError ?F_blt ?F_tPointsByShape ?F_tLawBoth ?F_isBelow ?F_tied ?F_hasPoints ?F_checkWeb ?F_checkTies ?F_checkPoints ?F_bracketed ?F_checkTrees ?F_turned ?F_among ?F_tiesAmong ?F_parts ?F_hangingWith ?F_telling ?F_treeOf ?F_goesOn ?F_rowIn ?F_longerRows ?F_treeAmong ?F_treesAmong ?F_shapeOf ?F_same ?F_pointsByShape ?F_lawCellAt ?F_lawDraw ?F_lawWeb ?F_lawTie ?F_lawFour ?F_lawRefused ?F_lawBarred ?F_lawMapped ?F_lawLists ?F_lawRenumbered ?F_lawParted ?F_lawShape ?F_lawBoth ?F_oPoint ?F_nPointAt ?F_mkPoint ?F_mPointPoints ?F_mPointShape ?F_oBeside ?F_nBesideTrees ?F_nBesideLaid ?F_mkBeside ?F_mBesidePoints ?F_mBesideShape ?F_mBesideLay ?F_mBesideSign ?F_oAcross ?F_nAcrossTrees ?F_nAcrossLaid ?F_mkAcross ?F_mAcrossPoints ?F_mAcrossShape ?F_mAcrossLay ?F_mAcrossSign ?F_oMade ?F_nMadeTree ?F_mkMade ?F_oRow ?F_nRowFour ?F_mkRow ?F_kPointTree ?F_kPointPoint ?F_kBesideTree ?F_kBesidePoint ?F_kAcrossTree ?F_kAcrossPoint ?F_kMadeRow ?F_kRowRow ?F_vMOST_POINTS ?F_all ?F_any ?F_bool ?F_enum ?F_int ?F_isinst ?F_len ?F_list ?F_min ?F_range ?F_set ?F_sorted ?F_tuple ?F_zip ?la ?ll ?lc ?lk
  (case a_Tree=>k_is)
  (case a_Point=>k_is)
  (case a_Doing=>k_is)
  (case a_Beside=>k_is)
  (case a_Across=>k_is)
  (case a_Answer=>k_is)
  (case a_Made=>k_is)
  (case a_Row=>k_is)
  (case a_WebError=>k_is)
  (case a_BadWeb=>k_is)
  (case a_BadTree=>k_is)
  (case a_NoPoint=>k_is)
  (case a_NotMade=>k_is)
  (case a_BadText=>k_is)
  (case F_cWebError=>exact L2.catch_mk (by kernel_rfl) (by kernel_rfl) (by kernel_rfl))
  (case F_iWebError=>exact L2.basei_mk (by kernel_rfl) (by kernel_rfl) (by kernel_rfl))
  (case F_xNotMade=>exact L2.xcls_mk (by kernel_rfl) (by kernel_rfl) (by kernel_rfl) (by kernel_rfl) (by kernel_rfl) (by kernel_rfl) (by kernel_rfl) (by kernel_rfl) (by kernel_rfl) (by kernel_rfl) (by kernel_rfl))
  (case F_eNotMadeWebError=>kernel_rfl)
  (case F_kNotMadeV=>kernel_rfl)
  (case F_kNotMadeBadWeb=>kernel_rfl)
  (case F_kNotMadeBadTree=>kernel_rfl)
  (case F_kNotMadeNoPoint=>kernel_rfl)
  (case F_kNotMadeNotMade=>kernel_rfl)
  (case F_kNotMadeBadText=>kernel_rfl)
  case F_eNotMade =>
   refine' L2.exct_mk ?kc ?a ?i ?l ?c ?k (fun _ _ _ _ _ _ us hl=>match us,hl with | [_,_],_=>rfl)
   (case kc=>k_is); (case a=>k_is); (case i=>k_is); (case l=>k_is); (case c=>k_is); (case k=>k_is)
  case F_nNotMadeFour =>
   refine' L2.noattr_mk ?a
   (case a=>k_is)
  case F_valueError =>
   refine' PySem.W.mg_none_of KX G ?a
   (case a=>k_is)
  case F_blt =>
   refine' L2.blt_mk KX G ?a ?l ?n1 ?n2 ?c ?d ?e
   (case a=>k_is); (case l=>k_is); (case n1=>decide); (case n2=>decide); (case c=>rfl); (case d=>rfl); (case e=>rfl)
  (case F_tPointsByShape=>kernel_rfl)
  (case F_tLawBoth=>kernel_rfl)
  case F_isBelow =>
   refine' L2.fnt_mk KX G ?a ?l ?c ?k (fun _ _ _ _ _ _ us hl=>match us,hl with | [_,_],_=>rfl)
   (case a=>k_is); (case l=>k_is); (case c=>k_is); (case k=>k_is)
  case F_tied =>
   refine' L2.fnt_mk KX G ?a ?l ?c ?k (fun _ _ _ _ _ _ us hl=>match us,hl with | [_,_,_],_=>rfl)
   (case a=>k_is); (case l=>k_is); (case c=>k_is); (case k=>k_is)
  case F_hasPoints =>
   refine' L2.fnt_mk KX G ?a ?l ?c ?k (fun _ _ _ _ _ _ us hl=>match us,hl with | [_,_],_=>rfl)
   (case a=>k_is); (case l=>k_is); (case c=>k_is); (case k=>k_is)
  case F_checkWeb =>
   refine' L2.fnt_mk KX G ?a ?l ?c ?k (fun _ _ _ _ _ _ us hl=>match us,hl with | [_],_=>rfl)
   (case a=>k_is); (case l=>k_is); (case c=>k_is); (case k=>k_is)
  case F_checkTies =>
   refine' L2.fnt_mk KX G ?a ?l ?c ?k (fun _ _ _ _ _ _ us hl=>match us,hl with | [_,_],_=>rfl)
   (case a=>k_is); (case l=>k_is); (case c=>k_is); (case k=>k_is)
  case F_checkPoints =>
   refine' L2.fnt_mk KX G ?a ?l ?c ?k (fun _ _ _ _ _ _ us hl=>match us,hl with | [_,_],_=>rfl)
   (case a=>k_is); (case l=>k_is); (case c=>k_is); (case k=>k_is)
  case F_bracketed =>
   refine' L2.fnt_mk KX G ?a ?l ?c ?k (fun _ _ _ _ _ _ us hl=>match us,hl with | [_,_],_=>rfl)
   (case a=>k_is); (case l=>k_is); (case c=>k_is); (case k=>k_is)
  case F_checkTrees =>
   refine' L2.fnt_mk KX G ?a ?l ?c ?k (fun _ _ _ _ _ _ us hl=>match us,hl with | [_],_=>rfl)
   (case a=>k_is); (case l=>k_is); (case c=>k_is); (case k=>k_is)
  case F_turned =>
   refine' L2.fnt_mk KX G ?a ?l ?c ?k (fun _ _ _ _ _ _ us hl=>match us,hl with | [_],_=>rfl)
   (case a=>k_is); (case l=>k_is); (case c=>k_is); (case k=>k_is)
  case F_among =>
   refine' L2.fnt_mk KX G ?a ?l ?c ?k (fun _ _ _ _ _ _ us hl=>match us,hl with | [_,_],_=>rfl)
   (case a=>k_is); (case l=>k_is); (case c=>k_is); (case k=>k_is)
  case F_tiesAmong =>
   refine' L2.fnt_mk KX G ?a ?l ?c ?k (fun _ _ _ _ _ _ us hl=>match us,hl with | [_,_,_],_=>rfl)
   (case a=>k_is); (case l=>k_is); (case c=>k_is); (case k=>k_is)
  case F_parts =>
   refine' L2.fnt_mk KX G ?a ?l ?c ?k (fun _ _ _ _ _ _ us hl=>match us,hl with | [_],_=>rfl)
   (case a=>k_is); (case l=>k_is); (case c=>k_is); (case k=>k_is)
  case F_hangingWith =>
   refine' L2.fnt_mk KX G ?a ?l ?c ?k (fun _ _ _ _ _ _ us hl=>match us,hl with | [_,_],_=>rfl)
   (case a=>k_is); (case l=>k_is); (case c=>k_is); (case k=>k_is)
  case F_telling =>
   refine' L2.fnt_mk KX G ?a ?l ?c ?k (fun _ _ _ _ _ _ us hl=>match us,hl with | [_],_=>rfl)
   (case a=>k_is); (case l=>k_is); (case c=>k_is); (case k=>k_is)
  case F_treeOf =>
   refine' L2.fnt_mk KX G ?a ?l ?c ?k (fun _ _ _ _ _ _ us hl=>match us,hl with | [_],_=>rfl)
   (case a=>k_is); (case l=>k_is); (case c=>k_is); (case k=>k_is)
  case F_goesOn =>
   refine' L2.fnt_mk KX G ?a ?l ?c ?k (fun _ _ _ _ _ _ us hl=>match us,hl with | [_,_,_],_=>rfl)
   (case a=>k_is); (case l=>k_is); (case c=>k_is); (case k=>k_is)
  case F_rowIn =>
   refine' L2.fnt_mk KX G ?a ?l ?c ?k (fun _ _ _ _ _ _ us hl=>match us,hl with | [_],_=>rfl)
   (case a=>k_is); (case l=>k_is); (case c=>k_is); (case k=>k_is)
  case F_longerRows =>
   refine' L2.fnt_mk KX G ?a ?l ?c ?k (fun _ _ _ _ _ _ us hl=>match us,hl with | [_,_],_=>rfl)
   (case a=>k_is); (case l=>k_is); (case c=>k_is); (case k=>k_is)
  case F_treeAmong =>
   refine' L2.fnt_mk KX G ?a ?l ?c ?k (fun _ _ _ _ _ _ us hl=>match us,hl with | [_,_],_=>rfl)
   (case a=>k_is); (case l=>k_is); (case c=>k_is); (case k=>k_is)
  case F_treesAmong =>
   refine' L2.fnt_mk KX G ?a ?l ?c ?k (fun _ _ _ _ _ _ us hl=>match us,hl with | [_,_,_],_=>rfl)
   (case a=>k_is); (case l=>k_is); (case c=>k_is); (case k=>k_is)
  case F_shapeOf =>
   refine' L2.fnt_mk KX G ?a ?l ?c ?k (fun _ _ _ _ _ _ us hl=>match us,hl with | [_],_=>rfl)
   (case a=>k_is); (case l=>k_is); (case c=>k_is); (case k=>k_is)
  case F_same =>
   refine' L2.fnt_mk KX G ?a ?l ?c ?k (fun _ _ _ _ _ _ us hl=>match us,hl with | [_,_],_=>rfl)
   (case a=>k_is); (case l=>k_is); (case c=>k_is); (case k=>k_is)
  case F_pointsByShape =>
   refine' L2.fntc_mk KX G ?a ?l ?c ?k ?t (fun _ _ _ _ _ _ us hl=>match us,hl with | [_],_=>rfl)
   (case a=>k_is); (case l=>k_is); (case c=>k_is); (case k=>k_is); (case t=>kernel_rfl)
  case F_lawCellAt =>
   refine' L2.fnt_mk KX G ?a ?l ?c ?k (fun _ _ _ _ _ _ us hl=>match us,hl with | [_,_],_=>rfl)
   (case a=>k_is); (case l=>k_is); (case c=>k_is); (case k=>k_is)
  case F_lawDraw =>
   refine' L2.fnt_mk KX G ?a ?l ?c ?k (fun _ _ _ _ _ _ us hl=>match us,hl with | [_,_,_],_=>rfl)
   (case a=>k_is); (case l=>k_is); (case c=>k_is); (case k=>k_is)
  case F_lawWeb =>
   refine' L2.fnt_mk KX G ?a ?l ?c ?k (fun _ _ _ _ _ _ us hl=>match us,hl with | [_,_,_],_=>rfl)
   (case a=>k_is); (case l=>k_is); (case c=>k_is); (case k=>k_is)
  case F_lawTie =>
   refine' L2.fnt_mk KX G ?a ?l ?c ?k (fun _ _ _ _ _ _ us hl=>match us,hl with | [_,_,_],_=>rfl)
   (case a=>k_is); (case l=>k_is); (case c=>k_is); (case k=>k_is)
  case F_lawFour =>
   refine' L2.fnt_mk KX G ?a ?l ?c ?k (fun _ _ _ _ _ _ us hl=>match us,hl with | [_,_],_=>rfl)
   (case a=>k_is); (case l=>k_is); (case c=>k_is); (case k=>k_is)
  case F_lawRefused =>
   refine' L2.fnt_mk KX G ?a ?l ?c ?k (fun _ _ _ _ _ _ us hl=>match us,hl with | [_,_],_=>rfl)
   (case a=>k_is); (case l=>k_is); (case c=>k_is); (case k=>k_is)
  case F_lawBarred =>
   refine' L2.fnt_mk KX G ?a ?l ?c ?k (fun _ _ _ _ _ _ us hl=>match us,hl with | [_],_=>rfl)
   (case a=>k_is); (case l=>k_is); (case c=>k_is); (case k=>k_is)
  case F_lawMapped =>
   refine' L2.fnt_mk KX G ?a ?l ?c ?k (fun _ _ _ _ _ _ us hl=>match us,hl with | [_,_,_],_=>rfl)
   (case a=>k_is); (case l=>k_is); (case c=>k_is); (case k=>k_is)
  case F_lawLists =>
   refine' L2.fnt_mk KX G ?a ?l ?c ?k (fun _ _ _ _ _ _ us hl=>match us,hl with | [_],_=>rfl)
   (case a=>k_is); (case l=>k_is); (case c=>k_is); (case k=>k_is)
  case F_lawRenumbered =>
   refine' L2.fnt_mk KX G ?a ?l ?c ?k (fun _ _ _ _ _ _ us hl=>match us,hl with | [_,_],_=>rfl)
   (case a=>k_is); (case l=>k_is); (case c=>k_is); (case k=>k_is)
  case F_lawParted =>
   refine' L2.fnt_mk KX G ?a ?l ?c ?k (fun _ _ _ _ _ _ us hl=>match us,hl with | [_,_,_],_=>rfl)
   (case a=>k_is); (case l=>k_is); (case c=>k_is); (case k=>k_is)
  case F_lawShape =>
   refine' L2.fnt_mk KX G ?a ?l ?c ?k (fun _ _ _ _ _ _ us hl=>match us,hl with | [_,_],_=>rfl)
   (case a=>k_is); (case l=>k_is); (case c=>k_is); (case k=>k_is)
  case F_lawBoth =>
   refine' L2.fntc_mk KX G ?a ?l ?c ?k ?t (fun _ _ _ _ _ _ us hl=>match us,hl with | [_,_],_=>rfl)
   (case a=>k_is); (case l=>k_is); (case c=>k_is); (case k=>k_is); (case t=>kernel_rfl)
  case F_oPoint =>
   refine' L2.own_mk ?pg ?hd ?po ?sa ?ha ?hn ?ht ?hm
   (case pg=>k_is); (case hd=>k_is); (case po=>k_is); (case sa=>k_is); (case ha=>k_is); (case hn=>k_is); (case ht=>k_is); (case hm=>k_is)
  case F_nPointAt =>
   refine' L2.noattr_mk ?a
   (case a=>k_is)
  case F_mkPoint =>
   refine' L2.maket_mk ?m ?kc ?a ?i ?l ?c ?k (fun _ _ _ _ _ _ us hl=>match us,hl with | [_,_],_=>rfl)
   (case m=>k_is); (case kc=>k_is); (case a=>k_is); (case i=>k_is); (case l=>k_is); (case c=>k_is); (case k=>k_is)
  case F_mPointPoints =>
   refine' L2.metht_mk ?a ?i ?l ?c ?k (fun _ _ _ _ _ _ us hl=>match us,hl with | [_],_=>rfl)
   (case a=>k_is); (case i=>k_is); (case l=>k_is); (case c=>k_is); (case k=>k_is)
  case F_mPointShape =>
   refine' L2.metht_mk ?a ?i ?l ?c ?k (fun _ _ _ _ _ _ us hl=>match us,hl with | [_],_=>rfl)
   (case a=>k_is); (case i=>k_is); (case l=>k_is); (case c=>k_is); (case k=>k_is)
  case F_oBeside =>
   refine' L2.own_mk ?pg ?hd ?po ?sa ?ha ?hn ?ht ?hm
   (case pg=>k_is); (case hd=>k_is); (case po=>k_is); (case sa=>k_is); (case ha=>k_is); (case hn=>k_is); (case ht=>k_is); (case hm=>k_is)
  case F_nBesideTrees =>
   refine' L2.noattr_mk ?a
   (case a=>k_is)
  case F_nBesideLaid =>
   refine' L2.noattr_mk ?a
   (case a=>k_is)
  case F_mkBeside =>
   refine' L2.maket_mk ?m ?kc ?a ?i ?l ?c ?k (fun _ _ _ _ _ _ us hl=>match us,hl with | [_,_],_=>rfl)
   (case m=>k_is); (case kc=>k_is); (case a=>k_is); (case i=>k_is); (case l=>k_is); (case c=>k_is); (case k=>k_is)
  case F_mBesidePoints =>
   refine' L2.metht_mk ?a ?i ?l ?c ?k (fun _ _ _ _ _ _ us hl=>match us,hl with | [_],_=>rfl)
   (case a=>k_is); (case i=>k_is); (case l=>k_is); (case c=>k_is); (case k=>k_is)
  case F_mBesideShape =>
   refine' L2.metht_mk ?a ?i ?l ?c ?k (fun _ _ _ _ _ _ us hl=>match us,hl with | [_],_=>rfl)
   (case a=>k_is); (case i=>k_is); (case l=>k_is); (case c=>k_is); (case k=>k_is)
  case F_mBesideLay =>
   refine' L2.metht_mk ?a ?i ?l ?c ?k (fun _ _ _ _ _ _ us hl=>match us,hl with | [_,_],_=>rfl)
   (case a=>k_is); (case i=>k_is); (case l=>k_is); (case c=>k_is); (case k=>k_is)
  case F_mBesideSign =>
   refine' L2.metht_mk ?a ?i ?l ?c ?k (fun _ _ _ _ _ _ us hl=>match us,hl with | [_],_=>rfl)
   (case a=>k_is); (case i=>k_is); (case l=>k_is); (case c=>k_is); (case k=>k_is)
  case F_oAcross =>
   refine' L2.own_mk ?pg ?hd ?po ?sa ?ha ?hn ?ht ?hm
   (case pg=>k_is); (case hd=>k_is); (case po=>k_is); (case sa=>k_is); (case ha=>k_is); (case hn=>k_is); (case ht=>k_is); (case hm=>k_is)
  case F_nAcrossTrees =>
   refine' L2.noattr_mk ?a
   (case a=>k_is)
  case F_nAcrossLaid =>
   refine' L2.noattr_mk ?a
   (case a=>k_is)
  case F_mkAcross =>
   refine' L2.maket_mk ?m ?kc ?a ?i ?l ?c ?k (fun _ _ _ _ _ _ us hl=>match us,hl with | [_,_],_=>rfl)
   (case m=>k_is); (case kc=>k_is); (case a=>k_is); (case i=>k_is); (case l=>k_is); (case c=>k_is); (case k=>k_is)
  case F_mAcrossPoints =>
   refine' L2.metht_mk ?a ?i ?l ?c ?k (fun _ _ _ _ _ _ us hl=>match us,hl with | [_],_=>rfl)
   (case a=>k_is); (case i=>k_is); (case l=>k_is); (case c=>k_is); (case k=>k_is)
  case F_mAcrossShape =>
   refine' L2.metht_mk ?a ?i ?l ?c ?k (fun _ _ _ _ _ _ us hl=>match us,hl with | [_],_=>rfl)
   (case a=>k_is); (case i=>k_is); (case l=>k_is); (case c=>k_is); (case k=>k_is)
  case F_mAcrossLay =>
   refine' L2.metht_mk ?a ?i ?l ?c ?k (fun _ _ _ _ _ _ us hl=>match us,hl with | [_,_],_=>rfl)
   (case a=>k_is); (case i=>k_is); (case l=>k_is); (case c=>k_is); (case k=>k_is)
  case F_mAcrossSign =>
   refine' L2.metht_mk ?a ?i ?l ?c ?k (fun _ _ _ _ _ _ us hl=>match us,hl with | [_],_=>rfl)
   (case a=>k_is); (case i=>k_is); (case l=>k_is); (case c=>k_is); (case k=>k_is)
  case F_oMade =>
   refine' L2.own_mk ?pg ?hd ?po ?sa ?ha ?hn ?ht ?hm
   (case pg=>k_is); (case hd=>k_is); (case po=>k_is); (case sa=>k_is); (case ha=>k_is); (case hn=>k_is); (case ht=>k_is); (case hm=>k_is)
  case F_nMadeTree =>
   refine' L2.noattr_mk ?a
   (case a=>k_is)
  case F_mkMade =>
   refine' L2.maket_mk ?m ?kc ?a ?i ?l ?c ?k (fun _ _ _ _ _ _ us hl=>match us,hl with | [_,_],_=>rfl)
   (case m=>k_is); (case kc=>k_is); (case a=>k_is); (case i=>k_is); (case l=>k_is); (case c=>k_is); (case k=>k_is)
  case F_oRow =>
   refine' L2.own_mk ?pg ?hd ?po ?sa ?ha ?hn ?ht ?hm
   (case pg=>k_is); (case hd=>k_is); (case po=>k_is); (case sa=>k_is); (case ha=>k_is); (case hn=>k_is); (case ht=>k_is); (case hm=>k_is)
  case F_nRowFour =>
   refine' L2.noattr_mk ?a
   (case a=>k_is)
  case F_mkRow =>
   refine' L2.maket_mk ?m ?kc ?a ?i ?l ?c ?k (fun _ _ _ _ _ _ us hl=>match us,hl with | [_,_],_=>rfl)
   (case m=>k_is); (case kc=>k_is); (case a=>k_is); (case i=>k_is); (case l=>k_is); (case c=>k_is); (case k=>k_is)
  (case F_kPointTree=>kit_is)
  (case F_kPointPoint=>kit_is)
  (case F_kBesideTree=>kit_is)
  (case F_kBesidePoint=>kit_is)
  (case F_kAcrossTree=>kit_is)
  (case F_kAcrossPoint=>kit_is)
  (case F_kMadeRow=>kit_is)
  (case F_kRowRow=>kit_is)
  case F_vMOST_POINTS =>
   refine' Bw.most_mk (PySem.W.mg_of KX G ?a) ?e
   (case a=>k_is)
   (case e=>exact ⟨_,rfl⟩)
  case F_all =>
   refine' PySem.W.mg_none_of KX G ?a
   (case a=>k_is)
  case F_any =>
   refine' PySem.W.mg_none_of KX G ?a
   (case a=>k_is)
  case F_bool =>
   refine' PySem.W.mg_none_of KX G ?a
   (case a=>k_is)
  case F_enum =>
   refine' PySem.W.mg_none_of KX G ?a
   (case a=>k_is)
  case F_int =>
   refine' PySem.W.mg_none_of KX G ?a
   (case a=>k_is)
  case F_isinst =>
   refine' PySem.W.mg_none_of KX G ?a
   (case a=>k_is)
  case F_len =>
   refine' PySem.W.mg_none_of KX G ?a
   (case a=>k_is)
  case F_list =>
   refine' PySem.W.mg_none_of KX G ?a
   (case a=>k_is)
  case F_min =>
   refine' PySem.W.mg_none_of KX G ?a
   (case a=>k_is)
  case F_range =>
   refine' PySem.W.mg_none_of KX G ?a
   (case a=>k_is)
  case F_set =>
   refine' PySem.W.mg_none_of KX G ?a
   (case a=>k_is)
  case F_sorted =>
   refine' PySem.W.mg_none_of KX G ?a
   (case a=>k_is)
  case F_tuple =>
   refine' PySem.W.mg_none_of KX G ?a
   (case a=>k_is)
  case F_zip =>
   refine' PySem.W.mg_none_of KX G ?a
   (case a=>k_is)
  (case la=>k_is); (case ll=>k_is); (case lc=>k_is); (case lk=>k_is)
#print axioms PySem.Challenge.cw_besideweb_k08_whole_same_holds
