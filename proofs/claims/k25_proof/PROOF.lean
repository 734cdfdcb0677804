import PyProof.Rows.All
import Wide.All
import Flt.Mod
import Imp.Common
import Imp.FormA
import Imp.PinsA
import KE.KDictList
import KE.KIsAll
import KE.KIsNot
import KE.KItem
import KE.KPairComp
import KE.KTryMore
import KE.LcSums
import ObjForm.Claim3
import ObjForm.Ends
import ObjForm.Facts
import ObjForm.Head
import ObjForm.In
import Open.Boot
import Open.Claim
import Open.Fast
import Open.FastLooks
import Open.FastRun
import Open.FastT1
import Open.FastT9
import Open.FastTables
import Open.FastTabs
import Open.FastU1
import Open.FastU10
import Open.FastU11
import Open.FastU12
import Open.FastU2
import Open.FastU3
import Open.FastU4
import Open.FastU5
import Open.FastU6
import Open.FastU7
import Open.FastU8
import Open.FastU9
import Open.Head
import Open.Line
import Open.Recs
import Open.Row
import Open.Split
import Open.Strs
import Open.Tree
import Open.Trees2
import OpenK.KCall
import OpenK.KCls
import OpenK.KDescr
import OpenK.KFacts
import OpenK.KGet
import OpenK.KLine
import OpenK.KList
import OpenK.KMake
import OpenK.KMore
import OpenK.KNot
import OpenK.KOwn
import OpenK.KRaise
import OpenK.KWalk
import OpenK.Lit
import OpenK.Peek
import Wide.FinOn
import Lean
import PyProof.EqAt
import PyProof.EqKinds
import PyProof.TupleCall
import PySem.Challenge.RW_shadowpages_k25_one_reach
set_option Elab.async false
set_option linter.all false
set_option maxRecDepth 100000
set_option maxHeartbeats 4000000
section
namespace L2
open PySem
def inClass (s : Stmt) (j : Nat) : Stmt := match s with
  | .ClassDef _ _ _ body _ _ _ _ _ _ _ => body.getD j (.Pass ⟨0, 0, 0, 0⟩)
  | _ => .Pass ⟨0, 0, 0, 0⟩
def defArgs (s : Stmt) : Arguments := match s with
  | .FunctionDef _ a _ _ _ _ _ _ _ _ => a
  | _ => { posonlyargs := [], args := [], vararg := none, kwonlyargs := [], kw_defaults := [], kwarg := none, defaults := [] }
def defBody (s : Stmt) : List Stmt := match s with
  | .FunctionDef _ _ b _ _ _ _ _ _ _ => b
  | _ => []
def defScope (s : Stmt) : Scope := match s with
  | .FunctionDef _ _ _ _ _ _ sc _ _ _ => sc
  | _ => { kind := .function, names := [], isGenerator := false, isCoroutine := false }
end L2
end
section
namespace HT1
open PySem PySem.W PyProof.Rows
def topRunT (tb : String → Option Builtin) (p : Program) (w : World) (n₀ : Nat) (ann : Option Value) : Nat → SharedT → Thread → Option SharedT
  | 0, _, _ => none
  | n + 1, s, t => match through t with
    | true => some s
    | false => match stepOk n₀ ann t with
      | false => none
      | true => match stepT (denote tb) p w s t with
        | some (s', t') => topRunT tb p w n₀ ann n s' t'
        | none => none
theorem topRun_of {tb : String → Option Builtin} {p : Program} {w : World} {n₀ : Nat} {ann : Option Value} : ∀ {n : Nat} {s s' : SharedT} {t : Thread}, topRunT tb p w n₀ ann n s t = some s' → topRun tb p w n₀ ann n s.abs t = some s'.abs
  | 0, _, _, _, h => by cases h
  | n + 1, s, s', t, h => by
    unfold topRunT at h
    unfold topRun
    cases ht : through t with
    | true => rw [ht] at h; cases h; rfl
    | false =>
      rw [ht] at h
      cases hk : stepOk n₀ ann t with
      | false => rw [hk] at h; cases h
      | true =>
        rw [hk] at h
        cases hs : stepT (denote tb) p w s t with
        | none => rw [hs] at h; cases h
        | some r => obtain ⟨s₂, t₂⟩ := r; rw [hs] at h; rw [stepT_spec hs]; exact topRun_of h
def ofL : List Obj → Nat → BT → BT
  | [], _, t => t
  | o :: l, n, t => ofL l (n + 1) (t.ins n o)
noncomputable def bootT (P : Params) : BT := ofL (boot_heap P).objs.toList 0 .nil
def bootN : Nat := 11
noncomputable def bootS (w : World) (os : OsState) : SharedT := ⟨bootT w.params, bootN, (boot_heap w.params).life, Array.mk [], boot_drawn, boot_toks, os⟩
theorem boot_size (w : World) : ((boot_heap w.params).isNs mainGlobals && (Array.mk [] : Array GenState).size == 0, (boot_heap w.params).objs.size, (boot_heap w.params).nsMap mainGlobals "__annotations__") = (true, 11, some (.ref 6)) := by kernel_rfl
theorem boot_abs (w : World) (os : OsState) : (bootS w os).abs = ⟨boot_heap w.params, Array.mk [], boot_drawn, boot_toks, os⟩ := by kernel_rfl
noncomputable def lookT {α : Type} (p q : Program) (loose : List Str) (Xt : Shared → Bool) (Yf : Shared → α) (N : Nat) (g0 : Bool) (w : World) (os : OsState) :=
  (topRunT treeTable p w 11 (some (.ref 6)) N (bootS w os) (topStub p)).map fun s =>
    ((staticsOk (importedModules p.main.body) (boot_heap w.params) s.abs.heap && namesBound p s.abs.heap && gensDone s.abs && laidKept (boot_heap w.params) s.abs.heap),
      openSeen q loose (importedModules p.main.body) Xt g0 s.abs, Yf s.abs)
theorem left_one {p q : Program} {loose : List Str} {Xt : Shared → Bool} {α : Type} {Yf : Shared → α} {Ya : World → α} {N : Nat} {g0 : Bool}
    (e : opening p = plainProg p.main.scope.names) (hN : Nat.ble 600 N = true) (f : ∀ s, fenceModules? p s = some s)
    (looks : ∀ w : World, (fun os => lookT p q loose Xt Yf N g0 w os) = fun _ => some (true, openGood q loose, Ya w)) : LeftO p q loose Xt Yf Ya N g0 := fun w => by
  obtain ⟨⟨h, gs, d, k, os⟩, eo, e'⟩ := Option.map_eq_some_iff.mp (boot_open e hN f w)
  obtain ⟨rfl, rfl, rfl, rfl⟩ : h = boot_heap w.params ∧ gs = Array.mk [] ∧ d = boot_drawn ∧ k = boot_toks := by simpa using e'
  obtain ⟨z1, z2, z3⟩ : _ ∧ _ ∧ _ := by simpa only [Prod.mk.injEq] using boot_size w
  obtain ⟨s1, r1, l⟩ := Option.map_eq_some_iff.mp (congrFun (looks w) os)
  obtain ⟨l1, l2, l3⟩ : _ ∧ _ ∧ _ := by simpa only [Prod.mk.injEq] using l
  have r := topRun_of r1
  rw [boot_abs] at r
  have t : topFrom treeTable p w N ⟨boot_heap w.params, Array.mk [], boot_drawn, boot_toks, os⟩ = some s1.abs := by
    unfold topFrom
    dsimp only
    rw [z1, z2, z3, r]
    show (match staticsOk (importedModules p.main.body) (boot_heap w.params) s1.abs.heap && namesBound p s1.abs.heap && gensDone s1.abs && laidKept (boot_heap w.params) s1.abs.heap with | true => _ | false => _) = _
    rw [l1]
  unfold openEnds
  rw [eo]
  show (topFrom treeTable p w N _).map _ = _
  rw [t]
  exact congrArg some (Prod.ext l2 l3)
end HT1
lay_quick HT1.lookT PySem.W.xlAt PySem.W.recOk PySem.W.openGood
end
section
open PySem PySem.W PyProof.Rows
namespace K25
open PySem L2
def top (i : Nat) : Stmt := PySem.Challenge.pw_shadowpages_k25_one_reach.main.body.getD i (.Pass ⟨0, 0, 0, 0⟩)
def KF (P : Params) : PySem.W.Frag :=
  (nat_lit 2, ⟨.none, none, (.dict #[] 0), #[]⟩) ::
  (nat_lit 3, ⟨(.type "dict"), none, (.dict #[⟨(PyData.keyHash P "__name__"), (.str "__name__" 165), (.str "law_shadowpages_k25_one_reach" 1018)⟩, ⟨(PyData.keyHash P "__doc__"), (.str "__doc__" 166), .none⟩, ⟨(PyData.keyHash P "__package__"), (.str "__package__" 167), .none⟩, ⟨(PyData.keyHash P "__loader__"), (.str "__loader__" 168), (.builtin "__main__.__loader__#opaque")⟩, ⟨(PyData.keyHash P "__spec__"), (.str "__spec__" 169), .none⟩, ⟨(PyData.keyHash P "__annotations__"), (.str "__annotations__" 170), (.ref 6)⟩, ⟨(PyData.keyHash P "__builtins__"), (.str "__builtins__" 171), (.ref 4)⟩, ⟨(PyData.keyHash P "__file__"), (.str "__file__" 173), (.str "/claim/cut.py" 172)⟩, ⟨(PyData.keyHash P "__cached__"), (.str "__cached__" 174), .none⟩, ⟨(PyData.keyHash P "_wall"), (.str "_wall" 193), (.ref 21)⟩, ⟨(PyData.keyHash P "WORDS"), (.str "WORDS" 195), (.int 281474976710656 194)⟩, ⟨(PyData.keyHash P "MARKS"), (.str "MARKS" 197), (.int 256 196)⟩, ⟨(PyData.keyHash P "PARTS"), (.str "PARTS" 199), (.int 8 198)⟩, ⟨(PyData.keyHash P "PLACES"), (.str "PLACES" 201), (.int 512 200)⟩, ⟨(PyData.keyHash P "CELLS"), (.str "CELLS" 203), (.int 8 202)⟩, ⟨(PyData.keyHash P "MOST_PAGES"), (.str "MOST_PAGES" 205), (.int 24 204)⟩, ⟨(PyData.keyHash P "SEATS"), (.str "SEATS" 207), (.int 12 206)⟩, ⟨(PyData.keyHash P "HouseError"), (.str "HouseError" 227), (.ref 31)⟩, ⟨(PyData.keyHash P "NoWord"), (.str "NoWord" 243), (.ref 44)⟩, ⟨(PyData.keyHash P "NoPlace"), (.str "NoPlace" 259), (.ref 56)⟩, ⟨(PyData.keyHash P "NoPage"), (.str "NoPage" 275), (.ref 68)⟩, ⟨(PyData.keyHash P "NoImage"), (.str "NoImage" 291), (.ref 80)⟩, ⟨(PyData.keyHash P "NoShelf"), (.str "NoShelf" 307), (.ref 92)⟩, ⟨(PyData.keyHash P "Fault"), (.str "Fault" 336), (.ref 111)⟩, ⟨(PyData.keyHash P "is_whole"), (.str "is_whole" 345), (.ref 120)⟩, ⟨(PyData.keyHash P "is_below"), (.str "is_below" 353), (.ref 127)⟩, ⟨(PyData.keyHash P "is_word"), (.str "is_word" 360), (.ref 134)⟩, ⟨(PyData.keyHash P "parts_of"), (.str "parts_of" 370), (.ref 141)⟩, ⟨(PyData.keyHash P "number_of"), (.str "number_of" 377), (.ref 148)⟩, ⟨(PyData.keyHash P "Shelf"), (.str "Shelf" 449), (.ref 198)⟩, ⟨(PyData.keyHash P "is_eight_words"), (.str "is_eight_words" 457), (.ref 207)⟩, ⟨(PyData.keyHash P "check_image"), (.str "check_image" 465), (.ref 214)⟩, ⟨(PyData.keyHash P "check_word"), (.str "check_word" 472), (.ref 221)⟩, ⟨(PyData.keyHash P "Store"), (.str "Store" 568), (.ref 292)⟩, ⟨(PyData.keyHash P "Memory"), (.str "Memory" 648), (.ref 358)⟩, ⟨(PyData.keyHash P "PRESENT"), (.str "PRESENT" 652), (.int 1 651)⟩, ⟨(PyData.keyHash P "WRITABLE"), (.str "WRITABLE" 654), (.int 2 653)⟩, ⟨(PyData.keyHash P "KERNEL"), (.str "KERNEL" 656), (.int 4 655)⟩, ⟨(PyData.keyHash P "TOUCHED"), (.str "TOUCHED" 658), (.int 8 657)⟩, ⟨(PyData.keyHash P "SOILED"), (.str "SOILED" 660), (.int 16 659)⟩, ⟨(PyData.keyHash P "page_of"), (.str "page_of" 667), (.ref 367)⟩, ⟨(PyData.keyHash P "has"), (.str "has" 675), (.ref 374)⟩, ⟨(PyData.keyHash P "put"), (.str "put" 683), (.ref 381)⟩, ⟨(PyData.keyHash P "look"), (.str "look" 701), (.ref 388)⟩, ⟨(PyData.keyHash P "check_row"), (.str "check_row" 713), (.ref 395)⟩, ⟨(PyData.keyHash P "rights_of"), (.str "rights_of" 721), (.ref 402)⟩, ⟨(PyData.keyHash P "mark"), (.str "mark" 730), (.ref 409)⟩, ⟨(PyData.keyHash P "put_marks"), (.str "put_marks" 740), (.ref 416)⟩, ⟨(PyData.keyHash P "lets"), (.str "lets" 749), (.ref 423)⟩, ⟨(PyData.keyHash P "Ways"), (.str "Ways" 932), (.ref 564)⟩, ⟨(PyData.keyHash P "Plain"), (.str "Plain" 1017), (.ref 632)⟩, ⟨(PyData.keyHash P "_law_cell_at"), (.str "_law_cell_at" 1027), (.ref 641)⟩, ⟨(PyData.keyHash P "_law_whole"), (.str "_law_whole" 1034), (.ref 648)⟩, ⟨(PyData.keyHash P "_law_row_by"), (.str "_law_row_by" 1044), (.ref 655)⟩, ⟨(PyData.keyHash P "_law_pages"), (.str "_law_pages" 1058), (.ref 662)⟩, ⟨(PyData.keyHash P "_law_copy"), (.str "_law_copy" 1067), (.ref 669)⟩, ⟨(PyData.keyHash P "_law_place"), (.str "_law_place" 1075), (.ref 676)⟩, ⟨(PyData.keyHash P "_law_is_image"), (.str "_law_is_image" 1085), (.ref 683)⟩, ⟨(PyData.keyHash P "_law_is_shelf"), (.str "_law_is_shelf" 1095), (.ref 690)⟩, ⟨(PyData.keyHash P "_law_there"), (.str "_law_there" 1103), (.ref 697)⟩, ⟨(PyData.keyHash P "_law_walk"), (.str "_law_walk" 1120), (.ref 704)⟩, ⟨(PyData.keyHash P "_law_marked"), (.str "_law_marked" 1132), (.ref 711)⟩, ⟨(PyData.keyHash P "_law_alike"), (.str "_law_alike" 1140), (.ref 718)⟩, ⟨(PyData.keyHash P "_law_do"), (.str "_law_do" 1154), (.ref 725)⟩, ⟨(PyData.keyHash P "_law_reach"), (.str "_law_reach" 1167), (.ref 732)⟩, ⟨(PyData.keyHash P "law"), (.str "law" 1188), (.ref 739)⟩] 66), #[]⟩) ::
  (nat_lit 15, ⟨(.type "tuple"), none, (.seq #[] 0), #[]⟩) ::
  (nat_lit 17, ⟨(.type "tuple"), none, (.seq #[(.str "k" 190)] 0), #[]⟩) ::
  (nat_lit 18, ⟨(.type "tuple"), none, (.seq #[] 0), #[]⟩) ::
  (nat_lit 20, ⟨(.type "code"), none, (.fields #[(.str "_wall" 187), (.str "_wall" 188), (.str "/claim/cut.py" 189), (.int 1 0), (.int 1 0), (.int 0 0), (.int 0 0), (.int 3 0), (.ref 15), (.bool true), (.int 181 0), (.ref 16), .none, (.ref 17), (.ref 18), (.ref 19), (.int 191 0), (.int 1 0), (.str "/claim/cut.py" 192)]), #[]⟩) ::
  (nat_lit 21, ⟨(.type "function"), none, (.func ⟨"_wall", "_wall", defArgs (top 0), .stmts (defBody (top 0)), defScope (top 0), 3, [], .none, .none, .none, (.str "__main__" 164), none, (.ref 20), .none, 0⟩), #[]⟩) ::
  (nat_lit 22, ⟨(.type "tuple"), none, (.seq #[(.type "ValueError")] 0), #[]⟩) ::
  (nat_lit 29, ⟨(.type "tuple"), none, (.seq #[] 0), #[]⟩) ::
  (nat_lit 30, ⟨(.type "dict"), none, (.dict #[⟨(PyData.keyHash P "__module__"), (.str "__module__" 217), (.str "shadowpages.errors" 208)⟩, ⟨(PyData.keyHash P "__firstlineno__"), (.str "__firstlineno__" 221), (.int 12 220)⟩, ⟨(PyData.keyHash P "__static_attributes__"), (.str "__static_attributes__" 222), (.ref 29)⟩, ⟨(PyData.keyHash P "__weakref__"), (.str "__weakref__" 224), (.ref 32)⟩, ⟨(PyData.keyHash P "__doc__"), (.str "__doc__" 225), .none⟩] 3), #[]⟩) ::
  (nat_lit 31, ⟨(.type "type"), none, (.cls ⟨"HouseError", [(.type "ValueError")], [(.ref 31), (.type "ValueError"), (.type "Exception"), (.type "BaseException"), (.type "object")], 30, "HouseError", true, [], [(.ref 44), (.ref 56), (.ref 68), (.ref 80), (.ref 92), (.ref 111)], false, none, false⟩), #[(some (.ref 22)), none, (some (.str "HouseError" 210)), (some (.str "HouseError" 218)), (some (.builtin "ValueError.__new__")), (some (.bool true))]⟩) ::
  (nat_lit 32, ⟨(.type "getset_descriptor"), none, (.fields #[(.str "__weakref__" 223), (.ref 31), (.builtin "ExceptionGroup.__weakref__"), .none]), #[]⟩) ::
  (nat_lit 35, ⟨(.type "tuple"), none, (.seq #[(.ref 31)] 0), #[]⟩) ::
  (nat_lit 42, ⟨(.type "tuple"), none, (.seq #[] 0), #[]⟩) ::
  (nat_lit 43, ⟨(.type "dict"), none, (.dict #[⟨(PyData.keyHash P "__module__"), (.str "__module__" 235), (.str "shadowpages.errors" 208)⟩, ⟨(PyData.keyHash P "__firstlineno__"), (.str "__firstlineno__" 239), (.int 14 238)⟩, ⟨(PyData.keyHash P "__static_attributes__"), (.str "__static_attributes__" 240), (.ref 42)⟩, ⟨(PyData.keyHash P "__doc__"), (.str "__doc__" 241), .none⟩] 2), #[]⟩) ::
  (nat_lit 44, ⟨(.type "type"), none, (.cls ⟨"NoWord", [(.ref 31)], [(.ref 44), (.ref 31), (.type "ValueError"), (.type "Exception"), (.type "BaseException"), (.type "object")], 43, "NoWord", true, [], [], false, none, false⟩), #[(some (.ref 35)), none, (some (.str "NoWord" 228)), (some (.str "NoWord" 236)), (some (.builtin "ValueError.__new__")), (some (.bool true))]⟩) ::
  (nat_lit 47, ⟨(.type "tuple"), none, (.seq #[(.ref 31)] 0), #[]⟩) ::
  (nat_lit 54, ⟨(.type "tuple"), none, (.seq #[] 0), #[]⟩) ::
  (nat_lit 55, ⟨(.type "dict"), none, (.dict #[⟨(PyData.keyHash P "__module__"), (.str "__module__" 251), (.str "shadowpages.errors" 208)⟩, ⟨(PyData.keyHash P "__firstlineno__"), (.str "__firstlineno__" 255), (.int 16 254)⟩, ⟨(PyData.keyHash P "__static_attributes__"), (.str "__static_attributes__" 256), (.ref 54)⟩, ⟨(PyData.keyHash P "__doc__"), (.str "__doc__" 257), .none⟩] 2), #[]⟩) ::
  (nat_lit 56, ⟨(.type "type"), none, (.cls ⟨"NoPlace", [(.ref 31)], [(.ref 56), (.ref 31), (.type "ValueError"), (.type "Exception"), (.type "BaseException"), (.type "object")], 55, "NoPlace", true, [], [], false, none, false⟩), #[(some (.ref 47)), none, (some (.str "NoPlace" 244)), (some (.str "NoPlace" 252)), (some (.builtin "ValueError.__new__")), (some (.bool true))]⟩) ::
  (nat_lit 59, ⟨(.type "tuple"), none, (.seq #[(.ref 31)] 0), #[]⟩) ::
  (nat_lit 66, ⟨(.type "tuple"), none, (.seq #[] 0), #[]⟩) ::
  (nat_lit 67, ⟨(.type "dict"), none, (.dict #[⟨(PyData.keyHash P "__module__"), (.str "__module__" 267), (.str "shadowpages.errors" 208)⟩, ⟨(PyData.keyHash P "__firstlineno__"), (.str "__firstlineno__" 271), (.int 18 270)⟩, ⟨(PyData.keyHash P "__static_attributes__"), (.str "__static_attributes__" 272), (.ref 66)⟩, ⟨(PyData.keyHash P "__doc__"), (.str "__doc__" 273), .none⟩] 2), #[]⟩) ::
  (nat_lit 68, ⟨(.type "type"), none, (.cls ⟨"NoPage", [(.ref 31)], [(.ref 68), (.ref 31), (.type "ValueError"), (.type "Exception"), (.type "BaseException"), (.type "object")], 67, "NoPage", true, [], [], false, none, false⟩), #[(some (.ref 59)), none, (some (.str "NoPage" 260)), (some (.str "NoPage" 268)), (some (.builtin "ValueError.__new__")), (some (.bool true))]⟩) ::
  (nat_lit 71, ⟨(.type "tuple"), none, (.seq #[(.ref 31)] 0), #[]⟩) ::
  (nat_lit 78, ⟨(.type "tuple"), none, (.seq #[] 0), #[]⟩) ::
  (nat_lit 79, ⟨(.type "dict"), none, (.dict #[⟨(PyData.keyHash P "__module__"), (.str "__module__" 283), (.str "shadowpages.errors" 208)⟩, ⟨(PyData.keyHash P "__firstlineno__"), (.str "__firstlineno__" 287), (.int 20 286)⟩, ⟨(PyData.keyHash P "__static_attributes__"), (.str "__static_attributes__" 288), (.ref 78)⟩, ⟨(PyData.keyHash P "__doc__"), (.str "__doc__" 289), .none⟩] 2), #[]⟩) ::
  (nat_lit 80, ⟨(.type "type"), none, (.cls ⟨"NoImage", [(.ref 31)], [(.ref 80), (.ref 31), (.type "ValueError"), (.type "Exception"), (.type "BaseException"), (.type "object")], 79, "NoImage", true, [], [], false, none, false⟩), #[(some (.ref 71)), none, (some (.str "NoImage" 276)), (some (.str "NoImage" 284)), (some (.builtin "ValueError.__new__")), (some (.bool true))]⟩) ::
  (nat_lit 83, ⟨(.type "tuple"), none, (.seq #[(.ref 31)] 0), #[]⟩) ::
  (nat_lit 90, ⟨(.type "tuple"), none, (.seq #[] 0), #[]⟩) ::
  (nat_lit 91, ⟨(.type "dict"), none, (.dict #[⟨(PyData.keyHash P "__module__"), (.str "__module__" 299), (.str "shadowpages.errors" 208)⟩, ⟨(PyData.keyHash P "__firstlineno__"), (.str "__firstlineno__" 303), (.int 22 302)⟩, ⟨(PyData.keyHash P "__static_attributes__"), (.str "__static_attributes__" 304), (.ref 90)⟩, ⟨(PyData.keyHash P "__doc__"), (.str "__doc__" 305), .none⟩] 2), #[]⟩) ::
  (nat_lit 92, ⟨(.type "type"), none, (.cls ⟨"NoShelf", [(.ref 31)], [(.ref 92), (.ref 31), (.type "ValueError"), (.type "Exception"), (.type "BaseException"), (.type "object")], 91, "NoShelf", true, [], [], false, none, false⟩), #[(some (.ref 83)), none, (some (.str "NoShelf" 292)), (some (.str "NoShelf" 300)), (some (.builtin "ValueError.__new__")), (some (.bool true))]⟩) ::
  (nat_lit 95, ⟨(.type "tuple"), none, (.seq #[(.ref 31)] 0), #[]⟩) ::
  (nat_lit 102, ⟨(.type "tuple"), none, (.seq #[] 0), #[]⟩) ::
  (nat_lit 104, ⟨(.type "tuple"), none, (.seq #[(.str "self" 323), (.str "kind" 324), (.str "place" 325), (.str "level" 326)] 0), #[]⟩) ::
  (nat_lit 105, ⟨(.type "tuple"), none, (.seq #[] 0), #[]⟩) ::
  (nat_lit 107, ⟨(.type "code"), none, (.fields #[(.str "__init__" 320), (.str "Fault.__init__" 321), (.str "/claim/cut.py" 322), (.int 26 0), (.int 4 0), (.int 0 0), (.int 0 0), (.int 3 0), (.ref 102), (.bool true), (.int 181 0), (.ref 103), .none, (.ref 104), (.ref 105), (.ref 106), (.int 327 0), (.int 26 0), (.str "/claim/cut.py" 328)]), #[]⟩) ::
  (nat_lit 108, ⟨(.type "function"), none, (.func ⟨"__init__", "Fault.__init__", defArgs (inClass (top 15) 0), .stmts (defBody (inClass (top 15) 0)), defScope (inClass (top 15) 0), 3, [], .none, .none, .none, (.str "shadowpages.errors" 208), none, (.ref 107), .none, 0⟩), #[]⟩) ::
  (nat_lit 109, ⟨(.type "tuple"), none, (.seq #[(.str "kind" 330), (.str "level" 331), (.str "place" 332)] 0), #[]⟩) ::
  (nat_lit 110, ⟨(.type "dict"), none, (.dict #[⟨(PyData.keyHash P "__module__"), (.str "__module__" 315), (.str "shadowpages.errors" 208)⟩, ⟨(PyData.keyHash P "__firstlineno__"), (.str "__firstlineno__" 319), (.int 24 318)⟩, ⟨(PyData.keyHash P "__init__"), (.str "__init__" 329), (.ref 108)⟩, ⟨(PyData.keyHash P "__static_attributes__"), (.str "__static_attributes__" 333), (.ref 109)⟩, ⟨(PyData.keyHash P "__doc__"), (.str "__doc__" 334), .none⟩] 2), #[]⟩) ::
  (nat_lit 111, ⟨(.type "type"), none, (.cls ⟨"Fault", [(.ref 31)], [(.ref 111), (.ref 31), (.type "ValueError"), (.type "Exception"), (.type "BaseException"), (.type "object")], 110, "Fault", true, [], [], false, none, false⟩), #[(some (.ref 95)), none, (some (.str "Fault" 308)), (some (.str "Fault" 316)), (some (.builtin "ValueError.__new__")), (some (.bool true))]⟩) ::
  (nat_lit 114, ⟨(.type "tuple"), none, (.seq #[] 0), #[]⟩) ::
  (nat_lit 116, ⟨(.type "tuple"), none, (.seq #[(.str "thing" 342)] 0), #[]⟩) ::
  (nat_lit 117, ⟨(.type "tuple"), none, (.seq #[] 0), #[]⟩) ::
  (nat_lit 119, ⟨(.type "code"), none, (.fields #[(.str "is_whole" 339), (.str "is_whole" 340), (.str "/claim/cut.py" 341), (.int 31 0), (.int 1 0), (.int 0 0), (.int 0 0), (.int 3 0), (.ref 114), (.bool true), (.int 181 0), (.ref 115), .none, (.ref 116), (.ref 117), (.ref 118), (.int 343 0), (.int 31 0), (.str "/claim/cut.py" 344)]), #[]⟩) ::
  (nat_lit 120, ⟨(.type "function"), none, (.func ⟨"is_whole", "is_whole", defArgs (top 17), .stmts (defBody (top 17)), defScope (top 17), 3, [], .none, .none, .none, (.str "shadowpages.words" 337), none, (.ref 119), .none, 0⟩), #[]⟩) ::
  (nat_lit 121, ⟨(.type "tuple"), none, (.seq #[] 0), #[]⟩) ::
  (nat_lit 123, ⟨(.type "tuple"), none, (.seq #[(.str "thing" 349), (.str "bound" 350)] 0), #[]⟩) ::
  (nat_lit 124, ⟨(.type "tuple"), none, (.seq #[] 0), #[]⟩) ::
  (nat_lit 126, ⟨(.type "code"), none, (.fields #[(.str "is_below" 346), (.str "is_below" 347), (.str "/claim/cut.py" 348), (.int 33 0), (.int 2 0), (.int 0 0), (.int 0 0), (.int 3 0), (.ref 121), (.bool true), (.int 181 0), (.ref 122), .none, (.ref 123), (.ref 124), (.ref 125), (.int 351 0), (.int 33 0), (.str "/claim/cut.py" 352)]), #[]⟩) ::
  (nat_lit 127, ⟨(.type "function"), none, (.func ⟨"is_below", "is_below", defArgs (top 18), .stmts (defBody (top 18)), defScope (top 18), 3, [], .none, .none, .none, (.str "shadowpages.words" 337), none, (.ref 126), .none, 0⟩), #[]⟩) ::
  (nat_lit 128, ⟨(.type "tuple"), none, (.seq #[] 0), #[]⟩) ::
  (nat_lit 130, ⟨(.type "tuple"), none, (.seq #[(.str "thing" 357)] 0), #[]⟩) ::
  (nat_lit 131, ⟨(.type "tuple"), none, (.seq #[] 0), #[]⟩) ::
  (nat_lit 133, ⟨(.type "code"), none, (.fields #[(.str "is_word" 354), (.str "is_word" 355), (.str "/claim/cut.py" 356), (.int 35 0), (.int 1 0), (.int 0 0), (.int 0 0), (.int 3 0), (.ref 128), (.bool true), (.int 181 0), (.ref 129), .none, (.ref 130), (.ref 131), (.ref 132), (.int 358 0), (.int 35 0), (.str "/claim/cut.py" 359)]), #[]⟩) ::
  (nat_lit 134, ⟨(.type "function"), none, (.func ⟨"is_word", "is_word", defArgs (top 19), .stmts (defBody (top 19)), defScope (top 19), 3, [], .none, .none, .none, (.str "shadowpages.words" 337), none, (.ref 133), .none, 0⟩), #[]⟩) ::
  (nat_lit 135, ⟨(.type "tuple"), none, (.seq #[] 0), #[]⟩) ::
  (nat_lit 137, ⟨(.type "tuple"), none, (.seq #[(.str "place" 366), (.str "number" 367)] 0), #[]⟩) ::
  (nat_lit 138, ⟨(.type "tuple"), none, (.seq #[] 0), #[]⟩) ::
  (nat_lit 140, ⟨(.type "code"), none, (.fields #[(.str "parts_of" 363), (.str "parts_of" 364), (.str "/claim/cut.py" 365), (.int 38 0), (.int 1 0), (.int 0 0), (.int 0 0), (.int 3 0), (.ref 135), (.bool true), (.int 181 0), (.ref 136), .none, (.ref 137), (.ref 138), (.ref 139), (.int 368 0), (.int 38 0), (.str "/claim/cut.py" 369)]), #[]⟩) ::
  (nat_lit 141, ⟨(.type "function"), none, (.func ⟨"parts_of", "parts_of", defArgs (top 21), .stmts (defBody (top 21)), defScope (top 21), 3, [], .none, .none, .none, (.str "shadowpages.places" 361), none, (.ref 140), .none, 0⟩), #[]⟩) ::
  (nat_lit 142, ⟨(.type "tuple"), none, (.seq #[] 0), #[]⟩) ::
  (nat_lit 144, ⟨(.type "tuple"), none, (.seq #[(.str "place" 374)] 0), #[]⟩) ::
  (nat_lit 145, ⟨(.type "tuple"), none, (.seq #[] 0), #[]⟩) ::
  (nat_lit 147, ⟨(.type "code"), none, (.fields #[(.str "number_of" 371), (.str "number_of" 372), (.str "/claim/cut.py" 373), (.int 41 0), (.int 1 0), (.int 0 0), (.int 0 0), (.int 3 0), (.ref 142), (.bool true), (.int 181 0), (.ref 143), .none, (.ref 144), (.ref 145), (.ref 146), (.int 375 0), (.int 41 0), (.str "/claim/cut.py" 376)]), #[]⟩) ::
  (nat_lit 148, ⟨(.type "function"), none, (.func ⟨"number_of", "number_of", defArgs (top 22), .stmts (defBody (top 22)), defScope (top 22), 3, [], .none, .none, .none, (.str "shadowpages.places" 361), none, (.ref 147), .none, 0⟩), #[]⟩) ::
  (nat_lit 156, ⟨(.type "tuple"), none, (.seq #[] 0), #[]⟩) ::
  (nat_lit 158, ⟨(.type "tuple"), none, (.seq #[(.str "self" 395), (.str "most" 396)] 0), #[]⟩) ::
  (nat_lit 159, ⟨(.type "tuple"), none, (.seq #[] 0), #[]⟩) ::
  (nat_lit 161, ⟨(.type "code"), none, (.fields #[(.str "__init__" 392), (.str "Shelf.__init__" 393), (.str "/claim/cut.py" 394), (.int 48 0), (.int 2 0), (.int 0 0), (.int 0 0), (.int 3 0), (.ref 156), (.bool true), (.int 181 0), (.ref 157), .none, (.ref 158), (.ref 159), (.ref 160), (.int 397 0), (.int 48 0), (.str "/claim/cut.py" 398)]), #[]⟩) ::
  (nat_lit 162, ⟨(.type "function"), none, (.func ⟨"__init__", "Shelf.__init__", defArgs (inClass (top 24) 0), .stmts (defBody (inClass (top 24) 0)), defScope (inClass (top 24) 0), 3, [], .none, .none, .none, (.str "shadowpages.shelf" 378), none, (.ref 161), .none, 0⟩), #[]⟩) ::
  (nat_lit 163, ⟨(.type "tuple"), none, (.seq #[] 0), #[]⟩) ::
  (nat_lit 165, ⟨(.type "tuple"), none, (.seq #[(.str "self" 403), (.str "number" 404)] 0), #[]⟩) ::
  (nat_lit 166, ⟨(.type "tuple"), none, (.seq #[] 0), #[]⟩) ::
  (nat_lit 168, ⟨(.type "code"), none, (.fields #[(.str "seek" 400), (.str "Shelf.seek" 401), (.str "/claim/cut.py" 402), (.int 54 0), (.int 2 0), (.int 0 0), (.int 0 0), (.int 3 0), (.ref 163), (.bool true), (.int 181 0), (.ref 164), .none, (.ref 165), (.ref 166), (.ref 167), (.int 405 0), (.int 54 0), (.str "/claim/cut.py" 406)]), #[]⟩) ::
  (nat_lit 169, ⟨(.type "function"), none, (.func ⟨"seek", "Shelf.seek", defArgs (inClass (top 24) 1), .stmts (defBody (inClass (top 24) 1)), defScope (inClass (top 24) 1), 3, [], .none, .none, .none, (.str "shadowpages.shelf" 378), none, (.ref 168), .none, 0⟩), #[]⟩) ::
  (nat_lit 170, ⟨(.type "tuple"), none, (.seq #[] 0), #[]⟩) ::
  (nat_lit 172, ⟨(.type "tuple"), none, (.seq #[(.str "self" 411), (.str "number" 412), (.str "page" 413), (.str "rights" 414), (.str "oldest" 415)] 0), #[]⟩) ::
  (nat_lit 173, ⟨(.type "tuple"), none, (.seq #[] 0), #[]⟩) ::
  (nat_lit 175, ⟨(.type "code"), none, (.fields #[(.str "keep" 408), (.str "Shelf.keep" 409), (.str "/claim/cut.py" 410), (.int 57 0), (.int 4 0), (.int 0 0), (.int 0 0), (.int 3 0), (.ref 170), (.bool true), (.int 181 0), (.ref 171), .none, (.ref 172), (.ref 173), (.ref 174), (.int 416 0), (.int 57 0), (.str "/claim/cut.py" 417)]), #[]⟩) ::
  (nat_lit 176, ⟨(.type "function"), none, (.func ⟨"keep", "Shelf.keep", defArgs (inClass (top 24) 2), .stmts (defBody (inClass (top 24) 2)), defScope (inClass (top 24) 2), 3, [], .none, .none, .none, (.str "shadowpages.shelf" 378), none, (.ref 175), .none, 0⟩), #[]⟩) ::
  (nat_lit 177, ⟨(.type "tuple"), none, (.seq #[] 0), #[]⟩) ::
  (nat_lit 179, ⟨(.type "tuple"), none, (.seq #[(.str "self" 422), (.str "number" 423)] 0), #[]⟩) ::
  (nat_lit 180, ⟨(.type "tuple"), none, (.seq #[] 0), #[]⟩) ::
  (nat_lit 182, ⟨(.type "code"), none, (.fields #[(.str "drop" 419), (.str "Shelf.drop" 420), (.str "/claim/cut.py" 421), (.int 65 0), (.int 2 0), (.int 0 0), (.int 0 0), (.int 3 0), (.ref 177), (.bool true), (.int 181 0), (.ref 178), .none, (.ref 179), (.ref 180), (.ref 181), (.int 424 0), (.int 65 0), (.str "/claim/cut.py" 425)]), #[]⟩) ::
  (nat_lit 183, ⟨(.type "function"), none, (.func ⟨"drop", "Shelf.drop", defArgs (inClass (top 24) 3), .stmts (defBody (inClass (top 24) 3)), defScope (inClass (top 24) 3), 3, [], .none, .none, .none, (.str "shadowpages.shelf" 378), none, (.ref 182), .none, 0⟩), #[]⟩) ::
  (nat_lit 184, ⟨(.type "tuple"), none, (.seq #[] 0), #[]⟩) ::
  (nat_lit 186, ⟨(.type "tuple"), none, (.seq #[(.str "self" 430)] 0), #[]⟩) ::
  (nat_lit 187, ⟨(.type "tuple"), none, (.seq #[] 0), #[]⟩) ::
  (nat_lit 189, ⟨(.type "code"), none, (.fields #[(.str "empty" 427), (.str "Shelf.empty" 428), (.str "/claim/cut.py" 429), (.int 71 0), (.int 1 0), (.int 0 0), (.int 0 0), (.int 3 0), (.ref 184), (.bool true), (.int 181 0), (.ref 185), .none, (.ref 186), (.ref 187), (.ref 188), (.int 431 0), (.int 71 0), (.str "/claim/cut.py" 432)]), #[]⟩) ::
  (nat_lit 190, ⟨(.type "function"), none, (.func ⟨"empty", "Shelf.empty", defArgs (inClass (top 24) 4), .stmts (defBody (inClass (top 24) 4)), defScope (inClass (top 24) 4), 3, [], .none, .none, .none, (.str "shadowpages.shelf" 378), none, (.ref 189), .none, 0⟩), #[]⟩) ::
  (nat_lit 191, ⟨(.type "tuple"), none, (.seq #[] 0), #[]⟩) ::
  (nat_lit 194, ⟨(.type "code"), none, (.fields #[(.str "told" 434), (.str "Shelf.told" 435), (.str "/claim/cut.py" 436), (.int 74 0), (.int 1 0), (.int 0 0), (.int 0 0), (.int 3 0), (.ref 191), (.bool true), (.int 181 0), (.ref 192), .none, .none, .none, (.ref 193), (.int 437 0), (.int 74 0), (.str "/claim/cut.py" 438)]), #[]⟩) ::
  (nat_lit 195, ⟨(.type "function"), none, (.func ⟨"told", "Shelf.told", defArgs (inClass (top 24) 5), .stmts (defBody (inClass (top 24) 5)), defScope (inClass (top 24) 5), 3, [], .none, .none, .none, (.str "shadowpages.shelf" 378), none, (.ref 194), .none, 0⟩), #[]⟩) ::
  (nat_lit 196, ⟨(.type "tuple"), none, (.seq #[(.str "most" 440), (.str "seats" 441)] 0), #[]⟩) ::
  (nat_lit 197, ⟨(.type "dict"), none, (.dict #[⟨(PyData.keyHash P "__module__"), (.str "__module__" 387), (.str "shadowpages.shelf" 378)⟩, ⟨(PyData.keyHash P "__firstlineno__"), (.str "__firstlineno__" 391), (.int 46 390)⟩, ⟨(PyData.keyHash P "__init__"), (.str "__init__" 399), (.ref 162)⟩, ⟨(PyData.keyHash P "seek"), (.str "seek" 407), (.ref 169)⟩, ⟨(PyData.keyHash P "keep"), (.str "keep" 418), (.ref 176)⟩, ⟨(PyData.keyHash P "drop"), (.str "drop" 426), (.ref 183)⟩, ⟨(PyData.keyHash P "empty"), (.str "empty" 433), (.ref 190)⟩, ⟨(PyData.keyHash P "told"), (.str "told" 439), (.ref 195)⟩, ⟨(PyData.keyHash P "__static_attributes__"), (.str "__static_attributes__" 442), (.ref 196)⟩, ⟨(PyData.keyHash P "__dict__"), (.str "__dict__" 444), (.ref 199)⟩, ⟨(PyData.keyHash P "__weakref__"), (.str "__weakref__" 446), (.ref 200)⟩, ⟨(PyData.keyHash P "__doc__"), (.str "__doc__" 447), .none⟩] 4), #[]⟩) ::
  (nat_lit 198, ⟨(.type "type"), none, (.cls ⟨"Shelf", [(.type "object")], [(.ref 198), (.type "object")], 197, "Shelf", true, [], [], false, none, false⟩), #[none, none, (some (.str "Shelf" 380)), (some (.str "Shelf" 388)), (some (.builtin "object.__new__")), (some (.bool true))]⟩) ::
  (nat_lit 199, ⟨(.type "getset_descriptor"), none, (.fields #[(.str "__dict__" 443), (.ref 198), (.builtin "function.__dict__"), (.builtin "function.__dict__#set")]), #[]⟩) ::
  (nat_lit 200, ⟨(.type "getset_descriptor"), none, (.fields #[(.str "__weakref__" 445), (.ref 198), (.builtin "ExceptionGroup.__weakref__"), .none]), #[]⟩) ::
  (nat_lit 203, ⟨(.type "tuple"), none, (.seq #[] 0), #[]⟩) ::
  (nat_lit 206, ⟨(.type "code"), none, (.fields #[(.str "is_eight_words" 452), (.str "is_eight_words" 453), (.str "/claim/cut.py" 454), (.int 77 0), (.int 1 0), (.int 0 0), (.int 0 0), (.int 3 0), (.ref 203), (.bool true), (.int 181 0), (.ref 204), .none, .none, .none, (.ref 205), (.int 455 0), (.int 77 0), (.str "/claim/cut.py" 456)]), #[]⟩) ::
  (nat_lit 207, ⟨(.type "function"), none, (.func ⟨"is_eight_words", "is_eight_words", defArgs (top 26), .stmts (defBody (top 26)), defScope (top 26), 3, [], .none, .none, .none, (.str "shadowpages.store" 450), none, (.ref 206), .none, 0⟩), #[]⟩) ::
  (nat_lit 208, ⟨(.type "tuple"), none, (.seq #[] 0), #[]⟩) ::
  (nat_lit 210, ⟨(.type "tuple"), none, (.seq #[(.str "pages" 461), (.str "page" 462)] 0), #[]⟩) ::
  (nat_lit 211, ⟨(.type "tuple"), none, (.seq #[] 0), #[]⟩) ::
  (nat_lit 213, ⟨(.type "code"), none, (.fields #[(.str "check_image" 458), (.str "check_image" 459), (.str "/claim/cut.py" 460), (.int 79 0), (.int 1 0), (.int 0 0), (.int 0 0), (.int 3 0), (.ref 208), (.bool true), (.int 181 0), (.ref 209), .none, (.ref 210), (.ref 211), (.ref 212), (.int 463 0), (.int 79 0), (.str "/claim/cut.py" 464)]), #[]⟩) ::
  (nat_lit 214, ⟨(.type "function"), none, (.func ⟨"check_image", "check_image", defArgs (top 27), .stmts (defBody (top 27)), defScope (top 27), 3, [], .none, .none, .none, (.str "shadowpages.store" 450), none, (.ref 213), .none, 0⟩), #[]⟩) ::
  (nat_lit 215, ⟨(.type "tuple"), none, (.seq #[] 0), #[]⟩) ::
  (nat_lit 217, ⟨(.type "tuple"), none, (.seq #[(.str "word" 469)] 0), #[]⟩) ::
  (nat_lit 218, ⟨(.type "tuple"), none, (.seq #[] 0), #[]⟩) ::
  (nat_lit 220, ⟨(.type "code"), none, (.fields #[(.str "check_word" 466), (.str "check_word" 467), (.str "/claim/cut.py" 468), (.int 85 0), (.int 1 0), (.int 0 0), (.int 0 0), (.int 3 0), (.ref 215), (.bool true), (.int 181 0), (.ref 216), .none, (.ref 217), (.ref 218), (.ref 219), (.int 470 0), (.int 85 0), (.str "/claim/cut.py" 471)]), #[]⟩) ::
  (nat_lit 221, ⟨(.type "function"), none, (.func ⟨"check_word", "check_word", defArgs (top 28), .stmts (defBody (top 28)), defScope (top 28), 3, [], .none, .none, .none, (.str "shadowpages.store" 450), none, (.ref 220), .none, 0⟩), #[]⟩) ::
  (nat_lit 229, ⟨(.type "tuple"), none, (.seq #[] 0), #[]⟩) ::
  (nat_lit 231, ⟨(.type "tuple"), none, (.seq #[(.str "self" 488)] 0), #[]⟩) ::
  (nat_lit 232, ⟨(.type "tuple"), none, (.seq #[] 0), #[]⟩) ::
  (nat_lit 234, ⟨(.type "code"), none, (.fields #[(.str "size" 485), (.str "Store.size" 486), (.str "/claim/cut.py" 487), (.int 90 0), (.int 1 0), (.int 0 0), (.int 0 0), (.int 3 0), (.ref 229), (.bool true), (.int 181 0), (.ref 230), .none, (.ref 231), (.ref 232), (.ref 233), (.int 489 0), (.int 90 0), (.str "/claim/cut.py" 490)]), #[]⟩) ::
  (nat_lit 235, ⟨(.type "function"), none, (.func ⟨"size", "Store.size", defArgs (inClass (top 29) 0), .stmts (defBody (inClass (top 29) 0)), defScope (inClass (top 29) 0), 3, [], .none, .none, .none, (.str "shadowpages.store" 450), none, (.ref 234), .none, 0⟩), #[]⟩) ::
  (nat_lit 236, ⟨(.type "tuple"), none, (.seq #[] 0), #[]⟩) ::
  (nat_lit 238, ⟨(.type "tuple"), none, (.seq #[(.str "self" 495), (.str "page" 496)] 0), #[]⟩) ::
  (nat_lit 239, ⟨(.type "tuple"), none, (.seq #[] 0), #[]⟩) ::
  (nat_lit 241, ⟨(.type "code"), none, (.fields #[(.str "has" 492), (.str "Store.has" 493), (.str "/claim/cut.py" 494), (.int 93 0), (.int 2 0), (.int 0 0), (.int 0 0), (.int 3 0), (.ref 236), (.bool true), (.int 181 0), (.ref 237), .none, (.ref 238), (.ref 239), (.ref 240), (.int 497 0), (.int 93 0), (.str "/claim/cut.py" 498)]), #[]⟩) ::
  (nat_lit 242, ⟨(.type "function"), none, (.func ⟨"has", "Store.has", defArgs (inClass (top 29) 1), .stmts (defBody (inClass (top 29) 1)), defScope (inClass (top 29) 1), 3, [], .none, .none, .none, (.str "shadowpages.store" 450), none, (.ref 241), .none, 0⟩), #[]⟩) ::
  (nat_lit 243, ⟨(.type "tuple"), none, (.seq #[] 0), #[]⟩) ::
  (nat_lit 245, ⟨(.type "tuple"), none, (.seq #[(.str "self" 503), (.str "page" 504), (.str "cell" 505)] 0), #[]⟩) ::
  (nat_lit 246, ⟨(.type "tuple"), none, (.seq #[] 0), #[]⟩) ::
  (nat_lit 248, ⟨(.type "code"), none, (.fields #[(.str "word_at" 500), (.str "Store.word_at" 501), (.str "/claim/cut.py" 502), (.int 96 0), (.int 3 0), (.int 0 0), (.int 0 0), (.int 3 0), (.ref 243), (.bool true), (.int 181 0), (.ref 244), .none, (.ref 245), (.ref 246), (.ref 247), (.int 506 0), (.int 96 0), (.str "/claim/cut.py" 507)]), #[]⟩) ::
  (nat_lit 249, ⟨(.type "function"), none, (.func ⟨"word_at", "Store.word_at", defArgs (inClass (top 29) 2), .stmts (defBody (inClass (top 29) 2)), defScope (inClass (top 29) 2), 3, [], .none, .none, .none, (.str "shadowpages.store" 450), none, (.ref 248), .none, 0⟩), #[]⟩) ::
  (nat_lit 250, ⟨(.type "tuple"), none, (.seq #[] 0), #[]⟩) ::
  (nat_lit 252, ⟨(.type "tuple"), none, (.seq #[(.str "self" 512), (.str "page" 513), (.str "cell" 514), (.str "word" 515)] 0), #[]⟩) ::
  (nat_lit 253, ⟨(.type "tuple"), none, (.seq #[] 0), #[]⟩) ::
  (nat_lit 255, ⟨(.type "code"), none, (.fields #[(.str "put_word" 509), (.str "Store.put_word" 510), (.str "/claim/cut.py" 511), (.int 99 0), (.int 4 0), (.int 0 0), (.int 0 0), (.int 3 0), (.ref 250), (.bool true), (.int 181 0), (.ref 251), .none, (.ref 252), (.ref 253), (.ref 254), (.int 516 0), (.int 99 0), (.str "/claim/cut.py" 517)]), #[]⟩) ::
  (nat_lit 256, ⟨(.type "function"), none, (.func ⟨"put_word", "Store.put_word", defArgs (inClass (top 29) 3), .stmts (defBody (inClass (top 29) 3)), defScope (inClass (top 29) 3), 3, [], .none, .none, .none, (.str "shadowpages.store" 450), none, (.ref 255), .none, 0⟩), #[]⟩) ::
  (nat_lit 257, ⟨(.type "tuple"), none, (.seq #[] 0), #[]⟩) ::
  (nat_lit 259, ⟨(.type "tuple"), none, (.seq #[(.str "self" 522), (.str "page" 523), (.str "cell" 524)] 0), #[]⟩) ::
  (nat_lit 260, ⟨(.type "tuple"), none, (.seq #[] 0), #[]⟩) ::
  (nat_lit 262, ⟨(.type "code"), none, (.fields #[(.str "read" 519), (.str "Store.read" 520), (.str "/claim/cut.py" 521), (.int 102 0), (.int 3 0), (.int 0 0), (.int 0 0), (.int 3 0), (.ref 257), (.bool true), (.int 181 0), (.ref 258), .none, (.ref 259), (.ref 260), (.ref 261), (.int 525 0), (.int 102 0), (.str "/claim/cut.py" 526)]), #[]⟩) ::
  (nat_lit 263, ⟨(.type "function"), none, (.func ⟨"read", "Store.read", defArgs (inClass (top 29) 4), .stmts (defBody (inClass (top 29) 4)), defScope (inClass (top 29) 4), 3, [], .none, .none, .none, (.str "shadowpages.store" 450), none, (.ref 262), .none, 0⟩), #[]⟩) ::
  (nat_lit 264, ⟨(.type "tuple"), none, (.seq #[] 0), #[]⟩) ::
  (nat_lit 266, ⟨(.type "tuple"), none, (.seq #[(.str "self" 531), (.str "page" 532), (.str "cell" 533), (.str "word" 534)] 0), #[]⟩) ::
  (nat_lit 267, ⟨(.type "tuple"), none, (.seq #[] 0), #[]⟩) ::
  (nat_lit 269, ⟨(.type "code"), none, (.fields #[(.str "write" 528), (.str "Store.write" 529), (.str "/claim/cut.py" 530), (.int 106 0), (.int 4 0), (.int 0 0), (.int 0 0), (.int 3 0), (.ref 264), (.bool true), (.int 181 0), (.ref 265), .none, (.ref 266), (.ref 267), (.ref 268), (.int 535 0), (.int 106 0), (.str "/claim/cut.py" 536)]), #[]⟩) ::
  (nat_lit 270, ⟨(.type "function"), none, (.func ⟨"write", "Store.write", defArgs (inClass (top 29) 5), .stmts (defBody (inClass (top 29) 5)), defScope (inClass (top 29) 5), 3, [], .none, .none, .none, (.str "shadowpages.store" 450), none, (.ref 269), .none, 0⟩), #[]⟩) ::
  (nat_lit 271, ⟨(.type "tuple"), none, (.seq #[] 0), #[]⟩) ::
  (nat_lit 274, ⟨(.type "code"), none, (.fields #[(.str "words_of" 538), (.str "Store.words_of" 539), (.str "/claim/cut.py" 540), (.int 111 0), (.int 2 0), (.int 0 0), (.int 0 0), (.int 3 0), (.ref 271), (.bool true), (.int 181 0), (.ref 272), .none, .none, .none, (.ref 273), (.int 541 0), (.int 111 0), (.str "/claim/cut.py" 542)]), #[]⟩) ::
  (nat_lit 275, ⟨(.type "function"), none, (.func ⟨"words_of", "Store.words_of", defArgs (inClass (top 29) 6), .stmts (defBody (inClass (top 29) 6)), defScope (inClass (top 29) 6), 3, [], .none, .none, .none, (.str "shadowpages.store" 450), none, (.ref 274), .none, 0⟩), #[]⟩) ::
  (nat_lit 276, ⟨(.type "tuple"), none, (.seq #[] 0), #[]⟩) ::
  (nat_lit 278, ⟨(.type "tuple"), none, (.seq #[(.str "self" 547), (.str "page" 548), (.str "cell" 549)] 0), #[]⟩) ::
  (nat_lit 279, ⟨(.type "tuple"), none, (.seq #[] 0), #[]⟩) ::
  (nat_lit 281, ⟨(.type "code"), none, (.fields #[(.str "check_spot" 544), (.str "Store.check_spot" 545), (.str "/claim/cut.py" 546), (.int 114 0), (.int 3 0), (.int 0 0), (.int 0 0), (.int 3 0), (.ref 276), (.bool true), (.int 181 0), (.ref 277), .none, (.ref 278), (.ref 279), (.ref 280), (.int 550 0), (.int 114 0), (.str "/claim/cut.py" 551)]), #[]⟩) ::
  (nat_lit 282, ⟨(.type "function"), none, (.func ⟨"check_spot", "Store.check_spot", defArgs (inClass (top 29) 7), .stmts (defBody (inClass (top 29) 7)), defScope (inClass (top 29) 7), 3, [], .none, .none, .none, (.str "shadowpages.store" 450), none, (.ref 281), .none, 0⟩), #[]⟩) ::
  (nat_lit 283, ⟨(.type "tuple"), none, (.seq #[] 0), #[]⟩) ::
  (nat_lit 285, ⟨(.type "tuple"), none, (.seq #[(.str "self" 556), (.str "page" 557)] 0), #[]⟩) ::
  (nat_lit 286, ⟨(.type "tuple"), none, (.seq #[] 0), #[]⟩) ::
  (nat_lit 288, ⟨(.type "code"), none, (.fields #[(.str "check_page" 553), (.str "Store.check_page" 554), (.str "/claim/cut.py" 555), (.int 119 0), (.int 2 0), (.int 0 0), (.int 0 0), (.int 3 0), (.ref 283), (.bool true), (.int 181 0), (.ref 284), .none, (.ref 285), (.ref 286), (.ref 287), (.int 558 0), (.int 119 0), (.str "/claim/cut.py" 559)]), #[]⟩) ::
  (nat_lit 289, ⟨(.type "function"), none, (.func ⟨"check_page", "Store.check_page", defArgs (inClass (top 29) 8), .stmts (defBody (inClass (top 29) 8)), defScope (inClass (top 29) 8), 3, [], .none, .none, .none, (.str "shadowpages.store" 450), none, (.ref 288), .none, 0⟩), #[]⟩) ::
  (nat_lit 290, ⟨(.type "tuple"), none, (.seq #[] 0), #[]⟩) ::
  (nat_lit 291, ⟨(.type "dict"), none, (.dict #[⟨(PyData.keyHash P "__module__"), (.str "__module__" 480), (.str "shadowpages.store" 450)⟩, ⟨(PyData.keyHash P "__firstlineno__"), (.str "__firstlineno__" 484), (.int 88 483)⟩, ⟨(PyData.keyHash P "size"), (.str "size" 491), (.ref 235)⟩, ⟨(PyData.keyHash P "has"), (.str "has" 499), (.ref 242)⟩, ⟨(PyData.keyHash P "word_at"), (.str "word_at" 508), (.ref 249)⟩, ⟨(PyData.keyHash P "put_word"), (.str "put_word" 518), (.ref 256)⟩, ⟨(PyData.keyHash P "read"), (.str "read" 527), (.ref 263)⟩, ⟨(PyData.keyHash P "write"), (.str "write" 537), (.ref 270)⟩, ⟨(PyData.keyHash P "words_of"), (.str "words_of" 543), (.ref 275)⟩, ⟨(PyData.keyHash P "check_spot"), (.str "check_spot" 552), (.ref 282)⟩, ⟨(PyData.keyHash P "check_page"), (.str "check_page" 560), (.ref 289)⟩, ⟨(PyData.keyHash P "__static_attributes__"), (.str "__static_attributes__" 561), (.ref 290)⟩, ⟨(PyData.keyHash P "__dict__"), (.str "__dict__" 563), (.ref 293)⟩, ⟨(PyData.keyHash P "__weakref__"), (.str "__weakref__" 565), (.ref 294)⟩, ⟨(PyData.keyHash P "__doc__"), (.str "__doc__" 566), .none⟩] 4), #[]⟩) ::
  (nat_lit 292, ⟨(.type "type"), none, (.cls ⟨"Store", [(.type "object")], [(.ref 292), (.type "object")], 291, "Store", true, [], [(.ref 358), (.ref 564)], false, none, false⟩), #[none, none, (some (.str "Store" 473)), (some (.str "Store" 481)), (some (.builtin "object.__new__")), (some (.bool true))]⟩) ::
  (nat_lit 293, ⟨(.type "getset_descriptor"), none, (.fields #[(.str "__dict__" 562), (.ref 292), (.builtin "function.__dict__"), (.builtin "function.__dict__#set")]), #[]⟩) ::
  (nat_lit 294, ⟨(.type "getset_descriptor"), none, (.fields #[(.str "__weakref__" 564), (.ref 292), (.builtin "ExceptionGroup.__weakref__"), .none]), #[]⟩) ::
  (nat_lit 297, ⟨(.type "tuple"), none, (.seq #[(.ref 292)] 0), #[]⟩) ::
  (nat_lit 304, ⟨(.type "tuple"), none, (.seq #[] 0), #[]⟩) ::
  (nat_lit 307, ⟨(.type "code"), none, (.fields #[(.str "__init__" 581), (.str "Memory.__init__" 582), (.str "/claim/cut.py" 583), (.int 124 0), (.int 2 0), (.int 0 0), (.int 0 0), (.int 3 0), (.ref 304), (.bool true), (.int 181 0), (.ref 305), .none, .none, .none, (.ref 306), (.int 584 0), (.int 124 0), (.str "/claim/cut.py" 585)]), #[]⟩) ::
  (nat_lit 308, ⟨(.type "function"), none, (.func ⟨"__init__", "Memory.__init__", defArgs (inClass (top 30) 0), .stmts (defBody (inClass (top 30) 0)), defScope (inClass (top 30) 0), 3, [], .none, .none, .none, (.str "shadowpages.store" 450), none, (.ref 307), .none, 0⟩), #[]⟩) ::
  (nat_lit 309, ⟨(.type "tuple"), none, (.seq #[] 0), #[]⟩) ::
  (nat_lit 311, ⟨(.type "tuple"), none, (.seq #[(.str "self" 590)] 0), #[]⟩) ::
  (nat_lit 312, ⟨(.type "tuple"), none, (.seq #[] 0), #[]⟩) ::
  (nat_lit 314, ⟨(.type "code"), none, (.fields #[(.str "size" 587), (.str "Memory.size" 588), (.str "/claim/cut.py" 589), (.int 128 0), (.int 1 0), (.int 0 0), (.int 0 0), (.int 3 0), (.ref 309), (.bool true), (.int 181 0), (.ref 310), .none, (.ref 311), (.ref 312), (.ref 313), (.int 591 0), (.int 128 0), (.str "/claim/cut.py" 592)]), #[]⟩) ::
  (nat_lit 315, ⟨(.type "function"), none, (.func ⟨"size", "Memory.size", defArgs (inClass (top 30) 1), .stmts (defBody (inClass (top 30) 1)), defScope (inClass (top 30) 1), 3, [], .none, .none, .none, (.str "shadowpages.store" 450), none, (.ref 314), .none, 0⟩), #[]⟩) ::
  (nat_lit 316, ⟨(.type "tuple"), none, (.seq #[] 0), #[]⟩) ::
  (nat_lit 318, ⟨(.type "tuple"), none, (.seq #[(.str "self" 597), (.str "page" 598)] 0), #[]⟩) ::
  (nat_lit 319, ⟨(.type "tuple"), none, (.seq #[] 0), #[]⟩) ::
  (nat_lit 321, ⟨(.type "code"), none, (.fields #[(.str "has" 594), (.str "Memory.has" 595), (.str "/claim/cut.py" 596), (.int 131 0), (.int 2 0), (.int 0 0), (.int 0 0), (.int 3 0), (.ref 316), (.bool true), (.int 181 0), (.ref 317), .none, (.ref 318), (.ref 319), (.ref 320), (.int 599 0), (.int 131 0), (.str "/claim/cut.py" 600)]), #[]⟩) ::
  (nat_lit 322, ⟨(.type "function"), none, (.func ⟨"has", "Memory.has", defArgs (inClass (top 30) 2), .stmts (defBody (inClass (top 30) 2)), defScope (inClass (top 30) 2), 3, [], .none, .none, .none, (.str "shadowpages.store" 450), none, (.ref 321), .none, 0⟩), #[]⟩) ::
  (nat_lit 323, ⟨(.type "tuple"), none, (.seq #[] 0), #[]⟩) ::
  (nat_lit 325, ⟨(.type "tuple"), none, (.seq #[(.str "self" 605), (.str "page" 606), (.str "cell" 607)] 0), #[]⟩) ::
  (nat_lit 326, ⟨(.type "tuple"), none, (.seq #[] 0), #[]⟩) ::
  (nat_lit 328, ⟨(.type "code"), none, (.fields #[(.str "word_at" 602), (.str "Memory.word_at" 603), (.str "/claim/cut.py" 604), (.int 134 0), (.int 3 0), (.int 0 0), (.int 0 0), (.int 3 0), (.ref 323), (.bool true), (.int 181 0), (.ref 324), .none, (.ref 325), (.ref 326), (.ref 327), (.int 608 0), (.int 134 0), (.str "/claim/cut.py" 609)]), #[]⟩) ::
  (nat_lit 329, ⟨(.type "function"), none, (.func ⟨"word_at", "Memory.word_at", defArgs (inClass (top 30) 3), .stmts (defBody (inClass (top 30) 3)), defScope (inClass (top 30) 3), 3, [], .none, .none, .none, (.str "shadowpages.store" 450), none, (.ref 328), .none, 0⟩), #[]⟩) ::
  (nat_lit 330, ⟨(.type "tuple"), none, (.seq #[] 0), #[]⟩) ::
  (nat_lit 332, ⟨(.type "tuple"), none, (.seq #[(.str "self" 614), (.str "page" 615), (.str "cell" 616), (.str "word" 617)] 0), #[]⟩) ::
  (nat_lit 333, ⟨(.type "tuple"), none, (.seq #[] 0), #[]⟩) ::
  (nat_lit 335, ⟨(.type "code"), none, (.fields #[(.str "put_word" 611), (.str "Memory.put_word" 612), (.str "/claim/cut.py" 613), (.int 137 0), (.int 4 0), (.int 0 0), (.int 0 0), (.int 3 0), (.ref 330), (.bool true), (.int 181 0), (.ref 331), .none, (.ref 332), (.ref 333), (.ref 334), (.int 618 0), (.int 137 0), (.str "/claim/cut.py" 619)]), #[]⟩) ::
  (nat_lit 336, ⟨(.type "function"), none, (.func ⟨"put_word", "Memory.put_word", defArgs (inClass (top 30) 4), .stmts (defBody (inClass (top 30) 4)), defScope (inClass (top 30) 4), 3, [], .none, .none, .none, (.str "shadowpages.store" 450), none, (.ref 335), .none, 0⟩), #[]⟩) ::
  (nat_lit 337, ⟨(.type "tuple"), none, (.seq #[] 0), #[]⟩) ::
  (nat_lit 339, ⟨(.type "tuple"), none, (.seq #[(.str "self" 624), (.str "page" 625)] 0), #[]⟩) ::
  (nat_lit 340, ⟨(.type "tuple"), none, (.seq #[] 0), #[]⟩) ::
  (nat_lit 342, ⟨(.type "code"), none, (.fields #[(.str "give" 621), (.str "Memory.give" 622), (.str "/claim/cut.py" 623), (.int 140 0), (.int 2 0), (.int 0 0), (.int 0 0), (.int 3 0), (.ref 337), (.bool true), (.int 181 0), (.ref 338), .none, (.ref 339), (.ref 340), (.ref 341), (.int 626 0), (.int 140 0), (.str "/claim/cut.py" 627)]), #[]⟩) ::
  (nat_lit 343, ⟨(.type "function"), none, (.func ⟨"give", "Memory.give", defArgs (inClass (top 30) 5), .stmts (defBody (inClass (top 30) 5)), defScope (inClass (top 30) 5), 3, [], .none, .none, .none, (.str "shadowpages.store" 450), none, (.ref 342), .none, 0⟩), #[]⟩) ::
  (nat_lit 344, ⟨(.type "tuple"), none, (.seq #[] 0), #[]⟩) ::
  (nat_lit 346, ⟨(.type "tuple"), none, (.seq #[(.str "self" 632), (.str "page" 633), (.str "words" 634)] 0), #[]⟩) ::
  (nat_lit 347, ⟨(.type "tuple"), none, (.seq #[] 0), #[]⟩) ::
  (nat_lit 349, ⟨(.type "code"), none, (.fields #[(.str "lay" 629), (.str "Memory.lay" 630), (.str "/claim/cut.py" 631), (.int 143 0), (.int 3 0), (.int 0 0), (.int 0 0), (.int 3 0), (.ref 344), (.bool true), (.int 181 0), (.ref 345), .none, (.ref 346), (.ref 347), (.ref 348), (.int 635 0), (.int 143 0), (.str "/claim/cut.py" 636)]), #[]⟩) ::
  (nat_lit 350, ⟨(.type "function"), none, (.func ⟨"lay", "Memory.lay", defArgs (inClass (top 30) 6), .stmts (defBody (inClass (top 30) 6)), defScope (inClass (top 30) 6), 3, [], .none, .none, .none, (.str "shadowpages.store" 450), none, (.ref 349), .none, 0⟩), #[]⟩) ::
  (nat_lit 351, ⟨(.type "tuple"), none, (.seq #[] 0), #[]⟩) ::
  (nat_lit 354, ⟨(.type "code"), none, (.fields #[(.str "told" 638), (.str "Memory.told" 639), (.str "/claim/cut.py" 640), (.int 146 0), (.int 1 0), (.int 0 0), (.int 0 0), (.int 3 0), (.ref 351), (.bool true), (.int 181 0), (.ref 352), .none, .none, .none, (.ref 353), (.int 641 0), (.int 146 0), (.str "/claim/cut.py" 642)]), #[]⟩) ::
  (nat_lit 355, ⟨(.type "function"), none, (.func ⟨"told", "Memory.told", defArgs (inClass (top 30) 7), .stmts (defBody (inClass (top 30) 7)), defScope (inClass (top 30) 7), 3, [], .none, .none, .none, (.str "shadowpages.store" 450), none, (.ref 354), .none, 0⟩), #[]⟩) ::
  (nat_lit 356, ⟨(.type "tuple"), none, (.seq #[(.str "held" 644)] 0), #[]⟩) ::
  (nat_lit 357, ⟨(.type "dict"), none, (.dict #[⟨(PyData.keyHash P "__module__"), (.str "__module__" 576), (.str "shadowpages.store" 450)⟩, ⟨(PyData.keyHash P "__firstlineno__"), (.str "__firstlineno__" 580), (.int 122 579)⟩, ⟨(PyData.keyHash P "__init__"), (.str "__init__" 586), (.ref 308)⟩, ⟨(PyData.keyHash P "size"), (.str "size" 593), (.ref 315)⟩, ⟨(PyData.keyHash P "has"), (.str "has" 601), (.ref 322)⟩, ⟨(PyData.keyHash P "word_at"), (.str "word_at" 610), (.ref 329)⟩, ⟨(PyData.keyHash P "put_word"), (.str "put_word" 620), (.ref 336)⟩, ⟨(PyData.keyHash P "give"), (.str "give" 628), (.ref 343)⟩, ⟨(PyData.keyHash P "lay"), (.str "lay" 637), (.ref 350)⟩, ⟨(PyData.keyHash P "told"), (.str "told" 643), (.ref 355)⟩, ⟨(PyData.keyHash P "__static_attributes__"), (.str "__static_attributes__" 645), (.ref 356)⟩, ⟨(PyData.keyHash P "__doc__"), (.str "__doc__" 646), .none⟩] 2), #[]⟩) ::
  (nat_lit 358, ⟨(.type "type"), none, (.cls ⟨"Memory", [(.ref 292)], [(.ref 358), (.ref 292), (.type "object")], 357, "Memory", true, [], [], false, none, false⟩), #[(some (.ref 297)), none, (some (.str "Memory" 569)), (some (.str "Memory" 577)), (some (.builtin "object.__new__")), (some (.bool true))]⟩) ::
  (nat_lit 361, ⟨(.type "tuple"), none, (.seq #[] 0), #[]⟩) ::
  (nat_lit 363, ⟨(.type "tuple"), none, (.seq #[(.str "row" 664)] 0), #[]⟩) ::
  (nat_lit 364, ⟨(.type "tuple"), none, (.seq #[] 0), #[]⟩) ::
  (nat_lit 366, ⟨(.type "code"), none, (.fields #[(.str "page_of" 661), (.str "page_of" 662), (.str "/claim/cut.py" 663), (.int 154 0), (.int 1 0), (.int 0 0), (.int 0 0), (.int 3 0), (.ref 361), (.bool true), (.int 181 0), (.ref 362), .none, (.ref 363), (.ref 364), (.ref 365), (.int 665 0), (.int 154 0), (.str "/claim/cut.py" 666)]), #[]⟩) ::
  (nat_lit 367, ⟨(.type "function"), none, (.func ⟨"page_of", "page_of", defArgs (top 37), .stmts (defBody (top 37)), defScope (top 37), 3, [], .none, .none, .none, (.str "shadowpages.rows" 649), none, (.ref 366), .none, 0⟩), #[]⟩) ::
  (nat_lit 368, ⟨(.type "tuple"), none, (.seq #[] 0), #[]⟩) ::
  (nat_lit 370, ⟨(.type "tuple"), none, (.seq #[(.str "row" 671), (.str "marks" 672)] 0), #[]⟩) ::
  (nat_lit 371, ⟨(.type "tuple"), none, (.seq #[] 0), #[]⟩) ::
  (nat_lit 373, ⟨(.type "code"), none, (.fields #[(.str "has" 668), (.str "has" 669), (.str "/claim/cut.py" 670), (.int 156 0), (.int 2 0), (.int 0 0), (.int 0 0), (.int 3 0), (.ref 368), (.bool true), (.int 181 0), (.ref 369), .none, (.ref 370), (.ref 371), (.ref 372), (.int 673 0), (.int 156 0), (.str "/claim/cut.py" 674)]), #[]⟩) ::
  (nat_lit 374, ⟨(.type "function"), none, (.func ⟨"has", "has", defArgs (top 38), .stmts (defBody (top 38)), defScope (top 38), 3, [], .none, .none, .none, (.str "shadowpages.rows" 649), none, (.ref 373), .none, 0⟩), #[]⟩) ::
  (nat_lit 375, ⟨(.type "tuple"), none, (.seq #[] 0), #[]⟩) ::
  (nat_lit 377, ⟨(.type "tuple"), none, (.seq #[(.str "row" 679), (.str "marks" 680)] 0), #[]⟩) ::
  (nat_lit 378, ⟨(.type "tuple"), none, (.seq #[] 0), #[]⟩) ::
  (nat_lit 380, ⟨(.type "code"), none, (.fields #[(.str "put" 676), (.str "put" 677), (.str "/claim/cut.py" 678), (.int 158 0), (.int 2 0), (.int 0 0), (.int 0 0), (.int 3 0), (.ref 375), (.bool true), (.int 181 0), (.ref 376), .none, (.ref 377), (.ref 378), (.ref 379), (.int 681 0), (.int 158 0), (.str "/claim/cut.py" 682)]), #[]⟩) ::
  (nat_lit 381, ⟨(.type "function"), none, (.func ⟨"put", "put", defArgs (top 39), .stmts (defBody (top 39)), defScope (top 39), 3, [], .none, .none, .none, (.str "shadowpages.rows" 649), none, (.ref 380), .none, 0⟩), #[]⟩) ::
  (nat_lit 382, ⟨(.type "tuple"), none, (.seq #[] 0), #[]⟩) ::
  (nat_lit 384, ⟨(.type "tuple"), none, (.seq #[(.str "store" 689), (.str "root" 690), (.str "place" 691), (.str "write" 692), (.str "kernel" 693), (.str "parts" 694), (.str "top" 695), (.str "top_row" 696), (.str "low" 697), (.str "low_row" 698)] 0), #[]⟩) ::
  (nat_lit 385, ⟨(.type "tuple"), none, (.seq #[] 0), #[]⟩) ::
  (nat_lit 387, ⟨(.type "code"), none, (.fields #[(.str "look" 686), (.str "look" 687), (.str "/claim/cut.py" 688), (.int 161 0), (.int 5 0), (.int 0 0), (.int 0 0), (.int 3 0), (.ref 382), (.bool true), (.int 181 0), (.ref 383), .none, (.ref 384), (.ref 385), (.ref 386), (.int 699 0), (.int 161 0), (.str "/claim/cut.py" 700)]), #[]⟩) ::
  (nat_lit 388, ⟨(.type "function"), none, (.func ⟨"look", "look", defArgs (top 41), .stmts (defBody (top 41)), defScope (top 41), 3, [], .none, .none, .none, (.str "shadowpages.walk" 684), none, (.ref 387), .none, 0⟩), #[]⟩) ::
  (nat_lit 389, ⟨(.type "tuple"), none, (.seq #[] 0), #[]⟩) ::
  (nat_lit 391, ⟨(.type "tuple"), none, (.seq #[(.str "store" 705), (.str "row" 706), (.str "write" 707), (.str "kernel" 708), (.str "place" 709), (.str "level" 710)] 0), #[]⟩) ::
  (nat_lit 392, ⟨(.type "tuple"), none, (.seq #[] 0), #[]⟩) ::
  (nat_lit 394, ⟨(.type "code"), none, (.fields #[(.str "check_row" 702), (.str "check_row" 703), (.str "/claim/cut.py" 704), (.int 174 0), (.int 6 0), (.int 0 0), (.int 0 0), (.int 3 0), (.ref 389), (.bool true), (.int 181 0), (.ref 390), .none, (.ref 391), (.ref 392), (.ref 393), (.int 711 0), (.int 174 0), (.str "/claim/cut.py" 712)]), #[]⟩) ::
  (nat_lit 395, ⟨(.type "function"), none, (.func ⟨"check_row", "check_row", defArgs (top 42), .stmts (defBody (top 42)), defScope (top 42), 3, [], .none, .none, .none, (.str "shadowpages.walk" 684), none, (.ref 394), .none, 0⟩), #[]⟩) ::
  (nat_lit 396, ⟨(.type "tuple"), none, (.seq #[] 0), #[]⟩) ::
  (nat_lit 398, ⟨(.type "tuple"), none, (.seq #[(.str "top_row" 717), (.str "low_row" 718)] 0), #[]⟩) ::
  (nat_lit 399, ⟨(.type "tuple"), none, (.seq #[] 0), #[]⟩) ::
  (nat_lit 401, ⟨(.type "code"), none, (.fields #[(.str "rights_of" 714), (.str "rights_of" 715), (.str "/claim/cut.py" 716), (.int 183 0), (.int 2 0), (.int 0 0), (.int 0 0), (.int 3 0), (.ref 396), (.bool true), (.int 181 0), (.ref 397), .none, (.ref 398), (.ref 399), (.ref 400), (.int 719 0), (.int 183 0), (.str "/claim/cut.py" 720)]), #[]⟩) ::
  (nat_lit 402, ⟨(.type "function"), none, (.func ⟨"rights_of", "rights_of", defArgs (top 43), .stmts (defBody (top 43)), defScope (top 43), 3, [], .none, .none, .none, (.str "shadowpages.walk" 684), none, (.ref 401), .none, 0⟩), #[]⟩) ::
  (nat_lit 403, ⟨(.type "tuple"), none, (.seq #[] 0), #[]⟩) ::
  (nat_lit 405, ⟨(.type "tuple"), none, (.seq #[(.str "store" 725), (.str "trail" 726), (.str "write" 727)] 0), #[]⟩) ::
  (nat_lit 406, ⟨(.type "tuple"), none, (.seq #[] 0), #[]⟩) ::
  (nat_lit 408, ⟨(.type "code"), none, (.fields #[(.str "mark" 722), (.str "mark" 723), (.str "/claim/cut.py" 724), (.int 185 0), (.int 3 0), (.int 0 0), (.int 0 0), (.int 3 0), (.ref 403), (.bool true), (.int 181 0), (.ref 404), .none, (.ref 405), (.ref 406), (.ref 407), (.int 728 0), (.int 185 0), (.str "/claim/cut.py" 729)]), #[]⟩) ::
  (nat_lit 409, ⟨(.type "function"), none, (.func ⟨"mark", "mark", defArgs (top 44), .stmts (defBody (top 44)), defScope (top 44), 3, [], .none, .none, .none, (.str "shadowpages.walk" 684), none, (.ref 408), .none, 0⟩), #[]⟩) ::
  (nat_lit 410, ⟨(.type "tuple"), none, (.seq #[] 0), #[]⟩) ::
  (nat_lit 412, ⟨(.type "tuple"), none, (.seq #[(.str "store" 734), (.str "spot" 735), (.str "marks" 736), (.str "row" 737)] 0), #[]⟩) ::
  (nat_lit 413, ⟨(.type "tuple"), none, (.seq #[] 0), #[]⟩) ::
  (nat_lit 415, ⟨(.type "code"), none, (.fields #[(.str "put_marks" 731), (.str "put_marks" 732), (.str "/claim/cut.py" 733), (.int 189 0), (.int 3 0), (.int 0 0), (.int 0 0), (.int 3 0), (.ref 410), (.bool true), (.int 181 0), (.ref 411), .none, (.ref 412), (.ref 413), (.ref 414), (.int 738 0), (.int 189 0), (.str "/claim/cut.py" 739)]), #[]⟩) ::
  (nat_lit 416, ⟨(.type "function"), none, (.func ⟨"put_marks", "put_marks", defArgs (top 45), .stmts (defBody (top 45)), defScope (top 45), 3, [], .none, .none, .none, (.str "shadowpages.walk" 684), none, (.ref 415), .none, 0⟩), #[]⟩) ::
  (nat_lit 417, ⟨(.type "tuple"), none, (.seq #[] 0), #[]⟩) ::
  (nat_lit 419, ⟨(.type "tuple"), none, (.seq #[(.str "rights" 744), (.str "write" 745), (.str "kernel" 746)] 0), #[]⟩) ::
  (nat_lit 420, ⟨(.type "tuple"), none, (.seq #[] 0), #[]⟩) ::
  (nat_lit 422, ⟨(.type "code"), none, (.fields #[(.str "lets" 741), (.str "lets" 742), (.str "/claim/cut.py" 743), (.int 193 0), (.int 3 0), (.int 0 0), (.int 0 0), (.int 3 0), (.ref 417), (.bool true), (.int 181 0), (.ref 418), .none, (.ref 419), (.ref 420), (.ref 421), (.int 747 0), (.int 193 0), (.str "/claim/cut.py" 748)]), #[]⟩) ::
  (nat_lit 423, ⟨(.type "function"), none, (.func ⟨"lets", "lets", defArgs (top 46), .stmts (defBody (top 46)), defScope (top 46), 3, [], .none, .none, .none, (.str "shadowpages.walk" 684), none, (.ref 422), .none, 0⟩), #[]⟩) ::
  (nat_lit 424, ⟨(.type "tuple"), none, (.seq #[(.ref 292)] 0), #[]⟩) ::
  (nat_lit 431, ⟨(.type "tuple"), none, (.seq #[] 0), #[]⟩) ::
  (nat_lit 433, ⟨(.type "tuple"), none, (.seq #[(.str "self" 767), (.str "most" 768)] 0), #[]⟩) ::
  (nat_lit 434, ⟨(.type "tuple"), none, (.seq #[] 0), #[]⟩) ::
  (nat_lit 436, ⟨(.type "code"), none, (.fields #[(.str "__init__" 764), (.str "Ways.__init__" 765), (.str "/claim/cut.py" 766), (.int 200 0), (.int 2 0), (.int 0 0), (.int 0 0), (.int 3 0), (.ref 431), (.bool true), (.int 181 0), (.ref 432), .none, (.ref 433), (.ref 434), (.ref 435), (.int 769 0), (.int 200 0), (.str "/claim/cut.py" 770)]), #[]⟩) ::
  (nat_lit 437, ⟨(.type "function"), none, (.func ⟨"__init__", "Ways.__init__", defArgs (inClass (top 48) 0), .stmts (defBody (inClass (top 48) 0)), defScope (inClass (top 48) 0), 3, [], .none, .none, .none, (.str "shadowpages.ways" 750), none, (.ref 436), .none, 0⟩), #[]⟩) ::
  (nat_lit 438, ⟨(.type "tuple"), none, (.seq #[] 0), #[]⟩) ::
  (nat_lit 440, ⟨(.type "tuple"), none, (.seq #[(.str "self" 775), (.str "page" 776)] 0), #[]⟩) ::
  (nat_lit 441, ⟨(.type "tuple"), none, (.seq #[] 0), #[]⟩) ::
  (nat_lit 443, ⟨(.type "code"), none, (.fields #[(.str "give_up" 772), (.str "Ways.give_up" 773), (.str "/claim/cut.py" 774), (.int 204 0), (.int 2 0), (.int 0 0), (.int 0 0), (.int 3 0), (.ref 438), (.bool true), (.int 181 0), (.ref 439), .none, (.ref 440), (.ref 441), (.ref 442), (.int 777 0), (.int 204 0), (.str "/claim/cut.py" 778)]), #[]⟩) ::
  (nat_lit 444, ⟨(.type "function"), none, (.func ⟨"give_up", "Ways.give_up", defArgs (inClass (top 48) 1), .stmts (defBody (inClass (top 48) 1)), defScope (inClass (top 48) 1), 3, [], .none, .none, .none, (.str "shadowpages.ways" 750), none, (.ref 443), .none, 0⟩), #[]⟩) ::
  (nat_lit 445, ⟨(.type "tuple"), none, (.seq #[] 0), #[]⟩) ::
  (nat_lit 447, ⟨(.type "tuple"), none, (.seq #[(.str "self" 783), (.str "page" 784)] 0), #[]⟩) ::
  (nat_lit 448, ⟨(.type "tuple"), none, (.seq #[] 0), #[]⟩) ::
  (nat_lit 450, ⟨(.type "code"), none, (.fields #[(.str "come_back" 780), (.str "Ways.come_back" 781), (.str "/claim/cut.py" 782), (.int 207 0), (.int 2 0), (.int 0 0), (.int 0 0), (.int 3 0), (.ref 445), (.bool true), (.int 181 0), (.ref 446), .none, (.ref 447), (.ref 448), (.ref 449), (.int 785 0), (.int 207 0), (.str "/claim/cut.py" 786)]), #[]⟩) ::
  (nat_lit 451, ⟨(.type "function"), none, (.func ⟨"come_back", "Ways.come_back", defArgs (inClass (top 48) 2), .stmts (defBody (inClass (top 48) 2)), defScope (inClass (top 48) 2), 3, [], .none, .none, .none, (.str "shadowpages.ways" 750), none, (.ref 450), .none, 0⟩), #[]⟩) ::
  (nat_lit 452, ⟨(.type "tuple"), none, (.seq #[] 0), #[]⟩) ::
  (nat_lit 454, ⟨(.type "tuple"), none, (.seq #[(.str "self" 791)] 0), #[]⟩) ::
  (nat_lit 455, ⟨(.type "tuple"), none, (.seq #[] 0), #[]⟩) ::
  (nat_lit 457, ⟨(.type "code"), none, (.fields #[(.str "ask_house" 788), (.str "Ways.ask_house" 789), (.str "/claim/cut.py" 790), (.int 210 0), (.int 1 0), (.int 0 0), (.int 0 0), (.int 3 0), (.ref 452), (.bool true), (.int 181 0), (.ref 453), .none, (.ref 454), (.ref 455), (.ref 456), (.int 792 0), (.int 210 0), (.str "/claim/cut.py" 793)]), #[]⟩) ::
  (nat_lit 458, ⟨(.type "function"), none, (.func ⟨"ask_house", "Ways.ask_house", defArgs (inClass (top 48) 3), .stmts (defBody (inClass (top 48) 3)), defScope (inClass (top 48) 3), 3, [], .none, .none, .none, (.str "shadowpages.ways" 750), none, (.ref 457), .none, 0⟩), #[]⟩) ::
  (nat_lit 459, ⟨(.type "tuple"), none, (.seq #[] 0), #[]⟩) ::
  (nat_lit 461, ⟨(.type "tuple"), none, (.seq #[(.str "self" 798), (.str "place" 799), (.str "kernel" 800), (.str "page" 801)] 0), #[]⟩) ::
  (nat_lit 462, ⟨(.type "tuple"), none, (.seq #[] 0), #[]⟩) ::
  (nat_lit 464, ⟨(.type "code"), none, (.fields #[(.str "load" 795), (.str "Ways.load" 796), (.str "/claim/cut.py" 797), (.int 213 0), (.int 3 0), (.int 0 0), (.int 0 0), (.int 3 0), (.ref 459), (.bool true), (.int 181 0), (.ref 460), .none, (.ref 461), (.ref 462), (.ref 463), (.int 802 0), (.int 213 0), (.str "/claim/cut.py" 803)]), #[]⟩) ::
  (nat_lit 465, ⟨(.type "function"), none, (.func ⟨"load", "Ways.load", defArgs (inClass (top 48) 4), .stmts (defBody (inClass (top 48) 4)), defScope (inClass (top 48) 4), 3, [], .none, .none, .none, (.str "shadowpages.ways" 750), none, (.ref 464), .none, 0⟩), #[]⟩) ::
  (nat_lit 466, ⟨(.type "tuple"), none, (.seq #[] 0), #[]⟩) ::
  (nat_lit 468, ⟨(.type "tuple"), none, (.seq #[(.str "self" 808), (.str "place" 809), (.str "word" 810), (.str "kernel" 811), (.str "page" 812)] 0), #[]⟩) ::
  (nat_lit 469, ⟨(.type "tuple"), none, (.seq #[] 0), #[]⟩) ::
  (nat_lit 471, ⟨(.type "code"), none, (.fields #[(.str "save" 805), (.str "Ways.save" 806), (.str "/claim/cut.py" 807), (.int 217 0), (.int 4 0), (.int 0 0), (.int 0 0), (.int 3 0), (.ref 466), (.bool true), (.int 181 0), (.ref 467), .none, (.ref 468), (.ref 469), (.ref 470), (.int 813 0), (.int 217 0), (.str "/claim/cut.py" 814)]), #[]⟩) ::
  (nat_lit 472, ⟨(.type "function"), none, (.func ⟨"save", "Ways.save", defArgs (inClass (top 48) 5), .stmts (defBody (inClass (top 48) 5)), defScope (inClass (top 48) 5), 3, [], .none, .none, .none, (.str "shadowpages.ways" 750), none, (.ref 471), .none, 0⟩), #[]⟩) ::
  (nat_lit 473, ⟨(.type "tuple"), none, (.seq #[] 0), #[]⟩) ::
  (nat_lit 475, ⟨(.type "tuple"), none, (.seq #[(.str "self" 819), (.str "place" 820), (.str "write" 821), (.str "kernel" 822), (.str "page" 823)] 0), #[]⟩) ::
  (nat_lit 476, ⟨(.type "tuple"), none, (.seq #[] 0), #[]⟩) ::
  (nat_lit 478, ⟨(.type "code"), none, (.fields #[(.str "reach" 816), (.str "Ways.reach" 817), (.str "/claim/cut.py" 818), (.int 222 0), (.int 4 0), (.int 0 0), (.int 0 0), (.int 3 0), (.ref 473), (.bool true), (.int 181 0), (.ref 474), .none, (.ref 475), (.ref 476), (.ref 477), (.int 824 0), (.int 222 0), (.str "/claim/cut.py" 825)]), #[]⟩) ::
  (nat_lit 479, ⟨(.type "function"), none, (.func ⟨"reach", "Ways.reach", defArgs (inClass (top 48) 6), .stmts (defBody (inClass (top 48) 6)), defScope (inClass (top 48) 6), 3, [], .none, .none, .none, (.str "shadowpages.ways" 750), none, (.ref 478), .none, 0⟩), #[]⟩) ::
  (nat_lit 480, ⟨(.type "tuple"), none, (.seq #[] 0), #[]⟩) ::
  (nat_lit 482, ⟨(.type "tuple"), none, (.seq #[(.str "self" 830), (.str "place" 831), (.str "write" 832), (.str "kernel" 833), (.str "row" 834)] 0), #[]⟩) ::
  (nat_lit 483, ⟨(.type "tuple"), none, (.seq #[] 0), #[]⟩) ::
  (nat_lit 485, ⟨(.type "code"), none, (.fields #[(.str "remembered" 827), (.str "Ways.remembered" 828), (.str "/claim/cut.py" 829), (.int 228 0), (.int 4 0), (.int 0 0), (.int 0 0), (.int 3 0), (.ref 480), (.bool true), (.int 181 0), (.ref 481), .none, (.ref 482), (.ref 483), (.ref 484), (.int 835 0), (.int 228 0), (.str "/claim/cut.py" 836)]), #[]⟩) ::
  (nat_lit 486, ⟨(.type "function"), none, (.func ⟨"remembered", "Ways.remembered", defArgs (inClass (top 48) 7), .stmts (defBody (inClass (top 48) 7)), defScope (inClass (top 48) 7), 3, [], .none, .none, .none, (.str "shadowpages.ways" 750), none, (.ref 485), .none, 0⟩), #[]⟩) ::
  (nat_lit 487, ⟨(.type "tuple"), none, (.seq #[] 0), #[]⟩) ::
  (nat_lit 489, ⟨(.type "tuple"), none, (.seq #[(.str "self" 841), (.str "place" 842), (.str "write" 843), (.str "kernel" 844), (.str "trail" 845), (.str "rights" 846)] 0), #[]⟩) ::
  (nat_lit 490, ⟨(.type "tuple"), none, (.seq #[] 0), #[]⟩) ::
  (nat_lit 492, ⟨(.type "code"), none, (.fields #[(.str "walked" 838), (.str "Ways.walked" 839), (.str "/claim/cut.py" 840), (.int 236 0), (.int 4 0), (.int 0 0), (.int 0 0), (.int 3 0), (.ref 487), (.bool true), (.int 181 0), (.ref 488), .none, (.ref 489), (.ref 490), (.ref 491), (.int 847 0), (.int 236 0), (.str "/claim/cut.py" 848)]), #[]⟩) ::
  (nat_lit 493, ⟨(.type "function"), none, (.func ⟨"walked", "Ways.walked", defArgs (inClass (top 48) 8), .stmts (defBody (inClass (top 48) 8)), defScope (inClass (top 48) 8), 3, [], .none, .none, .none, (.str "shadowpages.ways" 750), none, (.ref 492), .none, 0⟩), #[]⟩) ::
  (nat_lit 494, ⟨(.type "tuple"), none, (.seq #[] 0), #[]⟩) ::
  (nat_lit 496, ⟨(.type "tuple"), none, (.seq #[(.str "self" 853), (.str "spot" 854)] 0), #[]⟩) ::
  (nat_lit 497, ⟨(.type "tuple"), none, (.seq #[] 0), #[]⟩) ::
  (nat_lit 499, ⟨(.type "code"), none, (.fields #[(.str "peek" 850), (.str "Ways.peek" 851), (.str "/claim/cut.py" 852), (.int 242 0), (.int 2 0), (.int 0 0), (.int 0 0), (.int 3 0), (.ref 494), (.bool true), (.int 181 0), (.ref 495), .none, (.ref 496), (.ref 497), (.ref 498), (.int 855 0), (.int 242 0), (.str "/claim/cut.py" 856)]), #[]⟩) ::
  (nat_lit 500, ⟨(.type "function"), none, (.func ⟨"peek", "Ways.peek", defArgs (inClass (top 48) 9), .stmts (defBody (inClass (top 48) 9)), defScope (inClass (top 48) 9), 3, [], .none, .none, .none, (.str "shadowpages.ways" 750), none, (.ref 499), .none, 0⟩), #[]⟩) ::
  (nat_lit 501, ⟨(.type "tuple"), none, (.seq #[] 0), #[]⟩) ::
  (nat_lit 503, ⟨(.type "tuple"), none, (.seq #[(.str "self" 861), (.str "spot" 862), (.str "word" 863)] 0), #[]⟩) ::
  (nat_lit 504, ⟨(.type "tuple"), none, (.seq #[] 0), #[]⟩) ::
  (nat_lit 506, ⟨(.type "code"), none, (.fields #[(.str "poke" 858), (.str "Ways.poke" 859), (.str "/claim/cut.py" 860), (.int 245 0), (.int 3 0), (.int 0 0), (.int 0 0), (.int 3 0), (.ref 501), (.bool true), (.int 181 0), (.ref 502), .none, (.ref 503), (.ref 504), (.ref 505), (.int 864 0), (.int 245 0), (.str "/claim/cut.py" 865)]), #[]⟩) ::
  (nat_lit 507, ⟨(.type "function"), none, (.func ⟨"poke", "Ways.poke", defArgs (inClass (top 48) 10), .stmts (defBody (inClass (top 48) 10)), defScope (inClass (top 48) 10), 3, [], .none, .none, .none, (.str "shadowpages.ways" 750), none, (.ref 506), .none, 0⟩), #[]⟩) ::
  (nat_lit 508, ⟨(.type "tuple"), none, (.seq #[] 0), #[]⟩) ::
  (nat_lit 510, ⟨(.type "tuple"), none, (.seq #[(.str "self" 870), (.str "spot" 871)] 0), #[]⟩) ::
  (nat_lit 511, ⟨(.type "tuple"), none, (.seq #[] 0), #[]⟩) ::
  (nat_lit 513, ⟨(.type "code"), none, (.fields #[(.str "check_beyond" 867), (.str "Ways.check_beyond" 868), (.str "/claim/cut.py" 869), (.int 248 0), (.int 2 0), (.int 0 0), (.int 0 0), (.int 3 0), (.ref 508), (.bool true), (.int 181 0), (.ref 509), .none, (.ref 510), (.ref 511), (.ref 512), (.int 872 0), (.int 248 0), (.str "/claim/cut.py" 873)]), #[]⟩) ::
  (nat_lit 514, ⟨(.type "function"), none, (.func ⟨"check_beyond", "Ways.check_beyond", defArgs (inClass (top 48) 11), .stmts (defBody (inClass (top 48) 11)), defScope (inClass (top 48) 11), 3, [], .none, .none, .none, (.str "shadowpages.ways" 750), none, (.ref 513), .none, 0⟩), #[]⟩) ::
  (nat_lit 515, ⟨(.type "tuple"), none, (.seq #[] 0), #[]⟩) ::
  (nat_lit 517, ⟨(.type "tuple"), none, (.seq #[(.str "self" 878)] 0), #[]⟩) ::
  (nat_lit 518, ⟨(.type "tuple"), none, (.seq #[] 0), #[]⟩) ::
  (nat_lit 520, ⟨(.type "code"), none, (.fields #[(.str "root" 875), (.str "Ways.root" 876), (.str "/claim/cut.py" 877), (.int 251 0), (.int 1 0), (.int 0 0), (.int 0 0), (.int 3 0), (.ref 515), (.bool true), (.int 181 0), (.ref 516), .none, (.ref 517), (.ref 518), (.ref 519), (.int 879 0), (.int 251 0), (.str "/claim/cut.py" 880)]), #[]⟩) ::
  (nat_lit 521, ⟨(.type "function"), none, (.func ⟨"root", "Ways.root", defArgs (inClass (top 48) 12), .stmts (defBody (inClass (top 48) 12)), defScope (inClass (top 48) 12), 3, [], .none, .none, .none, (.str "shadowpages.ways" 750), none, (.ref 520), .none, 0⟩), #[]⟩) ::
  (nat_lit 522, ⟨(.type "tuple"), none, (.seq #[] 0), #[]⟩) ::
  (nat_lit 524, ⟨(.type "tuple"), none, (.seq #[(.str "self" 885), (.str "root" 886)] 0), #[]⟩) ::
  (nat_lit 525, ⟨(.type "tuple"), none, (.seq #[] 0), #[]⟩) ::
  (nat_lit 527, ⟨(.type "code"), none, (.fields #[(.str "turn_root" 882), (.str "Ways.turn_root" 883), (.str "/claim/cut.py" 884), (.int 254 0), (.int 2 0), (.int 0 0), (.int 0 0), (.int 3 0), (.ref 522), (.bool true), (.int 181 0), (.ref 523), .none, (.ref 524), (.ref 525), (.ref 526), (.int 887 0), (.int 254 0), (.str "/claim/cut.py" 888)]), #[]⟩) ::
  (nat_lit 528, ⟨(.type "function"), none, (.func ⟨"turn_root", "Ways.turn_root", defArgs (inClass (top 48) 13), .stmts (defBody (inClass (top 48) 13)), defScope (inClass (top 48) 13), 3, [], .none, .none, .none, (.str "shadowpages.ways" 750), none, (.ref 527), .none, 0⟩), #[]⟩) ::
  (nat_lit 529, ⟨(.type "tuple"), none, (.seq #[] 0), #[]⟩) ::
  (nat_lit 531, ⟨(.type "tuple"), none, (.seq #[(.str "self" 893), (.str "place" 894)] 0), #[]⟩) ::
  (nat_lit 532, ⟨(.type "tuple"), none, (.seq #[] 0), #[]⟩) ::
  (nat_lit 534, ⟨(.type "code"), none, (.fields #[(.str "drop" 890), (.str "Ways.drop" 891), (.str "/claim/cut.py" 892), (.int 258 0), (.int 2 0), (.int 0 0), (.int 0 0), (.int 3 0), (.ref 529), (.bool true), (.int 181 0), (.ref 530), .none, (.ref 531), (.ref 532), (.ref 533), (.int 895 0), (.int 258 0), (.str "/claim/cut.py" 896)]), #[]⟩) ::
  (nat_lit 535, ⟨(.type "function"), none, (.func ⟨"drop", "Ways.drop", defArgs (inClass (top 48) 14), .stmts (defBody (inClass (top 48) 14)), defScope (inClass (top 48) 14), 3, [], .none, .none, .none, (.str "shadowpages.ways" 750), none, (.ref 534), .none, 0⟩), #[]⟩) ::
  (nat_lit 536, ⟨(.type "tuple"), none, (.seq #[] 0), #[]⟩) ::
  (nat_lit 538, ⟨(.type "tuple"), none, (.seq #[(.str "self" 901), (.str "page" 902)] 0), #[]⟩) ::
  (nat_lit 539, ⟨(.type "tuple"), none, (.seq #[] 0), #[]⟩) ::
  (nat_lit 541, ⟨(.type "code"), none, (.fields #[(.str "give" 898), (.str "Ways.give" 899), (.str "/claim/cut.py" 900), (.int 262 0), (.int 2 0), (.int 0 0), (.int 0 0), (.int 3 0), (.ref 536), (.bool true), (.int 181 0), (.ref 537), .none, (.ref 538), (.ref 539), (.ref 540), (.int 903 0), (.int 262 0), (.str "/claim/cut.py" 904)]), #[]⟩) ::
  (nat_lit 542, ⟨(.type "function"), none, (.func ⟨"give", "Ways.give", defArgs (inClass (top 48) 15), .stmts (defBody (inClass (top 48) 15)), defScope (inClass (top 48) 15), 3, [], .none, .none, .none, (.str "shadowpages.ways" 750), none, (.ref 541), .none, 0⟩), #[]⟩) ::
  (nat_lit 543, ⟨(.type "tuple"), none, (.seq #[] 0), #[]⟩) ::
  (nat_lit 545, ⟨(.type "tuple"), none, (.seq #[(.str "self" 909), (.str "page" 910)] 0), #[]⟩) ::
  (nat_lit 546, ⟨(.type "tuple"), none, (.seq #[] 0), #[]⟩) ::
  (nat_lit 548, ⟨(.type "code"), none, (.fields #[(.str "want" 906), (.str "Ways.want" 907), (.str "/claim/cut.py" 908), (.int 265 0), (.int 2 0), (.int 0 0), (.int 0 0), (.int 3 0), (.ref 543), (.bool true), (.int 181 0), (.ref 544), .none, (.ref 545), (.ref 546), (.ref 547), (.int 911 0), (.int 265 0), (.str "/claim/cut.py" 912)]), #[]⟩) ::
  (nat_lit 549, ⟨(.type "function"), none, (.func ⟨"want", "Ways.want", defArgs (inClass (top 48) 16), .stmts (defBody (inClass (top 48) 16)), defScope (inClass (top 48) 16), 3, [], .none, .none, .none, (.str "shadowpages.ways" 750), none, (.ref 548), .none, 0⟩), #[]⟩) ::
  (nat_lit 550, ⟨(.type "tuple"), none, (.seq #[] 0), #[]⟩) ::
  (nat_lit 552, ⟨(.type "tuple"), none, (.seq #[(.str "self" 917)] 0), #[]⟩) ::
  (nat_lit 553, ⟨(.type "tuple"), none, (.seq #[] 0), #[]⟩) ::
  (nat_lit 555, ⟨(.type "code"), none, (.fields #[(.str "shelf" 914), (.str "Ways.shelf" 915), (.str "/claim/cut.py" 916), (.int 268 0), (.int 1 0), (.int 0 0), (.int 0 0), (.int 3 0), (.ref 550), (.bool true), (.int 181 0), (.ref 551), .none, (.ref 552), (.ref 553), (.ref 554), (.int 918 0), (.int 268 0), (.str "/claim/cut.py" 919)]), #[]⟩) ::
  (nat_lit 556, ⟨(.type "function"), none, (.func ⟨"shelf", "Ways.shelf", defArgs (inClass (top 48) 17), .stmts (defBody (inClass (top 48) 17)), defScope (inClass (top 48) 17), 3, [], .none, .none, .none, (.str "shadowpages.ways" 750), none, (.ref 555), .none, 0⟩), #[]⟩) ::
  (nat_lit 557, ⟨(.type "tuple"), none, (.seq #[] 0), #[]⟩) ::
  (nat_lit 560, ⟨(.type "code"), none, (.fields #[(.str "pages" 921), (.str "Ways.pages" 922), (.str "/claim/cut.py" 923), (.int 271 0), (.int 1 0), (.int 0 0), (.int 0 0), (.int 3 0), (.ref 557), (.bool true), (.int 181 0), (.ref 558), .none, .none, .none, (.ref 559), (.int 924 0), (.int 271 0), (.str "/claim/cut.py" 925)]), #[]⟩) ::
  (nat_lit 561, ⟨(.type "function"), none, (.func ⟨"pages", "Ways.pages", defArgs (inClass (top 48) 18), .stmts (defBody (inClass (top 48) 18)), defScope (inClass (top 48) 18), 3, [], .none, .none, .none, (.str "shadowpages.ways" 750), none, (.ref 560), .none, 0⟩), #[]⟩) ::
  (nat_lit 562, ⟨(.type "tuple"), none, (.seq #[(.str "base" 927), (.str "rack" 928)] 0), #[]⟩) ::
  (nat_lit 563, ⟨(.type "dict"), none, (.dict #[⟨(PyData.keyHash P "__module__"), (.str "__module__" 759), (.str "shadowpages.ways" 750)⟩, ⟨(PyData.keyHash P "__firstlineno__"), (.str "__firstlineno__" 763), (.int 198 762)⟩, ⟨(PyData.keyHash P "__init__"), (.str "__init__" 771), (.ref 437)⟩, ⟨(PyData.keyHash P "give_up"), (.str "give_up" 779), (.ref 444)⟩, ⟨(PyData.keyHash P "come_back"), (.str "come_back" 787), (.ref 451)⟩, ⟨(PyData.keyHash P "ask_house"), (.str "ask_house" 794), (.ref 458)⟩, ⟨(PyData.keyHash P "load"), (.str "load" 804), (.ref 465)⟩, ⟨(PyData.keyHash P "save"), (.str "save" 815), (.ref 472)⟩, ⟨(PyData.keyHash P "reach"), (.str "reach" 826), (.ref 479)⟩, ⟨(PyData.keyHash P "remembered"), (.str "remembered" 837), (.ref 486)⟩, ⟨(PyData.keyHash P "walked"), (.str "walked" 849), (.ref 493)⟩, ⟨(PyData.keyHash P "peek"), (.str "peek" 857), (.ref 500)⟩, ⟨(PyData.keyHash P "poke"), (.str "poke" 866), (.ref 507)⟩, ⟨(PyData.keyHash P "check_beyond"), (.str "check_beyond" 874), (.ref 514)⟩, ⟨(PyData.keyHash P "root"), (.str "root" 881), (.ref 521)⟩, ⟨(PyData.keyHash P "turn_root"), (.str "turn_root" 889), (.ref 528)⟩, ⟨(PyData.keyHash P "drop"), (.str "drop" 897), (.ref 535)⟩, ⟨(PyData.keyHash P "give"), (.str "give" 905), (.ref 542)⟩, ⟨(PyData.keyHash P "want"), (.str "want" 913), (.ref 549)⟩, ⟨(PyData.keyHash P "shelf"), (.str "shelf" 920), (.ref 556)⟩, ⟨(PyData.keyHash P "pages"), (.str "pages" 926), (.ref 561)⟩, ⟨(PyData.keyHash P "__static_attributes__"), (.str "__static_attributes__" 929), (.ref 562)⟩, ⟨(PyData.keyHash P "__doc__"), (.str "__doc__" 930), .none⟩] 2), #[]⟩) ::
  (nat_lit 564, ⟨(.type "type"), none, (.cls ⟨"Ways", [(.ref 292)], [(.ref 564), (.ref 292), (.type "object")], 563, "Ways", true, [], [(.ref 632)], false, none, false⟩), #[(some (.ref 424)), none, (some (.str "Ways" 752)), (some (.str "Ways" 760)), (some (.builtin "object.__new__")), (some (.bool true))]⟩) ::
  (nat_lit 567, ⟨(.type "tuple"), none, (.seq #[(.ref 564)] 0), #[]⟩) ::
  (nat_lit 574, ⟨(.type "tuple"), none, (.seq #[] 0), #[]⟩) ::
  (nat_lit 576, ⟨(.type "tuple"), none, (.seq #[(.str "self" 948), (.str "pages" 949), (.str "most" 950), (.str "words" 951)] 0), #[]⟩) ::
  (nat_lit 577, ⟨(.type "tuple"), none, (.seq #[] 0), #[]⟩) ::
  (nat_lit 579, ⟨(.type "code"), none, (.fields #[(.str "__init__" 945), (.str "Plain.__init__" 946), (.str "/claim/cut.py" 947), (.int 275 0), (.int 4 0), (.int 0 0), (.int 0 0), (.int 3 0), (.ref 574), (.bool true), (.int 181 0), (.ref 575), .none, (.ref 576), (.ref 577), (.ref 578), (.int 952 0), (.int 275 0), (.str "/claim/cut.py" 953)]), #[]⟩) ::
  (nat_lit 580, ⟨(.type "function"), none, (.func ⟨"__init__", "Plain.__init__", defArgs (inClass (top 49) 0), .stmts (defBody (inClass (top 49) 0)), defScope (inClass (top 49) 0), 3, [], .none, .none, .none, (.str "shadowpages.ways" 750), none, (.ref 579), .none, 0⟩), #[]⟩) ::
  (nat_lit 581, ⟨(.type "tuple"), none, (.seq #[] 0), #[]⟩) ::
  (nat_lit 583, ⟨(.type "tuple"), none, (.seq #[(.str "self" 958)] 0), #[]⟩) ::
  (nat_lit 584, ⟨(.type "tuple"), none, (.seq #[] 0), #[]⟩) ::
  (nat_lit 586, ⟨(.type "code"), none, (.fields #[(.str "size" 955), (.str "Plain.size" 956), (.str "/claim/cut.py" 957), (.int 280 0), (.int 1 0), (.int 0 0), (.int 0 0), (.int 3 0), (.ref 581), (.bool true), (.int 181 0), (.ref 582), .none, (.ref 583), (.ref 584), (.ref 585), (.int 959 0), (.int 280 0), (.str "/claim/cut.py" 960)]), #[]⟩) ::
  (nat_lit 587, ⟨(.type "function"), none, (.func ⟨"size", "Plain.size", defArgs (inClass (top 49) 1), .stmts (defBody (inClass (top 49) 1)), defScope (inClass (top 49) 1), 3, [], .none, .none, .none, (.str "shadowpages.ways" 750), none, (.ref 586), .none, 0⟩), #[]⟩) ::
  (nat_lit 588, ⟨(.type "tuple"), none, (.seq #[] 0), #[]⟩) ::
  (nat_lit 590, ⟨(.type "tuple"), none, (.seq #[(.str "self" 965), (.str "page" 966)] 0), #[]⟩) ::
  (nat_lit 591, ⟨(.type "tuple"), none, (.seq #[] 0), #[]⟩) ::
  (nat_lit 593, ⟨(.type "code"), none, (.fields #[(.str "has" 962), (.str "Plain.has" 963), (.str "/claim/cut.py" 964), (.int 283 0), (.int 2 0), (.int 0 0), (.int 0 0), (.int 3 0), (.ref 588), (.bool true), (.int 181 0), (.ref 589), .none, (.ref 590), (.ref 591), (.ref 592), (.int 967 0), (.int 283 0), (.str "/claim/cut.py" 968)]), #[]⟩) ::
  (nat_lit 594, ⟨(.type "function"), none, (.func ⟨"has", "Plain.has", defArgs (inClass (top 49) 2), .stmts (defBody (inClass (top 49) 2)), defScope (inClass (top 49) 2), 3, [], .none, .none, .none, (.str "shadowpages.ways" 750), none, (.ref 593), .none, 0⟩), #[]⟩) ::
  (nat_lit 595, ⟨(.type "tuple"), none, (.seq #[] 0), #[]⟩) ::
  (nat_lit 597, ⟨(.type "tuple"), none, (.seq #[(.str "self" 973), (.str "page" 974), (.str "cell" 975)] 0), #[]⟩) ::
  (nat_lit 598, ⟨(.type "tuple"), none, (.seq #[] 0), #[]⟩) ::
  (nat_lit 600, ⟨(.type "code"), none, (.fields #[(.str "word_at" 970), (.str "Plain.word_at" 971), (.str "/claim/cut.py" 972), (.int 286 0), (.int 3 0), (.int 0 0), (.int 0 0), (.int 3 0), (.ref 595), (.bool true), (.int 181 0), (.ref 596), .none, (.ref 597), (.ref 598), (.ref 599), (.int 976 0), (.int 286 0), (.str "/claim/cut.py" 977)]), #[]⟩) ::
  (nat_lit 601, ⟨(.type "function"), none, (.func ⟨"word_at", "Plain.word_at", defArgs (inClass (top 49) 3), .stmts (defBody (inClass (top 49) 3)), defScope (inClass (top 49) 3), 3, [], .none, .none, .none, (.str "shadowpages.ways" 750), none, (.ref 600), .none, 0⟩), #[]⟩) ::
  (nat_lit 602, ⟨(.type "tuple"), none, (.seq #[] 0), #[]⟩) ::
  (nat_lit 604, ⟨(.type "tuple"), none, (.seq #[(.str "self" 982), (.str "page" 983), (.str "cell" 984), (.str "word" 985)] 0), #[]⟩) ::
  (nat_lit 605, ⟨(.type "tuple"), none, (.seq #[] 0), #[]⟩) ::
  (nat_lit 607, ⟨(.type "code"), none, (.fields #[(.str "put_word" 979), (.str "Plain.put_word" 980), (.str "/claim/cut.py" 981), (.int 289 0), (.int 4 0), (.int 0 0), (.int 0 0), (.int 3 0), (.ref 602), (.bool true), (.int 181 0), (.ref 603), .none, (.ref 604), (.ref 605), (.ref 606), (.int 986 0), (.int 289 0), (.str "/claim/cut.py" 987)]), #[]⟩) ::
  (nat_lit 608, ⟨(.type "function"), none, (.func ⟨"put_word", "Plain.put_word", defArgs (inClass (top 49) 4), .stmts (defBody (inClass (top 49) 4)), defScope (inClass (top 49) 4), 3, [], .none, .none, .none, (.str "shadowpages.ways" 750), none, (.ref 607), .none, 0⟩), #[]⟩) ::
  (nat_lit 609, ⟨(.type "tuple"), none, (.seq #[] 0), #[]⟩) ::
  (nat_lit 611, ⟨(.type "tuple"), none, (.seq #[(.str "self" 992), (.str "page" 993)] 0), #[]⟩) ::
  (nat_lit 612, ⟨(.type "tuple"), none, (.seq #[] 0), #[]⟩) ::
  (nat_lit 614, ⟨(.type "code"), none, (.fields #[(.str "give_up" 989), (.str "Plain.give_up" 990), (.str "/claim/cut.py" 991), (.int 292 0), (.int 2 0), (.int 0 0), (.int 0 0), (.int 3 0), (.ref 609), (.bool true), (.int 181 0), (.ref 610), .none, (.ref 611), (.ref 612), (.ref 613), (.int 994 0), (.int 292 0), (.str "/claim/cut.py" 995)]), #[]⟩) ::
  (nat_lit 615, ⟨(.type "function"), none, (.func ⟨"give_up", "Plain.give_up", defArgs (inClass (top 49) 5), .stmts (defBody (inClass (top 49) 5)), defScope (inClass (top 49) 5), 3, [], .none, .none, .none, (.str "shadowpages.ways" 750), none, (.ref 614), .none, 0⟩), #[]⟩) ::
  (nat_lit 616, ⟨(.type "tuple"), none, (.seq #[] 0), #[]⟩) ::
  (nat_lit 618, ⟨(.type "tuple"), none, (.seq #[(.str "self" 1000), (.str "page" 1001)] 0), #[]⟩) ::
  (nat_lit 619, ⟨(.type "tuple"), none, (.seq #[] 0), #[]⟩) ::
  (nat_lit 621, ⟨(.type "code"), none, (.fields #[(.str "come_back" 997), (.str "Plain.come_back" 998), (.str "/claim/cut.py" 999), (.int 295 0), (.int 2 0), (.int 0 0), (.int 0 0), (.int 3 0), (.ref 616), (.bool true), (.int 181 0), (.ref 617), .none, (.ref 618), (.ref 619), (.ref 620), (.int 1002 0), (.int 295 0), (.str "/claim/cut.py" 1003)]), #[]⟩) ::
  (nat_lit 622, ⟨(.type "function"), none, (.func ⟨"come_back", "Plain.come_back", defArgs (inClass (top 49) 6), .stmts (defBody (inClass (top 49) 6)), defScope (inClass (top 49) 6), 3, [], .none, .none, .none, (.str "shadowpages.ways" 750), none, (.ref 621), .none, 0⟩), #[]⟩) ::
  (nat_lit 623, ⟨(.type "tuple"), none, (.seq #[] 0), #[]⟩) ::
  (nat_lit 625, ⟨(.type "tuple"), none, (.seq #[(.str "self" 1008)] 0), #[]⟩) ::
  (nat_lit 626, ⟨(.type "tuple"), none, (.seq #[] 0), #[]⟩) ::
  (nat_lit 628, ⟨(.type "code"), none, (.fields #[(.str "ask_house" 1005), (.str "Plain.ask_house" 1006), (.str "/claim/cut.py" 1007), (.int 298 0), (.int 1 0), (.int 0 0), (.int 0 0), (.int 3 0), (.ref 623), (.bool true), (.int 181 0), (.ref 624), .none, (.ref 625), (.ref 626), (.ref 627), (.int 1009 0), (.int 298 0), (.str "/claim/cut.py" 1010)]), #[]⟩) ::
  (nat_lit 629, ⟨(.type "function"), none, (.func ⟨"ask_house", "Plain.ask_house", defArgs (inClass (top 49) 7), .stmts (defBody (inClass (top 49) 7)), defScope (inClass (top 49) 7), 3, [], .none, .none, .none, (.str "shadowpages.ways" 750), none, (.ref 628), .none, 0⟩), #[]⟩) ::
  (nat_lit 630, ⟨(.type "tuple"), none, (.seq #[(.str "answers" 1012), (.str "memory" 1013)] 0), #[]⟩) ::
  (nat_lit 631, ⟨(.type "dict"), none, (.dict #[⟨(PyData.keyHash P "__module__"), (.str "__module__" 940), (.str "shadowpages.ways" 750)⟩, ⟨(PyData.keyHash P "__firstlineno__"), (.str "__firstlineno__" 944), (.int 273 943)⟩, ⟨(PyData.keyHash P "__init__"), (.str "__init__" 954), (.ref 580)⟩, ⟨(PyData.keyHash P "size"), (.str "size" 961), (.ref 587)⟩, ⟨(PyData.keyHash P "has"), (.str "has" 969), (.ref 594)⟩, ⟨(PyData.keyHash P "word_at"), (.str "word_at" 978), (.ref 601)⟩, ⟨(PyData.keyHash P "put_word"), (.str "put_word" 988), (.ref 608)⟩, ⟨(PyData.keyHash P "give_up"), (.str "give_up" 996), (.ref 615)⟩, ⟨(PyData.keyHash P "come_back"), (.str "come_back" 1004), (.ref 622)⟩, ⟨(PyData.keyHash P "ask_house"), (.str "ask_house" 1011), (.ref 629)⟩, ⟨(PyData.keyHash P "__static_attributes__"), (.str "__static_attributes__" 1014), (.ref 630)⟩, ⟨(PyData.keyHash P "__doc__"), (.str "__doc__" 1015), .none⟩] 2), #[]⟩) ::
  (nat_lit 632, ⟨(.type "type"), none, (.cls ⟨"Plain", [(.ref 564)], [(.ref 632), (.ref 564), (.ref 292), (.type "object")], 631, "Plain", true, [], [], false, none, false⟩), #[(some (.ref 567)), none, (some (.str "Plain" 933)), (some (.str "Plain" 941)), (some (.builtin "object.__new__")), (some (.bool true))]⟩) ::
  (nat_lit 635, ⟨(.type "tuple"), none, (.seq #[] 0), #[]⟩) ::
  (nat_lit 637, ⟨(.type "tuple"), none, (.seq #[(.str "_law_script" 1023), (.str "_law_k" 1024)] 0), #[]⟩) ::
  (nat_lit 638, ⟨(.type "tuple"), none, (.seq #[] 0), #[]⟩) ::
  (nat_lit 640, ⟨(.type "code"), none, (.fields #[(.str "_law_cell_at" 1020), (.str "_law_cell_at" 1021), (.str "/claim/cut.py" 1022), (.int 301 0), (.int 2 0), (.int 0 0), (.int 0 0), (.int 3 0), (.ref 635), (.bool true), (.int 181 0), (.ref 636), .none, (.ref 637), (.ref 638), (.ref 639), (.int 1025 0), (.int 301 0), (.str "/claim/cut.py" 1026)]), #[]⟩) ::
  (nat_lit 641, ⟨(.type "function"), none, (.func ⟨"_law_cell_at", "_law_cell_at", defArgs (top 51), .stmts (defBody (top 51)), defScope (top 51), 3, [], .none, .none, .none, (.str "law_shadowpages_k25_one_reach" 1018), none, (.ref 640), .none, 0⟩), #[]⟩) ::
  (nat_lit 642, ⟨(.type "tuple"), none, (.seq #[] 0), #[]⟩) ::
  (nat_lit 644, ⟨(.type "tuple"), none, (.seq #[(.str "_law_found" 1031)] 0), #[]⟩) ::
  (nat_lit 645, ⟨(.type "tuple"), none, (.seq #[] 0), #[]⟩) ::
  (nat_lit 647, ⟨(.type "code"), none, (.fields #[(.str "_law_whole" 1028), (.str "_law_whole" 1029), (.str "/claim/cut.py" 1030), (.int 305 0), (.int 1 0), (.int 0 0), (.int 0 0), (.int 3 0), (.ref 642), (.bool true), (.int 181 0), (.ref 643), .none, (.ref 644), (.ref 645), (.ref 646), (.int 1032 0), (.int 305 0), (.str "/claim/cut.py" 1033)]), #[]⟩) ::
  (nat_lit 648, ⟨(.type "function"), none, (.func ⟨"_law_whole", "_law_whole", defArgs (top 52), .stmts (defBody (top 52)), defScope (top 52), 3, [], .none, .none, .none, (.str "law_shadowpages_k25_one_reach" 1018), none, (.ref 647), .none, 0⟩), #[]⟩) ::
  (nat_lit 649, ⟨(.type "tuple"), none, (.seq #[] 0), #[]⟩) ::
  (nat_lit 651, ⟨(.type "tuple"), none, (.seq #[(.str "_law_mixed" 1038), (.str "_law_many" 1039), (.str "_law_marks" 1040), (.str "_law_page" 1041)] 0), #[]⟩) ::
  (nat_lit 652, ⟨(.type "tuple"), none, (.seq #[] 0), #[]⟩) ::
  (nat_lit 654, ⟨(.type "code"), none, (.fields #[(.str "_law_row_by" 1035), (.str "_law_row_by" 1036), (.str "/claim/cut.py" 1037), (.int 307 0), (.int 2 0), (.int 0 0), (.int 0 0), (.int 3 0), (.ref 649), (.bool true), (.int 181 0), (.ref 650), .none, (.ref 651), (.ref 652), (.ref 653), (.int 1042 0), (.int 307 0), (.str "/claim/cut.py" 1043)]), #[]⟩) ::
  (nat_lit 655, ⟨(.type "function"), none, (.func ⟨"_law_row_by", "_law_row_by", defArgs (top 53), .stmts (defBody (top 53)), defScope (top 53), 3, [], .none, .none, .none, (.str "law_shadowpages_k25_one_reach" 1018), none, (.ref 654), .none, 0⟩), #[]⟩) ::
  (nat_lit 656, ⟨(.type "tuple"), none, (.seq #[] 0), #[]⟩) ::
  (nat_lit 658, ⟨(.type "tuple"), none, (.seq #[(.str "_law_script" 1048), (.str "_law_cell" 1049), (.str "_law_many" 1050), (.str "_law_mixed" 1051), (.str "_law_pages_here" 1052), (.str "_law_page" 1053), (.str "_law_words" 1054), (.str "_law_k" 1055)] 0), #[]⟩) ::
  (nat_lit 659, ⟨(.type "tuple"), none, (.seq #[] 0), #[]⟩) ::
  (nat_lit 661, ⟨(.type "code"), none, (.fields #[(.str "_law_pages" 1045), (.str "_law_pages" 1046), (.str "/claim/cut.py" 1047), (.int 315 0), (.int 1 0), (.int 0 0), (.int 0 0), (.int 3 0), (.ref 656), (.bool true), (.int 181 0), (.ref 657), .none, (.ref 658), (.ref 659), (.ref 660), (.int 1056 0), (.int 315 0), (.str "/claim/cut.py" 1057)]), #[]⟩) ::
  (nat_lit 662, ⟨(.type "function"), none, (.func ⟨"_law_pages", "_law_pages", defArgs (top 54), .stmts (defBody (top 54)), defScope (top 54), 3, [], .none, .none, .none, (.str "law_shadowpages_k25_one_reach" 1018), none, (.ref 661), .none, 0⟩), #[]⟩) ::
  (nat_lit 663, ⟨(.type "tuple"), none, (.seq #[] 0), #[]⟩) ::
  (nat_lit 665, ⟨(.type "tuple"), none, (.seq #[(.str "_law_pages_here" 1062), (.str "_law_found" 1063), (.str "_law_words" 1064)] 0), #[]⟩) ::
  (nat_lit 666, ⟨(.type "tuple"), none, (.seq #[] 0), #[]⟩) ::
  (nat_lit 668, ⟨(.type "code"), none, (.fields #[(.str "_law_copy" 1059), (.str "_law_copy" 1060), (.str "/claim/cut.py" 1061), (.int 331 0), (.int 1 0), (.int 0 0), (.int 0 0), (.int 3 0), (.ref 663), (.bool true), (.int 181 0), (.ref 664), .none, (.ref 665), (.ref 666), (.ref 667), (.int 1065 0), (.int 331 0), (.str "/claim/cut.py" 1066)]), #[]⟩) ::
  (nat_lit 669, ⟨(.type "function"), none, (.func ⟨"_law_copy", "_law_copy", defArgs (top 55), .stmts (defBody (top 55)), defScope (top 55), 3, [], .none, .none, .none, (.str "law_shadowpages_k25_one_reach" 1018), none, (.ref 668), .none, 0⟩), #[]⟩) ::
  (nat_lit 670, ⟨(.type "tuple"), none, (.seq #[] 0), #[]⟩) ::
  (nat_lit 672, ⟨(.type "tuple"), none, (.seq #[(.str "_law_cell" 1071), (.str "_law_pick" 1072)] 0), #[]⟩) ::
  (nat_lit 673, ⟨(.type "tuple"), none, (.seq #[] 0), #[]⟩) ::
  (nat_lit 675, ⟨(.type "code"), none, (.fields #[(.str "_law_place" 1068), (.str "_law_place" 1069), (.str "/claim/cut.py" 1070), (.int 339 0), (.int 1 0), (.int 0 0), (.int 0 0), (.int 3 0), (.ref 670), (.bool true), (.int 181 0), (.ref 671), .none, (.ref 672), (.ref 673), (.ref 674), (.int 1073 0), (.int 339 0), (.str "/claim/cut.py" 1074)]), #[]⟩) ::
  (nat_lit 676, ⟨(.type "function"), none, (.func ⟨"_law_place", "_law_place", defArgs (top 56), .stmts (defBody (top 56)), defScope (top 56), 3, [], .none, .none, .none, (.str "law_shadowpages_k25_one_reach" 1018), none, (.ref 675), .none, 0⟩), #[]⟩) ::
  (nat_lit 677, ⟨(.type "tuple"), none, (.seq #[] 0), #[]⟩) ::
  (nat_lit 679, ⟨(.type "tuple"), none, (.seq #[(.str "_law_found" 1079), (.str "_law_due" 1080), (.str "_law_words" 1081), (.str "_law_word" 1082)] 0), #[]⟩) ::
  (nat_lit 680, ⟨(.type "tuple"), none, (.seq #[] 0), #[]⟩) ::
  (nat_lit 682, ⟨(.type "code"), none, (.fields #[(.str "_law_is_image" 1076), (.str "_law_is_image" 1077), (.str "/claim/cut.py" 1078), (.int 348 0), (.int 2 0), (.int 0 0), (.int 0 0), (.int 3 0), (.ref 677), (.bool true), (.int 181 0), (.ref 678), .none, (.ref 679), (.ref 680), (.ref 681), (.int 1083 0), (.int 348 0), (.str "/claim/cut.py" 1084)]), #[]⟩) ::
  (nat_lit 683, ⟨(.type "function"), none, (.func ⟨"_law_is_image", "_law_is_image", defArgs (top 57), .stmts (defBody (top 57)), defScope (top 57), 3, [], .none, .none, .none, (.str "law_shadowpages_k25_one_reach" 1018), none, (.ref 682), .none, 0⟩), #[]⟩) ::
  (nat_lit 684, ⟨(.type "tuple"), none, (.seq #[] 0), #[]⟩) ::
  (nat_lit 686, ⟨(.type "tuple"), none, (.seq #[(.str "_law_found" 1089), (.str "_law_due" 1090), (.str "_law_row" 1091), (.str "_law_part" 1092)] 0), #[]⟩) ::
  (nat_lit 687, ⟨(.type "tuple"), none, (.seq #[] 0), #[]⟩) ::
  (nat_lit 689, ⟨(.type "code"), none, (.fields #[(.str "_law_is_shelf" 1086), (.str "_law_is_shelf" 1087), (.str "/claim/cut.py" 1088), (.int 359 0), (.int 2 0), (.int 0 0), (.int 0 0), (.int 3 0), (.ref 684), (.bool true), (.int 181 0), (.ref 685), .none, (.ref 686), (.ref 687), (.ref 688), (.int 1093 0), (.int 359 0), (.str "/claim/cut.py" 1094)]), #[]⟩) ::
  (nat_lit 690, ⟨(.type "function"), none, (.func ⟨"_law_is_shelf", "_law_is_shelf", defArgs (top 58), .stmts (defBody (top 58)), defScope (top 58), 3, [], .none, .none, .none, (.str "law_shadowpages_k25_one_reach" 1018), none, (.ref 689), .none, 0⟩), #[]⟩) ::
  (nat_lit 691, ⟨(.type "tuple"), none, (.seq #[] 0), #[]⟩) ::
  (nat_lit 693, ⟨(.type "tuple"), none, (.seq #[(.str "_law_pages_here" 1099), (.str "_law_page" 1100)] 0), #[]⟩) ::
  (nat_lit 694, ⟨(.type "tuple"), none, (.seq #[] 0), #[]⟩) ::
  (nat_lit 696, ⟨(.type "code"), none, (.fields #[(.str "_law_there" 1096), (.str "_law_there" 1097), (.str "/claim/cut.py" 1098), (.int 369 0), (.int 2 0), (.int 0 0), (.int 0 0), (.int 3 0), (.ref 691), (.bool true), (.int 181 0), (.ref 692), .none, (.ref 693), (.ref 694), (.ref 695), (.int 1101 0), (.int 369 0), (.str "/claim/cut.py" 1102)]), #[]⟩) ::
  (nat_lit 697, ⟨(.type "function"), none, (.func ⟨"_law_there", "_law_there", defArgs (top 59), .stmts (defBody (top 59)), defScope (top 59), 3, [], .none, .none, .none, (.str "law_shadowpages_k25_one_reach" 1018), none, (.ref 696), .none, 0⟩), #[]⟩) ::
  (nat_lit 698, ⟨(.type "tuple"), none, (.seq #[] 0), #[]⟩) ::
  (nat_lit 700, ⟨(.type "tuple"), none, (.seq #[(.str "_law_root" 1107), (.str "_law_pages_here" 1108), (.str "_law_place_here" 1109), (.str "_law_write" 1110), (.str "_law_kernel" 1111), (.str "_law_spots" 1112), (.str "_law_page" 1113), (.str "_law_rights" 1114), (.str "_law_level" 1115), (.str "_law_cell" 1116), (.str "_law_row" 1117)] 0), #[]⟩) ::
  (nat_lit 701, ⟨(.type "tuple"), none, (.seq #[] 0), #[]⟩) ::
  (nat_lit 703, ⟨(.type "code"), none, (.fields #[(.str "_law_walk" 1104), (.str "_law_walk" 1105), (.str "/claim/cut.py" 1106), (.int 371 0), (.int 5 0), (.int 0 0), (.int 0 0), (.int 3 0), (.ref 698), (.bool true), (.int 181 0), (.ref 699), .none, (.ref 700), (.ref 701), (.ref 702), (.int 1118 0), (.int 371 0), (.str "/claim/cut.py" 1119)]), #[]⟩) ::
  (nat_lit 704, ⟨(.type "function"), none, (.func ⟨"_law_walk", "_law_walk", defArgs (top 60), .stmts (defBody (top 60)), defScope (top 60), 3, [], .none, .none, .none, (.str "law_shadowpages_k25_one_reach" 1018), none, (.ref 703), .none, 0⟩), #[]⟩) ::
  (nat_lit 705, ⟨(.type "tuple"), none, (.seq #[] 0), #[]⟩) ::
  (nat_lit 707, ⟨(.type "tuple"), none, (.seq #[(.str "_law_pages_here" 1124), (.str "_law_trail" 1125), (.str "_law_write" 1126), (.str "_law_spot" 1127), (.str "_law_bits" 1128), (.str "_law_bit" 1129)] 0), #[]⟩) ::
  (nat_lit 708, ⟨(.type "tuple"), none, (.seq #[] 0), #[]⟩) ::
  (nat_lit 710, ⟨(.type "code"), none, (.fields #[(.str "_law_marked" 1121), (.str "_law_marked" 1122), (.str "/claim/cut.py" 1123), (.int 398 0), (.int 3 0), (.int 0 0), (.int 0 0), (.int 3 0), (.ref 705), (.bool true), (.int 181 0), (.ref 706), .none, (.ref 707), (.ref 708), (.ref 709), (.int 1130 0), (.int 398 0), (.str "/claim/cut.py" 1131)]), #[]⟩) ::
  (nat_lit 711, ⟨(.type "function"), none, (.func ⟨"_law_marked", "_law_marked", defArgs (top 61), .stmts (defBody (top 61)), defScope (top 61), 3, [], .none, .none, .none, (.str "law_shadowpages_k25_one_reach" 1018), none, (.ref 710), .none, 0⟩), #[]⟩) ::
  (nat_lit 712, ⟨(.type "tuple"), none, (.seq #[] 0), #[]⟩) ::
  (nat_lit 714, ⟨(.type "tuple"), none, (.seq #[(.str "_law_found" 1136), (.str "_law_due" 1137)] 0), #[]⟩) ::
  (nat_lit 715, ⟨(.type "tuple"), none, (.seq #[] 0), #[]⟩) ::
  (nat_lit 717, ⟨(.type "code"), none, (.fields #[(.str "_law_alike" 1133), (.str "_law_alike" 1134), (.str "/claim/cut.py" 1135), (.int 406 0), (.int 2 0), (.int 0 0), (.int 0 0), (.int 3 0), (.ref 712), (.bool true), (.int 181 0), (.ref 713), .none, (.ref 714), (.ref 715), (.ref 716), (.int 1138 0), (.int 406 0), (.str "/claim/cut.py" 1139)]), #[]⟩) ::
  (nat_lit 718, ⟨(.type "function"), none, (.func ⟨"_law_alike", "_law_alike", defArgs (top 62), .stmts (defBody (top 62)), defScope (top 62), 3, [], .none, .none, .none, (.str "law_shadowpages_k25_one_reach" 1018), none, (.ref 717), .none, 0⟩), #[]⟩) ::
  (nat_lit 719, ⟨(.type "tuple"), none, (.seq #[] 0), #[]⟩) ::
  (nat_lit 721, ⟨(.type "tuple"), none, (.seq #[(.str "_law_way" 1144), (.str "_law_place_here" 1145), (.str "_law_word" 1146), (.str "_law_write" 1147), (.str "_law_kernel" 1148), (.str "_law_told" 1149), (.str "_law_fault" 1150), (.str "e" 1151)] 0), #[]⟩) ::
  (nat_lit 722, ⟨(.type "tuple"), none, (.seq #[] 0), #[]⟩) ::
  (nat_lit 724, ⟨(.type "code"), none, (.fields #[(.str "_law_do" 1141), (.str "_law_do" 1142), (.str "/claim/cut.py" 1143), (.int 414 0), (.int 5 0), (.int 0 0), (.int 0 0), (.int 3 0), (.ref 719), (.bool true), (.int 181 0), (.ref 720), .none, (.ref 721), (.ref 722), (.ref 723), (.int 1152 0), (.int 414 0), (.str "/claim/cut.py" 1153)]), #[]⟩) ::
  (nat_lit 725, ⟨(.type "function"), none, (.func ⟨"_law_do", "_law_do", defArgs (top 63), .stmts (defBody (top 63)), defScope (top 63), 3, [], .none, .none, .none, (.str "law_shadowpages_k25_one_reach" 1018), none, (.ref 724), .none, 0⟩), #[]⟩) ::
  (nat_lit 726, ⟨(.type "tuple"), none, (.seq #[] 0), #[]⟩) ::
  (nat_lit 728, ⟨(.type "tuple"), none, (.seq #[(.str "_law_way" 1158), (.str "_law_place_here" 1159), (.str "_law_write" 1160), (.str "_law_kernel" 1161), (.str "_law_page" 1162), (.str "_law_fault" 1163), (.str "e" 1164)] 0), #[]⟩) ::
  (nat_lit 729, ⟨(.type "tuple"), none, (.seq #[] 0), #[]⟩) ::
  (nat_lit 731, ⟨(.type "code"), none, (.fields #[(.str "_law_reach" 1155), (.str "_law_reach" 1156), (.str "/claim/cut.py" 1157), (.int 427 0), (.int 4 0), (.int 0 0), (.int 0 0), (.int 3 0), (.ref 726), (.bool true), (.int 181 0), (.ref 727), .none, (.ref 728), (.ref 729), (.ref 730), (.int 1165 0), (.int 427 0), (.str "/claim/cut.py" 1166)]), #[]⟩) ::
  (nat_lit 732, ⟨(.type "function"), none, (.func ⟨"_law_reach", "_law_reach", defArgs (top 64), .stmts (defBody (top 64)), defScope (top 64), 3, [], .none, .none, .none, (.str "law_shadowpages_k25_one_reach" 1018), none, (.ref 731), .none, 0⟩), #[]⟩) ::
  (nat_lit 733, ⟨(.type "tuple"), none, (.seq #[] 0), #[]⟩) ::
  (nat_lit 735, ⟨(.type "tuple"), none, (.seq #[(.str "_law_script" 1171), (.str "_law_pages_here" 1172), (.str "_law_place_here" 1173), (.str "_law_write" 1174), (.str "_law_kernel" 1175), (.str "_law_word" 1176), (.str "_law_root" 1177), (.str "_law_most" 1178), (.str "_law_way" 1179), (.str "_law_beside" 1180), (.str "_law_due" 1181), (.str "_law_rows" 1182), (.str "_law_trail" 1183), (.str "_law_told" 1184), (.str "_law_page" 1185)] 0), #[]⟩) ::
  (nat_lit 736, ⟨(.type "tuple"), none, (.seq #[] 0), #[]⟩) ::
  (nat_lit 738, ⟨(.type "code"), none, (.fields #[(.str "law" 1168), (.str "law" 1169), (.str "/claim/cut.py" 1170), (.int 437 0), (.int 1 0), (.int 0 0), (.int 0 0), (.int 3 0), (.ref 733), (.bool true), (.int 181 0), (.ref 734), .none, (.ref 735), (.ref 736), (.ref 737), (.int 1186 0), (.int 437 0), (.str "/claim/cut.py" 1187)]), #[]⟩) ::
  (nat_lit 739, ⟨(.type "function"), none, (.func ⟨"law", "law", defArgs (top 65), .stmts (defBody (top 65)), defScope (top 65), 3, [], .none, .none, .none, (.str "law_shadowpages_k25_one_reach" 1018), none, (.ref 738), .none, 0⟩), #[]⟩) :: []
def asF : List Nat := [2, 3, 15, 17, 18, 20, 21, 22, 29, 30, 31, 32, 35, 42, 43, 44, 47, 54, 55, 56, 59, 66, 67, 68, 71, 78, 79, 80, 83, 90, 91, 92, 95, 102, 104, 105, 107, 108, 109, 110, 111, 114, 116, 117, 119, 120, 121, 123, 124, 126, 127, 128, 130, 131, 133, 134, 135, 137, 138, 140, 141, 142, 144, 145, 147, 148, 156, 158, 159, 161, 162, 163, 165, 166, 168, 169, 170, 172, 173, 175, 176, 177, 179, 180, 182, 183, 184, 186, 187, 189, 190, 191, 194, 195, 196, 197, 198, 199, 200, 203, 206, 207, 208, 210, 211, 213, 214, 215, 217, 218, 220, 221, 229, 231, 232, 234, 235, 236, 238, 239, 241, 242, 243, 245, 246, 248, 249, 250, 252, 253, 255, 256, 257, 259, 260, 262, 263, 264, 266, 267, 269, 270, 271, 274, 275, 276, 278, 279, 281, 282, 283, 285, 286, 288, 289, 290, 291, 292, 293, 294, 297, 304, 307, 308, 309, 311, 312, 314, 315, 316, 318, 319, 321, 322, 323, 325, 326, 328, 329, 330, 332, 333, 335, 336, 337, 339, 340, 342, 343, 344, 346, 347, 349, 350, 351, 354, 355, 356, 357, 358, 361, 363, 364, 366, 367, 368, 370, 371, 373, 374, 375, 377, 378, 380, 381, 382, 384, 385, 387, 388, 389, 391, 392, 394, 395, 396, 398, 399, 401, 402, 403, 405, 406, 408, 409, 410, 412, 413, 415, 416, 417, 419, 420, 422, 423, 424, 431, 433, 434, 436, 437, 438, 440, 441, 443, 444, 445, 447, 448, 450, 451, 452, 454, 455, 457, 458, 459, 461, 462, 464, 465, 466, 468, 469, 471, 472, 473, 475, 476, 478, 479, 480, 482, 483, 485, 486, 487, 489, 490, 492, 493, 494, 496, 497, 499, 500, 501, 503, 504, 506, 507, 508, 510, 511, 513, 514, 515, 517, 518, 520, 521, 522, 524, 525, 527, 528, 529, 531, 532, 534, 535, 536, 538, 539, 541, 542, 543, 545, 546, 548, 549, 550, 552, 553, 555, 556, 557, 560, 561, 562, 563, 564, 567, 574, 576, 577, 579, 580, 581, 583, 584, 586, 587, 588, 590, 591, 593, 594, 595, 597, 598, 600, 601, 602, 604, 605, 607, 608, 609, 611, 612, 614, 615, 616, 618, 619, 621, 622, 623, 625, 626, 628, 629, 630, 631, 632, 635, 637, 638, 640, 641, 642, 644, 645, 647, 648, 649, 651, 652, 654, 655, 656, 658, 659, 661, 662, 663, 665, 666, 668, 669, 670, 672, 673, 675, 676, 677, 679, 680, 682, 683, 684, 686, 687, 689, 690, 691, 693, 694, 696, 697, 698, 700, 701, 703, 704, 705, 707, 708, 710, 711, 712, 714, 715, 717, 718, 719, 721, 722, 724, 725, 726, 728, 729, 731, 732, 733, 735, 736, 738, 739]
theorem hF (P : Params) : asF = (KF P).map (·.1) := by kernel_rfl
noncomputable def vw : Program := { PySem.Challenge.pw_shadowpages_k25_one_reach with main := { PySem.Challenge.pw_shadowpages_k25_one_reach.main with body := [top 0, top 1, top 2, top 3, top 4, top 5, top 6, top 7, top 9, top 10, top 11, top 12, top 13, top 14, top 15, top 17, top 18, top 19, top 21, top 22, top 24, top 26, top 27, top 28, top 29, top 30, top 32, top 33, top 34, top 35, top 36, top 37, top 38, top 39, top 41, top 42, top 43, top 44, top 45, top 46, top 48, top 49, top 51, top 52, top 53, top 54, top 55, top 56, top 57, top 58, top 59, top 60, top 61, top 62, top 63, top 64, top 65] } }
set_option maxHeartbeats 0 in
theorem hl : PySem.W.LeftO PySem.Challenge.rw_shadowpages_k25_one_reach.row.prog vw [] (fun s => PySem.W.xlAt vw [] s && PySem.W.recOk [] s) (PySem.W.kHook KF asF hF).obs (PySem.W.kHook KF asF hF).val 10878 := by
  refine HT1.left_one (by rfl) (by rfl) (fun _ => rfl) fun w => ?_
  rw [PySem.W.Fast.te2107270133195307567, PySem.W.Fast.te4757257242682413121, PySem.W.Fast.te6483871617321286689, PySem.W.Fast.te3486900944545009338]
  kernel_rfl
end K25
end
section
namespace L2
open PySem PySem.Spec PyProof.Rows
abbrev Key := Sum Int Str
def keyIs : Key → Value → Bool
  | .inl k, v => Value.isInt k v
  | .inr x, v => Value.isStrOf x v
def keyH (w : World) : Key → Int
  | .inl k => hashInt k
  | .inr x => hashStr w x
theorem keyIs_shape : ∀ {k : Key} {v : Value}, keyIs k v = true → (∃ i t, k = Sum.inl i ∧ v = Value.int i t) ∨ (∃ x t, k = Sum.inr x ∧ v = Value.str x t)
  | .inl i, v, h => by
    obtain ⟨t, e⟩ := Value.isInt_shape (k := i) (v := v) h
    exact .inl ⟨i, t, rfl, e⟩
  | .inr x, v, h => by
    obtain ⟨t, e⟩ := Value.isStrOf_shape (x := x) (v := v) h
    exact .inr ⟨x, t, rfl, e⟩
theorem keyIs_int (i : Int) (t : Tok) : keyIs (.inl i) (.int i t) = true := by simp [keyIs, Value.isInt]
theorem keyIs_str (x : Str) (t : Tok) : keyIs (.inr x) (.str x t) = true := by simp [keyIs, Value.isStrOf]
theorem key_ll (a b : Int) : decide ((Sum.inl a : Key) = Sum.inl b) = (a == b) := by
  by_cases e : a = b
  · subst e; simp
  · have h : ¬ (Sum.inl a : Key) = Sum.inl b := fun q => e (Sum.inl.inj q)
    rw [decide_eq_false h]
    exact (beq_eq_false_iff_ne.mpr e).symm
theorem key_rr (a b : Str) : decide ((Sum.inr a : Key) = Sum.inr b) = decide (a = b) := by
  by_cases e : a = b
  · subst e; simp
  · have h : ¬ (Sum.inr a : Key) = Sum.inr b := fun q => e (Sum.inr.inj q)
    rw [decide_eq_false h, decide_eq_false e]
theorem key_lr (a : Int) (b : Str) : decide ((Sum.inl a : Key) = Sum.inr b) = false := decide_eq_false (fun q => nomatch q)
theorem key_rl (a : Str) (b : Int) : decide ((Sum.inr a : Key) = Sum.inl b) = false := decide_eq_false (fun q => nomatch q)
def mixKind (prog : Program) (w : World) : PySem.KeyKind prog w Key where
  is := keyIs
  hash := keyH w
  inj := fun v a b ha hb => by
    rcases keyIs_shape ha with ⟨i, t, rfl, rfl⟩ | ⟨x, t, rfl, rfl⟩
    · rcases keyIs_shape hb with ⟨j, u, rfl, e⟩ | ⟨y, u, rfl, e⟩
      · injection e with e1 _; rw [e1]
      · exact nomatch e
    · rcases keyIs_shape hb with ⟨j, u, rfl, e⟩ | ⟨y, u, rfl, e⟩
      · exact nomatch e
      · injection e with e1 _; rw [e1]
  byValue := fun k v h => by
    rcases keyIs_shape h with ⟨i, t, rfl, rfl⟩ | ⟨x, t, rfl, rfl⟩ <;> rfl
  pyHash := fun hv h => by
    rcases keyIs_shape hv with ⟨i, t, rfl, rfl⟩ | ⟨x, t, rfl, rfl⟩
    · exact wpAny_pyHash_int h
    · exact wpAny_pyHash_str h
  eqBool := fun hu hv h => by
    rcases keyIs_shape hu with ⟨i, t, rfl, rfl⟩ | ⟨x, t, rfl, rfl⟩
    · rcases keyIs_shape hv with ⟨j, u, rfl, rfl⟩ | ⟨y, u, rfl, rfl⟩
      · rw [key_ll] at h; exact wpAny_eqBool_int h
      · rw [key_lr] at h; exact SeqAt.EqAt.int_str i t y u _ _ _ _ h
    · rcases keyIs_shape hv with ⟨j, u, rfl, rfl⟩ | ⟨y, u, rfl, rfl⟩
      · rw [key_rl] at h; exact SeqAt.EqAt.str_int x t j u _ _ _ _ h
      · rw [key_rr] at h; exact wpAny_eqBool_str h
  «strs» := fun k x t v h => by
    rcases keyIs_shape h with ⟨i, u, rfl, e⟩ | ⟨y, u, rfl, e⟩
    · exact nomatch e
    · injection e with e1 _
      subst e1
      cases v <;> rfl
theorem mixKind_int (prog : Program) (w : World) (i : Int) (t : Tok) : (mixKind prog w).is (.inl i) (.int i t) = true := keyIs_int i t
theorem mixKind_str (prog : Program) (w : World) (x : Str) (t : Tok) : (mixKind prog w).is (.inr x) (.str x t) = true := keyIs_str x t
end L2
namespace L2
open PySem PySem.Spec PyProof.Rows
inductive V where
  | non | bl (b : Bool) | int (i : Int) | str (x : Str) | byt (b : Array UInt8) | flt (b : UInt64) | ref (a : Addr) | ty (n : String)
  deriving DecidableEq
def RelV : V → Value → Prop
  | .non, u => u = Value.none
  | .bl b, u => u = Value.bool b
  | .int i, u => ∃ t, u = Value.int i t
  | .str x, u => ∃ t, u = Value.str x t
  | .byt b, u => ∃ t, u = Value.bytes b t
  | .flt b, u => ∃ t, u = Value.float b t
  | .ref a, u => u = Value.ref a
  | .ty n, u => u = Value.type n
abbrev Vals : List V → List Value → Prop := Paired RelV
theorem Vals.length {xs : List V} {us : List Value} (r : Vals xs us) : xs.length = us.length := Paired.length r
theorem Vals.get : ∀ {xs : List V} {us : List Value} {i : Nat} {x : V}, Vals xs us → xs[i]? = some x → ∃ u, us[i]? = some u ∧ RelV x u
  | _, _, _, _, .nil, e => by simp at e
  | _, _, 0, _, .cons r _, e => by simp at e; subst e; exact ⟨_, rfl, r⟩
  | _, _, i + 1, x, .cons _ t, e => by
    obtain ⟨u, h1, h2⟩ := Vals.get (i := i) (x := x) t (by simpa using e)
    exact ⟨u, by simpa using h1, h2⟩
theorem Vals.set {x : V} {u : Value} (r : RelV x u) : ∀ {xs : List V} {us : List Value} (i : Nat), Vals xs us → Vals (xs.set i x) (us.set i u)
  | _, _, _, .nil => .nil
  | _, _, 0, .cons _ t => .cons r t
  | _, _, i + 1, .cons q t => .cons q (Vals.set r i t)
theorem Vals.append : ∀ {xs ys : List V} {us ws : List Value}, Vals xs us → Vals ys ws → Vals (xs ++ ys) (us ++ ws)
  | _, _, _, _, .nil, s => s
  | _, _, _, _, .cons r t, s => .cons r (Vals.append t s)
theorem Vals.take : ∀ {xs : List V} {us : List Value} (n : Nat), Vals xs us → Vals (xs.take n) (us.take n)
  | _, _, 0, _ => .nil
  | _, _, _ + 1, .nil => .nil
  | _, _, n + 1, .cons r t => .cons r (Vals.take n t)
theorem Vals.drop : ∀ {xs : List V} {us : List Value} (n : Nat), Vals xs us → Vals (xs.drop n) (us.drop n)
  | _, _, 0, r => r
  | _, _, _ + 1, .nil => .nil
  | _, _, n + 1, .cons _ t => Vals.drop n t
def RelO : Option V → Option Value → Prop
  | some v, some u => RelV v u
  | none, none => True
  | _, _ => False
def KV {κ : Type} : List (κ × V) → List (κ × Value) → Prop := Paired fun (p : κ × V) (q : κ × Value) => p.1 = q.1 ∧ RelV p.2 q.2
def kV : Key → V
  | .inl i => .int i
  | .inr x => .str x
inductive HO where
    | lst (xs : List V)
    | tup (xs : List V)
    | dK (kvs : List (Key × V)) | dT (kvs : List (List Key × V))
    | set (S : Int → Bool) (n : Nat)
    | ins (C dx : Addr) (fs : List (Str × V))
    | own (x : Addr)
    | xd (fs : List (Str × V))
    | met (f x : Addr)
    | rng (lo hi : Int)
    | frz (o : Obj) (u : HO)
    | tbl (ps : Array Value)
    | ext (φ : Heap → Prop)
abbrev Hp := Addr → Option HO
def upd (H : Hp) (a : Addr) (o : HO) : Hp := fun b => if b = a then some o else H b
theorem upd_same {H : Hp} {a : Addr} {o : HO} : upd H a o a = some o := by unfold upd; rw [if_pos rfl]
theorem upd_ne {H : Hp} {a b : Addr} {o : HO} (h : b ≠ a) : upd H a o b = H b := by unfold upd; rw [if_neg h]
theorem ne_of {H : Hp} {a b : Addr} {o u : HO} (h : H a = some o) (h' : H b = some u) (d : o ≠ u) : a ≠ b := by
  intro e; subst e; rw [h] at h'; exact d (Option.some.inj h')
theorem ne_of_none {H : Hp} {a b : Addr} {o : HO} (h : H a = some o) (h' : H b = none) : a ≠ b := by
  intro e; subst e; rw [h] at h'; cases h'
section
variable (P : Program) (w : World)
def ObjOk (H : Hp) (h : Heap) (a : Addr) : HO → Prop
  | .lst xs => xs.length ≤ sizeLine ∧ ∃ (its : List Value) (n : Nat), Vals xs its ∧ h.get? a = some { cls := .type "list", data := .seq its.toArray n }
  | .tup xs => xs.length ≤ sizeLine ∧ ∃ its : List Value, Vals xs its ∧ IsTup h a its.toArray
  | .dK kvs => kvs.length ≤ sizeLine ∧ (a == sysModules) = false ∧ ∃ vs, KV kvs vs ∧ h.DictOf (mixKind P w) a vs
  | .dT kvs => kvs.length ≤ sizeLine ∧ (a == sysModules) = false ∧ ∃ xs : List (List Key × Addr × Value),
      Paired (fun (p : List Key × V) (q : List Key × Addr × Value) => p.1 = q.1 ∧ H q.2.1 = some (.tup (p.1.map kV)) ∧ RelV p.2 q.2.2) kvs xs ∧
      ∃ o es ep, h.get? a = some o ∧ o.ExactDict ∧ o.data = .dict es ep ∧ es.toList = xs.map (entryOfKey (tupleKind (mixKind P w))) ∧ (xs.map (·.1)).Nodup
  | .set S n => h.SetOf (intKind P w) a S n
  | .ins C dx fs => H dx = some (.own a) ∧ fs.length ≤ 1000 ∧ dx ≠ a ∧ h.get? a = some (PySem.W.instObj C dx) ∧
      ∃ mA, h.Ns1 dx mA ∧ (∀ f, RelO (fs.lookup f) (mA f)) ∧ PySem.Within mA (fs.map (·.1))
  | .own _ => ∃ o, h.get? a = some o
  | .xd fs => ∃ mA, h.Ns1 a mA ∧ ∀ f, RelO (fs.lookup f) (mA f)
  | .rng lo hi => ∃ t u v, h.get? a = some { cls := .type "range", data := .fields #[.int lo t, .int hi u, .int 1 v] }
  | .frz o u => h.get? a = some o ∧ ObjOk H h a u
  | .tbl ps => h.get? a = some { cls := .none, data := .fields ps }
  | .met f x => h.get? a = some (PySem.W.methodObj (.ref f) (.ref x))
  | .ext φ => φ h ∧ (∃ o, h.get? a = some o) ∧ ∀ h1 h2 : Heap, φ h1 → (∀ o, h1.get? a = some o → h2.get? a = some o) → φ h2
def HOk (H : Hp) (h : Heap) : Prop := ∀ a o, H a = some o → ObjOk P w H h a o
end
section
variable {P : Program} {w : World} {H H' : Hp} {h h' : Heap} {a : Addr} {o : HO}
theorem ObjOk.lt (x : ObjOk P w H h a o) : a < h.objs.size := by
  cases o with
  | lst xs => obtain ⟨_, _, _, _, e⟩ := x; exact Heap.lt_size e
  | tup xs => obtain ⟨_, _, _, p⟩ := x; exact p.lt
  | dK kvs => obtain ⟨_, _, _, _, o, _, _, e, _⟩ := x; exact Heap.lt_size e
  | dT kvs => obtain ⟨_, _, _, _, o, _, _, e, _⟩ := x; exact Heap.lt_size e
  | set S n => obtain ⟨o, _, _, _, e, _⟩ := x; exact Heap.lt_size e
  | ins C dx fs => obtain ⟨_, _, _, e, _⟩ := x; exact Heap.lt_size e
  | own y => obtain ⟨_, e⟩ := x; exact Heap.lt_size e
  | xd fs => obtain ⟨_, ⟨_, _, _, e, _⟩, _⟩ := x; exact Heap.lt_size e
  | rng lo hi => obtain ⟨_, _, _, e⟩ := x; exact Heap.lt_size e
  | frz ob u => obtain ⟨e, _⟩ := x; exact Heap.lt_size e
  | tbl ps => exact Heap.lt_size (show h.get? a = some _ from x)
  | met f y => exact Heap.lt_size (show h.get? a = some _ from x)
  | ext φ => obtain ⟨_, ⟨_, e⟩, _⟩ := x; exact Heap.lt_size e
theorem Paired.mapP {α β : Type} {F G : α → β → Prop} : ∀ {l₁ : List α} {l₂ : List β}, Paired F l₁ l₂ → (∀ a b, F a b → G a b) → Paired G l₁ l₂
  | _, _, .nil, _ => .nil
  | _, _, .cons r t, f => .cons (f _ _ r) (Paired.mapP t f)
theorem ObjOk.stay (x : ObjOk P w H h a o) (k : ∀ b u, (b = a ∨ H b = some (.own a)) → h.get? b = some u → h'.get? b = some u)
    (ho : ∀ b, H b = some (.own a) → H' b = some (.own a)) (ht : ∀ b xs, H b = some (.tup xs) → H' b = some (.tup xs)) : ObjOk P w H' h' a o := by
  induction o with
  | lst xs => obtain ⟨z, its, n, r, e⟩ := x; exact ⟨z, its, n, r, k _ _ (.inl rfl) e⟩
  | tup xs => obtain ⟨z, its, r, ob, e, c⟩ := x; exact ⟨z, its, r, ob, k _ _ (.inl rfl) e, c⟩
  | dK kvs => obtain ⟨z, y, vs, r, ob, es, ep, e, c⟩ := x; exact ⟨z, y, vs, r, ob, es, ep, k _ _ (.inl rfl) e, c⟩
  | dT kvs =>
    obtain ⟨z, y, xs, r, ob, es, ep, e, c⟩ := x
    exact ⟨z, y, xs, Paired.mapP r fun p q z => ⟨z.1, ht _ _ z.2.1, z.2.2⟩, ob, es, ep, k _ _ (.inl rfl) e, c⟩
  | set S n => obtain ⟨ob, es, ep, t, e, c⟩ := x; exact ⟨ob, es, ep, t, k _ _ (.inl rfl) e, c⟩
  | ins C dx fs =>
    obtain ⟨d, z, ne, e, mA, ⟨od, es, ep, e2, c⟩, r⟩ := x
    exact ⟨ho _ d, z, ne, k _ _ (.inl rfl) e, mA, ⟨od, es, ep, k _ _ (.inr d) e2, c⟩, r⟩
  | own y => obtain ⟨ob, e⟩ := x; exact ⟨ob, k _ _ (.inl rfl) e⟩
  | xd fs => obtain ⟨mA, ⟨od, es, ep, e, c⟩, r⟩ := x; exact ⟨mA, ⟨od, es, ep, k _ _ (.inl rfl) e, c⟩, r⟩
  | rng lo hi => obtain ⟨t, u, v, e⟩ := x; exact ⟨t, u, v, k _ _ (.inl rfl) e⟩
  | frz ob u ih => obtain ⟨e, q⟩ := x; exact ⟨k _ _ (.inl rfl) e, ih q⟩
  | tbl ps =>
    have e : h.get? a = some { cls := .none, data := .fields ps } := x
    show h'.get? a = some { cls := .none, data := .fields ps }
    exact k a _ (.inl rfl) e
  | met f y =>
    have e : h.get? a = some (PySem.W.methodObj (.ref f) (.ref y)) := x
    show h'.get? a = some (PySem.W.methodObj (.ref f) (.ref y))
    exact k a _ (.inl rfl) e
  | ext φ => obtain ⟨p, ⟨o, e⟩, st⟩ := x; exact ⟨st _ _ p fun o q => k _ _ (.inl rfl) q, ⟨o, k _ _ (.inl rfl) e⟩, st⟩
theorem HOk.lt (x : HOk P w H h) (e : H a = some o) : a < h.objs.size := (x a o e).lt
theorem HOk.fresh (x : HOk P w H h) (e : h.objs.size ≤ a) : H a = none := by
  cases q : H a with
  | none => rfl
  | some u => exact absurd (Nat.lt_of_lt_of_le (x.lt q) e) (Nat.lt_irrefl _)
theorem HOk.kept (x : HOk P w H h) (k : ∀ b u, h.get? b = some u → h'.get? b = some u) : HOk P w H h' := fun a o e =>
  (x a o e).stay (fun b u _ q => k b u q) (fun _ q => q) fun _ _ q => q
theorem HOk.laid (x : HOk P w H h) (k : ∀ b u, h.get? b = some u → h'.get? b = some u) (hp : h.objs.size ≤ a) (new : ObjOk P w (upd H a o) h' a o) : HOk P w (upd H a o) h' := fun b u e => by
  have hn := x.fresh hp
  by_cases hb : b = a
  · subst hb; rw [upd_same] at e; cases e; exact new
  · rw [upd_ne hb] at e
    exact (x b u e).stay (fun c v _ q => k c v q) (fun c q => by rw [upd_ne (ne_of_none q hn)]; exact q) fun c xs q => by rw [upd_ne (ne_of_none q hn)]; exact q
end
def Rd (H : Hp) (a : Addr) (u : HO) : Prop := H a = some u ∨ ∃ o, H a = some (.frz o u)
theorem Rd.of {H : Hp} {a : Addr} {u : HO} (h : H a = some u) : Rd H a u := .inl h
theorem Rd.ok {P : Program} {w : World} {H : Hp} {h : Heap} {a : Addr} {u : HO} (r : Rd H a u) (x : HOk P w H h) : ObjOk P w H h a u := by
  rcases r with r | ⟨o, r⟩
  · exact x a u r
  · obtain ⟨_, q⟩ := x a _ r
    exact q
def Mut : Option HO → Prop
  | some (.lst _) => True
  | some (.dK _) => True
  | some (.dT _) => True
  | some (.set _ _) => True
  | some (.ins _ _ _) => True
  | some (.ext _) => True
  | _ => False
section
variable {P : Program} {w : World} {H : Hp} {h h' : Heap} {x e : Addr} {o' : HO}
theorem HOk.write (ok : HOk P w H h) (mu : Mut (H x)) (he : e = x ∨ H e = some (.own x)) (k : ∀ b u, b ≠ e → h.get? b = some u → h'.get? b = some u) (heo : ∃ u, h'.get? e = some u)
    (new : ObjOk P w (upd H x o') h' x o') : HOk P w (upd H x o') h' := fun b u q => by
  have nown : ∀ c y, H c = some (.own y) → c ≠ x := fun c y r z => by subst z; rw [r] at mu; exact mu
  have ntup : ∀ c xs, H c = some (.tup xs) → c ≠ x := fun c xs r z => by subst z; rw [r] at mu; exact mu
  by_cases hb : b = x
  · subst hb; rw [upd_same] at q; cases q; exact new
  · rw [upd_ne hb] at q
    by_cases hbe : b = e
    · have q' : H b = some (.own x) := by
        rcases he with z | z
        · exact absurd (hbe.trans z) hb
        · rw [hbe]; exact z
      rw [q] at q'; cases q'
      obtain ⟨v, hv⟩ := heo
      exact ⟨v, by rw [hbe]; exact hv⟩
    · refine (ok b u q).stay (fun c v hc r => k c v ?_ r) (fun c r => by rw [upd_ne (nown c b r)]; exact r) fun c xs r => by rw [upd_ne (ntup c xs r)]; exact r
      rcases hc with rfl | hc
      · exact hbe
      · rintro rfl
        rcases he with z | z
        · exact nown c b hc z
        · rw [hc] at z; cases z; exact hb rfl
end
structure Un (fs ex : List Addr) (H H' : Hp) (h h' : Heap) : Prop where
  keep : ∀ b o, h.get? b = some o → H b = none → b ∉ fs → b ∉ ex → h'.get? b = some o
  slot : ∀ b o, h.get? b = some o → H b = none → b ∈ fs → b ∉ ex → ∃ sl, h'.get? b = some { o with slots := sl }
  free : ∀ b o, h.get? b = some o → H b = none → b ∉ ex → H' b = none
  there : ∀ b o, h.get? b = some o → b ∉ ex → ∃ o', h'.get? b = some o'
  tups : ∀ b xs, H b = some (.tup xs) → H' b = some (.tup xs)
  frzs : ∀ b o u, H b = some (.frz o u) → H' b = some (.frz o u)
  tbls : ∀ b ps, H b = some (.tbl ps) → ∃ more, H' b = some (.tbl (ps ++ more))
section
variable {fs fs' ex ex' : List Addr} {H H1 H2 : Hp} {h h1 h2 h' : Heap} {a x e : Addr} {o : HO}
theorem Un.any (u : Un fs ex H H1 h h1) {b : Addr} {ob : Obj} (q : h.get? b = some ob) (n : H b = none) (hx : b ∉ ex) : ∃ sl, h1.get? b = some { ob with slots := sl } := by
  by_cases hb : b ∈ fs
  · exact u.slot b ob q n hb hx
  · exact ⟨ob.slots, u.keep b ob q n hb hx⟩
theorem Un.kept (k : ∀ b u, h.get? b = some u → h'.get? b = some u) : Un fs ex H H h h' :=
  ⟨fun b ob q _ _ _ => k b ob q, fun b ob q _ _ _ => ⟨ob.slots, k b ob q⟩, fun _ _ _ n _ => n, fun b ob q _ => ⟨ob, k b ob q⟩, fun _ _ q => q, fun _ _ _ q => q, fun _ ps q => ⟨#[], by rw [q]; simp⟩⟩
theorem Un.refl : Un fs ex H H h h := Un.kept fun _ _ q => q
theorem Un.laid (k : ∀ b u, h.get? b = some u → h'.get? b = some u) (hp : h.objs.size ≤ a) (hn : H a = none) : Un fs ex H (upd H a o) h h' where
  keep := fun b u q _ _ _ => k b u q
  slot := fun b u q _ _ _ => ⟨u.slots, k b u q⟩
  free := fun b u q n _ => by rw [upd_ne (Nat.ne_of_lt (Nat.lt_of_lt_of_le (Heap.lt_size q) hp))]; exact n
  there := fun b u q _ => ⟨u, k b u q⟩
  tups := fun b xs q => by rw [upd_ne (ne_of_none q hn)]; exact q
  frzs := fun b u xs q => by rw [upd_ne (ne_of_none q hn)]; exact q
  tbls := fun b ps q => ⟨#[], by rw [upd_ne (ne_of_none q hn), q]; simp⟩
theorem Un.write (mu : Mut (H x)) (he : e = x ∨ H e = some (.own x)) (k : ∀ b u, b ≠ e → h.get? b = some u → h'.get? b = some u) (heo : ∃ u, h'.get? e = some u) : Un fs ex H (upd H x o) h h' := by
  have hx : ∀ b, H b = none → b ≠ x := fun b n z => by subst z; rw [n] at mu; exact mu
  have hb : ∀ b, H b = none → b ≠ e := fun b n z => by
    subst z
    rcases he with r | r
    · exact hx b n r
    · rw [n] at r; cases r
  have hm : ∀ b u, H b = some u → ¬ Mut (some u) → b ≠ x := fun b u q nm z => by subst z; rw [q] at mu; exact nm mu
  refine ⟨fun b u q n _ _ => k b u (hb b n) q, fun b u q n _ _ => ⟨u.slots, k b u (hb b n) q⟩, fun b u q n _ => by rw [upd_ne (hx b n)]; exact n, fun b u q _ => ?_,
    fun b xs q => by rw [upd_ne (hm b _ q fun z => z)]; exact q, fun b u xs q => by rw [upd_ne (hm b _ q fun z => z)]; exact q, fun b ps q => ⟨#[], by rw [upd_ne (hm b _ q fun z => z), q]; simp⟩⟩
  by_cases hbe : b = e
  · subst hbe; exact heo
  · exact ⟨u, k b u hbe q⟩
end
def trk (h : Heap) (H : Hp) : List Addr := (List.range h.objs.size).filter fun a => (H a).isSome
def hidT (h : Heap) (H : Hp) : Heap := PySem.W.hideAll h (trk h H)
theorem hidT_size (h : Heap) (H : Hp) : (hidT h H).objs.size = h.objs.size := PySem.W.hideAll_size _ _
theorem hidT_get {h : Heap} {H : Hp} {b : Addr} {o : Obj} (e : h.get? b = some o) (n : H b = none) : (hidT h H).get? b = some o :=
  PySem.W.hideAll_get _ e fun hm => by
    have q : (H b).isSome = true := (List.mem_filter.mp hm).2
    rw [n] at q; simp at q
theorem of_hidT {h : Heap} {H : Hp} {b : Addr} {o : Obj} (e : (hidT h H).get? b = some o) : h.get? b = some o ∧ H b = none := by
  have e' : h.get? b = some o := PySem.W.of_hideAll (trk h H) e
  refine ⟨e', ?_⟩
  cases q : H b with
  | none => rfl
  | some x =>
    have hm : b ∈ trk h H := List.mem_filter.mpr ⟨List.mem_range.mpr (Heap.lt_size e'), by simp [q]⟩
    have z : (hidT h H).get? b = none := PySem.W.hideAll_none (trk h H) hm
    rw [z] at e; cases e
end L2
namespace L2
open PySem PySem.Spec PyProof.Rows
structure Mod (K : PySem.W.Frag) (mg : Str → Option Value) (base : Heap) : Prop where
  kin : K.In base
  glob : base.Ns mainGlobals mg
  blt : ∃ mb, base.Ns builtinsNs mb ∧ ∀ x : Str, x ≠ "__name__" → mb x = bootBuiltins x
  nolimit : base.NoLimit
structure Cx where
  prog : Program
  w : World
  K : PySem.W.Frag
  mg : Str → Option Value
  base : Heap
  A : Around
  N : List Str
  s₀ : Shared
  H₀ : Hp
  env : Env
  outer : List Env
  stack : List Env
  ex : List Addr
  fn : Str → Bool
  calm : Bool
  pn : List (Addr × Obj)
  xe : Value → Shared → Prop
def frs (l : List Env) : List Addr := l.filterMap (·.frame)
abbrev Cx.fs (X : Cx) : List Addr := frs X.outer
def Vis (sc : Scope) (x : Str) : Prop := sc.names.lookup x = some .local ∨ sc.names.lookup x = some .cell ∨ sc.names.lookup x = some .free
def Loc (sc : Scope) (x : Str) : Prop := sc.names.lookup x = some .local ∨ sc.names.lookup x = some .cell
def Look (env : Env) (h : Heap) (m : Str → Option Value) (x : Str) (u : Value) : Prop :=
  (env.kindOf x = some .local ∧ m x = some u) ∨ ((env.kindOf x = some .cell ∨ env.kindOf x = some .free) ∧ ∃ c, env.cells.lookup x = some c ∧ h.IsCell c (some u))
structure Cx.Ok (X : Cx) : Prop where
  mod : Mod X.K X.mg X.base
  kind : X.env.scope.kind = .function
  glob : X.env.globals = mainGlobals
  blt : X.env.builtins = builtinsNs
  above : X.s₀.heap.objs.size ≤ X.env.locals
  inj : ∀ x y c, X.env.cells.lookup x = some c → X.env.cells.lookup y = some c → x = y
  has : ∀ x, (X.env.kindOf x = some .cell ∨ X.env.kindOf x = some .free) → ∃ c, X.env.cells.lookup x = some c
  cab : ∀ x c, X.fn x = true → X.env.cells.lookup x = some c → X.s₀.heap.objs.size ≤ c
  hd : X.calm = true → X.A.handled = none
  frames : X.A.frames = some X.stack
  stk : X.stack = X.outer ∨ (X.stack = X.env :: X.outer ∧ X.env.frame = some X.env.locals)
  exf : ∀ b ∈ X.ex, b ≠ X.env.locals ∧ ∀ x c, X.env.cells.lookup x = some c → c ≠ b
  bs : ∀ b o, X.base.get? b = some o → X.s₀.heap.get? b = some o ∧ X.H₀ b = none
  bsz : X.base.objs.size ≤ X.s₀.heap.objs.size
  noex : ∀ b o, X.base.get? b = some o → b ∉ X.ex
  exfs : ∀ b ∈ X.ex, b ∉ X.fs
  funs : X.s₀.heap.FunFrames X.base X.outer
  frf : ∀ b ∈ X.fs, X.H₀ b = none
structure Inv (X : Cx) (pins : List (Addr × Obj)) (σ : List (Option V)) (H : Hp) (s : Shared) : Prop where
  ok : X.Ok
  os : s.os = X.s₀.os
  bare : AllBare s.gens
  base : Un X.fs X.ex X.H₀ H X.s₀.heap s.heap
  loc : ∃ m, s.heap.Ns X.env.locals m ∧ ∀ (i : Nat) (x : Str) (v : V), X.N[i]? = some x → σ[i]? = some (some v) → Vis X.env.scope x → ∃ u, RelV v u ∧ Look X.env s.heap m x u
  cell : ∀ x c, X.env.cells.lookup x = some c → ∃ v, s.heap.IsCell c v
  free : H X.env.locals = none
  freeC : ∀ x c, X.env.cells.lookup x = some c → H c = none
  pin : ∀ p ∈ X.pn ++ pins, s.heap.get? p.1 = some p.2 ∧ H p.1 = none ∧ p.1 ≠ X.env.locals ∧ p.1 ∉ X.fs ∧ ∀ v, p.2.data ≠ .cell v
  hok : HOk X.prog X.w H s.heap
  len : σ.length = X.N.length
section
variable {X : Cx} {pins : List (Addr × Obj)} {σ : List (Option V)} {H H' : Hp} {s : Shared} {h' : Heap}
theorem Cx.Ok.nofr (ok : X.Ok) {b : Addr} {o : Obj} (e : X.base.get? b = some o) : b ∉ X.fs := fun hb => by
  have := (ok.funs.mem hb).1
  rw [e] at this; cases this
theorem Inv.bs (I : Inv X pins σ H s) : ∀ b o, X.base.get? b = some o → s.heap.get? b = some o ∧ H b = none := fun b o e =>
  ⟨I.base.keep b o (I.ok.bs b o e).1 (I.ok.bs b o e).2 (I.ok.nofr e) (I.ok.noex b o e), I.base.free b o (I.ok.bs b o e).1 (I.ok.bs b o e).2 (I.ok.noex b o e)⟩
theorem Inv.bk (I : Inv X pins σ H s) : ∀ b o, X.base.get? b = some o → s.heap.get? b = some o := fun b o e => (I.bs b o e).1
theorem Inv.mod (I : Inv X pins σ H s) : Mod X.K X.mg X.base := I.ok.mod
theorem Inv.kIn (I : Inv X pins σ H s) : X.K.In s.heap := I.ok.mod.kin.keeps I.bk
theorem Inv.lt (I : Inv X pins σ H s) : X.env.locals < s.heap.objs.size := let ⟨_, hn, _⟩ := I.loc; hn.lt
theorem Inv.sz (I : Inv X pins σ H s) : X.s₀.heap.objs.size ≤ s.heap.objs.size := Nat.le_trans I.ok.above (Nat.le_of_lt I.lt)
theorem Inv.nofs (I : Inv X pins σ H s) {a : Addr} (h : s.heap.objs.size ≤ a) : a ∉ X.fs := fun hb => by
  obtain ⟨_, o, ho, _⟩ := I.ok.funs.mem hb
  exact absurd (Nat.lt_of_lt_of_le (Heap.lt_size ho) (Nat.le_trans I.sz h)) (Nat.lt_irrefl _)
theorem Inv.cne (I : Inv X pins σ H s) : ∀ x c, X.env.cells.lookup x = some c → c ≠ X.env.locals := fun x c e z => by
  obtain ⟨v, o, ho, hd⟩ := I.cell x c e
  obtain ⟨m, ⟨o', es, ep, ho', hd', _⟩, _⟩ := I.loc
  rw [z, ho'] at ho; cases ho; rw [hd'] at hd; cases hd
theorem Inv.funs (I : Inv X pins σ H s) : s.heap.FunFrames X.base X.outer := by
  have all : ∀ (l : List Env), (∀ b ∈ frs l, b ∈ X.fs) → X.s₀.heap.FunFrames X.base l → s.heap.FunFrames X.base l := by
    intro l
    induction l with
    | nil => intro _ _; trivial
    | cons env r ih =>
      intro hs hl
      obtain ⟨hk, ⟨L, o, hf, hn, ho, hd⟩, hr⟩ := hl
      have hL : L ∈ X.fs := hs L (by unfold frs; rw [List.filterMap_cons, hf]; exact List.mem_cons_self)
      obtain ⟨sl, e⟩ := I.base.slot L o ho (I.ok.frf L hL) hL fun z => I.ok.exfs L z hL
      exact ⟨hk, ⟨L, _, hf, hn, e, hd⟩, ih (fun b hb => hs b (by unfold frs; rw [List.filterMap_cons, hf]; exact List.mem_cons_of_mem _ hb)) hr⟩
  exact all X.outer (fun _ hb => hb) I.ok.funs
theorem Inv.stack (I : Inv X pins σ H s) : s.heap.FunFrames X.base X.stack := by
  rcases I.ok.stk with e | ⟨e, hf⟩
  · rw [e]; exact I.funs
  · rw [e]
    obtain ⟨m, hn, _⟩ := I.loc
    refine .cons (by rw [I.ok.kind]; decide) hf hn ?_ I.funs
    exact Heap.get?_none_of_le (Nat.le_trans I.ok.bsz I.ok.above)
theorem Inv.stkSub (I : Inv X pins σ H s) : ∀ b ∈ frs X.stack, b ∈ X.env.locals :: X.fs := fun b hb => by
  rcases I.ok.stk with e | ⟨e, hf⟩
  · rw [e] at hb; exact List.mem_cons_of_mem _ hb
  · rw [e] at hb
    unfold frs at hb
    rw [List.filterMap_cons, hf] at hb
    exact hb
theorem Inv.stkFree (I : Inv X pins σ H s) : ∀ b ∈ frs X.stack, H b = none := fun b hb => by
  rcases List.mem_cons.mp (I.stkSub b hb) with e | hb
  · rw [e]; exact I.free
  · obtain ⟨_, o, ho, _⟩ := I.ok.funs.mem hb
    exact I.base.free b o ho (I.ok.frf b hb) fun z => I.ok.exfs b z hb
theorem Inv.step {g' : Array GenState} {t' : Nat} {d' : Drawn} {ch : List Addr} (I : Inv X pins σ H s)
    (hch : ∀ b ∈ ch, (b ∈ X.ex ∨ X.s₀.heap.objs.size ≤ b) ∧ b ≠ X.env.locals ∧ (∀ x c, X.env.cells.lookup x = some c → c ≠ b) ∧ ∀ p ∈ X.pn ++ pins, p.1 ≠ b)
    (keep : ∀ b o, b ≠ X.env.locals → b ∉ X.fs → b ∉ ch → s.heap.get? b = some o → H b = none → h'.get? b = some o)
    (slot : ∀ b o, b ≠ X.env.locals → b ∈ X.fs → b ∉ ch → s.heap.get? b = some o → H b = none → ∃ sl, h'.get? b = some { o with slots := sl }) (free : ∀ b o, b ∉ ch → s.heap.get? b = some o → H b = none → H' b = none)
    (there : ∀ b o, b ∉ ch → s.heap.get? b = some o → ∃ o', h'.get? b = some o')
    (tups : ∀ b xs, H b = some (.tup xs) → H' b = some (.tup xs)) (frzs : ∀ b o u, H b = some (.frz o u) → H' b = some (.frz o u)) (tbls : ∀ b ps, H b = some (.tbl ps) → ∃ more, H' b = some (.tbl (ps ++ more)))
    (ns : ∀ m, s.heap.Ns X.env.locals m → h'.Ns X.env.locals m) (hok : HOk X.prog X.w H' h') (hg : AllBare g') :
    Inv X pins σ H' { s with heap := h', gens := g', drawn := d', toks := t' } := by
  have neL : ∀ b o, X.s₀.heap.get? b = some o → b ≠ X.env.locals := fun b o e => Nat.ne_of_lt (Nat.lt_of_lt_of_le (Heap.lt_size e) I.ok.above)
  have neC : ∀ b o, X.s₀.heap.get? b = some o → b ∉ X.ex → b ∉ ch := fun b o e hx hb => by
    rcases (hch b hb).1 with z | z
    · exact hx z
    · exact absurd (Nat.lt_of_lt_of_le (Heap.lt_size e) z) (Nat.lt_irrefl _)
  have cellK : ∀ x c, X.env.cells.lookup x = some c → ∀ v, s.heap.IsCell c v → h'.IsCell c v := fun x c e v ⟨o, ho, hd⟩ => by
    have nch : c ∉ ch := fun z => (hch c z).2.2.1 x c e rfl
    by_cases hc : c ∈ X.fs
    · obtain ⟨sl, q⟩ := slot c o (I.cne x c e) hc nch ho (I.freeC x c e)
      exact ⟨_, q, hd⟩
    · exact ⟨o, keep c o (I.cne x c e) hc nch ho (I.freeC x c e), hd⟩
  refine ⟨I.ok, I.os, hg, ⟨fun b o e n hb hx => ?_, fun b o e n hb hx => ?_, fun b o e n hx => ?_, fun b o e hx => ?_, fun b xs e => tups b xs (I.base.tups b xs e), fun b o xs e => frzs b o xs (I.base.frzs b o xs e), fun b ps e => ?_⟩, ?_, fun x c e => ?_, ?_, fun x c e => ?_, fun p hp => ?_, hok, I.len⟩
  · exact keep b o (neL b o e) hb (neC b o e hx) (I.base.keep b o e n hb hx) (I.base.free b o e n hx)
  · obtain ⟨sl, e1⟩ := I.base.slot b o e n hb hx
    obtain ⟨sl', e2⟩ := slot b _ (neL b o e) hb (neC b o e hx) e1 (I.base.free b o e n hx)
    exact ⟨sl', e2⟩
  · obtain ⟨o', e1⟩ := I.base.there b o e hx
    exact free b o' (neC b o e hx) e1 (I.base.free b o e n hx)
  · obtain ⟨o', e1⟩ := I.base.there b o e hx
    exact there b o' (neC b o e hx) e1
  · obtain ⟨m1, e1⟩ := I.base.tbls b ps e
    obtain ⟨m2, e2⟩ := tbls b _ e1
    exact ⟨m1 ++ m2, by rw [e2, Array.append_assoc]⟩
  · obtain ⟨m, hn, hl⟩ := I.loc
    refine ⟨m, ns m hn, fun i x v e1 e2 e3 => ?_⟩
    obtain ⟨u, r, l⟩ := hl i x v e1 e2 e3
    refine ⟨u, r, ?_⟩
    rcases l with l | ⟨k, c, e, z⟩
    · exact .inl l
    · exact .inr ⟨k, c, e, cellK x c e _ z⟩
  · obtain ⟨v, z⟩ := I.cell x c e
    exact ⟨v, cellK x c e v z⟩
  · obtain ⟨m, ⟨o, _, _, ho, _⟩, _⟩ := I.loc
    exact free _ o (fun z => (hch _ z).2.1 rfl) ho I.free
  · obtain ⟨v, o, ho, hd⟩ := I.cell x c e
    exact free c o (fun z => (hch c z).2.2.1 x c e rfl) ho (I.freeC x c e)
  · obtain ⟨e, n, ne, nf, d⟩ := I.pin p hp
    have nch : p.1 ∉ ch := fun z => (hch p.1 z).2.2.2 p hp rfl
    exact ⟨keep p.1 p.2 ne nf nch e n, free p.1 p.2 nch e n, ne, nf, d⟩
theorem Inv.un {t' : Nat} (I : Inv X pins σ H s) (u : Un X.fs [] H H' s.heap h') (hok : HOk X.prog X.w H' h') : Inv X pins σ H' { s with heap := h', toks := t' } := by
  obtain ⟨m, ⟨o, es, ep, ho, r⟩, _⟩ := id I.loc
  obtain ⟨sl, hL⟩ := u.any ho I.free (by simp)
  exact I.step (g' := s.gens) (d' := s.drawn) (ch := []) (fun _ z => nomatch z) (fun b o _ hb _ e n => u.keep b o e n hb (by simp)) (fun b o _ hb _ e n => u.slot b o e n hb (by simp)) (fun b o _ e n => u.free b o e n (by simp)) (fun b o _ e => u.there b o e (by simp)) u.tups u.frzs u.tbls (fun m' hm => by
    obtain ⟨o', es', ep', ho', r'⟩ := hm
    rw [ho] at ho'; cases ho'
    exact ⟨_, es', ep', hL, r'⟩) hok I.bare
theorem Inv.call {g' : Array GenState} {t' : Nat} {d' : Drawn} {ch : List Addr} (I : Inv X pins σ H s) (u : Un (frs X.stack) ch H H' s.heap h') (hok : HOk X.prog X.w H' h') (hg : AllBare g')
    (hch : ∀ b ∈ ch, (b ∈ X.ex ∨ X.s₀.heap.objs.size ≤ b) ∧ b ≠ X.env.locals ∧ (∀ x c, X.env.cells.lookup x = some c → c ≠ b) ∧ ∀ p ∈ X.pn ++ pins, p.1 ≠ b) :
    Inv X pins σ H' { s with heap := h', gens := g', drawn := d', toks := t' } := by
  obtain ⟨m, ⟨o, es, ep, ho, r⟩, _⟩ := id I.loc
  obtain ⟨sl, hL⟩ := u.any ho I.free fun z => (hch _ z).2.1 rfl
  exact I.step (ch := ch) hch (fun b o hL hb hc e n => u.keep b o e n (fun z => (List.mem_cons.mp (I.stkSub b z)).elim hL hb) hc) (fun b o _ _ hc e n => u.any e n hc) (fun b o hc e n => u.free b o e n hc) (fun b o hc e => u.there b o e hc) u.tups u.frzs u.tbls (fun m' hm => by
    obtain ⟨o', es', ep', ho', r'⟩ := hm
    rw [ho] at ho'; cases ho'
    exact ⟨_, es', ep', hL, r'⟩) hok hg
theorem Inv.turned {t' : Nat} {it : Addr} (I : Inv X pins σ H s) (k : ∀ b o, b ≠ it → s.heap.get? b = some o → h'.get? b = some o) (hn : H it = none) (hL : it ≠ X.env.locals)
    (h1 : it ∈ X.ex ∨ X.s₀.heap.objs.size ≤ it) (h2 : ∀ x c, X.env.cells.lookup x = some c → c ≠ it) (h3 : ∀ p ∈ X.pn ++ pins, p.1 ≠ it) : Inv X pins σ H { s with heap := h', toks := t' } := by
  have nit : ∀ b u, H b = some u → b ≠ it := fun b u e z => by rw [z, hn] at e; cases e
  refine I.step (g' := s.gens) (d' := s.drawn) (ch := [it]) (fun b hb => ?_) (fun b o _ _ hc e _ => k b o (fun z => hc (by simp [z])) e) (fun b o _ _ hc e _ => ⟨o.slots, k b o (fun z => hc (by simp [z])) e⟩) (fun _ _ _ _ n => n)
    (fun b o hc e => ⟨o, k b o (fun z => hc (by simp [z])) e⟩) (fun _ _ e => e) (fun _ _ _ e => e) (fun b ps e => ⟨#[], by rw [e]; simp⟩) (fun m hm => ?_) (fun b u e => ?_) I.bare
  · have e : b = it := by simpa using hb
    subst e
    exact ⟨h1, hL, h2, h3⟩
  · obtain ⟨o, es, ep, ho, r⟩ := hm
    exact ⟨o, es, ep, k _ o (Ne.symm hL) ho, r⟩
  · refine (I.hok b u e).stay (fun c v hc q => k c v ?_ q) (fun _ q => q) fun _ _ q => q
    rcases hc with z | z
    · rw [z]; exact nit b u e
    · exact nit c _ z
theorem Inv.tok (I : Inv X pins σ H s) (t : Nat) : Inv X pins σ H { s with toks := t } := I.un (h' := s.heap) (t' := t) Un.refl I.hok
theorem Inv.kept {t' : Nat} (I : Inv X pins σ H s) (k : ∀ b u, s.heap.get? b = some u → h'.get? b = some u) : Inv X pins σ H { s with heap := h', toks := t' } := I.un (Un.kept k) (I.hok.kept k)
theorem Inv.laid {a : Addr} {o : HO} {t' : Nat} (I : Inv X pins σ H s) (k : ∀ b u, s.heap.get? b = some u → h'.get? b = some u) (hp : s.heap.objs.size ≤ a) (new : ObjOk X.prog X.w (upd H a o) h' a o) :
    Inv X pins σ (upd H a o) { s with heap := h', toks := t' } := I.un (Un.laid k hp (I.hok.fresh hp)) (I.hok.laid k hp new)
theorem Inv.write {x e : Addr} {o : HO} {t' : Nat} (I : Inv X pins σ H s) (mu : Mut (H x)) (he : e = x ∨ H e = some (.own x)) (k : ∀ b u, b ≠ e → s.heap.get? b = some u → h'.get? b = some u) (heo : ∃ u, h'.get? e = some u)
    (new : ObjOk X.prog X.w (upd H x o) h' x o) : Inv X pins σ (upd H x o) { s with heap := h', toks := t' } := I.un (Un.write mu he k heo) (I.hok.write mu he k heo new)
theorem Inv.pins_of {pins' : List (Addr × Obj)} (I : Inv X pins σ H s) (h : ∀ p ∈ pins', s.heap.get? p.1 = some p.2 ∧ H p.1 = none ∧ p.1 ≠ X.env.locals ∧ p.1 ∉ X.fs ∧ ∀ v, p.2.data ≠ .cell v) : Inv X pins' σ H s :=
  ⟨I.ok, I.os, I.bare, I.base, I.loc, I.cell, I.free, I.freeC, fun p hp => (List.mem_append.mp hp).elim (fun z => I.pin p (List.mem_append_left _ z)) (h p), I.hok, I.len⟩
theorem nodup_ix {N : List Str} (hN : N.Nodup) {i j : Nat} {x : Str} (a : N[i]? = some x) (b : N[j]? = some x) : i = j := by
  obtain ⟨h1, e1⟩ := List.getElem?_eq_some_iff.mp a
  obtain ⟨h2, e2⟩ := List.getElem?_eq_some_iff.mp b
  exact (List.getElem_inj hN).mp (e1.trans e2.symm)
theorem store_ok2 {M : Model} {A : Around} {E : Value → Shared → Prop} {i : Nat} {x : Str} {v : V} {u : Value} {Q : Unit → Shared → Prop} (I : Inv X pins σ H s) (hN : X.N.Nodup) (hi : X.N[i]? = some x) (hx : Loc X.env.scope x) (r : RelV v u)
    (h : ∀ s', Inv X pins (σ.set i (some v)) H s' → (∃ a, Heap.SameBut a s.heap s'.heap ∧ (a = X.env.locals ∨ X.env.cells.lookup x = some a)) → Q () s') (hf : X.fn x = true ∨ X.env.scope.names.lookup x = some .local := by first | exact .inl rfl | exact .inr rfl | assumption) : wpAny M A (storeName X.env x u) Q E s := by
  obtain ⟨m, hn, hl⟩ := id I.loc
  have hcls : (X.env.scope.kind == .class || (X.env.scope.kind == .module && X.env.locals != X.env.globals)) = false := by rw [I.ok.kind]; rfl
  have hiσ : i < σ.length := by rw [I.len]; exact (List.getElem?_eq_some_iff.mp hi).1
  have cne := I.cne
  have tracked : ∀ {a : Addr} {h' : Heap}, (∃ o, s.heap.get? a = some o ∧ H a = none) → Heap.SameBut a s.heap h' → HOk X.prog X.w H h' := fun {a h'} ha hs b ob e => by
    obtain ⟨_, _, hfree⟩ := ha
    refine (I.hok b ob e).stay (fun c w' hc q => (hs.2 c ?_).trans q) (fun _ q => q) fun _ _ q => q
    rintro rfl
    rcases hc with rfl | hc
    · rw [hfree] at e; cases e
    · rw [hfree] at hc; cases hc
  rcases hx with hk | hk
  · refine wpAny_storeName_local hk hn (fun h' hn' hs => ?_) hcls
    obtain ⟨oL, _, _, hoL, _⟩ := id hn
    refine h _ ⟨I.ok, I.os, I.bare, ⟨fun b o e n hb hx => ?_, fun b o e n hb hx => ?_, I.base.free, fun b o e hx => ?_, I.base.tups, I.base.frzs, I.base.tbls⟩, ⟨_, hn', fun j y v' e1 e2 e3 => ?_⟩, fun y c e => ?_, I.free, I.freeC, fun p hp => ?_, tracked ⟨oL, hoL, I.free⟩ hs, by simpa using I.len⟩ ⟨_, hs, .inl rfl⟩
    · exact (hs.2 b (Nat.ne_of_lt (Nat.lt_of_lt_of_le (Heap.lt_size e) I.ok.above))).trans (I.base.keep b o e n hb hx)
    · obtain ⟨sl, e1⟩ := I.base.slot b o e n hb hx
      exact ⟨sl, (hs.2 b (Nat.ne_of_lt (Nat.lt_of_lt_of_le (Heap.lt_size e) I.ok.above))).trans e1⟩
    · obtain ⟨o', e1⟩ := I.base.there b o e hx
      exact ⟨o', (hs.2 b (Nat.ne_of_lt (Nat.lt_of_lt_of_le (Heap.lt_size e) I.ok.above))).trans e1⟩
    · by_cases hj : j = i
      · subst hj
        rw [hi] at e1; cases e1
        rw [List.getElem?_set_self hiσ] at e2
        cases e2
        exact ⟨u, r, .inl ⟨hk, by simp⟩⟩
      · rw [List.getElem?_set_ne (Ne.symm hj)] at e2
        obtain ⟨u', r', q⟩ := hl j y v' e1 e2 e3
        refine ⟨u', r', ?_⟩
        rcases q with ⟨k, e⟩ | ⟨k, c, e, z⟩
        · refine .inl ⟨k, ?_⟩
          have : y ≠ x := fun e => hj (nodup_ix hN e1 (e ▸ hi))
          simp [this, e]
        · exact .inr ⟨k, c, e, z.sameBut hs (cne y c e)⟩
    · obtain ⟨w', z⟩ := I.cell y c e
      exact ⟨w', z.sameBut hs (cne y c e)⟩
    · obtain ⟨e, n, ne, nf, d⟩ := I.pin p hp
      exact ⟨(hs.2 p.1 ne).trans e, n, ne, nf, d⟩
  · have hfn : X.fn x = true := by
      rcases hf with z | z
      · exact z
      · rw [z] at hk; cases hk
    obtain ⟨c, hc⟩ := I.ok.has x (.inl hk)
    obtain ⟨w', z⟩ := I.cell x c hc
    refine wpAny_storeName_cell I.ok.kind hk hc z (fun h' hc' hs => ?_)
    obtain ⟨oc, hoc, hocd⟩ := id z
    refine h { s with heap := h' } ⟨I.ok, I.os, I.bare, ⟨fun b o e n hb hx => ?_, fun b o e n hb hx => ?_, I.base.free, fun b o e hx => ?_, I.base.tups, I.base.frzs, I.base.tbls⟩, ⟨m, hn.sameBut hs (Ne.symm (cne x c hc)), fun j y v' e1 e2 e3 => ?_⟩, fun y c' e => ?_, I.free, I.freeC, fun p hp => ?_, tracked ⟨oc, hoc, I.freeC x c hc⟩ hs, by simpa using I.len⟩ ⟨c, hs, .inr hc⟩
    · exact (hs.2 b (Nat.ne_of_lt (Nat.lt_of_lt_of_le (Heap.lt_size e) (I.ok.cab x c hfn hc)))).trans (I.base.keep b o e n hb hx)
    · obtain ⟨sl, e1⟩ := I.base.slot b o e n hb hx
      exact ⟨sl, (hs.2 b (Nat.ne_of_lt (Nat.lt_of_lt_of_le (Heap.lt_size e) (I.ok.cab x c hfn hc)))).trans e1⟩
    · obtain ⟨o', e1⟩ := I.base.there b o e hx
      exact ⟨o', (hs.2 b (Nat.ne_of_lt (Nat.lt_of_lt_of_le (Heap.lt_size e) (I.ok.cab x c hfn hc)))).trans e1⟩
    · by_cases hj : j = i
      · subst hj
        rw [hi] at e1; cases e1
        rw [List.getElem?_set_self hiσ] at e2
        cases e2
        exact ⟨u, r, .inr ⟨.inl hk, c, hc, hc'⟩⟩
      · rw [List.getElem?_set_ne (Ne.symm hj)] at e2
        obtain ⟨u', r', q⟩ := hl j y v' e1 e2 e3
        refine ⟨u', r', ?_⟩
        rcases q with q | ⟨k, c', e, z'⟩
        · exact .inl q
        · refine .inr ⟨k, c', e, z'.sameBut hs ?_⟩
          rintro rfl
          exact hj (nodup_ix hN e1 (I.ok.inj _ _ _ e hc ▸ hi))
    · by_cases hcc : c' = c
      · subst hcc; exact ⟨_, hc'⟩
      · obtain ⟨w2, z2⟩ := I.cell y c' e
        exact ⟨w2, z2.sameBut hs hcc⟩
    · obtain ⟨e, n, ne, nf, d⟩ := I.pin p hp
      refine ⟨(hs.2 p.1 ?_).trans e, n, ne, nf, d⟩
      intro q
      rw [q, hoc] at e
      have q' : oc = p.2 := Option.some.inj e
      exact d w' (by rw [← q']; exact hocd)
theorem store_ok {M : Model} {A : Around} {E : Value → Shared → Prop} {i : Nat} {x : Str} {v : V} {u : Value} {Q : Unit → Shared → Prop} (I : Inv X pins σ H s) (hN : X.N.Nodup) (hi : X.N[i]? = some x) (hx : Loc X.env.scope x) (r : RelV v u)
    (h : ∀ s', Inv X pins (σ.set i (some v)) H s' → Q () s') (hf : X.fn x = true ∨ X.env.scope.names.lookup x = some .local := by first | exact .inl rfl | exact .inr rfl | assumption) : wpAny M A (storeName X.env x u) Q E s :=
  store_ok2 I hN hi hx r (fun s' I' _ => h s' I') hf
theorem Inv.call' {s' : Shared} {ch : List Addr} (I : Inv X pins σ H s) (ho : s'.os = s.os) (u : Un (frs X.stack) ch H H' s.heap s'.heap) (hok : HOk X.prog X.w H' s'.heap) (hg : AllBare s'.gens)
    (hch : ∀ b ∈ ch, (b ∈ X.ex ∨ X.s₀.heap.objs.size ≤ b) ∧ b ≠ X.env.locals ∧ (∀ x c, X.env.cells.lookup x = some c → c ≠ b) ∧ ∀ p ∈ X.pn ++ pins, p.1 ≠ b) : Inv X pins σ H' s' := by
  obtain ⟨h', g', d', t', o'⟩ := s'
  have e : o' = s.os := ho
  subst e
  exact I.call (g' := g') (t' := t') (d' := d') u hok hg hch
end
abbrev XK := Value → Option Addr → Hp → Prop
abbrev St := List (Option V)
abbrev VK := V → Hp → Prop
abbrev TE := St → Hp → VK → Prop
abbrev TT := St → Hp → (Bool → Hp → Prop) → Prop
abbrev TA := St → Hp → (List V → Hp → Prop) → Prop
structure Ends where
  nx : St → Hp → Prop
  rt : VK
  bk : St → Hp → Prop := fun _ _ => False
  ct : St → Hp → Prop := fun _ _ => False
abbrev TS := Ends → St → Hp → Prop
def EP (X : Cx) (pins : List (Addr × Obj)) (σ : St) (Q : VK) (u : Value) (s' : Shared) : Prop := ∃ v H', Inv X pins σ H' s' ∧ RelV v u ∧ Q v H'
def TP (X : Cx) (pins : List (Addr × Obj)) (σ : St) (Q : Bool → Hp → Prop) (b : Bool) (s' : Shared) : Prop := ∃ H', Inv X pins σ H' s' ∧ Q b H'
def AP (X : Cx) (pins : List (Addr × Obj)) (σ : St) (Q : List V → Hp → Prop) (us : List Value) (s' : Shared) : Prop := ∃ vs H', Inv X pins σ H' s' ∧ Vals vs us ∧ Q vs H'
def SP (X : Cx) (pins : List (Addr × Obj)) (D : Ends) (f : Flow) (s' : Shared) : Prop :=
  match f with
  | .next => ∃ σ' H', Inv X pins σ' H' s' ∧ D.nx σ' H'
  | .brk => ∃ σ' H', Inv X pins σ' H' s' ∧ D.bk σ' H'
  | .cont => ∃ σ' H', Inv X pins σ' H' s' ∧ D.ct σ' H'
  | .ret u => ∃ v σ' H', Inv X pins σ' H' s' ∧ RelV v u ∧ D.rt v H'
def PE (X : Cx) (e : Expr) (t : TE) : Prop :=
  ∀ (pins : List (Addr × Obj)) (s : Shared) (σ : St) (H : Hp) (Q : VK), Inv X pins σ H s → t σ H Q → wpAny (model X.prog X.w) X.A (eval e X.env) (EP X pins σ Q) X.xe s
def PT (X : Cx) (e : Expr) (t : TT) : Prop :=
  ∀ (pins : List (Addr × Obj)) (s : Shared) (σ : St) (H : Hp) (Q : Bool → Hp → Prop), Inv X pins σ H s → t σ H Q → wpAny (model X.prog X.w) X.A (isTrue e X.env (eval e X.env)) (TP X pins σ Q) X.xe s
def PW (X : Cx) (e : Expr) (t : TT) : Prop :=
  ∀ (whole : Sem Value) (pins : List (Addr × Obj)) (s : Shared) (σ : St) (H : Hp) (Q : Bool → Hp → Prop), Inv X pins σ H s → t σ H Q → wpAny (model X.prog X.w) X.A (isTrue e X.env whole) (TP X pins σ Q) X.xe s
theorem PW.pt {X : Cx} {e : Expr} {t : TT} (h : PW X e t) : PT X e t := h _
def PA (X : Cx) (es : List Expr) (t : TA) : Prop :=
  ∀ (pos : Pos) (pins : List (Addr × Obj)) (s : Shared) (σ : St) (H : Hp) (Q : List V → Hp → Prop), Inv X pins σ H s → t σ H Q → wpAny (model X.prog X.w) X.A (spliced (backTo pos (starEach es X.env))) (AP X pins σ Q) X.xe s
def PS (X : Cx) (st : Stmt) (t : TS) : Prop :=
  ∀ (pins : List (Addr × Obj)) (s : Shared) (σ : St) (H : Hp) (D : Ends), Inv X pins σ H s → t D σ H → wpAny (model X.prog X.w) X.A (exec st X.env) (SP X pins D) X.xe s
def PSs (X : Cx) (st : List Stmt) (t : TS) : Prop :=
  ∀ (pins : List (Addr × Obj)) (s : Shared) (σ : St) (H : Hp) (D : Ends), Inv X pins σ H s → t D σ H → wpAny (model X.prog X.w) X.A (execs st X.env) (SP X pins D) X.xe s
theorem thn {α : Type} {t : Sem α} {Q Q' : α → Shared → Prop} {M : Model} {A : Around} {E : Value → Shared → Prop} {s : Shared} (h : wpAny M A t Q E s) (hQ : ∀ a s, Q a s → Q' a s) : wpAny M A t Q' E s := wpAny_mono h hQ fun _ _ x => x
end L2
namespace L2
open PySem PySem.Spec PyProof.Rows
section
variable {X : Cx}
def tVar (i : Nat) : TE := fun σ H Q => ∃ v, σ[i]? = some (some v) ∧ Q v H
def tC (v : V) : TE := fun _ H Q => Q v H
theorem pe_var {i : Nat} {x : Str} {pos : Pos} (hN : X.N[i]? = some x) (hv : Vis X.env.scope x) (hd : (x == ("__debug__" : Str)) = false := by decide) (hcd : (x == ("__classdict__" : Str)) = false := by decide) : PE X (.Name x pos) (tVar i) := by
  intro pins s σ H Q I h
  obtain ⟨v, e, h⟩ := h
  obtain ⟨m, hn, hl⟩ := I.loc
  obtain ⟨u, r, l⟩ := hl i x v hN e hv
  have fin : EP X pins σ Q u s := ⟨v, H, I, r, h⟩
  rcases l with ⟨hk, hm⟩ | ⟨hk, c, hc, hcell⟩
  · exact wpAny_Name (wpAny_loadName_local I.ok.kind hk hn hm fin) hd
  · rcases hk with hk | hk
    · exact wpAny_Name (wpAny_loadName_cell I.ok.kind hk hc hcell fin) hd
    · exact wpAny_Name (wpAny_loadName_free I.ok.kind hk hc hcell fin hcd) hd
theorem pe_int {i j pos} : PE X (.Constant (.int i) j pos) (tC (.int i)) := fun _ _ _ H _ I h => wpAny_Constant_int ⟨.int i, H, I.tok _, ⟨_, rfl⟩, h⟩
theorem pe_bl {b j pos} : PE X (.Constant (.bool b) j pos) (tC (.bl b)) := fun _ _ _ H _ I h => Constant_bool ⟨.bl b, H, I, rfl, h⟩
theorem pe_non {j pos} : PE X (.Constant .none j pos) (tC .non) := fun _ _ _ H _ I h => Constant_none ⟨.non, H, I, rfl, h⟩
theorem pe_str {x j pos} : PE X (.Constant (.str x) j pos) (tC (.str x)) := fun _ _ _ H _ I h => Calls.Constant_str ⟨.str x, H, I.tok _, ⟨_, rfl⟩, h⟩
def Gl (X : Cx) (x : Str) : Prop := X.env.kindOf x = some .globalImplicit
theorem ld_glob {E : Value → Shared → Prop} {pins : List (Addr × Obj)} {s : Shared} {σ : St} {H : Hp} {x : Str} {u : Value} {pos : Pos} {Q : Value → Shared → Prop} (I : Inv X pins σ H s) (hg : Gl X x) (hm : X.mg x = some u) (h : Q u s)
    (hd : (x == ("__debug__" : Str)) = false := by decide) : wpAny (model X.prog X.w) X.A (eval (.Name x pos) X.env) Q E s :=
  Calls.Name_function_global I.ok.kind hg (Calls.loadGlobal_global (by rw [I.ok.glob]; exact I.mod.glob.keeps I.bk) hm h) hd
theorem ld_blt {E : Value → Shared → Prop} {pins : List (Addr × Obj)} {s : Shared} {σ : St} {H : Hp} {x : Str} {u : Value} {pos : Pos} {Q : Value → Shared → Prop} (I : Inv X pins σ H s) (hg : Gl X x) (hm : X.mg x = none) (hv : bootBuiltins x = some u) (h : Q u s)
    (hn : x ≠ "__name__" := by decide) (hd : (x == ("__debug__" : Str)) = false := by decide) : wpAny (model X.prog X.w) X.A (eval (.Name x pos) X.env) Q E s := by
  obtain ⟨mb, h1, h2⟩ := I.mod.blt
  exact Calls.Name_function_global I.ok.kind hg (Calls.loadGlobal_builtin (by rw [I.ok.glob]; exact I.mod.glob.keeps I.bk) hm (by rw [I.ok.blt]; exact h1.keeps I.bk) ((h2 x hn).trans hv) h) hd
theorem pe_glob {x : Str} {v : V} {u : Value} {pos : Pos} (hg : Gl X x) (hm : X.mg x = some u) (r : RelV v u) (hd : (x == ("__debug__" : Str)) = false := by decide) : PE X (.Name x pos) (tC v) :=
  fun _ _ _ H _ I h => ld_glob I hg hm ⟨v, H, I, r, h⟩ hd
theorem pe_bltn {x : Str} {v : V} {u : Value} {pos : Pos} (hg : Gl X x) (hm : X.mg x = none) (hv : bootBuiltins x = some u) (r : RelV v u) (hn : x ≠ "__name__" := by decide) (hd : (x == ("__debug__" : Str)) = false := by decide) : PE X (.Name x pos) (tC v) :=
  fun _ _ _ H _ I h => ld_blt I hg hm hv ⟨v, H, I, r, h⟩ hn hd
variable {a b : Expr} {ta tb : TE} {pos : Pos}
def PC (X : Cx) (op : CmpOp) (a b : Expr) (t : TE) : Prop :=
  ∀ (pins : List (Addr × Obj)) (s : Shared) (σ : St) (H : Hp) (Q : VK), Inv X pins σ H s → t σ H Q →
    wpAny (model X.prog X.w) X.A (eval a X.env) (fun v s₁ => wpAny (model X.prog X.w) X.A (eval b X.env) (fun u s₂ => wpAny (model X.prog X.w) X.A (compareOp op v u) (EP X pins σ Q) X.xe s₂) X.xe s₁) X.xe s
def tB (t : TE) : TT := fun σ H Q => t σ H fun x H1 => ∃ c, x = .bl c ∧ Q c H1
theorem pt_cmp {op : CmpOp} {t : TE} (h : PC X op a b t) (h1 : behindInMarks op b = false := by first | exact nobehind _ (by decide) (by decide) | rfl) : PT X (.Compare a [op] [b] pos) (tB t) := by
  intro pins s σ H Q I hw
  refine wpAny_isTrue_Compare1 (thn (h pins s σ H _ I hw) fun v s1 h1 => thn h1 fun u s2 h2 => thn h2 fun c s3 hpat => ?_) h1
  obtain ⟨x, H1, I1, r1, q1⟩ := hpat
  obtain ⟨d, rfl, q⟩ := q1
  cases r1
  exact wpAny_truthy_bool ⟨H1, I1, q⟩
theorem pt_val {e : Expr} {t : TE} (h : PE X e t) (he : ∀ whole, isTrue e X.env whole = (do let v ← whole; standAt e.pos; holding [v] (truthy v)) := by intro _; rfl) : PT X e (tB t) := by
  intro pins s σ H Q I hw
  refine isTrue_plain (thn (h pins s σ H _ I hw) fun v s1 hpat => ?_) (he _)
  obtain ⟨x, H1, I1, r1, q1⟩ := hpat
  obtain ⟨d, rfl, q⟩ := q1
  cases r1
  exact wpAny_truthy_bool ⟨H1, I1, q⟩
variable {tA tB' : TT} {rest : List Expr}
def tAnd (t u : TT) : TT := fun σ H Q => t σ H fun c H1 => if c = true then u σ H1 Q else Q false H1
def tOr (t u : TT) : TT := fun σ H Q => t σ H fun c H1 => if c = true then Q true H1 else u σ H1 Q
def tNot (t : TT) : TT := fun σ H Q => t σ H fun c H1 => Q (!c) H1
theorem pw_and1 (ha : PT X a tA) : PW X (.BoolOp .And [a] pos) tA := by
  intro wh pins s σ H Q I h
  refine isTrue_and (thn (ha pins s σ H Q I h) fun c s1 e => ?_)
  cases c with
  | true => exact isTrue_and_nil e
  | false => exact e
theorem pw_or1 (ha : PT X a tA) : PW X (.BoolOp .Or [a] pos) tA := by
  intro wh pins s σ H Q I h
  refine isTrue_or (thn (ha pins s σ H Q I h) fun c s1 e => ?_)
  cases c with
  | false => exact isTrue_or_nil e
  | true => exact e
theorem pw_and (ha : PT X a tA) (hb : PW X (.BoolOp .And (b :: rest) pos) tB') : PW X (.BoolOp .And (a :: b :: rest) pos) (tAnd tA tB') := by
  intro wh pins s σ H Q I h
  refine isTrue_and (thn (ha pins s σ H _ I h) fun c s1 ⟨H1, I1, q1⟩ => ?_)
  cases c with
  | true => exact hb wh pins s1 σ H1 Q I1 q1
  | false => exact ⟨H1, I1, q1⟩
theorem pw_or (ha : PT X a tA) (hb : PW X (.BoolOp .Or (b :: rest) pos) tB') : PW X (.BoolOp .Or (a :: b :: rest) pos) (tOr tA tB') := by
  intro wh pins s σ H Q I h
  refine isTrue_or (thn (ha pins s σ H _ I h) fun c s1 ⟨H1, I1, q1⟩ => ?_)
  cases c with
  | true => exact ⟨H1, I1, q1⟩
  | false => exact hb wh pins s1 σ H1 Q I1 q1
theorem pt_not (ha : PT X a tA) : PT X (.UnaryOp .Not a pos) (tNot tA) := by
  intro pins s σ H Q I h
  exact isTrue_not (ha pins s σ H (fun c H1 => Q (!c) H1) I h)
def tAndV (ta tb : TE) : TE := fun σ H Q => ta σ H fun x H1 => ∃ c, x = .bl c ∧ if c = true then tb σ H1 Q else Q (.bl false) H1
def tOrV (ta tb : TE) : TE := fun σ H Q => ta σ H fun x H1 => ∃ c, x = .bl c ∧ if c = true then Q (.bl true) H1 else tb σ H1 Q
def tNotV (ta : TE) : TE := fun σ H Q => ta σ H fun x H1 => ∃ c, x = .bl c ∧ Q (.bl (!c)) H1
theorem pe_one {op} {t : TE} (h : PE X a t) : PE X (.BoolOp op [a] pos) t := fun pins s σ H Q I hw => BoolOp_one (h pins s σ H Q I hw)
theorem pe_and (ha : PE X a ta) (hb : PE X (.BoolOp .And (b :: rest) pos) tb) : PE X (.BoolOp .And (a :: b :: rest) pos) (tAndV ta tb) := by
  intro pins s σ H Q I h
  refine BoolOp_and (thn (ha pins s σ H _ I h) fun v s1 hpat => ?_)
  obtain ⟨x, H1, I1, r1, q1⟩ := hpat
  obtain ⟨c, rfl, q1⟩ := q1
  cases r1
  refine wpAny_truthy_bool ?_
  cases c with
  | true => exact hb pins s1 σ H1 Q I1 q1
  | false => exact ⟨.bl false, H1, I1, rfl, q1⟩
theorem pe_or (ha : PE X a ta) (hb : PE X (.BoolOp .Or (b :: rest) pos) tb) : PE X (.BoolOp .Or (a :: b :: rest) pos) (tOrV ta tb) := by
  intro pins s σ H Q I h
  refine BoolOp_or (thn (ha pins s σ H _ I h) fun v s1 hpat => ?_)
  obtain ⟨x, H1, I1, r1, q1⟩ := hpat
  obtain ⟨c, rfl, q1⟩ := q1
  cases r1
  refine wpAny_truthy_bool ?_
  cases c with
  | false => exact hb pins s1 σ H1 Q I1 q1
  | true => exact ⟨.bl true, H1, I1, rfl, q1⟩
theorem pe_not (ha : PE X a ta) : PE X (.UnaryOp .Not a pos) (tNotV ta) := by
  intro pins s σ H Q I h
  refine UnaryOp_ (thn (ha pins s σ H _ I h) fun v s1 hpat => ?_)
  obtain ⟨x, H1, I1, r1, q1⟩ := hpat
  obtain ⟨c, rfl, q1⟩ := q1
  cases r1
  exact not_of (wpAny_truthy_bool ⟨.bl (!c), H1, I1, rfl, q1⟩)
def tIf (t : TT) (ta tb : TE) : TE := fun σ H Q => t σ H fun c H1 => if c = true then ta σ H1 Q else tb σ H1 Q
theorem pe_ifExp {c : Expr} (hc : PT X c tA) (ha : PE X a ta) (hb : PE X b tb) : PE X (.IfExp c a b pos) (tIf tA ta tb) := by
  intro pins s σ H Q I h
  refine wpAny_IfExp (thn (hc pins s σ H _ I h) fun d s1 ⟨H1, I1, q1⟩ => ?_)
  cases d with
  | true => exact ha pins s1 σ H1 Q I1 q1
  | false => exact hb pins s1 σ H1 Q I1 q1
end
end L2
namespace L2
open PySem PySem.Spec PyProof.Rows
def SqL (K : PySem.W.Frag) (H : Hp) (a : Addr) (xs : List V) : Prop :=
  Rd H a (.lst xs) ∨
    ∃ (o : Obj) (its : Array Value) (n : Nat), K.lookup a = some o ∧ o.cls = .type "list" ∧ o.dict = none ∧ o.data = .seq its n ∧ its.size ≤ sizeLine ∧ Vals xs its.toList
def SqT (K : PySem.W.Frag) (H : Hp) (a : Addr) (xs : List V) : Prop :=
  Rd H a (.tup xs) ∨
    ∃ (o : Obj) (its : Array Value) (n : Nat), K.lookup a = some o ∧ o.cls = .type "tuple" ∧ o.data = .seq its n ∧ its.size ≤ sizeLine ∧ Vals xs its.toList
def absV : Value → Option V
  | .none => some .non
  | .bool b => some (.bl b)
  | .int i _ => some (.int i)
  | .str x _ => some (.str x)
  | .bytes b _ => some (.byt b)
  | .float b _ => some (.flt b)
  | .ref a => some (.ref a)
  | .type n => some (.ty n)
  | _ => none
theorem RelV.abs {x : V} {u : Value} (r : RelV x u) : absV u = some x := by
  cases x with
  | non => cases r; rfl
  | bl _ => cases r; rfl
  | int _ => obtain ⟨t, rfl⟩ := r; rfl
  | str _ => obtain ⟨t, rfl⟩ := r; rfl
  | byt _ => obtain ⟨t, rfl⟩ := r; rfl
  | flt _ => obtain ⟨t, rfl⟩ := r; rfl
  | ref _ => cases r; rfl
  | ty _ => cases r; rfl
theorem RelV.inj {x y : V} {u : Value} (r : RelV x u) (q : RelV y u) : x = y := Option.some.inj (r.abs.symm.trans q.abs)
theorem Vals.inj : ∀ {xs ys : List V} {us : List Value}, Vals xs us → Vals ys us → xs = ys
  | _, _, _, .nil, .nil => rfl
  | _, _, _, .cons r t, .cons r' t' => by rw [r.inj r', Vals.inj t t']
section
variable {X : Cx} {pins : List (Addr × Obj)} {σ : St} {H : Hp} {s : Shared} {a : Addr} {xs ys : List V}
theorem SqL.of {K : PySem.W.Frag} (h : H a = some (.lst xs)) : SqL K H a xs := .inl (.inl h)
theorem SqT.of {K : PySem.W.Frag} (h : H a = some (.tup xs)) : SqT K H a xs := .inl (.inl h)
theorem Inv.list (I : Inv X pins σ H s) (h : SqL X.K H a xs) : ∃ its : List Value, Vals xs its ∧ PlainL s.heap a its.toArray ∧ xs.length ≤ sizeLine := by
  rcases h with h | ⟨o, its, n, hk, hc, hd, hs, hz, r⟩
  · obtain ⟨z, its, n, r, e⟩ := h.ok I.hok
    exact ⟨its, r, ⟨_, n, e, rfl, rfl, rfl⟩, z⟩
  · refine ⟨its.toList, r, ⟨o, n, I.kIn a o hk, hc, hd, by simpa using hs⟩, ?_⟩
    have e := r.length
    simp only [Array.length_toList] at e
    omega
theorem Inv.tuple (I : Inv X pins σ H s) (h : SqT X.K H a xs) : ∃ its : List Value, Vals xs its ∧ IsTup s.heap a its.toArray ∧ xs.length ≤ sizeLine := by
  rcases h with h | ⟨o, its, n, hk, hc, hs, hz, r⟩
  · obtain ⟨z, its, r, p⟩ := h.ok I.hok
    exact ⟨its, r, p, z⟩
  · refine ⟨its.toList, r, ⟨o, I.kIn a o hk, hc, n, by simpa using hs⟩, ?_⟩
    have e := r.length
    simp only [Array.length_toList] at e
    omega
theorem Inv.list_inj (I : Inv X pins σ H s) (h : SqL X.K H a xs) (h' : SqL X.K H a ys) : xs = ys := by
  obtain ⟨its, r, ⟨o, n, e, _, _, d⟩, _⟩ := I.list h
  obtain ⟨its', r', ⟨o', n', e', _, _, d'⟩, _⟩ := I.list h'
  rw [e] at e'; cases e'
  rw [d] at d'
  injection d' with d1 _
  have : its = its' := by simpa using congrArg Array.toList d1
  subst this
  exact r.inj r'
theorem Inv.tuple_inj (I : Inv X pins σ H s) (h : SqT X.K H a xs) (h' : SqT X.K H a ys) : xs = ys := by
  obtain ⟨its, r, ⟨o, e, _, n, d⟩, _⟩ := I.tuple h
  obtain ⟨its', r', ⟨o', e', _, n', d'⟩, _⟩ := I.tuple h'
  rw [e] at e'; cases e'
  rw [d] at d'
  injection d' with d1 _
  have : its = its' := by simpa using congrArg Array.toList d1
  subst this
  exact r.inj r'
end
abbrev Cx.wish (X : Cx) (E : Value → Shared → Prop) : Cx := { X with xe := E }
abbrev Cx.nox (X : Cx) : Cx := X.wish fun _ _ => False
theorem Cx.Ok.wish {X : Cx} (ok : X.Ok) (E : Value → Shared → Prop) : (X.wish E).Ok :=
  ⟨ok.mod, ok.kind, ok.glob, ok.blt, ok.above, ok.inj, ok.has, ok.cab, ok.hd, ok.frames, ok.stk, ok.exf, ok.bs, ok.bsz, ok.noex, ok.exfs, ok.funs, ok.frf⟩
theorem Cx.Ok.unwish {X : Cx} {E : Value → Shared → Prop} (ok : (X.wish E).Ok) : X.Ok :=
  ⟨ok.mod, ok.kind, ok.glob, ok.blt, ok.above, ok.inj, ok.has, ok.cab, ok.hd, ok.frames, ok.stk, ok.exf, ok.bs, ok.bsz, ok.noex, ok.exfs, ok.funs, ok.frf⟩
section
variable {X : Cx} {pins : List (Addr × Obj)} {σ : St} {H : Hp} {s : Shared} {E : Value → Shared → Prop}
theorem Inv.wish (I : Inv X pins σ H s) (E : Value → Shared → Prop) : Inv (X.wish E) pins σ H s := ⟨I.ok.wish E, I.os, I.bare, I.base, I.loc, I.cell, I.free, I.freeC, I.pin, I.hok, I.len⟩
theorem Inv.unwish (I : Inv (X.wish E) pins σ H s) : Inv X pins σ H s := ⟨I.ok.unwish, I.os, I.bare, I.base, I.loc, I.cell, I.free, I.freeC, I.pin, I.hok, I.len⟩
theorem SP.unwish {D : Ends} {f : Flow} {s' : Shared} (h : SP (X.wish E) pins D f s') : SP X pins D f s' := by
  cases f with
  | next => obtain ⟨σ', H', I, q⟩ := h; exact ⟨σ', H', I.unwish, q⟩
  | brk => obtain ⟨σ', H', I, q⟩ := h; exact ⟨σ', H', I.unwish, q⟩
  | cont => obtain ⟨σ', H', I, q⟩ := h; exact ⟨σ', H', I.unwish, q⟩
  | ret u => obtain ⟨v, σ', H', I, r, q⟩ := h; exact ⟨v, σ', H', I.unwish, r, q⟩
theorem PSs.nox {st : List Stmt} {t : TS} (h : PSs X.nox st t) : PSs X st t := fun pins s σ H D I hw =>
  wpAny_mono (h pins s σ H D (I.wish _) hw) (fun _ _ q => q.unwish) fun _ _ z => False.elim z
end
section
variable {X : Cx} {st : Stmt} {rest : List Stmt} {t u : TS} {e : Expr} {te : TE} {pos : Pos}
def tNext : TS := fun D σ H => D.nx σ H
def tSeq (t u : TS) : TS := fun D σ H => t { D with nx := u D } σ H
theorem pss_nil : PSs X [] tNext := fun _ _ σ H _ I h => wpAny_execs_nil ⟨σ, H, I, h⟩
theorem pss_cons (h1 : PS X st t) (h2 : PSs X rest u) : PSs X (st :: rest) (tSeq t u) := by
  intro pins s σ H D I h
  refine wpAny_execs_cons (thn (h1 pins s σ H { D with nx := u D } I h) fun f s1 q => ?_)
  cases f with
  | next =>
    obtain ⟨σ', H', I', q⟩ := q
    exact h2 pins s1 σ' H' D I' q
  | ret v => exact q
  | brk => exact q
  | cont => exact q
theorem pss_one (h1 : PS X st t) : PSs X [st] t := by
  intro pins s σ H D I h
  refine wpAny_execs_cons (thn (h1 pins s σ H D I h) fun f s1 q => ?_)
  cases f with
  | next => exact wpAny_execs_nil q
  | ret v => exact q
  | brk => exact q
  | cont => exact q
theorem Inv.quiet {pins : List (Addr × Obj)} {σ : St} {H : Hp} {s : Shared} (I : Inv X pins σ H s) : interactive X.env = false := by simp [interactive, I.ok.kind]
def tDrop (te : TE) : TS := fun D σ H => te σ H fun _ H1 => D.nx σ H1
theorem ps_expr (he : PE X e te) (hs : swapsWith e none pos.line X.env = pure false := by rfl) : PS X (.Expr e pos) (tDrop te) := by
  intro pins s σ H D I h
  exact wpAny_Expr_any (thn (he pins s σ H _ I h) fun v s1 ⟨x, H1, I1, r1, q1⟩ => ⟨σ, H1, I1, q1⟩) I.quiet hs
def tRet (te : TE) : TS := fun D σ H => te σ H D.rt
theorem ps_ret (he : PE X e te) : PS X (.Return (some e) pos) (tRet te) := by
  intro pins s σ H D I h
  exact wpAny_Return_some (thn (he pins s σ H _ I h) fun v s1 ⟨x, H1, I1, r1, q1⟩ => ⟨x, σ, H1, I1, r1, q1⟩)
def tIfS (c : TT) (t u : TS) : TS := fun D σ H => c σ H fun b H1 => if b = true then t D σ H1 else u D σ H1
theorem ps_if {c : Expr} {a b : List Stmt} {tc : TT} (hc : PT X c tc) (ha : PSs X a t) (hb : PSs X b u) : PS X (.If c a b pos) (tIfS tc t u) := by
  intro pins s σ H D I h
  refine wpAny_If (thn (hc pins s σ H _ I h) fun d s1 ⟨H1, I1, q1⟩ => ?_)
  cases d with
  | true => exact ha pins s1 σ H1 D I1 q1
  | false => exact hb pins s1 σ H1 D I1 q1
def tNever : TS := fun _ _ _ => False
theorem ps_never : PS X st tNever := fun _ _ _ _ _ _ h => h.elim
theorem pss_never {sts : List Stmt} : PSs X sts tNever := fun _ _ _ _ _ _ h => h.elim
end
abbrev TG := V → St → Hp → (St → Hp → Prop) → Prop
abbrev TGs := List V → St → Hp → (St → Hp → Prop) → Prop
def PG (X : Cx) (target : Expr) (t : TG) : Prop :=
  ∀ (pins : List (Addr × Obj)) (s : Shared) (σ : St) (H : Hp) (v : V) (u : Value) (Q : St → Hp → Prop), Inv X pins σ H s → RelV v u → t v σ H Q →
    wpAny (model X.prog X.w) X.A (assign target X.env u) (fun _ s' => ∃ σ' H', Inv X pins σ' H' s' ∧ Q σ' H') X.xe s
def PGs (X : Cx) (ts : List Expr) (t : TGs) : Prop :=
  ∀ (pins : List (Addr × Obj)) (s : Shared) (σ : St) (H : Hp) (vs : List V) (us : List Value) (Q : St → Hp → Prop), Inv X pins σ H s → Vals vs us → t vs σ H Q →
    wpAny (model X.prog X.w) X.A (assignInOrder ((assignEach ts X.env).map (·.2)) us) (fun _ s' => ∃ σ' H', Inv X pins σ' H' s' ∧ Q σ' H') X.xe s
abbrev TSet := V → V → V → Hp → (Hp → Prop) → Prop
def PSet (X : Cx) (t : TSet) : Prop :=
  ∀ (pins : List (Addr × Obj)) (s : Shared) (σ : St) (H : Hp) (o i v : V) (ov iv u : Value) (Q : Hp → Prop), Inv X pins σ H s → RelV o ov → RelV i iv → RelV v u → t o i v H Q →
    wpAny (model X.prog X.w) X.A (setItem ov iv u) (fun _ s' => ∃ H', Inv X pins σ H' s' ∧ Q H') X.xe s
section
variable {X : Cx} {pos : Pos}
def gName (i : Nat) : TG := fun v σ H Q => Q (σ.set i (some v)) H
theorem pg_name {i : Nat} {x : Str} (hN : X.N.Nodup) (hi : X.N[i]? = some x) (hx : Loc X.env.scope x) (hf : X.fn x = true ∨ X.env.scope.names.lookup x = some .local := by first | exact .inl rfl | exact .inr rfl | assumption) : PG X (.Name x pos) (gName i) := by
  intro pins s σ H v u Q I r h
  exact wpAny_assign_Name (store_ok I hN hi hx r (fun s' I' => ⟨_, H, I', h⟩) hf)
def gNil : TGs := fun vs σ H Q => vs = [] ∧ Q σ H
def gCons (t : TG) (u : TGs) : TGs := fun vs σ H Q => ∃ v r, vs = v :: r ∧ t v σ H fun σ' H' => u r σ' H' Q
theorem pgs_nil : PGs X [] gNil := by
  intro pins s σ H vs us Q I r h
  obtain ⟨e, h⟩ := h
  subst e
  cases r
  exact assignInOrder_nil ⟨σ, H, I, h⟩
theorem pgs_cons {e : Expr} {es : List Expr} {t : TG} {u : TGs} (h1 : PG X e t) (h2 : PGs X es u)
    (hs : (assignEach (e :: es) X.env).map (·.2) = assign e X.env :: (assignEach es X.env).map (·.2) := by rfl) : PGs X (e :: es) (gCons t u) := by
  intro pins s σ H vs us Q I r h
  obtain ⟨v, vr, e1, h⟩ := h
  subst e1
  cases r with
  | cons r rr =>
    rw [hs]
    refine assignInOrder_cons (thn (h1 pins s σ H _ _ _ I r h) fun _ s1 ⟨σ1, H1, I1, q1⟩ => ?_)
    exact h2 pins s1 σ1 H1 _ _ Q I1 rr q1
def gTup (K : PySem.W.Frag) (n : Nat) (t : TGs) : TG := fun v σ H Q => ∃ a xs, v = .ref a ∧ SqT K H a xs ∧ xs.length = n ∧ t xs σ H Q
theorem pg_tup {es : List Expr} {k : Nat} {t : TGs} {n : Nat} (hc : X.calm = true) (h : PGs X es t)
    (hn : (assignEach es X.env).length = n := by rfl) (hst : (assignEach es X.env).findIdx? (·.1) = none := by rfl) : PG X (.Tuple es k pos) (gTup X.K n t) := by
  intro pins s σ H v u Q I r hw
  obtain ⟨a, xs, e1, hq, hl, hw⟩ := hw
  subst e1
  cases r
  obtain ⟨its, rv, ht, hz⟩ := I.tuple hq
  refine assign_Tuple_tuple (I.ok.hd hc) ht (by simp [hn, ← hl, rv.length]) hst fun h' hx => ?_
  have I1 : Inv X pins σ H { s with heap := h' } := I.kept (t' := s.toks) fun b o e => hx b o (Nat.ne_of_lt (Heap.lt_size e)) e
  exact h pins _ σ H xs _ Q I1 (by simpa using rv) hw
def gSub (to ti : TE) (t : TSet) : TG := fun v σ H Q => to σ H fun o H1 => ti σ H1 fun i H2 => t o i v H2 fun H3 => Q σ H3
theorem pg_sub {o i : Expr} {to ti : TE} {t : TSet} (ho : PE X o to) (hi : PE X i ti) (hs : PSet X t)
    (ha : ∀ v, assign (.Subscript o i pos) X.env v = (do
      let ov ← holding [v] (eval o X.env)
      let iv ← holding [v, ov] (eval i X.env)
      standAt pos
      holding [v, ov, iv] (setItem ov iv v)
      release [v, ov, iv] []) := by intro _; rfl) : PG X (.Subscript o i pos) (gSub to ti t) := by
  intro pins s σ H v u Q I r h
  rw [ha]
  refine wpAny_bind (wpAny_holding (thn (ho pins s σ H _ I h) fun ov s1 hpat => ?_))
  obtain ⟨x, H1, I1, r1, q1⟩ := hpat
  refine wpAny_bind (wpAny_holding (thn (hi pins s1 σ H1 _ I1 q1) fun iv s2 hpat => ?_))
  obtain ⟨y, H2, I2, r2, q2⟩ := hpat
  refine wpAny_bind (wpAny_standAt (wpAny_bind (wpAny_holding (thn (hs pins s2 σ H2 x y v ov iv u _ I2 r1 r2 r q2) fun _ s3 ⟨H3, I3, q3⟩ => ?_))))
  exact wpAny_release ⟨σ, H3, I3, q3⟩
def tAsg (te : TE) (g : TG) : TS := fun D σ H => te σ H fun x H1 => g x σ H1 D.nx
theorem ps_asg {tg e : Expr} {te : TE} {g : TG} (he : PE X e te) (hg : PG X tg g) (hs : swapsWithSole [tg] e pos.line X.env = pure false := by rfl) (hw : swappedStores [tg] e X.env = pure none := by rfl)
    (h1 : (assignEach [tg] X.env).map (·.2) = [assign tg X.env] := by rfl) : PS X (.Assign [tg] e pos) (tAsg te g) := by
  intro pins s σ H D I h
  refine wpAny_Assign_stores (thn (he pins s σ H _ I h) fun v s1 hpat => ?_) hs hw
  obtain ⟨x, H1, I1, r1, q1⟩ := hpat
  rw [h1]
  exact thn (hg pins s1 σ H1 x v _ I1 r1 q1) fun _ s2 q => q
theorem ps_set {i : Nat} {x : Str} {e : Expr} {te : TE} {pos' : Pos} (hN : X.N.Nodup) (hi : X.N[i]? = some x) (hx : Loc X.env.scope x) (he : PE X e te) (hs : swapsWith e (some (.Name x pos')) pos.line X.env = pure false := by rfl) (hf : X.fn x = true ∨ X.env.scope.names.lookup x = some .local := by first | exact .inl rfl | exact .inr rfl | assumption) :
    PS X (.Assign [.Name x pos'] e pos) (tAsg te (gName i)) := by
  intro pins s σ H D I h
  refine wpAny_Assign_Name (thn (he pins s σ H _ I h) fun v s1 hpat => ?_) hs
  obtain ⟨y, H1, I1, r1, q1⟩ := hpat
  exact store_ok I1 hN hi hx r1 (fun s2 I2 => ⟨_, H1, I2, q1⟩) hf
end
section
variable {X : Cx} {pos : Pos}
end
structure It where
  go : Nat → Hp → Prop
  yld : Nat → Hp → V → Hp → Prop
  stop : Nat → Hp → Prop
def FpOk (X : Cx) (pins : List (Addr × Obj)) (H : Hp) (b : Addr) : Prop :=
  H b = none ∧ b ≠ X.env.locals ∧ b ∉ X.fs ∧ (b ∈ X.ex ∨ X.s₀.heap.objs.size ≤ b) ∧ (∀ x c, X.env.cells.lookup x = some c → c ≠ b) ∧ ∀ p ∈ X.pn ++ pins, p.1 ≠ b
theorem Inv.fpOk {X : Cx} {pins : List (Addr × Obj)} {σ : St} {H H' : Hp} {s : Shared} {b : Addr} (I : Inv X pins σ H s) (hb : s.heap.objs.size ≤ b) (hn : H' b = none) : FpOk X pins H' b := by
  refine ⟨hn, Nat.ne_of_gt (Nat.lt_of_lt_of_le I.lt hb), I.nofs hb, .inr (Nat.le_trans I.sz hb), fun x c e z => ?_, fun p hp z => ?_⟩
  · obtain ⟨v, q⟩ := I.cell x c e
    exact absurd (Nat.lt_of_lt_of_le q.lt (by rw [z]; exact hb)) (Nat.lt_irrefl _)
  · exact absurd (Nat.lt_of_lt_of_le (Heap.lt_size (I.pin p hp).1) (by rw [z]; exact hb)) (Nat.lt_irrefl _)
structure Turn (P : Program) (w : World) (K : PySem.W.Frag) (tg : Expr) (J : It) (fp : List Addr) (it : Addr) (tn : Nat → Heap → Prop) : Prop where
  mem : it ∈ fp
  obj : ∀ i h, tn i h → ∀ b ∈ fp, ∃ o, h.get? b = some o ∧ ∀ v, o.data ≠ .cell v
  keep : ∀ i h h', tn i h → (∀ b ∈ fp, ∀ o, h.get? b = some o → h'.get? b = some o) → tn i h'
  item : ∀ (X : Cx), X.prog = P → X.w = w → X.K = K → X.calm = true → ∀ (i : Nat) (pins : List (Addr × Obj)) (s : Shared) (σ : St) (H : Hp) (E : Value → Shared → Prop), Inv X pins σ H s → (∀ b ∈ fp, FpOk X pins H b) → tn i s.heap → J.go i H →
    wpAny (model P w) X.A (pyNext (.ref it)) (fun r s1 => ∃ u, r = some u ∧
      wpAny (model P w) X.A (letOwnedTupleGo tg (.ref it) u) (fun _ s2 => ∃ x H', Inv X pins σ H' s2 ∧ RelV x u ∧ J.yld i H x H' ∧ tn (i + 1) s2.heap ∧ ∀ b ∈ fp, H' b = none) E s1) E s
  done : ∀ (X : Cx), X.prog = P → X.w = w → X.K = K → X.calm = true → ∀ (i : Nat) (pins : List (Addr × Obj)) (s : Shared) (σ : St) (H : Hp) (E : Value → Shared → Prop), Inv X pins σ H s → (∀ b ∈ fp, FpOk X pins H b) → tn i s.heap → J.stop i H →
    wpAny (model P w) X.A (pyNext (.ref it)) (fun r s1 => r = none ∧ Inv X pins σ H s1) E s
  self : ∀ (A : Around) (i : Nat) (s : Shared) (Q : Value → Shared → Prop) (E : Value → Shared → Prop), tn i s.heap → Q (.ref it) s → wpAny (model P w) A (pyIter (.ref it)) Q E s
abbrev TI := St → Hp → (It → Hp → Prop) → Prop
def PIE (X : Cx) (pins : List (Addr × Obj)) (σ : St) (tg : Expr) (R : It → Hp → Prop) (itv : Value) (s2 : Shared) : Prop :=
  ∃ (it : Addr) (fp : List Addr) (tn : Nat → Heap → Prop) (J : It) (H' : Hp), itv = .ref it ∧ Inv X pins σ H' s2 ∧ Turn X.prog X.w X.K tg J fp it tn ∧ tn 0 s2.heap ∧ (∀ b ∈ fp, FpOk X pins H' b) ∧ R J H'
def PI (X : Cx) (tg iter : Expr) (wi : TI) : Prop :=
  ∀ (pins : List (Addr × Obj)) (s : Shared) (σ : St) (H : Hp) (R : It → Hp → Prop), Inv X pins σ H s → wi σ H R →
    wpAny (model X.prog X.w) X.A (eval iter X.env) (fun v s1 => wpAny (model X.prog X.w) X.A (pyIter v) (PIE X pins σ tg R) X.xe s1) X.xe s
theorem go_of {M : Model} {A : Around} {E : Value → Shared → Prop} {s : Shared} {tg : Expr} {it : Addr} {u : Value} {o : Obj} {n : String} {vs : Array Value} {Q : Unit → Shared → Prop} (ho : s.heap.get? it = some o) (hc : o.cls = .type n) (hd : o.data = .fields vs)
    (hn : ["enumerate", "zip", "dict_itemiterator", "dict_reverseitemiterator", "odict_iterator", "itertools.zip_longest", "itertools.pairwise"].contains n = false) (hQ : Q () s) : wpAny M A (letOwnedTupleGo tg (.ref it) u) Q E s := by
  unfold letOwnedTupleGo
  cases tg <;> first
    | exact wpAny_pure hQ
    | (cases u <;> first
        | exact wpAny_pure hQ
        | (refine wpAny_bind (wpAny_load ho ?_)
           rw [hc, hd]
           show wpAny M A (if (["enumerate", "zip", "dict_itemiterator", "dict_reverseitemiterator", "odict_iterator", "itertools.zip_longest", "itertools.pairwise"].contains n && vs[0]? == some (rawInt _)) = true then _ else _) Q E s
           rw [if_neg (by intro h; rw [hn, Bool.false_and] at h; cases h)]
           exact wpAny_pure hQ))
def Itl (K : PySem.W.Frag) (a : Addr) : It :=
  ⟨fun i H => ∃ xs x, SqL K H a xs ∧ xs[i]? = some x, fun i H x H' => H' = H ∧ ∀ xs, SqL K H a xs → xs[i]? = some x, fun i H => ∃ xs, SqL K H a xs ∧ xs.length ≤ i⟩
def Itt (K : PySem.W.Frag) (a : Addr) : It :=
  ⟨fun i H => ∃ xs x, SqT K H a xs ∧ xs[i]? = some x, fun i H x H' => H' = H ∧ ∀ xs, SqT K H a xs → xs[i]? = some x, fun i H => ∃ xs, SqT K H a xs ∧ xs.length ≤ i⟩
def Itr (lo : Int) (n : Nat) : It := ⟨fun i _ => i < n, fun i H x H' => H' = H ∧ x = .int (lo + i), fun i _ => n ≤ i⟩
theorem turn_list {P : Program} {w : World} {K : PySem.W.Frag} {tg : Expr} (a it : Addr) : Turn P w K tg (Itl K a) [it] it (fun i h => h.IsListIter it a i) where
  mem := by simp
  obj := fun i h st b hb => by
    have e : b = it := by simpa using hb
    subst e
    obtain ⟨o, e, c, d⟩ := st
    exact ⟨o, e, fun v z => by rw [d] at z; cases z⟩
  keep := fun i h h' st k => st.at fun o e => k it (by simp) o e
  item := by
    intro X hP hw hK hc i pins s σ H E I hf st hg
    subst hP hw hK
    obtain ⟨xs, x, hq, hx⟩ := hg
    obtain ⟨its, rv, p, hz⟩ := I.list hq
    obtain ⟨u, hu, ru⟩ := rv.get hx
    obtain ⟨f0, f1, f2, f3, f4, f5⟩ := hf it (by simp)
    refine wpAny_pyNext_list_item st p.isList (x := u) (by simpa using hu) fun h' st' sb => ?_
    have I1 : Inv X pins σ H { s with heap := h' } := I.turned (t' := s.toks) (fun b o hb e => (sb.2 b hb).trans e) f0 f1 f3 f4 f5
    obtain ⟨o, e, c, d⟩ := id st'
    exact ⟨u, rfl, go_of (s := { s with heap := h' }) e c d (by decide) ⟨x, H, I1, ru, ⟨rfl, fun ys hy => by rw [I.list_inj hy hq]; exact hx⟩, st', fun b hb => (hf b hb).1⟩⟩
  done := by
    intro X hP hw hK hc i pins s σ H E I hf st hg
    subst hP hw hK
    obtain ⟨xs, hq, hx⟩ := hg
    obtain ⟨its, rv, p, hz⟩ := I.list hq
    obtain ⟨f0, f1, f2, f3, f4, f5⟩ := hf it (by simp)
    have hl := rv.length
    exact wpAny_pyNext_list_end (I.ok.hd hc) st p.isList (by simp; omega) fun h' eb => ⟨rfl, I.turned (t' := s.toks) (fun b o hb e => eb b o hb e) f0 f1 f3 f4 f5⟩
  self := fun _ _ _ _ _ st h => wpAny_pyIter_listiter st h
theorem turn_tuple {P : Program} {w : World} {K : PySem.W.Frag} {tg : Expr} (a it : Addr) : Turn P w K tg (Itt K a) [it] it (fun i h => h.IsTupleIter it a i) where
  mem := by simp
  obj := fun i h st b hb => by
    have e : b = it := by simpa using hb
    subst e
    obtain ⟨o, e, c, d⟩ := st
    exact ⟨o, e, fun v z => by rw [d] at z; cases z⟩
  keep := fun i h h' st k => st.at fun o e => k it (by simp) o e
  item := by
    intro X hP hw hK hc i pins s σ H E I hf st hg
    subst hP hw hK
    obtain ⟨xs, x, hq, hx⟩ := hg
    obtain ⟨its, rv, p, hz⟩ := I.tuple hq
    obtain ⟨u, hu, ru⟩ := rv.get hx
    obtain ⟨f0, f1, f2, f3, f4, f5⟩ := hf it (by simp)
    refine wpAny_pyNext_tuple_item st (show s.heap.IsTuple a its.toArray from p) (x := u) (by simpa using hu) fun h' st' sb => ?_
    have I1 : Inv X pins σ H { s with heap := h' } := I.turned (t' := s.toks) (fun b o hb e => (sb.2 b hb).trans e) f0 f1 f3 f4 f5
    obtain ⟨o, e, c, d⟩ := id st'
    exact ⟨u, rfl, go_of (s := { s with heap := h' }) e c d (by decide) ⟨x, H, I1, ru, ⟨rfl, fun ys hy => by rw [I.tuple_inj hy hq]; exact hx⟩, st', fun b hb => (hf b hb).1⟩⟩
  done := by
    intro X hP hw hK hc i pins s σ H E I hf st hg
    subst hP hw hK
    obtain ⟨xs, hq, hx⟩ := hg
    obtain ⟨its, rv, p, hz⟩ := I.tuple hq
    obtain ⟨f0, f1, f2, f3, f4, f5⟩ := hf it (by simp)
    have hl := rv.length
    exact wpAny_pyNext_tuple_end (I.ok.hd hc) st (show s.heap.IsTuple a its.toArray from p) (by simp; omega) fun h' eb => ⟨rfl, I.turned (t' := s.toks) (fun b o hb e => eb b o hb e) f0 f1 f3 f4 f5⟩
  self := fun _ _ _ _ _ st h => wpAny_pyIter_tupleiter st h
theorem turn_range {P : Program} {w : World} {K : PySem.W.Frag} {tg : Expr} (it : Addr) (lo : Int) (n : Nat) : Turn P w K tg (Itr lo n) [it] it (fun i h => IsRangeIter h it (lo + (i : Nat) * 1) ((n : Int) - (i : Nat)) 1) where
  mem := by simp
  obj := fun i h st b hb => by
    have e : b = it := by simpa using hb
    subst e
    exact ⟨_, st, fun v z => by
      have z' : Data.fields _ = Data.cell v := z
      cases z'⟩
  keep := fun i h h' st k => k it (by simp) _ st
  item := by
    intro X hP hw hK hc i pins s σ H E I hf st hg
    subst hP hw hK
    obtain ⟨f0, f1, f2, f3, f4, f5⟩ := hf it (by simp)
    have W := Walks.range (prog := X.prog) (w := X.w) (I.ok.hd hc) it lo 1 n
    refine W.item i s _ _ hg st fun v h' tk hv st' kk => ?_
    obtain ⟨t, rfl⟩ := hv
    have I1 : Inv X pins σ H { s with heap := h', toks := tk } := I.turned (fun b o hb e => kk b o (by simpa using hb) e) f0 f1 f3 f4 f5
    refine ⟨_, rfl, go_of (s := { s with heap := h', toks := tk }) (n := "range_iterator") st' rfl rfl (by decide) ⟨.int (lo + i), H, I1, ⟨t, ?_⟩, ⟨rfl, rfl⟩, st', fun b hb => (hf b hb).1⟩⟩
    rw [Int.mul_one]
  done := by
    intro X hP hw hK hc i pins s σ H E I hf st hg
    subst hP hw hK
    obtain ⟨f0, f1, f2, f3, f4, f5⟩ := hf it (by simp)
    exact wpAny_pyNext_range_end (I.ok.hd hc) st (by have : n ≤ i := hg; omega) fun h' eb => ⟨rfl, I.turned (t' := s.toks) (fun b o hb e => eb b o hb e) f0 f1 f3 f4 f5⟩
  self := fun _ _ _ _ _ st h => wpAny_pyIter_rangeiter st h
end L2
namespace L2
open PySem PySem.Spec PyProof.Rows
section
variable {X : Cx} {tg : Expr}
def iList (K : PySem.W.Frag) (tl : TE) : TI := fun σ H R => tl σ H fun x H1 => ∃ a, x = .ref a ∧ (∃ xs, SqL K H1 a xs) ∧ R (Itl K a) H1
def iTup (K : PySem.W.Frag) (tl : TE) : TI := fun σ H R => tl σ H fun x H1 => ∃ a, x = .ref a ∧ (∃ xs, SqT K H1 a xs) ∧ R (Itt K a) H1
theorem pi_list {l : Expr} {tl : TE} (hl : PE X l tl) : PI X tg l (iList X.K tl) := by
  intro pins s σ H R I h
  refine thn (hl pins s σ H _ I h) fun v s1 hpat => ?_
  obtain ⟨x, H1, I1, r1, q1⟩ := hpat
  obtain ⟨a, e, ⟨xs, hq⟩, q⟩ := q1
  subst e
  cases r1
  obtain ⟨its, rv, p, hz⟩ := I1.list hq
  refine wpAny_pyIter_list p.isList ?_
  refine ⟨s1.heap.objs.size, [s1.heap.objs.size], _, _, H1, rfl, I1.kept (t' := s1.toks) fun b o e => Heap.get?_push_of_some _ e, turn_list a _, ⟨_, Heap.get?_push_size _ rfl, rfl, rfl⟩, fun b hb => ?_, q⟩
  have e : b = s1.heap.objs.size := by simpa using hb
  subst e
  exact I1.fpOk (Nat.le_refl _) (I1.hok.fresh (Nat.le_refl _))
theorem pi_tup {l : Expr} {tl : TE} (hl : PE X l tl) : PI X tg l (iTup X.K tl) := by
  intro pins s σ H R I h
  refine thn (hl pins s σ H _ I h) fun v s1 hpat => ?_
  obtain ⟨x, H1, I1, r1, q1⟩ := hpat
  obtain ⟨a, e, ⟨xs, hq⟩, q⟩ := q1
  subst e
  cases r1
  obtain ⟨its, rv, p, hz⟩ := I1.tuple hq
  refine wpAny_pyIter_tuple (show s1.heap.IsTuple a its.toArray from p) ?_
  refine ⟨s1.heap.objs.size, [s1.heap.objs.size], _, _, H1, rfl, I1.kept (t' := s1.toks) fun b o e => Heap.get?_push_of_some _ e, turn_tuple a _, ⟨_, Heap.get?_push_size _ rfl, rfl, rfl⟩, fun b hb => ?_, q⟩
  have e : b = s1.heap.objs.size := by simpa using hb
  subst e
  exact I1.fpOk (Nat.le_refl _) (I1.hok.fresh (Nat.le_refl _))
theorem range_it {pins : List (Addr × Obj)} {σ : St} {H : Hp} {s : Shared} {R : It → Hp → Prop} {E : Value → Shared → Prop} {lo hi : Int} {t u v : Tok} {tk : Nat} (I : Inv X pins σ H s) (h1 : -(2 ^ 62) ≤ lo) (h2 : lo < 2 ^ 62) (h3 : -(2 ^ 62) ≤ hi) (h4 : hi < 2 ^ 62)
    (q : R (Itr lo (hi - lo).toNat) H) : wpAny (model X.prog X.w) X.A (pyIter (.ref s.heap.objs.size)) (PIE X pins σ tg R) E { s with heap := s.heap.push { cls := .type "range", data := .fields #[.int lo t, .int hi u, .int 1 v] }, toks := tk } := by
  refine wpAny_pyIter_range (IsRange.new ..) (small_one h1 h2 h3 h4) ?_
  have I1 : Inv X pins σ H { s with heap := s.heap.push { cls := .type "range", data := .fields #[.int lo t, .int hi u, .int 1 v] }, toks := tk } := I.kept fun b o e => Heap.get?_push_of_some _ e
  refine ⟨(s.heap.push { cls := .type "range", data := .fields #[.int lo t, .int hi u, .int 1 v] }).objs.size, [(s.heap.push { cls := .type "range", data := .fields #[.int lo t, .int hi u, .int 1 v] }).objs.size], _, _, H, rfl,
    I1.kept (t' := tk) fun b o e => Heap.get?_push_of_some _ e, turn_range _ lo (hi - lo).toNat, ?_, fun b hb => ?_, q⟩
  · have e1 : lo + ((0 : Nat) : Int) * 1 = lo := by simp
    have e2 : (((hi - lo).toNat : Nat) : Int) - ((0 : Nat) : Int) = Builtin.Range.rangeSize lo hi 1 := by rw [rangeSize_one]; split <;> omega
    show IsRangeIter _ _ (lo + ((0 : Nat) : Int) * 1) ((((hi - lo).toNat : Nat) : Int) - ((0 : Nat) : Int)) 1
    rw [e1, e2]
    exact Heap.get?_push_size _ rfl
  · have e : b = (s.heap.push { cls := .type "range", data := .fields #[.int lo t, .int hi u, .int 1 v] }).objs.size := by simpa using hb
    subst e
    exact I1.fpOk (Nat.le_refl _) (I1.hok.fresh (Nat.le_refl _))
def iRng1 (ta : TA) : TI := fun σ H R => ta σ H fun vs H1 => ∃ j : Int, vs = [.int j] ∧ -(2 ^ 62) ≤ j ∧ j < 2 ^ 62 ∧ R (Itr 0 j.toNat) H1
theorem pi_range1 {a : Expr} {ta : TA} {p pos : Pos} (hg : Gl X "range") (hm : X.mg "range" = none) (ha : PA X [a] ta) (hs : starEach [a] X.env = [(false, eval a X.env)] := by rfl) : PI X tg (.Call (.Name "range" p) [a] [] pos) (iRng1 ta) := by
  intro pins s σ H R I h
  refine Call_ (ld_blt I hg hm boot_range (PyProof.Rows.callWith_type1 (thn (ha pos pins s σ H _ I h) fun us s1 hpat => ?_) hs rfl))
  obtain ⟨vs, H1, I1, r1, q1⟩ := hpat
  obtain ⟨j, e, q1, q2, q⟩ := q1
  subst e
  cases r1 with
  | cons r rr =>
    cases rr
    obtain ⟨t, rfl⟩ := r
    exact call_range_1 (range_it I1 (by omega) (by omega) q1 q2 (by simpa using q))
def tFor (wi : TI) (g : TG) (tb : TS) : TS := fun D σ H => wi σ H fun J H1 => ∃ W : Nat → Nat → St → Hp → Prop, (∃ m, W 0 m σ H1) ∧ ∀ i m σ H, W i m σ H →
  (J.stop i H ∧ D.nx σ H) ∨ (J.go i H ∧ ∃ N : St → Hp → Prop, (∀ σ' H', N σ' H' → ∃ m', m' < m ∧ W (i + 1) m' σ' H') ∧ ∀ x H', J.yld i H x H' → g x σ H' fun σ2 H2 => tb { D with nx := N, ct := N, bk := D.nx } σ2 H2)
def pinsAt (fp : List Addr) (h : Heap) : List (Addr × Obj) := fp.filterMap fun b => (h.get? b).map fun o => (b, o)
theorem mem_pinsAt {fp : List Addr} {h : Heap} {b : Addr} {o : Obj} (hb : b ∈ fp) (e : h.get? b = some o) : (b, o) ∈ pinsAt fp h := List.mem_filterMap.mpr ⟨b, hb, by rw [e]; rfl⟩
theorem of_pinsAt {fp : List Addr} {h : Heap} {p : Addr × Obj} (hp : p ∈ pinsAt fp h) : p.1 ∈ fp ∧ h.get? p.1 = some p.2 := by
  obtain ⟨b, hb, e⟩ := List.mem_filterMap.mp hp
  cases q : h.get? b with
  | none => rw [q] at e; cases e
  | some o =>
    rw [q] at e
    have e' : (b, o) = p := Option.some.inj e
    subst e'
    exact ⟨hb, q⟩
theorem Inv.pinned {pins : List (Addr × Obj)} {σ : St} {H : Hp} {s : Shared} {fp : List Addr} (I : Inv X pins σ H s) (hf : ∀ b ∈ fp, FpOk X pins H b) (ho : ∀ b ∈ fp, ∃ o, s.heap.get? b = some o ∧ ∀ v, o.data ≠ .cell v) : Inv X (pins ++ pinsAt fp s.heap) σ H s :=
  I.pins_of fun p hp => (List.mem_append.mp hp).elim (fun z => I.pin p (List.mem_append_right _ z)) fun z => by
    obtain ⟨hb, e⟩ := of_pinsAt z
    obtain ⟨f0, f1, f2, _⟩ := hf p.1 hb
    obtain ⟨o, e', d⟩ := ho p.1 hb
    rw [e] at e'; cases e'
    exact ⟨e, f0, f1, f2, d⟩
theorem Inv.unpinned {pins pl : List (Addr × Obj)} {σ : St} {H : Hp} {s : Shared} (I : Inv X (pins ++ pl) σ H s) : Inv X pins σ H s := I.pins_of fun p hp => I.pin p (List.mem_append_right _ (List.mem_append_left _ hp))
theorem ps_for {iter : Expr} {body : List Stmt} {wi : TI} {g : TG} {tb : TS} {pos : Pos} (hp : PassesOwn (model X.prog X.w) X.A X.env X.xe) (hc : X.calm = true) (hi : PI X tg iter wi) (hg : PG X tg g) (hb : PSs X body tb)
    (hs : ∀ x, foldedSetIterable iter X.env x = pure x := by intro _; rfl) : PS X (.For tg iter body [] pos) (tFor wi g tb) := by
  intro pins s σ H D I h
  refine wpAny_For (thn (hi pins s σ H _ I h) fun v s1 h1 => thn h1 fun itv s2 h2 => ?_) hs
  obtain ⟨it, fp, tn, J, H2, e, I2, T, st2, f2, W, ⟨m0, w0⟩, turn⟩ := h2
  subst e
  have stat : ∀ {H' : Hp}, (∀ b ∈ fp, H' b = none) → ∀ b ∈ fp, FpOk X pins H' b := fun hn b hb => ⟨hn b hb, (f2 b hb).2⟩
  refine codeAny_forLoop_any (fun n s' => ∃ i σ' H', Inv X pins σ' H' s' ∧ tn i s'.heap ∧ (∀ b ∈ fp, H' b = none) ∧ W i n σ' H') ?_ m0 ⟨0, σ, H2, I2, st2, fun b hb => (f2 b hb).1, w0⟩
  rintro n s3 ⟨i, σ3, H3, I3, st3, fr3, w3⟩
  rcases turn i n σ3 H3 w3 with ⟨stop, qn⟩ | ⟨go, N, hN, step⟩
  · refine wpAny_passesOwn hp (thn (T.done X rfl rfl rfl hc i pins s3 σ3 H3 X.xe I3 (stat fr3) st3 stop) fun r s4 ⟨hr, I4⟩ => ?_)
    subst hr
    exact wpAny_execs_nil ⟨σ3, H3, I4, qn⟩
  · refine wpAny_passesOwn hp (thn (T.item X rfl rfl rfl hc i pins s3 σ3 H3 X.xe I3 (stat fr3) st3 go) fun r s4 ⟨u, hr, h4⟩ => ?_)
    subst hr
    refine wpAny_passesOwn hp (thn h4 fun _ s5 hpat => ?_)
    obtain ⟨x, H5, I5, r5, y5, st5, fr5⟩ := hpat
    have I5' := I5.pinned (stat fr5) (T.obj _ _ st5)
    refine wpAny_passesOwn hp (thn (hg _ s5 σ3 H5 x u _ I5' r5 (step x H5 y5)) fun _ s6 ⟨σ6, H6, I6, q6⟩ => ?_)
    refine wpAny_passesOwn hp (thn (hb _ s6 σ6 H6 _ I6 q6) fun f s7 q7 => ?_)
    have again : ∀ {σ7 : St} {H7 : Hp}, Inv X (pins ++ pinsAt fp s5.heap) σ7 H7 s7 → N σ7 H7 → ∃ m, m < n ∧ ∃ i σ' H', Inv X pins σ' H' s7 ∧ tn i s7.heap ∧ (∀ b ∈ fp, H' b = none) ∧ W i m σ' H' := fun {σ7 H7} I7 n7 => by
      obtain ⟨m', hm, w7⟩ := hN σ7 H7 n7
      refine ⟨m', hm, i + 1, σ7, H7, I7.unpinned, T.keep _ _ _ st5 fun b hb o e => (I7.pin (b, o) (List.mem_append_right _ (List.mem_append_right _ (mem_pinsAt hb e)))).1, fun b hb => ?_, w7⟩
      obtain ⟨o, e, d⟩ := T.obj _ _ st5 b hb
      exact (I7.pin (b, o) (List.mem_append_right _ (List.mem_append_right _ (mem_pinsAt hb e)))).2.1
    cases f with
    | next => obtain ⟨σ7, H7, I7, n7⟩ := q7; exact again I7 n7
    | cont => obtain ⟨σ7, H7, I7, n7⟩ := q7; exact again I7 n7
    | brk => obtain ⟨σ7, H7, I7, q7⟩ := q7; exact ⟨σ7, H7, I7.unpinned, q7⟩
    | ret v => obtain ⟨x7, σ7, H7, I7, r7, q7⟩ := q7; exact ⟨x7, σ7, H7, I7.unpinned, r7, q7⟩
end
theorem for_list {K : PySem.W.Frag} {a : Addr} {xs : List V} {g : TG} {tb : TS} {D : Ends} {σ : St} {H : Hp} (Pv : Nat → St → Hp → Prop) (h0 : Pv 0 σ H) (hl : ∀ i σ H, i ≤ xs.length → Pv i σ H → SqL K H a xs)
    (hs : ∀ i x σ H, xs[i]? = some x → Pv i σ H → g x σ H fun σ2 H2 => tb { D with nx := Pv (i + 1), ct := Pv (i + 1), bk := D.nx } σ2 H2) (hd : ∀ σ H, Pv xs.length σ H → D.nx σ H) :
    ∃ W : Nat → Nat → St → Hp → Prop, (∃ m, W 0 m σ H) ∧ ∀ i m σ H, W i m σ H →
      ((Itl K a).stop i H ∧ D.nx σ H) ∨ ((Itl K a).go i H ∧ ∃ N : St → Hp → Prop, (∀ σ' H', N σ' H' → ∃ m', m' < m ∧ W (i + 1) m' σ' H') ∧ ∀ x H', (Itl K a).yld i H x H' → g x σ H' fun σ2 H2 => tb { D with nx := N, ct := N, bk := D.nx } σ2 H2) := by
  refine ⟨fun i m σ H => m = xs.length - i ∧ i ≤ xs.length ∧ Pv i σ H, ⟨xs.length, by simp, Nat.zero_le _, h0⟩, ?_⟩
  rintro i m σ H ⟨rfl, hi, p⟩
  have q := hl i σ H hi p
  by_cases hlt : i < xs.length
  · refine .inr ⟨⟨xs, xs[i], q, by simp [hlt]⟩, Pv (i + 1), fun σ' H' p' => ⟨xs.length - (i + 1), by omega, rfl, hlt, p'⟩, fun x H' y => ?_⟩
    obtain ⟨e, y⟩ := y
    subst e
    exact hs i x σ _ (y xs q) p
  · have e : i = xs.length := by omega
    subst e
    exact .inl ⟨⟨xs, q, Nat.le_refl _⟩, hd σ H p⟩
theorem for_tup {K : PySem.W.Frag} {a : Addr} {xs : List V} {g : TG} {tb : TS} {D : Ends} {σ : St} {H : Hp} (Pv : Nat → St → Hp → Prop) (h0 : Pv 0 σ H) (hl : ∀ i σ H, i ≤ xs.length → Pv i σ H → SqT K H a xs)
    (hs : ∀ i x σ H, xs[i]? = some x → Pv i σ H → g x σ H fun σ2 H2 => tb { D with nx := Pv (i + 1), ct := Pv (i + 1), bk := D.nx } σ2 H2) (hd : ∀ σ H, Pv xs.length σ H → D.nx σ H) :
    ∃ W : Nat → Nat → St → Hp → Prop, (∃ m, W 0 m σ H) ∧ ∀ i m σ H, W i m σ H →
      ((Itt K a).stop i H ∧ D.nx σ H) ∨ ((Itt K a).go i H ∧ ∃ N : St → Hp → Prop, (∀ σ' H', N σ' H' → ∃ m', m' < m ∧ W (i + 1) m' σ' H') ∧ ∀ x H', (Itt K a).yld i H x H' → g x σ H' fun σ2 H2 => tb { D with nx := N, ct := N, bk := D.nx } σ2 H2) := by
  refine ⟨fun i m σ H => m = xs.length - i ∧ i ≤ xs.length ∧ Pv i σ H, ⟨xs.length, by simp, Nat.zero_le _, h0⟩, ?_⟩
  rintro i m σ H ⟨rfl, hi, p⟩
  have q := hl i σ H hi p
  by_cases hlt : i < xs.length
  · refine .inr ⟨⟨xs, xs[i], q, by simp [hlt]⟩, Pv (i + 1), fun σ' H' p' => ⟨xs.length - (i + 1), by omega, rfl, hlt, p'⟩, fun x H' y => ?_⟩
    obtain ⟨e, y⟩ := y
    subst e
    exact hs i x σ _ (y xs q) p
  · have e : i = xs.length := by omega
    subst e
    exact .inl ⟨⟨xs, q, Nat.le_refl _⟩, hd σ H p⟩
theorem for_range {lo : Int} {n : Nat} {g : TG} {tb : TS} {D : Ends} {σ : St} {H : Hp} (Pv : Nat → St → Hp → Prop) (h0 : Pv 0 σ H)
    (hs : ∀ i σ H, i < n → Pv i σ H → g (.int (lo + i)) σ H fun σ2 H2 => tb { D with nx := Pv (i + 1), ct := Pv (i + 1), bk := D.nx } σ2 H2) (hd : ∀ σ H, Pv n σ H → D.nx σ H) :
    ∃ W : Nat → Nat → St → Hp → Prop, (∃ m, W 0 m σ H) ∧ ∀ i m σ H, W i m σ H →
      ((Itr lo n).stop i H ∧ D.nx σ H) ∨ ((Itr lo n).go i H ∧ ∃ N : St → Hp → Prop, (∀ σ' H', N σ' H' → ∃ m', m' < m ∧ W (i + 1) m' σ' H') ∧ ∀ x H', (Itr lo n).yld i H x H' → g x σ H' fun σ2 H2 => tb { D with nx := N, ct := N, bk := D.nx } σ2 H2) := by
  refine ⟨fun i m σ H => m = n - i ∧ i ≤ n ∧ Pv i σ H, ⟨n, by simp, Nat.zero_le _, h0⟩, ?_⟩
  rintro i m σ H ⟨rfl, hi, p⟩
  by_cases hlt : i < n
  · refine .inr ⟨hlt, Pv (i + 1), fun σ' H' p' => ⟨n - (i + 1), by omega, rfl, hlt, p'⟩, fun x H' y => ?_⟩
    obtain ⟨e, y⟩ := y
    subst e y
    exact hs i σ _ hlt p
  · have e : i = n := by omega
    subst e
    exact .inl ⟨Nat.le_refl _, hd σ H p⟩
end L2
namespace L2
open PySem PySem.Spec PyProof.Rows
abbrev R2 := V → V → Hp → VK → Prop
def OpR (X : Cx) (f : Value → Value → Sem Value) (r : R2) : Prop :=
  ∀ (pins : List (Addr × Obj)) (s : Shared) (σ : St) (H : Hp) (x y : V) (v u : Value) (Q : VK), Inv X pins σ H s → RelV x v → RelV y u → r x y H Q →
    wpAny (model X.prog X.w) X.A (f v u) (EP X pins σ Q) X.xe s
def CallR (X : Cx) (f : Value) (r : List V → Hp → VK → Prop) : Prop :=
  ∀ (pins : List (Addr × Obj)) (s : Shared) (σ : St) (H : Hp) (xs : List V) (us : List Value) (Q : VK), Inv X pins σ H s → Vals xs us → r xs H Q →
    wpAny (model X.prog X.w) X.A (call f us) (EP X pins σ Q) X.xe s
def tOp (r : R2) (ta tb : TE) : TE := fun σ H Q => ta σ H fun x H1 => tb σ H1 fun y H2 => r x y H2 Q
def rI (C : Int → Int → Prop) (g : Int → Int → V) : R2 := fun x y H Q => ∃ i j, x = .int i ∧ y = .int j ∧ C i j ∧ Q (g i j) H
def rI0 (g : Int → Int → V) : R2 := fun x y H Q => ∃ i j, x = .int i ∧ y = .int j ∧ Q (g i j) H
section
variable {X : Cx} {a b c : Expr} {ta tb tc : TE} {pos : Pos}
theorem binT (ha : PE X a ta) (hb : PE X b tb) {pins : List (Addr × Obj)} {s : Shared} {σ : St} {H : Hp} {R : V → V → Hp → Prop} (I : Inv X pins σ H s)
    (h : ta σ H fun x H1 => tb σ H1 fun y H2 => R x y H2) {Q : Value → Shared → Prop} {f : Value → Value → Sem Value}
    (hf : ∀ v u s2 x y H2, Inv X pins σ H2 s2 → RelV x v → RelV y u → R x y H2 → wpAny (model X.prog X.w) X.A (f v u) Q X.xe s2) :
    wpAny (model X.prog X.w) X.A (eval a X.env) (fun v s₁ => wpAny (model X.prog X.w) X.A (eval b X.env) (fun u s₂ => wpAny (model X.prog X.w) X.A (f v u) Q X.xe s₂) X.xe s₁) X.xe s := by
  refine thn (ha pins s σ H _ I h) fun v s1 hpat => ?_
  obtain ⟨x, H1, I1, r1, q1⟩ := hpat
  refine thn (hb pins s1 σ H1 _ I1 q1) fun u s2 hpat => ?_
  obtain ⟨y, H2, I2, r2, q2⟩ := hpat
  exact hf v u s2 x y H2 I2 r1 r2 q2
theorem pe_op {op : Operator} {r : R2} (ho : OpR X (binaryOp op) r) (ha : PE X a ta) (hb : PE X b tb) : PE X (.BinOp a op b pos) (tOp r ta tb) := by
  intro pins s σ H Q I h
  exact wpAny_BinOp (binT ha hb I h fun v u s2 x y H2 I2 rx ry q => ho pins s2 σ H2 x y v u Q I2 rx ry q)
theorem opI {f : Value → Value → Sem Value} {C : Int → Int → Prop} {g : Int → Int → Int}
    (rule : ∀ (i j : Int) (t u : Tok) (s : Shared) (Q : Value → Shared → Prop) (E : Value → Shared → Prop), C i j → Q (.int (g i j) s.toks) { s with toks := s.toks + 1 } → wpAny (model X.prog X.w) X.A (f (.int i t) (.int j u)) Q E s) :
    OpR X f (rI C fun i j => .int (g i j)) := by
  intro pins s σ H x y v u Q I rx ry h
  obtain ⟨i, j, rfl, rfl, hc, q⟩ := h
  obtain ⟨t, rfl⟩ := rx
  obtain ⟨t', rfl⟩ := ry
  exact rule i j t t' s _ _ hc ⟨.int (g i j), H, I.tok _, ⟨_, rfl⟩, q⟩
theorem opI0 {f : Value → Value → Sem Value} {g : Int → Int → Int}
    (rule : ∀ (i j : Int) (t u : Tok) (s : Shared) (Q : Value → Shared → Prop) (E : Value → Shared → Prop), Q (.int (g i j) s.toks) { s with toks := s.toks + 1 } → wpAny (model X.prog X.w) X.A (f (.int i t) (.int j u)) Q E s) :
    OpR X f (rI0 fun i j => .int (g i j)) := by
  intro pins s σ H x y v u Q I rx ry h
  obtain ⟨i, j, rfl, rfl, q⟩ := h
  obtain ⟨t, rfl⟩ := rx
  obtain ⟨t', rfl⟩ := ry
  exact rule i j t t' s _ _ ⟨.int (g i j), H, I.tok _, ⟨_, rfl⟩, q⟩
theorem opB0 {f : Value → Value → Sem Value} {g : Int → Int → Bool}
    (rule : ∀ (i j : Int) (t u : Tok) (s : Shared) (Q : Value → Shared → Prop) (E : Value → Shared → Prop), Q (.bool (g i j)) s → wpAny (model X.prog X.w) X.A (f (.int i t) (.int j u)) Q E s) :
    OpR X f (rI0 fun i j => .bl (g i j)) := by
  intro pins s σ H x y v u Q I rx ry h
  obtain ⟨i, j, rfl, rfl, q⟩ := h
  obtain ⟨t, rfl⟩ := rx
  obtain ⟨t', rfl⟩ := ry
  exact rule i j t t' s _ _ ⟨.bl (g i j), H, I, rfl, q⟩
def CDiv (i j : Int) : Prop := 0 < j ∧ j < 1073741824
def CPow (i j : Int) : Prop := 0 ≤ j ∧ j ≤ 1000000 ∧ i.natAbs < 2 ^ 64
def CMul (i j : Int) : Prop := (-(2 ^ 64) < i ∧ i < 2 ^ 64) ∨ (-(2 ^ 64) < j ∧ j < 2 ^ 64)
theorem CMul.ok {i j : Int} (h : CMul i j) : IntMulOk i j := by
  rcases h with ⟨h1, h2⟩ | ⟨h1, h2⟩
  · exact .of_left (intBits_le_64 h1 h2)
  · exact .of_right (intBits_le_64 h1 h2)
theorem op_add : OpR X (binaryOp .Add) (rI0 fun i j => .int (i + j)) := opI0 fun _ _ _ _ _ _ _ q => add_int q
theorem op_sub : OpR X (binaryOp .Sub) (rI0 fun i j => .int (i - j)) := opI0 fun _ _ _ _ _ _ _ q => sub_int q
theorem op_mul : OpR X (binaryOp .Mult) (rI CMul fun i j => .int (i * j)) := opI fun _ _ _ _ _ _ _ hc q => mul_int q hc.ok
theorem op_fdiv : OpR X (binaryOp .FloorDiv) (rI CDiv fun i j => .int (i / j)) := opI fun i j _ _ _ _ _ hc q => by
  have h1 : (0 : Int) < j := hc.1
  have h2 : j < 1073741824 := hc.2
  exact floordiv_int (by omega) (by rw [Int.fdiv_eq_ediv_of_nonneg i (by omega)]; exact q) (.inl (PyProof.noPylong_small (by omega)))
theorem op_mod : OpR X (binaryOp .Mod) (rI (fun _ j => 0 < j) fun i j => .int (i % j)) := opI fun i j _ _ _ _ _ hc q => by
  have h1 : (0 : Int) < j := hc
  exact mod_int' (by omega) (by rw [Int.fmod_eq_emod_of_nonneg i (by omega)]; exact q)
theorem op_pow : OpR X (binaryOp .Pow) (rI CPow fun i j => .int (i ^ j.toNat)) := opI fun _ _ _ _ _ _ _ hc q => pow_int_small hc.1 hc.2.1 hc.2.2 q
theorem op_and : OpR X (binaryOp .BitAnd) (rI0 fun i j => .int (Builtin.bitAnd i j)) := opI0 fun _ _ _ _ _ _ _ q => and_int q
theorem op_or : OpR X (binaryOp .BitOr) (rI0 fun i j => .int (Builtin.bitOr i j)) := opI0 fun _ _ _ _ _ _ _ q => or_int q
end
def scal : V → V → Bool
  | .non, .non => true | .non, .int _ => true | .int _, .non => true | .non, .bl _ => true | .bl _, .non => true | .non, .str _ => true | .str _, .non => true
  | .int _, .int _ => true | .bl _, .bl _ => true | .str _, .str _ => true | .byt _, .byt _ => true
  | .int _, .str _ => true | .str _, .int _ => true | .bl _, .str _ => true | .str _, .bl _ => true
  | _, _ => false
def rEq : R2 := fun x y H Q => scal x y = true ∧ Q (.bl (decide (x = y))) H
def rNe : R2 := fun x y H Q => scal x y = true ∧ Q (.bl (!decide (x = y))) H
theorem dec_int {i j : Int} : decide (V.int i = V.int j) = (i == j) := by
  rw [Bool.eq_iff_iff]
  simp
theorem dec_bl {i j : Bool} : decide (V.bl i = V.bl j) = (i == j) := by
  rw [Bool.eq_iff_iff]
  simp
theorem dec_str {i j : Str} : decide (V.str i = V.str j) = (i == j) := by
  rw [Bool.eq_iff_iff]
  simp
theorem dec_byt {i j : Array UInt8} : decide (V.byt i = V.byt j) = (i.toList == j.toList) := by
  rw [Bool.eq_iff_iff]
  cases i
  cases j
  simp
section
variable {X : Cx} {a b c : Expr} {ta tb tc : TE} {pos : Pos}
theorem fin_bl {pins : List (Addr × Obj)} {σ : St} {H : Hp} {s : Shared} {Q : VK} {k k' : Bool} (I : Inv X pins σ H s) (q : Q (.bl k) H) (e : k = k') : EP X pins σ Q (.bool k') s := by
  subst e
  exact ⟨.bl k, H, I, rfl, q⟩
theorem op_eq : OpR X (compareOp .Eq) rEq := by
  intro pins s σ H x y v u Q I rx ry h
  obtain ⟨hs, q⟩ := h
  cases x with
  | non =>
    cases rx
    cases y with
    | non => cases ry; exact PySem.EqNone.eq_none_none (fin_bl I q (by simp))
    | bl j => cases ry; exact PySem.EqNone.eq_none_bool (fin_bl I q (by simp))
    | int j => obtain ⟨t', rfl⟩ := ry; exact PySem.EqNone.eq_none_int (fin_bl I q (by simp))
    | str j => obtain ⟨t', rfl⟩ := ry; exact PySem.EqNone.eq_none_str (fin_bl I q (by simp))
    | _ => exact absurd (show false = true from hs) Bool.false_ne_true
  | bl i =>
    cases rx
    cases y with
    | non => cases ry; exact PySem.EqNone.eq_bool_none (fin_bl I q (by simp))
    | bl j => cases ry; exact eq_bool (fin_bl I q dec_bl)
    | str j => obtain ⟨t', rfl⟩ := ry; exact PySem.EqMixed.eq_bool_str (fin_bl I q (by simp))
    | _ => exact absurd (show false = true from hs) Bool.false_ne_true
  | int i =>
    obtain ⟨t, rfl⟩ := rx
    cases y with
    | non => cases ry; exact PySem.EqNone.eq_int_none (fin_bl I q (by simp))
    | int j => obtain ⟨t', rfl⟩ := ry; exact eq_int (fin_bl I q dec_int)
    | str j => obtain ⟨t', rfl⟩ := ry; exact PySem.EqMixed.eq_int_str (fin_bl I q (by simp))
    | _ => exact absurd (show false = true from hs) Bool.false_ne_true
  | str i =>
    obtain ⟨t, rfl⟩ := rx
    cases y with
    | non => cases ry; exact PySem.EqNone.eq_str_none (fin_bl I q (by simp))
    | bl j => cases ry; exact PySem.EqMixed.eq_str_bool (fin_bl I q (by simp))
    | int j => obtain ⟨t', rfl⟩ := ry; exact PySem.EqMixed.eq_str_int (fin_bl I q (by simp))
    | str j => obtain ⟨t', rfl⟩ := ry; exact eq_str (fin_bl I q dec_str)
    | _ => exact absurd (show false = true from hs) Bool.false_ne_true
  | byt i =>
    obtain ⟨t, rfl⟩ := rx
    cases y with
    | byt j => obtain ⟨t', rfl⟩ := ry; exact PySem.W.eq_bytes (fin_bl I q dec_byt)
    | _ => exact absurd (show false = true from hs) Bool.false_ne_true
  | _ => cases y <;> exact absurd (show false = true from hs) Bool.false_ne_true
theorem op_ne : OpR X (compareOp .NotEq) rNe := by
  intro pins s σ H x y v u Q I rx ry h
  obtain ⟨hs, q⟩ := h
  cases x with
  | non =>
    cases rx
    cases y with
    | non => cases ry; exact PySem.EqNone.ne_none_none (fin_bl I q (by simp))
    | bl j => cases ry; exact PySem.EqNone.ne_none_bool (fin_bl I q (by simp))
    | int j => obtain ⟨t', rfl⟩ := ry; exact PySem.EqNone.ne_none_int (fin_bl I q (by simp))
    | str j => obtain ⟨t', rfl⟩ := ry; exact PySem.EqNone.ne_none_str (fin_bl I q (by simp))
    | _ => exact absurd (show false = true from hs) Bool.false_ne_true
  | bl i =>
    cases rx
    cases y with
    | non => cases ry; exact PySem.EqNone.ne_bool_none (fin_bl I q (by simp))
    | bl j => cases ry; exact ne_bool (fin_bl I q (congrArg not dec_bl))
    | str j => obtain ⟨t', rfl⟩ := ry; exact PySem.EqMixed.ne_bool_str (fin_bl I q (by simp))
    | _ => exact absurd (show false = true from hs) Bool.false_ne_true
  | int i =>
    obtain ⟨t, rfl⟩ := rx
    cases y with
    | non => cases ry; exact PySem.EqNone.ne_int_none (fin_bl I q (by simp))
    | int j => obtain ⟨t', rfl⟩ := ry; exact ne_int (fin_bl I q (congrArg not dec_int))
    | str j => obtain ⟨t', rfl⟩ := ry; exact PySem.EqMixed.ne_int_str (fin_bl I q (by simp))
    | _ => exact absurd (show false = true from hs) Bool.false_ne_true
  | str i =>
    obtain ⟨t, rfl⟩ := rx
    cases y with
    | non => cases ry; exact PySem.EqNone.ne_str_none (fin_bl I q (by simp))
    | bl j => cases ry; exact PySem.EqMixed.ne_str_bool (fin_bl I q (by simp))
    | int j => obtain ⟨t', rfl⟩ := ry; exact PySem.EqMixed.ne_str_int (fin_bl I q (by simp))
    | str j => obtain ⟨t', rfl⟩ := ry; exact ne_str (fin_bl I q (congrArg not dec_str))
    | _ => exact absurd (show false = true from hs) Bool.false_ne_true
  | byt i =>
    obtain ⟨t, rfl⟩ := rx
    cases y with
    | byt j => obtain ⟨t', rfl⟩ := ry; exact PySem.W.ne_bytes (fin_bl I q (congrArg not dec_byt))
    | _ => exact absurd (show false = true from hs) Bool.false_ne_true
  | _ => cases y <;> exact absurd (show false = true from hs) Bool.false_ne_true
theorem op_lt : OpR X (compareOp .Lt) (rI0 fun i j => .bl (decide (i < j))) := opB0 fun _ _ _ _ _ _ _ q => lt_int q
theorem op_le : OpR X (compareOp .LtE) (rI0 fun i j => .bl (decide (i ≤ j))) := opB0 fun _ _ _ _ _ _ _ q => le_int q
theorem op_gt : OpR X (compareOp .Gt) (rI0 fun i j => .bl (decide (j < i))) := opB0 fun _ _ _ _ _ _ _ q => gt_int q
theorem op_ge : OpR X (compareOp .GtE) (rI0 fun i j => .bl (decide (j ≤ i))) := opB0 fun _ _ _ _ _ _ _ q => ge_int q
theorem op_isN : OpR X (compareOp .Is) (fun x y H Q => y = .non ∧ Q (.bl (decide (x = .non))) H) := by
  intro pins s σ H x y v u Q I rx ry h
  obtain ⟨rfl, q⟩ := h
  cases ry
  refine is_none_gen (fin_bl I q ?_)
  cases x <;> first
    | (cases rx; rfl)
    | (obtain ⟨t, rfl⟩ := rx; rfl)
theorem op_notN : OpR X (compareOp .IsNot) (fun x y H Q => y = .non ∧ Q (.bl (!decide (x = .non))) H) := by
  intro pins s σ H x y v u Q I rx ry h
  obtain ⟨rfl, q⟩ := h
  cases ry
  refine isnot_none_gen (fin_bl I q ?_)
  cases x <;> first
    | (cases rx; rfl)
    | (obtain ⟨t, rfl⟩ := rx; rfl)
theorem nomark (b : Expr) {op : CmpOp} (h : op ≠ .In := by decide) (h2 : op ≠ .NotIn := by decide) : behindInMarks op b = false := by
  have e1 : (op == CmpOp.In) = false := by cases op <;> first | rfl | exact absurd rfl h
  have e2 : (op == CmpOp.NotIn) = false := by cases op <;> first | rfl | exact absurd rfl h2
  cases b <;> simp [behindInMarks, e1, e2]
theorem pe_cmpR {op : CmpOp} {r : R2} (ho : OpR X (compareOp op) r) (ha : PE X a ta) (hb : PE X b tb) (hm : behindInMarks op b = false) : PE X (.Compare a [op] [b] pos) (tOp r ta tb) := by
  intro pins s σ H Q I h
  exact wpAny_Compare1 (binT ha hb I h fun v u s2 x y H2 I2 rx ry q => ho pins s2 σ H2 x y v u Q I2 rx ry q) hm
def tTest (t : TE) : TT := fun σ H Q => t σ H fun x H' => ∃ k, x = .bl k ∧ Q k H'
theorem pt_cmpR {op : CmpOp} {r : R2} (ho : OpR X (compareOp op) r) (ha : PE X a ta) (hb : PE X b tb) (hm : behindInMarks op b = false) : PT X (.Compare a [op] [b] pos) (tTest (tOp r ta tb)) := by
  intro pins s σ H Q I h
  refine wpAny_isTrue_Compare1 (thn (ha pins s σ H _ I h) fun v s1 ⟨x, H1, I1, r1, q1⟩ => thn (hb pins s1 σ H1 _ I1 q1) fun u s2 ⟨y, H2, I2, r2, q2⟩ =>
    thn (ho pins s2 σ H2 x y v u _ I2 r1 r2 q2) fun c s3 ⟨z, H3, I3, r3, k, e, q3⟩ => ?_) hm
  subst e
  cases r3
  exact wpAny_truthy_bool ⟨H3, I3, q3⟩
def tChain (r r' : R2) (ta tb tc : TE) : TE := fun σ H Q => ta σ H fun x H1 => tb σ H1 fun y H2 => r x y H2 fun z H3 => ∃ k, z = .bl k ∧
  (if k = true then tc σ H3 fun w' H4 => r' y w' H4 Q else Q (.bl false) H3)
theorem pe_chain {op op' : CmpOp} {r r' : R2} (ho : OpR X (compareOp op) r) (ho' : OpR X (compareOp op') r') (ha : PE X a ta) (hb : PE X b tb) (hc : PE X c tc)
    (hm : lastMarks [op, op'] [b, c] = false := by with_unfolding_all rfl) : PE X (.Compare a [op, op'] [b, c] pos) (tChain r r' ta tb tc) := by
  intro pins s σ H Q I h
  refine Compare_chain (thn (ha pins s σ H _ I h) fun v s1 ⟨x, H1, I1, r1, q1⟩ => chain_link (thn (hb pins s1 σ H1 _ I1 q1) fun u s2 ⟨y, H2, I2, r2, q2⟩ =>
    thn (ho pins s2 σ H2 x y v u _ I2 r1 r2 q2) fun d s3 ⟨z, H3, I3, r3, k, e, q3⟩ => ?_)) hm
  subst e
  cases r3
  refine wpAny_truthy_bool ?_
  cases k with
  | false => exact ite_ff ⟨.bl false, H3, I3, rfl, q3⟩
  | true => exact ite_tt (chain_last (thn (hc pins s3 σ H3 _ I3 q3) fun w' s4 ⟨z', H4, I4, r4, q4⟩ => ho' pins s4 σ H4 y z' u w' Q I4 r2 r4 q4))
theorem pt_chain {op op' : CmpOp} {r r' : R2} (ho : OpR X (compareOp op) r) (ho' : OpR X (compareOp op') r') (ha : PE X a ta) (hb : PE X b tb) (hc : PE X c tc)
    (hm : lastMarks [op, op'] [b, c] = false := by with_unfolding_all rfl) : PT X (.Compare a [op, op'] [b, c] pos) (tTest (tChain r r' ta tb tc)) := by
  intro pins s σ H Q I h
  refine isTrue_chain (thn (ha pins s σ H _ I h) fun v s1 ⟨x, H1, I1, r1, q1⟩ => test_link (thn (hb pins s1 σ H1 _ I1 q1) fun u s2 ⟨y, H2, I2, r2, q2⟩ =>
    thn (ho pins s2 σ H2 x y v u _ I2 r1 r2 q2) fun d s3 ⟨z, H3, I3, r3, k, e, q3⟩ => ?_)) hm
  subst e
  cases r3
  refine wpAny_truthy_bool ?_
  cases k with
  | false =>
    obtain ⟨k', e', q'⟩ := q3
    cases e'
    exact ite_ff ⟨H3, I3, q'⟩
  | true =>
    refine ite_tt (test_last (thn (hc pins s3 σ H3 _ I3 q3) fun w' s4 ⟨z', H4, I4, r4, q4⟩ => thn (ho' pins s4 σ H4 y z' u w' _ I4 r2 r4 q4) fun d' s5 ⟨z2, H5, I5, r5, k2, e2, q5⟩ => ?_))
    subst e2
    cases r5
    exact wpAny_truthy_bool ⟨H5, I5, q5⟩
theorem line63 : (sizeLine : Nat) < 2 ^ 63 := by rw [sizeLine_eq]; decide
theorem vals1 {x : V} {us : List Value} (r : Vals [x] us) : ∃ u, us = [u] ∧ RelV x u := by
  cases r with
  | cons r1 r2 => cases r2; exact ⟨_, rfl, r1⟩
theorem call_int1 : CallR X (.type "int") (fun xs H Q => (∃ i, xs = [.int i] ∧ Q (.int i) H) ∨ ∃ k, xs = [.bl k] ∧ Q (.int (if k then 1 else 0)) H) := by
  intro pins s σ H xs us Q I r h
  rcases h with ⟨i, rfl, q⟩ | ⟨k, rfl, q⟩
  · obtain ⟨u, rfl, t, rfl⟩ := vals1 r
    exact call_int_int ⟨.int i, H, I, ⟨_, rfl⟩, q⟩
  · obtain ⟨u, rfl, r1⟩ := vals1 r
    cases r1
    exact call_int_bool ⟨.int (if k then 1 else 0), H, I.tok _, ⟨_, rfl⟩, q⟩
end
end L2
namespace L2
open PySem PySem.Spec PyProof.Rows
structure ObjM (h : Heap) (x dx C : Addr) (mA : Str → Option Value) : Prop where
  obj : h.get? x = some (PySem.W.instObj C dx)
  ns : h.Ns1 dx mA
  ne : dx ≠ x
theorem lookIn_ns {h : Heap} {dx : Addr} {mA : Str → Option Value} (n : h.Ns1 dx mA) : ∃ od, h.get? dx = some od ∧ ∀ name, PySem.W.lookIn name od = some (mA name) := by
  obtain ⟨o, es, ep, ho, hd, hk, _, hm⟩ := n
  refine ⟨o, ho, fun name => ?_⟩
  have e := hm name
  unfold nsFind findBy at e
  rw [← Array.find?_toList] at e
  unfold PySem.W.lookIn
  rw [hd]
  dsimp only
  split
  · rename_i y q
    rw [q] at e
    exact congrArg some e
  · rename_i q
    rw [q] at e
    have a : es.toList.any (·.refKey) = false := by
      rw [List.any_eq_false]
      intro y hy
      obtain ⟨z, t, hkey⟩ := hk y (Array.mem_toList_iff.mp hy)
      simp [DictEntry.refKey, hkey]
    have a' : ¬ es.toList.any (·.refKey) = true := by rw [a]; exact Bool.false_ne_true
    rw [if_neg a']
    exact congrArg some e
theorem ObjM.look {h : Heap} {x dx C : Addr} {mA : Str → Option Value} (I : ObjM h x dx C mA) : ∃ od, PySem.W.InstAt h x (PySem.W.instObj C dx) C (some od) ∧ ∀ name, PySem.W.lookIn name od = some (mA name) :=
  let ⟨od, ho, hl⟩ := lookIn_ns I.ns
  ⟨od, ⟨I.obj, rfl, rfl, ho⟩, hl⟩
section
variable {prog : Program} {w : World} {A : Around} {E : Value → Shared → Prop} {s : Shared} {K : PySem.W.Frag} {x dx C f : Addr} {mA : Str → Option Value} {name : Str} {v : Value}
theorem get_map {expr : Bool} {Q : Value → Shared → Prop} (X : K.In s.heap) (I : ObjM s.heap x dx C mA) (hg : PySem.W.plainGet K C name = true) (hh : PySem.W.hasDictIn K C = true)
    (ha : PySem.W.findIn K (.ref C) name = some none) (hv : mA name = some v) (hv' : PySem.W.handedIn v = true) (h : Q v { s with toks := s.toks + 1 }) :
    wpAny (model prog w) A (getAttr (.ref x) name expr) Q E s := by
  obtain ⟨od, J, hl⟩ := I.look
  exact PySem.W.get_value X J (PySem.W.plainGet_of hg).1 (PySem.W.findObj_own hh ha rfl (by rw [hl, hv])) hv' h
theorem get_meth {pl : Sem Bool} {Q : Value × List Value → Shared → Prop} (X : K.In s.heap) (I : ObjM s.heap x dx C mA) (hg : PySem.W.plainGet K C name = true)
    (hf : PySem.W.findIn K (.ref C) name = some (some (.ref f))) (ht : PySem.W.isFn K (.ref f) = true) (hv : mA name = none) (h : Q (.ref f, [.ref x]) s) :
    wpAny (model prog w) A (getMethod (.ref x) name pl) Q E s := by
  obtain ⟨od, J, hl⟩ := I.look
  exact PySem.W.method_fn X J (PySem.W.plainGet_of hg).1 (PySem.W.plainGet_of hg).2 hf (beq_iff_eq.mp ht) (by show (PySem.W.lookIn name od).map (·.isSome) = some false; rw [hl, hv]; rfl) h
theorem set_map {ns : List Str} {Q : Unit → Shared → Prop} (X : K.In s.heap) (I : ObjM s.heap x dx C mA)
    (hs : PySem.W.findIn K (.ref C) "__setattr__" = some (some (.builtin "object.__setattr__"))) (hp : PySem.W.plainOver K C = true) (ht : PySem.W.takerIn K C name = some none) (hh : PySem.W.hasDictIn K C = true)
    (hw : PySem.Within mA ns) (hsz : ns.length ≤ sizeLine)
    (h : ∀ h', ObjM h' x dx C (fun y => if y = name then some v else mA y) → Heap.SameBut dx s.heap h' → Q () { s with heap := h', toks := s.toks + 2 }) :
    wpAny (model prog w) A (setAttr (.ref x) name v) Q E s := by
  obtain ⟨od, J, hl⟩ := I.look
  refine PySem.W.set_plain X J hs (PySem.W.osa_open (s := { s with toks := s.toks + 1 }) (r := none) X J hp ht fun b => ?_)
  obtain ⟨cd, hc, hd'⟩ := PySem.W.any_some hh
  have hx : s.heap.get? x = some ⟨.ref C, some dx, .plain, #[]⟩ := I.obj
  refine wpAny_bind (wpAny_pure (wpAny_bind (wpAny_bind (wpAny_loadPart hx (wpAny_bind (PySem.W.Looks.here (s := { s with toks := s.toks + 1 }) (PySem.W.looks_clsIn X hc) ?_))))))
  rw [hd']
  refine wpAny_pure (a := some dx) (wpAny_bind (wpAny_pure (wpAny_bind ?_)))
  refine wpAny_nsSet1 (s := { s with toks := s.toks + 1 }) I.ns fun h' hn2 hs2 => ?_
  obtain ⟨oD, esD, epD, hoD, hdD, hcD⟩ := hn2.count (PySem.Within.cons name v hw)
  refine wpAny_bind (wpAny_lookBehind hoD (by rw [hdD]; exact pastItsLine_dict (Nat.le_trans hcD (by rw [List.length_cons]; omega))) ?_)
  exact wpAny_pure (h _ ⟨(hs2.2 _ (Ne.symm I.ne)).trans I.obj, hn2, I.ne⟩ hs2)
theorem make_map {R : Result → Shared → Prop} {vs : List Value} {kw : List (Str × Value)} (X : K.In s.heap) (hm : PySem.W.makesIn K C = true)
    (hi : PySem.W.findIn K (.ref C) "__init__" = some (some (.ref f))) (hf : PySem.W.typeIn K (.ref f) = some (.type "function"))
    (h : codeAny (model prog w) (A.under (.builtin "type.__call__" ⟨.ref C :: vs, kw⟩)) (.call (.ref f) ⟨.ref (s.heap.objs.size + 1) :: vs, kw⟩) (PySem.W.InitBack (s.heap.objs.size + 1) R)
      { s with heap := (s.heap.push PySem.W.emptyDict).push (PySem.W.instObj C s.heap.objs.size) }) :
    codeAny (model prog w) A (.call (.ref C) ⟨vs, kw⟩) R s := by
  obtain ⟨hh, g, d, t, os⟩ := s
  exact PySem.W.make_core (PySem.W.makes_of X hm) (PySem.W.looks_findIn X hi) (fun self => PySem.W.bind_fn X self hf) (.inl rfl) h
end
def putF (f : Str) (v : V) : List (Str × V) → List (Str × V)
  | [] => [(f, v)]
  | (g, x) :: r => if g = f then (g, v) :: r else (g, x) :: putF f v r
theorem lookup_putF (f g : Str) (v : V) : ∀ fs : List (Str × V), (putF f v fs).lookup g = if g = f then some v else fs.lookup g
  | [] => by
    show List.lookup g [(f, v)] = _
    by_cases h : g = f
    · have hb : (g == f) = true := beq_iff_eq.mpr h
      simp only [List.lookup, hb, if_pos h]
    · have hb : (g == f) = false := beq_eq_false_iff_ne.mpr h
      simp only [List.lookup, hb, if_neg h]
  | (k, x) :: r => by
    have ih := lookup_putF f g v r
    rw [show putF f v ((k, x) :: r) = (if k = f then (k, v) :: r else (k, x) :: putF f v r) from rfl]
    by_cases hk : k = f
    · rw [if_pos hk]
      by_cases h : g = k
      · have hb : (g == k) = true := beq_iff_eq.mpr h
        simp only [List.lookup, hb, if_pos (h.trans hk)]
      · have hb : (g == k) = false := beq_eq_false_iff_ne.mpr h
        simp only [List.lookup, hb, if_neg (fun e : g = f => h (e.trans hk.symm))]
    · rw [if_neg hk]
      by_cases h : g = k
      · have hb : (g == k) = true := beq_iff_eq.mpr h
        simp only [List.lookup, hb, if_neg (fun e : g = f => hk (h.symm.trans e))]
      · have hb : (g == k) = false := beq_eq_false_iff_ne.mpr h
        simp only [List.lookup, hb]
        exact ih
theorem keys_putF (f : Str) (v : V) : ∀ fs : List (Str × V), f ∈ (putF f v fs).map (·.1) ∧ ∀ g, g ∈ fs.map (·.1) → g ∈ (putF f v fs).map (·.1)
  | [] => ⟨by simp [putF], fun g h => by simp at h⟩
  | (k, x) :: r => by
    obtain ⟨i1, i2⟩ := keys_putF f v r
    rw [show putF f v ((k, x) :: r) = (if k = f then (k, v) :: r else (k, x) :: putF f v r) from rfl]
    by_cases hk : k = f
    · rw [if_pos hk]
      subst hk
      exact ⟨by simp, fun g h => by simpa using h⟩
    · rw [if_neg hk]
      refine ⟨?_, fun g h => ?_⟩
      · rw [List.map_cons]
        exact List.mem_cons_of_mem _ i1
      · rw [List.map_cons] at h ⊢
        rcases List.mem_cons.mp h with e | e
        · exact List.mem_cons.mpr (.inl e)
        · exact List.mem_cons_of_mem _ (i2 g e)
theorem length_putF (f : Str) (v : V) : ∀ fs : List (Str × V), (putF f v fs).length ≤ fs.length + 1
  | [] => by simp [putF]
  | (k, x) :: r => by
    have ih := length_putF f v r
    rw [show putF f v ((k, x) :: r) = (if k = f then (k, v) :: r else (k, x) :: putF f v r) from rfl]
    by_cases hk : k = f
    · rw [if_pos hk, List.length_cons, List.length_cons]; omega
    · rw [if_neg hk, List.length_cons, List.length_cons]; omega
theorem RelO.some_of {v : V} {o : Option Value} (r : RelO (some v) o) : ∃ u, o = some u ∧ RelV v u := by
  cases o with
  | none => exact (show False from r).elim
  | some u => exact ⟨u, rfl, r⟩
theorem RelO.none_of {o : Option Value} (r : RelO none o) : o = none := by
  cases o with
  | none => rfl
  | some u => exact (show False from r).elim
theorem handed_of {v : V} {u : Value} (r : RelV v u) : PySem.W.handedIn u = true := by
  cases v with
  | non => cases (show u = Value.none from r); rfl
  | bl b => cases (show u = Value.bool b from r); rfl
  | int i => obtain ⟨t, e⟩ := (show ∃ t, u = Value.int i t from r); cases e; rfl
  | str x => obtain ⟨t, e⟩ := (show ∃ t, u = Value.str x t from r); cases e; rfl
  | byt b => obtain ⟨t, e⟩ := (show ∃ t, u = Value.bytes b t from r); cases e; rfl
  | flt b => obtain ⟨t, e⟩ := (show ∃ t, u = Value.float b t from r); cases e; rfl
  | ref a => cases (show u = Value.ref a from r); rfl
  | ty n => cases (show u = Value.type n from r); rfl
section
variable {P : Program} {w : World} {H H' : Hp} {h h' : Heap} {a C dx : Addr} {fs fs' : List (Str × V)}
theorem ins_get (hok : HOk P w H h) (e : H a = some (.ins C dx fs)) : ∃ mA, ObjM h a dx C mA ∧ (∀ f, RelO (fs.lookup f) (mA f)) ∧ PySem.Within mA (fs.map (·.1)) ∧ fs.length ≤ 1000 ∧ H dx = some (.own a) := by
  obtain ⟨d, z, ne, ob, mA, n, r, q⟩ := (show ObjOk P w H h a (.ins C dx fs) from hok a _ e)
  exact ⟨mA, ⟨ob, n, ne⟩, r, q, z, d⟩
end
structure Cls (K : PySem.W.Frag) (C : Addr) : Prop where
  pg : PySem.W.plainGet K C Str.empty = true
  hd : PySem.W.hasDictIn K C = true
  po : PySem.W.plainOver K C = true
  sa : PySem.W.findIn K (.ref C) "__setattr__" = some (some (.builtin "object.__setattr__"))
theorem Cls.get {K : PySem.W.Frag} {C : Addr} (c : Cls K C) (f : Str) : PySem.W.plainGet K C f = true := c.pg
def NoAttr (K : PySem.W.Frag) (C : Addr) (f : Str) : Prop := PySem.W.findIn K (.ref C) f = some none
theorem NoAttr.taker {K : PySem.W.Frag} {C : Addr} {f : Str} (n : NoAttr K C f) : PySem.W.takerIn K C f = some none := by
  unfold PySem.W.takerIn
  rw [show PySem.W.findIn K (.ref C) f = some none from n]
  rfl
structure Con (K : PySem.W.Frag) (C : Addr) (f : Str) (v : V) (u : Value) : Prop where
  at_ : PySem.W.findIn K (.ref C) f = some (some u)
  rel : RelV v u
  get : PySem.W.specialIn K u "__get__" = some none
  cp : PySem.W.copiedNames.contains f = false
structure Meth (K : PySem.W.Frag) (C : Addr) (m : Str) (f : Addr) : Prop where
  at_ : PySem.W.findIn K (.ref C) m = some (some (.ref f))
  fn : PySem.W.isFn K (.ref f) = true
  kp : PySem.W.keepIn K (.ref f) = true
section
variable {X : Cx} {pins : List (Addr × Obj)} {σ : St} {H : Hp} {s : Shared} {a C dx : Addr} {fs : List (Str × V)} {f : Str} {v : V} {A : Around} {E : Value → Shared → Prop}
theorem getattr_ok {b : Bool} {Q : Value → Shared → Prop} (I : Inv X pins σ H s) (e : H a = some (.ins C dx fs)) (c : Cls X.K C) (n : NoAttr X.K C f) (l : fs.lookup f = some v)
    (h : ∀ u s', Inv X pins σ H s' → RelV v u → Q u s') : wpAny (model X.prog X.w) A (getAttr (.ref a) f b) Q E s := by
  obtain ⟨mA, O, r, _, _, _⟩ := ins_get I.hok e
  obtain ⟨u, hu, ru⟩ := RelO.some_of (v := v) (o := mA f) (by rw [← l]; exact r f)
  exact get_map I.kIn O (c.get f) c.hd n hu (handed_of ru) (h u _ (I.tok _) ru)
theorem getmeth_ok {m : Str} {g : Addr} {pl : Sem Bool} {Q : Value × List Value → Shared → Prop} (I : Inv X pins σ H s) (e : H a = some (.ins C dx fs)) (c : Cls X.K C) (k : Meth X.K C m g) (l : fs.lookup m = none)
    (h : Q (.ref g, [.ref a]) s) : wpAny (model X.prog X.w) A (getMethod (.ref a) m pl) Q E s := by
  obtain ⟨mA, O, r, _, _, _⟩ := ins_get I.hok e
  have hn : mA m = none := RelO.none_of (by rw [← l]; exact r m)
  exact get_meth I.kIn O (c.get m) k.at_ k.fn hn h
theorem setattr_ok {y : V} {u : Value} {Q : Unit → Shared → Prop} (I : Inv X pins σ H s) (e : H a = some (.ins C dx fs)) (c : Cls X.K C) (n : NoAttr X.K C f) (hl : fs.length < 1000) (ry : RelV y u)
    (h : ∀ s', Inv X pins σ (upd H a (.ins C dx (putF f y fs))) s' → Q () s') : wpAny (model X.prog X.w) A (setAttr (.ref a) f u) Q E s := by
  obtain ⟨mA, O, r, wi, _, ho⟩ := ins_get I.hok e
  have hz : (fs.map (·.1)).length ≤ sizeLine := by rw [List.length_map, sizeLine_eq]; omega
  refine set_map I.kIn O c.sa c.po n.taker c.hd wi hz fun h' O' sb => h _ ?_
  have hd : ∃ o, h'.get? dx = some o := let ⟨o, _, _, e', _⟩ := O'.ns; ⟨o, e'⟩
  refine I.write (x := a) (e := dx) (by rw [e]; exact True.intro) (.inr ho) (fun b q hb z => (sb.2 b hb).trans z) hd ?_
  refine ⟨by rw [upd_ne O.ne]; exact ho, ?_, O.ne, O'.obj, _, O'.ns, fun g => ?_, fun g hg => ?_⟩
  · have := length_putF f y fs; omega
  · show RelO ((putF f y fs).lookup g) (if g = f then some u else mA g)
    rw [lookup_putF]
    by_cases q : g = f
    · rw [if_pos q, if_pos q]; exact ry
    · rw [if_neg q, if_neg q]; exact r g
  · by_cases q : g = f
    · rw [q]; exact (keys_putF f y fs).1
    · refine (keys_putF f y fs).2 g (wi g fun z => hg ?_)
      show (if g = f then some u else mA g) = none
      rw [if_neg q]; exact z
theorem Inv.made (I : Inv X pins σ H s) : Inv X pins σ (upd (upd H s.heap.objs.size (.own (s.heap.objs.size + 1))) (s.heap.objs.size + 1) (.ins C s.heap.objs.size []))
    { s with heap := (s.heap.push PySem.W.emptyDict).push (PySem.W.instObj C s.heap.objs.size) } := by
  have e1 : (s.heap.push PySem.W.emptyDict).get? s.heap.objs.size = some PySem.W.emptyDict := Heap.get?_push_size s.heap rfl
  have e2 : ((s.heap.push PySem.W.emptyDict).push (PySem.W.instObj C s.heap.objs.size)).get? (s.heap.objs.size + 1) = some (PySem.W.instObj C s.heap.objs.size) := by
    have := Heap.get?_push_size (s.heap.push PySem.W.emptyDict) (o := PySem.W.instObj C s.heap.objs.size) rfl
    rwa [Heap.size_push] at this
  have e3 : (s.heap.push PySem.W.emptyDict).Ns s.heap.objs.size (fun _ => none) := ⟨PySem.W.emptyDict, #[], _, e1, rfl, (fun e he => absurd he (by simp)), fun _ => rfl⟩
  have I1 := I.laid (a := s.heap.objs.size) (o := .own (s.heap.objs.size + 1)) (h' := s.heap.push PySem.W.emptyDict) (t' := s.toks) (fun b u q => Heap.get?_push_of_some _ q) (Nat.le_refl _) ⟨_, e1⟩
  refine I1.laid (a := s.heap.objs.size + 1) (o := .ins C s.heap.objs.size []) (t' := s.toks) (fun b u q => Heap.get?_push_of_some _ q) (Nat.le_of_eq (Heap.size_push _ _)) ?_
  have ne : s.heap.objs.size ≠ s.heap.objs.size + 1 := Nat.ne_of_lt (Nat.lt_succ_self _)
  refine ⟨by rw [upd_ne ne, upd_same], Nat.zero_le _, ne, e2, fun _ => none, (Heap.Ns1.of_empty e3).at fun o q => Heap.get?_push_of_some _ q, fun _ => True.intro, fun y hy => absurd rfl hy⟩
theorem attr_of {prog : Program} {w : World} {env : Env} {e : Expr} {f : Str} {pos : Pos} {s : Shared} {Q : Value → Shared → Prop} (hb : attributeBase e f env (eval e env) = eval e env)
    (h : wpAny (model prog w) A (eval e env) (fun o s₁ => wpAny (model prog w) A (getAttr o f true) Q E s₁) E s) : wpAny (model prog w) A (eval (.Attribute e f pos) env) Q E s :=
  Attribute_any_ h (by rw [arm_eval_Attribute, hb])
end
def tFld (K : PySem.W.Frag) (ta : TE) (f : Str) : TE := fun σ H Q => ta σ H fun x H1 => ∃ a C dx fs v, x = .ref a ∧ H1 a = some (.ins C dx fs) ∧ Cls K C ∧ NoAttr K C f ∧ fs.lookup f = some v ∧ Q v H1
def sFld (K : PySem.W.Frag) (ta tv : TE) (f : Str) : TS := fun D σ H => tv σ H fun y H1 => ta σ H1 fun x H2 => ∃ a C dx fs, x = .ref a ∧ H2 a = some (.ins C dx fs) ∧ Cls K C ∧ NoAttr K C f ∧ fs.length < 1000 ∧
  D.nx σ (upd H2 a (.ins C dx (putF f y fs)))
section
variable {X : Cx} {o e value : Expr} {f : Str} {pos pos' tpos : Pos} {ta tv : TE}
theorem pe_fld (he : PE X e ta) (hb : attributeBase e f X.env (eval e X.env) = eval e X.env) : PE X (.Attribute e f pos) (tFld X.K ta f) := by
  intro pins s σ H Q I h
  refine attr_of hb (thn (he pins s σ H _ I h) fun u s1 hpat => ?_)
  obtain ⟨x, H1, I1, rx, a, C, dx, fs, v, ex, ea, c, n, l, q⟩ := hpat
  subst ex
  obtain rfl : u = Value.ref a := rx
  exact getattr_ok I1 ea c n l fun u' s2 I2 ru => ⟨v, H1, I2, ru, q⟩
theorem ps_fld (ha : PE X o ta) (hv : PE X value tv) (hs : swapsWith value (some (.Attribute o f pos')) pos.line X.env = pure false) : PS X (.Assign [.Attribute o f pos'] value pos) (sFld X.K ta tv f) := by
  intro pins s σ H D I h
  refine plainObj_wpAny_Assign_Attribute (thn (hv pins s σ H _ I h) fun u s1 ⟨y, H1, I1, ry, q⟩ => thn (ha pins s1 σ H1 _ I1 q) fun ov s2 hpat => ?_) hs
  obtain ⟨x, H2, I2, rx, a, C, dx, fs, ex, ea, c, n, l, q2⟩ := hpat
  subst ex
  obtain rfl : ov = Value.ref a := rx
  exact setattr_ok I2 ea c n l ry fun s3 I3 => ⟨σ, _, I3, q2⟩
end
section
variable {X : Cx} {pins : List (Addr × Obj)} {σ : St} {H : Hp} {s : Shared} {A : Around} {E : Value → Shared → Prop} {Q : Value → Shared → Prop} {c : Value} {b : Bool}
inductive TyOf (K : PySem.W.Frag) (H : Hp) : V → Value → Prop where
  | non : TyOf K H .non (.type "NoneType")
  | bl (x : Bool) : TyOf K H (.bl x) (.type "bool")
  | int (i : Int) : TyOf K H (.int i) (.type "int")
  | str (x : Str) : TyOf K H (.str x) (.type "str")
  | flt (x : UInt64) : TyOf K H (.flt x) (.type "float")
  | lst {a : Addr} {xs : List V} (e : H a = some (.lst xs)) : TyOf K H (.ref a) (.type "list")
  | frz {a : Addr} {o : Obj} {xs : List V} (e : H a = some (.frz o (.lst xs))) : TyOf K H (.ref a) (.type "list")
  | tup {a : Addr} {xs : List V} (e : H a = some (.tup xs)) : TyOf K H (.ref a) (.type "tuple")
  | dK {a : Addr} {kvs : List (Key × V)} (e : H a = some (.dK kvs)) : TyOf K H (.ref a) (.type "dict")
  | dT {a : Addr} {kvs : List (List Key × V)} (e : H a = some (.dT kvs)) : TyOf K H (.ref a) (.type "dict")
  | ins {a C dx : Addr} {fs : List (Str × V)} (e : H a = some (.ins C dx fs)) (cl : Cls K C) (ha : PySem.W.findIn K (.ref C) "__class__" = some (some (.builtin "object.__class__")))
      (hn : PySem.W.specialIn K (.builtin "object.__class__") "__get__" = some (some (.builtin "getset_descriptor.__get__"))) (htk : PySem.W.takesIn K (.builtin "object.__class__") = some true)
      (hm : PySem.W.mroIn K C (.type "object") = some true) : TyOf K H (.ref a) (.ref C)
theorem isinst_ok {x : V} {u t : Value} (I : Inv X pins σ H s) (rx : RelV x u) (ty : TyOf X.K H x t) (e : PySem.W.kitOne X.K t c = some b) (h : ∀ tk, Q (.bool b) { s with toks := tk }) :
    wpAny (model X.prog X.w) A (call (.builtin "isinstance") [u, c]) Q E s := by
  cases ty with
  | non => cases (show u = Value.none from rx); exact PySem.W.kia_one PySem.W.kitx_none I.kIn True.intro e (fun z => nomatch z) h
  | bl y => cases (show u = Value.bool y from rx); exact PySem.W.kia_one PySem.W.kitx_bool I.kIn True.intro e (fun z => nomatch z) h
  | int i => obtain ⟨t, q⟩ := (show ∃ t, u = Value.int i t from rx); cases q; exact PySem.W.kia_one PySem.W.kitx_int I.kIn True.intro e (fun z => nomatch z) h
  | str y => obtain ⟨t, q⟩ := (show ∃ t, u = Value.str y t from rx); cases q; exact PySem.W.kia_one PySem.W.kitx_str I.kIn True.intro e (fun z => nomatch z) h
  | flt y => obtain ⟨t, q⟩ := (show ∃ t, u = Value.float y t from rx); cases q; exact PySem.W.kia_one PySem.W.kitx_float I.kIn True.intro e (fun z => nomatch z) h
  | @lst a xs ea =>
    cases (show u = Value.ref a from rx)
    obtain ⟨_, _, n, _, h1⟩ := (show ObjOk X.prog X.w H s.heap a (.lst xs) from I.hok a _ ea)
    exact PySem.W.kia_one PySem.W.kitx_list I.kIn ⟨_, h1, rfl⟩ e (fun z => nomatch z) h
  | @frz a ob xs ea =>
    cases (show u = Value.ref a from rx)
    obtain ⟨_, _, _, n, _, h1⟩ := (show ObjOk X.prog X.w H s.heap a (.frz ob (.lst xs)) from I.hok a _ ea)
    exact PySem.W.kia_one PySem.W.kitx_list I.kIn ⟨_, h1, rfl⟩ e (fun z => nomatch z) h
  | @tup a xs ea =>
    cases (show u = Value.ref a from rx)
    obtain ⟨_, _, _, p⟩ := (show ObjOk X.prog X.w H s.heap a (.tup xs) from I.hok a _ ea)
    obtain ⟨o, h1, h2, _⟩ := p
    exact PySem.W.kia_one PySem.W.kitx_tuple I.kIn ⟨o, h1, h2⟩ e (fun z => nomatch z) h
  | @dK a kvs ea =>
    cases (show u = Value.ref a from rx)
    obtain ⟨_, _, vs, _, p⟩ := (show ObjOk X.prog X.w H s.heap a (.dK kvs) from I.hok a _ ea)
    obtain ⟨o, es, ep, h1, h2, _⟩ := p
    exact PySem.W.kia_one PySem.W.kitx_dict I.kIn ⟨o, h1, h2.1⟩ e (fun z => nomatch z) h
  | @dT a kvs ea =>
    cases (show u = Value.ref a from rx)
    obtain ⟨_, _, xs, _, o, es, ep, h1, h2, _⟩ := (show ObjOk X.prog X.w H s.heap a (.dT kvs) from I.hok a _ ea)
    exact PySem.W.kia_one PySem.W.kitx_dict I.kIn ⟨o, h1, h2.1⟩ e (fun z => nomatch z) h
  | @ins a C dx fs ea cl ha hn htk hm =>
    cases (show u = Value.ref a from rx)
    obtain ⟨mA, O, _⟩ := ins_get I.hok ea
    obtain ⟨od, J, _⟩ := O.look
    exact PySem.W.kia_one (PySem.W.kitx_own (cl.get _) cl.hd ha hn htk hm) I.kIn J e (fun z => nomatch z) h
end
end L2
namespace L2
open PySem PySem.Spec PyProof.Rows
structure Room (k : Nat) (A : Around) : Prop where
  hd : A.handled = none
  dp : A.depth + 3 * k + 5 < recursionLimit
  un : A.units + 16 * k + 200 < cLine
theorem Room.mono {j k : Nat} {A : Around} (r : Room k A) (h : j ≤ k) : Room j A := ⟨r.hd, by have := r.dp; omega, by have := r.un; omega⟩
theorem Room.deeper {k : Nat} {A : Around} (r : Room (k + 1) A) (env : Env) : Room k (A.deeper env) :=
  ⟨r.hd, by have := r.dp; show A.depth + 1 + 3 * k + 5 < _; omega, by have := r.un; show A.units + 3 + 16 * k + 200 < _; omega⟩
theorem make_depth {A : Around} {C : Addr} {us : List Value} {kw : List (Str × Value)} : (A.under (.builtin "type.__call__" ⟨.ref C :: us, kw⟩)).depth = A.depth + 1 := by
  first | rfl | simp [Around.under, Code.weight, Code.isCreation, Code.isGuard, Code.isCaller, Code.frames, Code.isFrame, guardIds]
theorem make_units {A : Around} {C : Addr} {us : List Value} {kw : List (Str × Value)} : (A.under (.builtin "type.__call__" ⟨.ref C :: us, kw⟩)).units = A.units + 1 := by
  first | rfl | simp [Around.under, Code.cUnits, Code.frames, Code.isFrame]
theorem Room.make {k : Nat} {A : Around} (r : Room (k + 1) A) (C : Addr) (us : List Value) (kw : List (Str × Value)) : Room k (A.under (.builtin "type.__call__" ⟨.ref C :: us, kw⟩)) :=
  ⟨r.hd, by have := r.dp; rw [make_depth]; omega, by have := r.un; rw [make_units]; omega⟩
theorem Room.depth {k : Nat} {A : Around} (r : Room k A) : A.depth < recursionLimit := by have := r.dp; omega
theorem Room.units {k : Nat} {A : Around} (r : Room k A) : A.units + 64 < cLine := by have := r.un; omega
def tNil : TA := fun _ H Q => Q [] H
def tCons (ta : TE) (tr : TA) : TA := fun σ H Q => ta σ H fun x H1 => tr σ H1 fun xs H2 => Q (x :: xs) H2
section
variable {X : Cx} {e : Expr} {es : List Expr} {te : TE} {t : TA} {pos : Pos}
theorem pa_nil : PA X [] tNil := fun _ _ _ _ H Q I h => Calls.spliced_nil ⟨[], H, I, .nil, h⟩
theorem pa_cons (ha : PE X e te) (hr : PA X es t) (hs : starEach (e :: es) X.env = (false, eval e X.env) :: starEach es X.env := by rfl) : PA X (e :: es) (tCons te t) := by
  intro pos pins s σ H Q I h
  rw [hs]
  show wpAny _ _ (spliced ((false, eval e X.env) :: backTo pos (starEach es X.env))) _ _ s
  refine Calls.spliced_cons (thn (ha pins s σ H _ I h) fun u s1 hpat => ?_)
  obtain ⟨x, H1, I1, r1, q1⟩ := hpat
  exact thn (hr pos pins s1 σ H1 _ I1 q1) fun us s2 ⟨xs, H2, I2, r2, q2⟩ => ⟨x :: xs, H2, I2, .cons r1 r2, q2⟩
def tTup (t : TA) : TE := fun σ H Q => t σ H fun xs H1 => xs.length ≤ sizeLine ∧ ∀ p, H1 p = none → Q (.ref p) (upd H1 p (.tup xs))
def tLst (t : TA) : TE := fun σ H Q => t σ H fun xs H1 => xs.length ≤ sizeLine ∧ ∀ p, H1 p = none → Q (.ref p) (upd H1 p (.lst xs))
theorem pe_tup {x1} (h : PA X es t) : PE X (.Tuple es x1 pos) (tTup t) := by
  intro pins s σ H Q I hq
  refine wpAny_Tuple_spliced (thn (h pos pins s σ H _ I hq) fun us s1 ⟨xs, H1, I1, r, z, q⟩ => ⟨by rw [← r.length]; exact z, ?_⟩)
  have hf : H1 s1.heap.objs.size = none := I1.hok.fresh (Nat.le_refl _)
  refine ⟨.ref s1.heap.objs.size, upd H1 s1.heap.objs.size (.tup xs), I1.laid (t' := s1.toks) (fun b u e => Heap.get?_push_of_some _ e) (Nat.le_refl _) ?_, rfl, q _ hf⟩
  exact ⟨z, us, r, ⟨_, Heap.get?_push_size _ rfl, rfl, _, rfl⟩⟩
theorem pe_lst (h : PA X es t) : PE X (.List es pos) (tLst t) := by
  intro pins s σ H Q I hq
  refine wpAny_List_spliced (thn (h pos pins s σ H _ I hq) fun us s1 ⟨xs, H1, I1, r, z, q⟩ => ⟨by rw [← r.length]; exact z, ?_⟩)
  have hf : H1 s1.heap.objs.size = none := I1.hok.fresh (Nat.le_refl _)
  refine ⟨.ref s1.heap.objs.size, upd H1 s1.heap.objs.size (.lst xs), I1.laid (t' := s1.toks) (fun b u e => Heap.get?_push_of_some _ e) (Nat.le_refl _) ?_, rfl, q _ hf⟩
  exact ⟨z, us, 0, r, Heap.get?_push_size _ rfl⟩
end
abbrev Sp := List V → Hp → VK → XK → Prop
abbrev CXT := List Env → Hp → Shared → XK → Value → Shared → Prop
structure Env0 (P : Program) (w : World) (K : PySem.W.Frag) (mg : Str → Option Value) (base : Heap) (A : Around) (outer : List Env) (s : Shared) (H : Hp) : Prop where
  frames : A.frames = some outer
  mod : Mod K mg base
  bs : ∀ b o, base.get? b = some o → s.heap.get? b = some o ∧ H b = none
  bsz : base.objs.size ≤ s.heap.objs.size
  funs : s.heap.FunFrames base outer
  frf : ∀ b ∈ frs outer, H b = none
  hok : HOk P w H s.heap
  bare : AllBare s.gens
def CE (outer : List Env) (P : Program) (w : World) (H : Hp) (s : Shared) (Q : VK) (u : Value) (s' : Shared) : Prop :=
  ∃ v H', s'.os = s.os ∧ AllBare s'.gens ∧ Un (frs outer) [] H H' s.heap s'.heap ∧ HOk P w H' s'.heap ∧ RelV v u ∧ Q v H'
def CR (CX : CXT) (outer : List Env) (P : Program) (w : World) (H : Hp) (s : Shared) (Q : VK) (E : XK) (r : Result) (s' : Shared) : Prop :=
  match r with
  | .ok (.ret u) => CE outer P w H s Q u s'
  | .ok _ => False
  | .error e => CX outer H s E e s'
structure FnOk (P : Program) (w : World) (K : PySem.W.Frag) (mg : Str → Option Value) (base : Heap) (CX : CXT) (k : Nat) (f : Addr) (fd : FuncData) (ps : List Str) (sp : Sp) : Prop where
  len : ∀ vs H Q E, sp vs H Q E → vs.length = ps.length
  run : ∀ (A : Around) (outer : List Env) (s : Shared) (H : Hp) (args : Args) (us : List Value) (vs : List V) (Q : VK) (E : XK), Room k A → Env0 P w K mg base A outer s H → BindsTo s fd args (ps.zip us) → Vals vs us → sp vs H Q E →
    codeAny (model P w) A (.call (.ref f) args) (CR CX outer P w H s Q E) s
theorem Env0.make {P : Program} {w : World} {K : PySem.W.Frag} {mg : Str → Option Value} {base : Heap} {A : Around} {outer : List Env} {s : Shared} {H : Hp} (e : Env0 P w K mg base A outer s H) (C : Addr) (us : List Value) (kw : List (Str × Value)) :
    Env0 P w K mg base (A.under (.builtin "type.__call__" ⟨.ref C :: us, kw⟩)) outer s H := ⟨by first | exact e.frames | (simpa [Around.under, Code.envs, Code.isFrame, pushEnvs] using e.frames), e.mod, e.bs, e.bsz, e.funs, e.frf, e.hok, e.bare⟩
section
variable {X : Cx} {pins : List (Addr × Obj)} {σ : St} {H : Hp} {s s' : Shared}
theorem Inv.env0 (I : Inv X pins σ H s) : Env0 X.prog X.w X.K X.mg X.base X.A X.stack s H :=
  ⟨I.ok.frames, I.ok.mod, I.bs, Nat.le_trans I.ok.bsz I.sz, I.stack, I.stkFree, I.hok, I.bare⟩
theorem Inv.after {Q : VK} {u : Value} (I : Inv X pins σ H s) (h : CE X.stack X.prog X.w H s Q u s') : EP X pins σ Q u s' := by
  obtain ⟨v, H', os, bare, un, hok, r, q⟩ := h
  obtain ⟨hh, g, d, t, os'⟩ := s'
  obtain rfl : os' = s.os := os
  exact ⟨v, H', I.call (h' := hh) (g' := g) (d' := d) (t' := t) (ch := []) un hok bare (fun b z => absurd z (by simp)), r, q⟩
end
def tCall (sp : Sp) (dvs : List V) (E : XK) (t : TA) : TE := fun σ H Q => t σ H fun vs H1 => sp (vs ++ dvs) H1 Q E
def tMeth (C : Addr) (m : Str) (sp : Sp) (dvs : List V) (E : XK) (ta : TE) (t : TA) : TE := fun σ H Q => ta σ H fun x H1 => ∃ a dx fs, x = .ref a ∧ H1 a = some (.ins C dx fs) ∧ fs.lookup m = none ∧
  t σ H1 fun vs H2 => sp (x :: (vs ++ dvs)) H2 Q E
def tMake (C : Addr) (sp : Sp) (dvs : List V) (E : XK) (t : TA) : TE := fun σ H Q => t σ H fun vs H1 => ∀ x dx, H1 x = none → H1 dx = none → dx ≠ x →
  sp (.ref x :: (vs ++ dvs)) (upd (upd H1 dx (.own x)) x (.ins C dx [])) (fun v H2 => v = .non ∧ Q (.ref x) H2) E
def Binds (K : PySem.W.Frag) (fd : FuncData) (ps : List Str) (ds : List Value) : Prop :=
  ∀ (s : Shared) (us : List Value), K.In s.heap → (us ++ ds).length = ps.length → BindsTo s fd ⟨us, []⟩ (ps.zip (us ++ ds))
theorem Binds.all {K : PySem.W.Frag} {fd : FuncData} {ps : List Str} (h : ∀ us : List Value, us.length = ps.length → bindArgs fd ⟨us, []⟩ = pure (ps.zip us)) : Binds K fd ps [] := fun s us _ hl => by
  rw [List.append_nil] at hl ⊢
  exact .of_eq (h us hl)
def Passes (CX : CXT) (X : Cx) (E : XK) : Prop := ∀ (pins : List (Addr × Obj)) (σ : St) (H : Hp) (s : Shared) (e : Value) (s' : Shared), Inv X pins σ H s → CX X.stack H s E e s' → X.xe e s'
section
variable {X : Cx} {CX : CXT} {k : Nat} {f C : Addr} {fd : FuncData} {ps : List Str} {sp : Sp} {dvs : List V} {ds : List Value} {E : XK} {x m : Str} {p pos apos : Pos} {e o : Expr} {es : List Expr} {ta : TE} {t : TA}
theorem run_fn {pins : List (Addr × Obj)} {σ : St} {H : Hp} {s : Shared} {Q : VK} {us : List Value} {vs : List V} (F : FnOk X.prog X.w X.K X.mg X.base CX k f fd ps sp) (hr : Room k X.A) (hb : Binds X.K fd ps ds) (hd : Vals dvs ds) (hx : Passes CX X E)
    (I : Inv X pins σ H s) (r : Vals vs us) (h : sp (vs ++ dvs) H Q E) : wpAny (model X.prog X.w) X.A (call (.ref f) us) (EP X pins σ Q) X.xe s := by
  have r2 : Vals (vs ++ dvs) (us ++ ds) := r.append hd
  have hl : (us ++ ds).length = ps.length := by rw [← r2.length]; exact F.len _ _ _ _ h
  refine wpAny_call (codeAny_mono (F.run X.A X.stack s H ⟨us, []⟩ (us ++ ds) (vs ++ dvs) Q E hr I.env0 (hb s us I.kIn hl) r2 h) fun r s' hq => ?_)
  cases r with
  | error e => exact hx pins σ H s e s' I hq
  | ok fl =>
    cases fl with
    | ret u => exact I.after hq
    | next => exact False.elim hq
    | brk => exact False.elim hq
    | cont => exact False.elim hq
theorem pe_call (F : FnOk X.prog X.w X.K X.mg X.base CX k f fd ps sp) (hr : Room k X.A) (hg : Gl X x) (hm : X.mg x = some (.ref f)) (hk : PySem.W.keepIn X.K (.ref f) = true) (hb : Binds X.K fd ps ds) (hd : Vals dvs ds) (hx : Passes CX X E)
    (ha : PA X (e :: es) t) (hdb : (x == ("__debug__" : Str)) = false := by decide) (he : starEach (e :: es) X.env = (false, eval e X.env) :: starEach es X.env := by rfl) (hpl : (backTo pos (starEach es X.env)).any (·.1) = false := by rfl) :
    PE X (.Call (.Name x p) (e :: es) [] pos) (tCall sp dvs E t) := by
  intro pins s σ H Q I h
  refine wpAny_Call_Name_kw (ld_glob I hg hm ?_ hdb)
  refine PySem.W.callWith_K (h₀ := X.base) I.ok.mod.kin hk (thn (ha pos pins s σ H _ I h) fun us s1 ⟨vs, H1, I1, r, q⟩ => ⟨I1.kIn, ?_⟩) he hpl
  exact run_fn F hr hb hd hx I1 r q
theorem pe_meth {pl : Sem Bool} (he : PE X o ta) (c : Cls X.K C) (hm : Meth X.K C m f) (F : FnOk X.prog X.w X.K X.mg X.base CX k f fd ps sp) (hr : Room k X.A) (hb : Binds X.K fd ps ds) (hd : Vals dvs ds) (hx : Passes CX X E) (ha : PA X (e :: es) t)
    (hst : starEach (e :: es) X.env = (false, eval e X.env) :: starEach es X.env := by rfl) (hpl : (backTo pos (starEach es X.env)).any (·.1) = false := by rfl)
    (ht : eval (.Call (.Attribute o m apos) (e :: es) [] pos) X.env = (do
      let ov ← eval o X.env
      standAt apos.atName
      let (f, first) ← holding [ov] (getMethod ov m pl)
      callWith pos f first (backTo pos (starEach (e :: es) X.env)) (backToKw pos (keywordEach [] X.env))) := by rfl) :
    PE X (.Call (.Attribute o m apos) (e :: es) [] pos) (tMeth C m sp dvs E ta t) := by
  intro pins s σ H Q I h
  refine PySem.W.methodCall_KW (pl := pl) (thn (he pins s σ H _ I h) fun u s1 hpat => ?_) ht
  obtain ⟨x, H1, I1, rx, a, dx, fs, ex, ea, l, q⟩ := hpat
  subst ex
  obtain rfl : u = Value.ref a := rx
  refine getmeth_ok I1 ea c hm l ?_
  refine PySem.W.callWith_K (first := [.ref a]) (h₀ := X.base) I.ok.mod.kin hm.kp (thn (ha pos pins s1 σ H1 _ I1 q) fun us s2 ⟨vs, H2, I2, r, q2⟩ => ⟨I2.kIn, ?_⟩) hst hpl
  exact run_fn (us := .ref a :: us) (vs := .ref a :: vs) F hr hb hd hx I2 (.cons rfl r) q2
theorem pe_meth0 {pl : Sem Bool} (he : PE X o ta) (c : Cls X.K C) (hm : Meth X.K C m f) (F : FnOk X.prog X.w X.K X.mg X.base CX k f fd ps sp) (hr : Room k X.A) (hb : Binds X.K fd ps ds) (hd : Vals dvs ds) (hx : Passes CX X E)
    (ht : eval (.Call (.Attribute o m apos) [] [] pos) X.env = (do
      let ov ← eval o X.env
      standAt apos.atName
      let (f, first) ← holding [ov] (getMethod ov m pl)
      callWith pos f first (backTo pos (starEach [] X.env)) (backToKw pos (keywordEach [] X.env))) := by rfl) :
    PE X (.Call (.Attribute o m apos) [] [] pos) (tMeth C m sp dvs E ta tNil) := by
  intro pins s σ H Q I h
  refine PySem.W.methodCall_KW (pl := pl) (thn (he pins s σ H _ I h) fun u s1 hpat => ?_) ht
  obtain ⟨x, H1, I1, rx, a, dx, fs, ex, ea, l, q⟩ := hpat
  subst ex
  obtain rfl : u = Value.ref a := rx
  refine getmeth_ok I1 ea c hm l ?_
  exact PySem.W.callWith_K0 (first := [.ref a]) I1.kIn hm.kp (run_fn (us := [.ref a]) (vs := [.ref a]) F hr hb hd hx I1 (.cons rfl .nil) q)
structure Mk (K : PySem.W.Frag) (C f : Addr) : Prop where
  makes : PySem.W.makesIn K C = true
  init : PySem.W.findIn K (.ref C) "__init__" = some (some (.ref f))
  fn : PySem.W.isFn K (.ref f) = true
  kp : PySem.W.keepIn K (.ref C) = true
theorem run_make {pins : List (Addr × Obj)} {σ : St} {H : Hp} {s : Shared} {Q : VK} {us : List Value} {vs : List V} (M : Mk X.K C f) (F : FnOk X.prog X.w X.K X.mg X.base CX k f fd ps sp) (hr : Room (k + 1) X.A) (hb : Binds X.K fd ps ds) (hd : Vals dvs ds)
    (hx : Passes CX X E) (I : Inv X pins σ H s) (r : Vals vs us)
    (h : ∀ x dx, H x = none → H dx = none → dx ≠ x → sp (.ref x :: (vs ++ dvs)) (upd (upd H dx (.own x)) x (.ins C dx [])) (fun v H2 => v = .non ∧ Q (.ref x) H2) E) :
    wpAny (model X.prog X.w) X.A (call (.ref C) us) (EP X pins σ Q) X.xe s := by
  have hq := h (s.heap.objs.size + 1) s.heap.objs.size (I.hok.fresh (Nat.le_succ _)) (I.hok.fresh (Nat.le_refl _)) (Nat.ne_of_lt (Nat.lt_succ_self _))
  have I2 := Inv.made (C := C) I
  have r2 : Vals (V.ref (s.heap.objs.size + 1) :: (vs ++ dvs)) (Value.ref (s.heap.objs.size + 1) :: (us ++ ds)) := .cons rfl (r.append hd)
  have hl : (Value.ref (s.heap.objs.size + 1) :: us ++ ds).length = ps.length := by
    have e := r2.length
    rw [F.len _ _ _ _ hq] at e
    exact e.symm
  refine wpAny_call (make_map (f := f) I.kIn M.makes M.init (beq_iff_eq.mp M.fn) (codeAny_mono (F.run _ X.stack _ _ ⟨Value.ref (s.heap.objs.size + 1) :: us, []⟩ (Value.ref (s.heap.objs.size + 1) :: (us ++ ds)) _ _ E (hr.make C us [])
    (I2.env0.make C us []) (hb _ (Value.ref (s.heap.objs.size + 1) :: us) I2.kIn hl) r2 hq) fun r s' hq' => ?_))
  cases r with
  | error e => exact hx pins σ _ _ e s' I2 hq'
  | ok fl =>
    cases fl with
    | ret u =>
      obtain ⟨v, H', I3, rv, ev, q3⟩ := I2.after hq'
      subst ev
      exact ⟨rv, ⟨V.ref (s.heap.objs.size + 1), H', I3, rfl, q3⟩⟩
    | next => exact False.elim hq'
    | brk => exact False.elim hq'
    | cont => exact False.elim hq'
theorem pe_make (M : Mk X.K C f) (F : FnOk X.prog X.w X.K X.mg X.base CX k f fd ps sp) (hr : Room (k + 1) X.A) (hg : Gl X x) (hm : X.mg x = some (.ref C)) (hb : Binds X.K fd ps ds) (hd : Vals dvs ds) (hx : Passes CX X E)
    (ha : PA X (e :: es) t) (hdb : (x == ("__debug__" : Str)) = false := by decide) (he : starEach (e :: es) X.env = (false, eval e X.env) :: starEach es X.env := by rfl) (hpl : (backTo pos (starEach es X.env)).any (·.1) = false := by rfl) :
    PE X (.Call (.Name x p) (e :: es) [] pos) (tMake C sp dvs E t) := by
  intro pins s σ H Q I h
  refine wpAny_Call_Name_kw (ld_glob I hg hm ?_ hdb)
  refine PySem.W.callWith_K (h₀ := X.base) I.ok.mod.kin M.kp (thn (ha pos pins s σ H _ I h) fun us s1 ⟨vs, H1, I1, r, q⟩ => ⟨I1.kIn, ?_⟩) he hpl
  exact run_make M F hr hb hd hx I1 r q
end
section
variable {X : Cx} {CX : CXT} {k : Nat} {f C : Addr} {fd : FuncData} {ps ks : List Str} {sp : Sp} {E : XK} {x m : Str} {p pos apos kpos : Pos} {e o : Expr} {es : List Expr} {kws : List Keyword} {te ta : TE} {t tk : TA} {nm : Option Str}
structure KBinds (K : PySem.W.Frag) (fd : FuncData) (ps ks : List Str) (g : List Value → List Value → List Value) (gV : List V → List V → List V) : Prop where
  to : ∀ (s : Shared) (us ws : List Value), K.In s.heap → (g us ws).length = ps.length → BindsTo s fd ⟨us, ks.zip ws⟩ (ps.zip (g us ws))
  rel : ∀ {vs : List V} {us : List Value} {zs : List V} {ws : List Value}, Vals vs us → Vals zs ws → Vals (gV vs zs) (g us ws)
variable {g : List Value → List Value → List Value} {gV : List V → List V → List V}
end
structure FnScope (N P : List Str) (sc : Scope) : Prop where
  kind : sc.kind = .function
  co : sc.isCoroutine = false
  gen : sc.isGenerator = false
  nd : N.Nodup
  pre : N.take P.length = P
  par : ∀ x ∈ P, sc.names.lookup x = some .local ∨ sc.names.lookup x = some .cell
  nofree : ∀ y ∈ sc.names, y.2 ≠ .free
theorem bindL_out {kindOf : Str → Option NameKind} {x : Str} : ∀ {binds : List (Str × Value)} {m : Str → Option Value}, (∀ v, (x, v) ∉ binds) → bindL kindOf binds m x = m x
  | [], _, _ => rfl
  | (n, v) :: r, m, h => by
    unfold bindL
    rw [bindL_out fun w hw => h w (List.mem_cons_of_mem _ hw)]
    split
    · have : x ≠ n := by rintro rfl; exact h v List.mem_cons_self
      simp [this]
    · rfl
theorem bindC_out {kindOf : Str → Option NameKind} {x : Str} : ∀ {binds : List (Str × Value)} {m : Str → Option Value}, (∀ v, (x, v) ∉ binds) → bindC kindOf binds m x = m x
  | [], _, _ => rfl
  | (n, v) :: r, m, h => by
    unfold bindC
    rw [bindC_out fun w hw => h w (List.mem_cons_of_mem _ hw)]
    split
    · rfl
    · have : x ≠ n := by rintro rfl; exact h v List.mem_cons_self
      simp [this]
theorem bindL_get {kindOf : Str → Option NameKind} {x : Str} {v : Value} : ∀ {P : List Str} {vs : List Value} {i : Nat} {m : Str → Option Value}, P.Nodup → P[i]? = some x → vs[i]? = some v → kindOf x = some .local →
    bindL kindOf (P.zip vs) m x = some v
  | [], _, _, _, _, h, _, _ => by simp at h
  | _ :: _, [], _, _, _, _, h, _ => by simp at h
  | p :: P, w :: vs, 0, m, nd, h1, h2, hk => by
    simp at h1 h2; subst h1; subst h2
    show bindL kindOf ((p, w) :: P.zip vs) m p = _
    unfold bindL
    rw [bindL_out fun v hv => (List.nodup_cons.mp nd).1 (List.of_mem_zip hv).1, if_pos hk]
    simp
  | p :: P, w :: vs, i + 1, m, nd, h1, h2, hk => by
    show bindL kindOf ((p, w) :: P.zip vs) m x = _
    unfold bindL
    exact bindL_get (i := i) (List.nodup_cons.mp nd).2 (by simpa using h1) (by simpa using h2) hk
theorem bindC_get {kindOf : Str → Option NameKind} {x : Str} {v : Value} : ∀ {P : List Str} {vs : List Value} {i : Nat} {m : Str → Option Value}, P.Nodup → P[i]? = some x → vs[i]? = some v → kindOf x ≠ some .local →
    bindC kindOf (P.zip vs) m x = some v
  | [], _, _, _, _, h, _, _ => by simp at h
  | _ :: _, [], _, _, _, _, h, _ => by simp at h
  | p :: P, w :: vs, 0, m, nd, h1, h2, hk => by
    simp at h1 h2; subst h1; subst h2
    show bindC kindOf ((p, w) :: P.zip vs) m p = _
    unfold bindC
    rw [bindC_out fun v hv => (List.nodup_cons.mp nd).1 (List.of_mem_zip hv).1, if_neg hk]
    simp
  | p :: P, w :: vs, i + 1, m, nd, h1, h2, hk => by
    show bindC kindOf ((p, w) :: P.zip vs) m x = _
    unfold bindC
    exact bindC_get (i := i) (List.nodup_cons.mp nd).2 (by simpa using h1) (by simpa using h2) hk
def start (N : List Str) (vs : List V) : St := vs.map some ++ List.replicate (N.length - vs.length) none
def cxOf (CX : CXT) (P : Program) (w : World) (K : PySem.W.Frag) (mg : Str → Option Value) (base : Heap) (N : List Str) (qual : Str) (scope : Scope) (f : Addr) (cd : Value) (A : Around) (outer : List Env) (s : Shared) (H : Hp) (E : XK) : Cx where
  prog := P
  w := w
  K := K
  mg := mg
  base := base
  A := A.deeper (envOfC qual scope s.heap.objs.size f cd)
  N := N
  s₀ := s
  H₀ := H
  env := envOfC qual scope s.heap.objs.size f cd
  outer := outer
  stack := envOfC qual scope s.heap.objs.size f cd :: outer
  ex := []
  calm := true
  fn := fun _ => true
  pn := []
  xe := fun e s' => wpAny (model P w) (A.deeper (envOfC qual scope s.heap.objs.size f cd)) (leaving (envOfC qual scope s.heap.objs.size f cd) e) (fun _ s'' => CX outer H s E e s'') (fun e' s'' => CX outer H s E e' s'') s'
theorem cell_has {sc : Scope} {n : Nat} {x : Str} (h : sc.names.lookup x = some .cell) : ∃ c, (cellsFrom n sc.names []).lookup x = some c := by
  have q := PySem.W.cellsFrom_some sc.names n [] (.inl h)
  exact Option.isSome_iff_exists.mp q
theorem inv_start {CX : CXT} {P : Program} {w : World} {K : PySem.W.Frag} {mg : Str → Option Value} {base : Heap} {N ps : List Str} {qual : Str} {scope : Scope} {f : Addr} {cd : Value} {A : Around} {outer : List Env} {s s1 : Shared} {H : Hp} {E : XK} {us : List Value} {vs : List V}
    (S : FnScope N ps scope) (hd : A.handled = none) (e0 : Env0 P w K mg base A outer s H) (hl : vs.length = ps.length) (r : Vals vs us)
    (x : InCallC s s.heap.objs.size (bindL (envOfC qual scope s.heap.objs.size f cd).kindOf (ps.zip us) fun _ => none) (cellsFrom (s.heap.objs.size + 1) scope.names []) (bindC (envOfC qual scope s.heap.objs.size f cd).kindOf (ps.zip us) fun _ => none) s1) :
    Inv (cxOf CX P w K mg base N qual scope f cd A outer s H E) [] (start N vs) H s1 := by
  have hpl : ps.length ≤ N.length := by have := congrArg List.length S.pre; rw [List.length_take] at this; omega
  obtain ⟨h1, tk, rfl, hk⟩ := x.done
  have noA : ∀ b : Addr, b ∉ (cxOf CX P w K mg base N qual scope f cd A outer s H E).ex := fun b z => absurd (show b ∈ ([] : List Addr) from z) (by simp)
  refine ⟨⟨e0.mod, S.kind, rfl, rfl, Nat.le_refl _, fun y z c h1 h2 => ?_, fun y hy => ?_, fun y c _ h => ?_, fun _ => hd, Around.frames_deeper e0.frames, .inr ⟨rfl, rfl⟩, fun b z => absurd z (noA b), e0.bs, e0.bsz, fun b _ _ => noA b, fun b z => absurd z (noA b), e0.funs, e0.frf⟩,
    rfl, e0.bare, Un.kept hk, ⟨_, x.toInCall.ns, fun i y v h1 h2 h3 => ?_⟩, fun y c h => ⟨_, x.cell y c h⟩, e0.hok.fresh (Nat.le_refl _), fun y c h => ?_, fun p hp => absurd (show p ∈ ([] : List (Addr × Obj)) from hp) (by simp), e0.hok.kept hk, ?_⟩
  · exact name_of_addr x.apart (PySem.mem_of_lookup h1) (PySem.mem_of_lookup h2)
  · have hy : scope.names.lookup y = some .cell ∨ scope.names.lookup y = some .free := hy
    rcases hy with hy | hy
    · exact cell_has hy
    · exact absurd rfl (S.nofree _ (PySem.mem_of_lookup hy))
  · exact Nat.le_of_lt (x.above y c (PySem.mem_of_lookup h))
  · have hi : i < vs.length := by
      unfold start at h2
      by_cases hi : i < vs.length
      · exact hi
      · rw [List.getElem?_append_right (by simpa using hi)] at h2
        rw [List.getElem?_replicate] at h2
        split at h2 <;> cases h2
    have ha : vs[i]? = some v := by
      unfold start at h2
      rw [List.getElem?_append_left (by simpa using hi), List.getElem?_map] at h2
      cases e : vs[i]? with
      | none => rw [e] at h2; cases h2
      | some a => rw [e] at h2; cases h2; rfl
    obtain ⟨u, hu, rv⟩ := r.get ha
    have hp : ps[i]? = some y := by
      rw [← S.pre, List.getElem?_take_of_lt (by omega)]; exact h1
    have ndP : ps.Nodup := by rw [← S.pre]; exact S.nd.sublist (List.take_sublist _ _)
    refine ⟨u, rv, ?_⟩
    rcases S.par y (List.mem_of_getElem? hp) with k | k
    · exact .inl ⟨k, bindL_get ndP hp hu k⟩
    · obtain ⟨c, e⟩ := cell_has (n := s.heap.objs.size + 1) k
      refine .inr ⟨.inl k, c, e, ?_⟩
      have q := x.cell y c e
      rw [bindC_get ndP hp hu (by show scope.names.lookup y ≠ _; rw [k]; decide)] at q
      exact q
  · exact e0.hok.fresh (Nat.le_of_lt (x.above y c (PySem.mem_of_lookup h)))
  · unfold start
    show _ = N.length
    rw [List.length_append, List.length_map, List.length_replicate]
    omega
theorem fn_of {CX : CXT} {P : Program} {w : World} {K : PySem.W.Frag} {mg : Str → Option Value} {base : Heap} {k : Nat} {f : Addr} {name qual : Str} {params : Arguments} {body : List Stmt} {scope : Scope} {dV kV doc pm cdv ct oc : Value} {an od : Option Addr}
    {osl : Array (Option Value)} {N ps : List Str} {sp : Sp} (lk : K.lookup f = some ⟨oc, od, .func (PySem.W.fnOf name qual params body scope dV kV doc pm an cdv ct), osl⟩) (hcd : PySem.W.codeIn K cdv qual = true) (S : FnScope N ps scope)
    (len : ∀ vs H Q E, sp vs H Q E → vs.length = ps.length)
    (hbody : ∀ (A : Around) (outer : List Env) (s : Shared) (H : Hp) (vs : List V) (Q : VK) (E : XK), Room k (A.deeper (envOfC qual scope s.heap.objs.size f cdv)) → sp vs H Q E →
      ∃ t, PSs (cxOf CX P w K mg base N qual scope f cdv A outer s H E) body t ∧ t { nx := fun _ H' => Q .non H', rt := Q } (start N vs) H) :
    FnOk P w K mg base CX (k + 1) f (PySem.W.fnOf name qual params body scope dV kV doc pm an cdv ct) ps sp := by
  refine ⟨len, fun A outer s H args us vs Q E hr e0 hb r hsp => ?_⟩
  have hl := len _ _ _ _ hsp
  have KX : K.In s.heap := e0.mod.kin.keeps fun b o e => (e0.bs b o e).1
  have lim : s.heap.NoLimit := e0.mod.nolimit.keeps fun b o e => (e0.bs b o e).1
  have hkind : ∀ y ∈ ps.zip us, scope.names.lookup y.1 = some .local ∨ (scope.names.lookup y.1 = some .cell ∧ ((cellsFrom (s.heap.objs.size + 1) scope.names []).lookup y.1).isSome = true) := fun ⟨n, v⟩ hy => by
    rcases S.par n (List.of_mem_zip hy).1 with q | q
    · exact .inl q
    · exact .inr ⟨q, PySem.W.cellsFrom_some _ _ _ (.inl q)⟩
  refine codeAny_call_function hr.depth (KX _ _ lk) rfl S.co S.gen rfl (PySem.W.codeRec_of KX hcd) (hb _ _ _ _ ?_)
  refine wpAny_newFunctionEnv_cells S.kind hkind fun env he s1 x => ?_
  subst he
  refine ⟨lim.keeps x.toInCall.keep, codeAny_func ?_⟩
  obtain ⟨t, ht, hq⟩ := hbody A outer s H vs Q E (hr.deeper _) hsp
  have I : Inv (cxOf CX P w K mg base N qual scope f cdv A outer s H E) [] (start N vs) H s1 := inv_start S hr.hd e0 hl r x
  refine wpAny_mono (ht [] s1 (start N vs) H _ I hq) (fun fl s' hs => ?_) fun e s' hs => hs
  have fin : ∀ {σ' : St} {H' : Hp} {v : V} {u : Value}, Inv (cxOf CX P w K mg base N qual scope f cdv A outer s H E) [] σ' H' s' → RelV v u → Q v H' → CE outer P w H s Q u s' :=
    fun {σ' H' v u} J rv q => ⟨v, H', J.os, J.bare, J.base, J.hok, rv, q⟩
  cases fl with
  | ret u =>
    obtain ⟨v, σ', H', J, rv, q⟩ := hs
    exact fin J rv q
  | next =>
    obtain ⟨σ', H', J, q⟩ := hs
    exact fin (v := V.non) (u := Value.none) J rfl q
  | brk =>
    obtain ⟨_, _, _, q⟩ := hs
    exact False.elim q
  | cont =>
    obtain ⟨_, _, _, q⟩ := hs
    exact False.elim q
end L2
namespace L2
open PySem PySem.Spec PyProof.Rows
section
variable {X : Cx} {x : Str} {p pos : Pos} {e : Expr} {es : List Expr} {t : TA} {id T : String} {r : List V → Hp → VK → Prop}
def tCB (r : List V → Hp → VK → Prop) (t : TA) : TE := fun σ H Q => t σ H fun vs H1 => r vs H1 Q
theorem pe_callB (hc : CallR X (.builtin id) r) (hg : Gl X x) (hm : X.mg x = none) (hv : bootBuiltins x = some (.builtin id)) (ha : PA X (e :: es) t) (hn : x ≠ "__name__" := by decide) (hdb : (x == ("__debug__" : Str)) = false := by decide)
    (he : starEach (e :: es) X.env = (false, eval e X.env) :: starEach es X.env := by rfl) (hpl : (backTo pos (starEach es X.env)).any (·.1) = false := by rfl) : PE X (.Call (.Name x p) (e :: es) [] pos) (tCB r t) := by
  intro pins s σ H Q I h
  refine wpAny_Call_Name_kw (ld_blt I hg hm hv ?_ hn hdb)
  exact PyProof.Rows.callWith_builtin1 (thn (ha pos pins s σ H _ I h) fun us s1 ⟨vs, H1, I1, r1, q1⟩ => hc pins s1 σ H1 vs us Q I1 r1 q1) he hpl
theorem pe_callTy (hc : CallR X (.type T) r) (hg : Gl X x) (hm : X.mg x = none) (hv : bootBuiltins x = some (.type T)) (ha : PA X (e :: es) t) (hn : x ≠ "__name__" := by decide) (hdb : (x == ("__debug__" : Str)) = false := by decide)
    (he : starEach (e :: es) X.env = (false, eval e X.env) :: starEach es X.env := by rfl) (hpl : (backTo pos (starEach es X.env)).any (·.1) = false := by rfl) : PE X (.Call (.Name x p) (e :: es) [] pos) (tCB r t) := by
  intro pins s σ H Q I h
  refine wpAny_Call_Name_kw (ld_blt I hg hm hv ?_ hn hdb)
  exact PyProof.Rows.callWith_type1 (thn (ha pos pins s σ H _ I h) fun us s1 ⟨vs, H1, I1, r1, q1⟩ => hc pins s1 σ H1 vs us Q I1 r1 q1) he hpl
end
end L2
namespace HT
open PySem PyProof.Rows
section
open PySem.SeqAt
open PySem.AutoSeq1 (wpAny_loadPart')
open PySem.MeetsSeq PySem.MeetsSeq2 PySem.MeetsSeq3
end
section
variable {prog : Program} {w : World} {A : Around} {E : Value → Shared → Prop} {s : Shared}
def sIx (n d : Nat) : Option Int → Nat
  | none => d
  | some v => if v < 0 then (v + (n : Int)).toNat else min v.toNat n
end
end HT
namespace L2
open PySem PySem.Spec PyProof.Rows
abbrev TO := St → Hp → (Option Int → Hp → Prop) → Prop
def PO (X : Cx) (e : Option Expr) (t : TO) : Prop :=
  ∀ (pins : List (Addr × Obj)) (s : Shared) (σ : St) (H : Hp) (Q : Option Int → Hp → Prop), Inv X pins σ H s → t σ H Q →
    wpAny (model X.prog X.w) X.A (evalPart e X.env) (fun u s' => ∃ o H', Inv X pins σ H' s' ∧ IsPart u o ∧ Q o H') X.xe s
def tNoPart : TO := fun _ H Q => Q none H
def tPart (t : TE) : TO := fun σ H Q => t σ H fun x H1 => ∃ i, x = .int i ∧ Q (some i) H1
section
variable {X : Cx} {e : Expr} {te : TE} {lo hi : Option Expr} {tl th : TO} {pos p2 : Pos}
theorem po_none : PO X none tNoPart := by
  intro pins s σ H Q I h
  rw [evalPart_none]
  exact wpAny_pure ⟨none, H, I, .none, h⟩
theorem po_some (h : PE X e te) : PO X (some e) (tPart te) := by
  intro pins s σ H Q I hw
  rw [evalPart_some]
  refine thn (h pins s σ H _ I hw) fun u s1 hpat => ?_
  obtain ⟨x, H1, I1, r1, q1⟩ := hpat
  obtain ⟨i, rfl, q⟩ := q1
  obtain ⟨t, rfl⟩ := r1
  exact ⟨some i, H1, I1, .int i t, q⟩
def SlR (X : Cx) (r : V → Option Int → Option Int → Hp → VK → Prop) : Prop :=
  ∀ (pins : List (Addr × Obj)) (s : Shared) (σ : St) (H : Hp) (x : V) (v vl vu : Value) (lo hi : Option Int) (sl : Addr) (Q : VK), Inv X pins σ H s → RelV x v → s.heap.IsSliceOf sl vl vu .none → IsPart vl lo → IsPart vu hi → r x lo hi H Q →
    ∃ T id, typeLookup (.type T) "__getitem__" = pure (some (.builtin id)) ∧ s.TypeIs v T ∧ wpAny (model X.prog X.w) X.A (getItem v (.ref sl)) (EP X pins σ Q) X.xe s
def tSl (r : V → Option Int → Option Int → Hp → VK → Prop) (te : TE) (tl th : TO) : TE := fun σ H Q => te σ H fun x H1 => tl σ H1 fun l H2 => th σ H2 fun u H3 => r x l u H3 Q
theorem pe_slice {r : V → Option Int → Option Int → Hp → VK → Prop} (hr : SlR X r) (he : PE X e te) (hl : PO X lo tl) (hu : PO X hi th) : PE X (.Subscript e (.Slice lo hi none p2) pos) (tSl r te tl th) := by
  intro pins s σ H Q I h
  refine Subscript_ (thn (he pins s σ H _ I h) fun v s1 hpat => ?_)
  obtain ⟨x, H1, I1, r1, q1⟩ := hpat
  refine wpAny_Slice (thn (hl pins s1 σ H1 _ I1 q1) fun vl s2 ⟨l, H2, I2, pl, q2⟩ => thn (hu pins s2 σ H2 _ I2 q2) fun vu s3 hpat => ?_)
  obtain ⟨u, H3, I3, pu, q3⟩ := hpat
  rw [evalPart_none]
  refine wpAny_pure ?_
  have I4 : Inv X pins σ H3 { s3 with heap := s3.heap.push { cls := .type "slice", data := .fields #[vl, vu, .none] } } := I3.kept (t' := s3.toks) fun b ob q => Heap.get?_push_of_some _ q
  obtain ⟨T, id, hT, ht, hg⟩ := hr pins { s3 with heap := s3.heap.push { cls := .type "slice", data := .fields #[vl, vu, .none] } } σ H3 x v vl vu l u s3.heap.objs.size Q I4 r1 (Heap.IsSliceOf.new ..) pl pu q3
  show wpAny (model X.prog X.w) X.A (subscriptTail e (.Slice lo hi none p2) v (.ref s3.heap.objs.size)) (EP X pins σ Q) X.xe { s3 with heap := s3.heap.push { cls := .type "slice", data := .fields #[vl, vu, .none] } }
  exact tail_any (ops := [.ref s3.heap.objs.size, v]) ht hT hg (by with_unfolding_all rfl)
def cutV (xs : List V) (lo hi : Option Int) : List V := (xs.drop (HT.sIx xs.length 0 lo)).take (HT.sIx xs.length xs.length hi - HT.sIx xs.length 0 lo)
theorem cutV_length (xs : List V) (lo hi : Option Int) : (cutV xs lo hi).length ≤ xs.length := by
  unfold cutV
  rw [List.length_take, List.length_drop]
  omega
end
end L2
namespace L2
open PySem PySem.Spec PyProof.Rows
def ixN (n : Nat) (i : Int) : Option Nat := if 0 ≤ i then (if i < n then some i.toNat else none) else if -(n : Int) ≤ i then some (i + n).toNat else none
def atI {α : Type} (xs : List α) (i : Int) : Option α := (ixN xs.length i).bind fun j => xs[j]?
theorem ixN_seq {n : Nat} {i : Int} {j : Nat} (h : ixN n i = some j) : seqIndex? i n = some j ∧ j < n ∧ -(n : Int) ≤ i ∧ i < n := by
  unfold ixN at h
  by_cases h0 : 0 ≤ i
  · rw [if_pos h0] at h
    by_cases h1 : i < n
    · rw [if_pos h1] at h
      have e : i.toNat = j := Option.some.inj h
      exact ⟨by rw [seqIndex_of h0 h1, e], by omega, by omega, h1⟩
    · rw [if_neg h1] at h; cases h
  · rw [if_neg h0] at h
    by_cases h1 : -(n : Int) ≤ i
    · rw [if_pos h1] at h
      have e : (i + n).toNat = j := Option.some.inj h
      exact ⟨by rw [seqIndex_neg (by omega) h1, e], by omega, h1, by omega⟩
    · rw [if_neg h1] at h; cases h
theorem atI_get {α : Type} {xs : List α} {i : Int} {v : α} (h : atI xs i = some v) : ∃ j, seqIndex? i xs.length = some j ∧ xs[j]? = some v ∧ j < xs.length ∧ -(xs.length : Int) ≤ i ∧ i < xs.length := by
  unfold atI at h
  cases e : ixN xs.length i with
  | none => rw [e] at h; cases h
  | some j =>
    rw [e] at h
    obtain ⟨h1, h2, h3, h4⟩ := ixN_seq e
    exact ⟨j, h1, h, h2, h3, h4⟩
theorem atI_nat {α : Type} {xs : List α} {j : Nat} {v : α} (h : xs[j]? = some v) : atI xs (j : Int) = some v := by
  have hj : j < xs.length := (List.getElem?_eq_some_iff.mp h).1
  have e : ixN xs.length (j : Int) = some j := by
    unfold ixN
    rw [if_pos (by omega), if_pos (by omega)]; simp
  unfold atI; rw [e]; exact h
def PlainIx (b : Expr) : Prop := ∀ o i, subscripted b false o i = operate [o, i] (getItem o i)
def IxR (X : Cx) (r : R2) : Prop :=
  ∀ (value slice : Expr) (pins : List (Addr × Obj)) (s : Shared) (σ : St) (H : Hp) (x y : V) (v u : Value) (Q : VK), Inv X pins σ H s → RelV x v → RelV y u → r x y H Q →
    subscripted slice false v u = operate [v, u] (getItem v u) → wpAny (model X.prog X.w) X.A (subscriptTail value slice v u) (EP X pins σ Q) X.xe s
def MtR (X : Cx) (id : String) (r : V → List V → Hp → VK → Prop) : Prop :=
  ∀ (pins : List (Addr × Obj)) (s : Shared) (σ : St) (H : Hp) (x : V) (xs : List V) (v : Value) (us : List Value) (Q : VK), Inv X pins σ H s → RelV x v → Vals xs us → r x xs H Q →
    wpAny (model X.prog X.w) X.A (call (.builtin id) (v :: us)) (EP X pins σ Q) X.xe s
section
variable {X : Cx} {a b : Expr} {ta tb : TE} {pos : Pos}
theorem pe_ix {r : R2} (hr : IxR X r) (ha : PE X a ta) (hb : PE X b tb) (hs : PlainIx b) : PE X (.Subscript a b pos) (tOp r ta tb) := by
  intro pins s σ H Q I h
  exact Subscript_ (binT ha hb I h fun v u s2 x y H2 I2 rx ry q => hr a b pins s2 σ H2 x y v u Q I2 rx ry q (hs _ _))
def rIxL (K : PySem.W.Frag) : R2 := fun x y H Q => ∃ p xs i v, x = .ref p ∧ y = .int i ∧ SqL K H p xs ∧ atI xs i = some v ∧ Q v H
def rIxT (K : PySem.W.Frag) : R2 := fun x y H Q => ∃ p xs i v, x = .ref p ∧ y = .int i ∧ SqT K H p xs ∧ atI xs i = some v ∧ Q v H
theorem ix_list : IxR X (rIxL X.K) := by
  intro value slice pins s σ H x y v u Q I rx ry h hs
  obtain ⟨p, xs, i, z, rfl, rfl, hq, he, q⟩ := h
  cases rx
  obtain ⟨t, rfl⟩ := ry
  obtain ⟨its, r, pl, hz⟩ := I.list hq
  obtain ⟨j, h1, h2, h3, h4, h5⟩ := atI_get he
  obtain ⟨w, ew, rw'⟩ := r.get h2
  have hl := r.length
  have hn := line63
  have fin : EP X pins σ Q w s := ⟨z, H, I, rw', q⟩
  by_cases h0 : 0 ≤ i
  · have hj : i.toNat = j := by
      rw [seqIndex_of h0 h5] at h1
      exact Option.some.inj h1
    exact item_listR pl.isList h0 (by omega) (by rw [hj]; simpa using ew) fin hs
  · have hj : (i + (its.toArray.size : Int)).toNat = j := by
      rw [seqIndex_neg (by omega) h4] at h1
      rw [List.size_toArray, ← hl]
      exact Option.some.inj h1
    exact subscriptTail_builtinR (x := w) pl.isList.typeIs slot_list_getitem.lookup
      (wpAny_getItem_list_neg (Q := fun r s' => r = w ∧ EP X pins σ Q r s') pl.isList (by omega) (by rw [List.size_toArray] <;> omega) (by omega) (by rw [hj]; simpa using ew) ⟨rfl, fin⟩) hs
theorem ix_tup : IxR X (rIxT X.K) := by
  intro value slice pins s σ H x y v u Q I rx ry h hs
  obtain ⟨p, xs, i, z, rfl, rfl, hq, he, q⟩ := h
  cases rx
  obtain ⟨t, rfl⟩ := ry
  obtain ⟨its, r, pl, hz⟩ := I.tuple hq
  obtain ⟨j, h1, h2, h3, h4, h5⟩ := atI_get he
  obtain ⟨w, ew, rw'⟩ := r.get h2
  have hl := r.length
  have hn := line63
  have fin : EP X pins σ Q w s := ⟨z, H, I, rw', q⟩
  exact subscriptTail_builtinR (x := w) pl.typeIs slot_tuple_getitem.lookup
    (getItem_tuple (j := j) (Q := fun r s' => r = w ∧ EP X pins σ Q r s') pl (by omega) (by omega) (by rw [List.size_toArray, ← hl]; exact h1) (by simpa using ew) ⟨rfl, fin⟩) hs
theorem mapSeq_set (its : List Value) (n j : Nat) (u : Value) : Obj.mapSeq (·.setIfInBounds j u) { cls := .type "list", data := .seq its.toArray n } = { cls := .type "list", data := .seq (its.set j u).toArray n } := by
  simp [Obj.mapSeq]
theorem Inv.lst {pins : List (Addr × Obj)} {σ : St} {H : Hp} {s : Shared} {p : Addr} {xs : List V} (I : Inv X pins σ H s) (h : H p = some (.lst xs)) :
    ∃ (its : List Value) (n : Nat), Vals xs its ∧ s.heap.get? p = some { cls := .type "list", data := .seq its.toArray n } ∧ xs.length ≤ sizeLine := by
  obtain ⟨z, its, n, r, e⟩ := I.hok p _ h
  exact ⟨its, n, r, e, z⟩
theorem Inv.lstUpd {pins : List (Addr × Obj)} {σ : St} {H : Hp} {s : Shared} {p : Addr} {xs ys : List V} {its its' : List Value} {n n' : Nat} {f : Obj → Obj} (I : Inv X pins σ H s) (h : H p = some (.lst xs))
    (ho : s.heap.get? p = some { cls := .type "list", data := .seq its.toArray n }) (hf : f { cls := .type "list", data := .seq its.toArray n } = { cls := .type "list", data := .seq its'.toArray n' }) (r : Vals ys its') (hz : ys.length ≤ sizeLine) (t : Nat) :
    Inv X pins σ (upd H p (.lst ys)) { s with heap := s.heap.update p f, toks := t } := by
  have e : (s.heap.update p f).get? p = some { cls := .type "list", data := .seq its'.toArray n' } := by
    rw [Heap.get?_update_self f ho (by rw [hf] <;> rfl), hf]
  refine I.write (x := p) (e := p) (by rw [h]; trivial) (.inl rfl) (fun b u hb q => (Heap.get?_update_other _ _ (Ne.symm hb)).trans q) ⟨_, e⟩ ?_
  exact ⟨hz, its', n', r, e⟩
def rSetL : V → V → V → Hp → (Hp → Prop) → Prop := fun o i v H Q => ∃ p xs k j, o = .ref p ∧ i = .int k ∧ H p = some (.lst xs) ∧ ixN xs.length k = some j ∧ Q (upd H p (.lst (xs.set j v)))
theorem set_list : PSet X rSetL := by
  intro pins s σ H o i v ov iv u Q I ro ri rv h
  obtain ⟨p, xs, k, j, rfl, rfl, hp, hj, q⟩ := h
  cases ro
  obtain ⟨t, rfl⟩ := ri
  obtain ⟨its, n, r, ho, hz⟩ := I.lst hp
  obtain ⟨h1, h2, h3, h4⟩ := ixN_seq hj
  have hl := r.length
  have hn := line63
  have I' : Inv X pins σ (upd H p (.lst (xs.set j v))) { s with heap := s.heap.update p (Obj.mapSeq (·.setIfInBounds j u)) } :=
    I.lstUpd hp ho (mapSeq_set its n j u) (r.set rv j) (by rw [List.length_set]; exact hz) s.toks
  by_cases h0 : 0 ≤ k
  · have hk : k.toNat = j := by
      rw [seqIndex_of h0 h4] at h1
      exact Option.some.inj h1
    exact PySem.W.ki_setAt ho h0 (by omega) (by rw [List.size_toArray, ← hl]; exact h4) (by rw [hk]; exact ⟨_, I', q⟩)
  · have hk : (k + (its.toArray.size : Int)).toNat = j := by
      rw [seqIndex_neg (by omega) h3] at h1
      rw [List.size_toArray, ← hl]
      exact Option.some.inj h1
    exact PySem.W.ki_setBack ho (by omega) (by rw [List.size_toArray, ← hl]; exact h3) (by omega) (by rw [hk]; exact ⟨_, I', q⟩)
theorem slice_bounds (lo hi : Option Int) (n : Nat) : (sliceBounds lo hi none n).1 = ((HT.sIx n 0 lo : Nat) : Int) ∧ (sliceBounds lo hi none n).2.1 = ((HT.sIx n n hi : Nat) : Int) ∧ (sliceBounds lo hi none n).2.2 = 1 := by
  refine ⟨?_, ?_, rfl⟩
  · cases lo with
    | none => simp [sliceBounds, HT.sIx]
    | some i =>
      simp only [sliceBounds, HT.sIx, Option.getD_none, show (1 : Int) > 0 by decide, if_true]
      by_cases h : i < 0
      · simp only [h, if_true] <;> omega
      · simp only [h, if_false] <;> omega
  · cases hi with
    | none => simp [sliceBounds, HT.sIx]
    | some i =>
      simp only [sliceBounds, HT.sIx, Option.getD_none, show (1 : Int) > 0 by decide, if_true]
      by_cases h : i < 0
      · simp only [h, if_true] <;> omega
      · simp only [h, if_false] <;> omega
theorem slicePick_cut (its : List Value) (lo hi : Option Int) : slicePick its.toArray lo hi none = ((its.drop (HT.sIx its.length 0 lo)).take (HT.sIx its.length its.length hi - HT.sIx its.length 0 lo)).toArray := by
  obtain ⟨h1, h2, h3⟩ := slice_bounds lo hi its.toArray.size
  unfold slicePick
  rw [h1, h2, h3]
  simp only [sliceRange_one, pick_run, List.size_toArray] <;> rfl
def rSlL (K : PySem.W.Frag) : V → Option Int → Option Int → Hp → VK → Prop := fun x lo hi H Q => ∃ a xs, x = .ref a ∧ SqL K H a xs ∧ ∀ p, H p = none → Q (.ref p) (upd H p (.lst (cutV xs lo hi)))
theorem sl_list : SlR X (rSlL X.K) := by
  intro pins s σ H x v vl vu lo hi sl Q I rx hs pl pu h
  obtain ⟨a, xs, rfl, hx, q⟩ := h
  cases rx
  obtain ⟨its, r, ht, hz⟩ := I.list hx
  have hlen := r.length
  refine ⟨"list", _, slot_list_getitem.lookup, ht.isList.typeIs, ?_⟩
  refine wpAny_getItem_list_slice ht.isList hs pl pu .none (by simp) ?_ (by rw [List.size_toArray] <;> omega)
  rw [slicePick_cut, ← hlen]
  refine ⟨.ref s.heap.objs.size, _, I.laid (t' := s.toks) (o := .lst (cutV xs lo hi)) (fun b ob q => Heap.get?_push_of_some _ q) (Nat.le_refl _) ?_, rfl, q _ (I.hok.fresh (Nat.le_refl _))⟩
  exact ⟨Nat.le_trans (cutV_length xs lo hi) hz, _, 0, (r.drop (HT.sIx xs.length 0 lo)).take (HT.sIx xs.length xs.length hi - HT.sIx xs.length 0 lo), Heap.get?_push_size _ rfl⟩
theorem call_len_seq : CallR X (.builtin "len") (fun xs H Q => ∃ p ys, xs = [.ref p] ∧ (SqL X.K H p ys ∨ SqT X.K H p ys) ∧ Q (.int ys.length) H) := by
  intro pins s σ H xs us Q I r h
  obtain ⟨p, ys, rfl, hq, q⟩ := h
  obtain ⟨u, rfl, rx⟩ := vals1 r
  cases rx
  have hn := line63
  rcases hq with hq | hq
  · obtain ⟨its, r', pl, hz⟩ := I.list hq
    have hlen := r'.length
    exact Calls.call_len_list pl.isList (by simp only [List.size_toArray] <;> omega) ⟨.int ys.length, H, I.tok _, ⟨s.toks + 1, by rw [List.size_toArray, hlen]⟩, q⟩
  · obtain ⟨its, r', pl, hz⟩ := I.tuple hq
    have hlen := r'.length
    exact len_tuple pl (by simp only [List.size_toArray] <;> omega) ⟨.int ys.length, H, I.tok _, ⟨s.toks + 1, by rw [List.size_toArray, hlen]⟩, q⟩
theorem call_list_of : CallR X (.type "list") (fun xs H Q => ∃ p ys, xs = [.ref p] ∧ (SqL X.K H p ys ∨ SqT X.K H p ys) ∧ ∀ l, H l = none → Q (.ref l) (upd H l (.lst ys))) := by
  intro pins s σ H xs us Q I r h
  obtain ⟨p, ys, rfl, hq, q⟩ := h
  obtain ⟨u, rfl, rx⟩ := vals1 r
  cases rx
  have fin : ∀ (its : List Value), Vals ys its → ys.length ≤ sizeLine → ∀ (h' : Heap) (c' : Nat), (∀ b o', s.heap.get? b = some o' → h'.get? b = some o') →
      h'.get? s.heap.objs.size = some { cls := .type "list", dict := none, data := .seq its.toArray c', slots := #[] } → EP X pins σ Q (.ref s.heap.objs.size) { s with heap := h' } := fun its r' hz h' c' kp e =>
    ⟨.ref s.heap.objs.size, _, I.laid (t' := s.toks) kp (Nat.le_refl _) (show ObjOk X.prog X.w _ h' _ (.lst ys) from ⟨hz, its, c', r', e⟩), rfl, q _ (I.hok.fresh (Nat.le_refl _))⟩
  rcases hq with hq | hq
  · obtain ⟨its, r', pl, hz⟩ := I.list hq
    have hlen := r'.length
    obtain ⟨o, ho, hc, n, hd⟩ := pl.isList
    exact call_list_seq p (.inl rfl) ho hc hd (fun h' c' kp e => fin its r' hz h' c' kp e) (by simp only [List.size_toArray] <;> omega)
  · obtain ⟨its, r', pl, hz⟩ := I.tuple hq
    have hlen := r'.length
    obtain ⟨o, ho, hc, n, hd⟩ := pl
    exact call_list_seq p (.inr rfl) ho hc hd (fun h' c' kp e => fin its r' hz h' c' kp e) (by simp only [List.size_toArray] <;> omega)
def tyV (K : PySem.W.Frag) (T : String) (x : V) (H : Hp) : Prop := match x with
  | .str _ => T = "str"
  | .int _ => T = "int"
  | .ref p => (T = "list" ∧ ∃ xs, SqL K H p xs) ∨ (T = "tuple" ∧ ∃ o, K.lookup p = some o ∧ o.cls = .type "tuple" ∧ o.dict = none) ∨
      (T = "dict" ∧ ((∃ kvs, H p = some (.dK kvs)) ∨ ∃ kvs, H p = some (.dT kvs))) ∨ (T = "set" ∧ ∃ S n, H p = some (.set S n))
  | _ => False
theorem tyV_is {pins : List (Addr × Obj)} {σ : St} {H : Hp} {s : Shared} {T : String} {x : V} {v : Value} (I : Inv X pins σ H s) (r : RelV x v) (ty : tyV X.K T x H) :
    s.TypeIs v T ∧ ∀ a, v = .ref a → ∃ ob, s.heap.get? a = some ob ∧ ob.dict = none := by
  cases x with
  | str z =>
    obtain ⟨t, rfl⟩ := r
    cases (show T = "str" from ty)
    exact ⟨typeIs_str s z t, fun _ e => nomatch e⟩
  | int i =>
    obtain ⟨t, rfl⟩ := r
    cases (show T = "int" from ty)
    exact ⟨typeIs_int s i t, fun _ e => nomatch e⟩
  | ref p =>
    cases r
    rcases ty with ⟨rfl, xs, hq⟩ | ⟨rfl, o, hk, hc, hd⟩ | ⟨rfl, hk⟩ | ⟨rfl, S, n, hk⟩
    · obtain ⟨its, _, pl, _⟩ := I.list hq
      refine ⟨pl.isList.typeIs, fun a e => ?_⟩
      cases e
      obtain ⟨o, n, e, c, hd, _⟩ := pl
      exact ⟨o, e, hd⟩
    · refine ⟨⟨o, I.kIn p o hk, hc⟩, fun a e => ?_⟩
      cases e
      exact ⟨o, I.kIn _ o hk, hd⟩
    · have z : ∃ o, s.heap.get? p = some o ∧ o.ExactDict := by
        rcases hk with ⟨kvs, hk⟩ | ⟨kvs, hk⟩
        · obtain ⟨_, _, _, _, o, _, _, e, ex, _⟩ := I.hok p _ hk
          exact ⟨o, e, ex⟩
        · obtain ⟨_, _, _, _, o, _, _, e, ex, _⟩ := I.hok p _ hk
          exact ⟨o, e, ex⟩
      obtain ⟨o, e, ex⟩ := z
      refine ⟨⟨o, e, ex.1⟩, fun a e2 => ?_⟩
      cases e2
      exact ⟨o, e, ex.2.1⟩
    · obtain ⟨o, _, _, _, e, ex, _⟩ := I.hok p _ hk
      refine ⟨⟨o, e, ex.1⟩, fun a e2 => ?_⟩
      cases e2
      exact ⟨o, e, ex.2.1⟩
  | _ => exact False.elim ty
def tBM0 (K : PySem.W.Frag) (T : String) (r : V → List V → Hp → VK → Prop) (to : TE) : TE := fun σ H Q => to σ H fun x H1 => tyV K T x H1 ∧ r x [] H1 Q
def tBM (K : PySem.W.Frag) (T : String) (r : V → List V → Hp → VK → Prop) (to : TE) (t : TA) : TE := fun σ H Q => to σ H fun x H1 => tyV K T x H1 ∧ t σ H1 fun xs H2 => r x xs H2 Q
variable {o e : Expr} {es : List Expr} {to : TE} {t : TA} {name : Str} {apos cpos : Pos} {T id : String} {r : V → List V → Hp → VK → Prop}
theorem pe_bm0 (pa : PlainAttrs T) (slot : Slot T name id) (hty : typeOf (.builtin id) = pure (.type "method_descriptor")) (hm : MtR X id r) (ho : PE X o to)
    (hbase : attributeBase o name X.env (eval o X.env) = eval o X.env := by rfl) (hline : (apos.endLine == cpos.line) = true := by rfl) : PE X (.Call (.Attribute o name apos) [] [] cpos) (tBM0 X.K T r to) := by
  intro pins s σ H Q I h
  refine wpAny_Call_method0_late hbase hline (thn (ho pins s σ H _ I h) fun v s1 hpat => ?_)
  obtain ⟨x, H1, I1, r1, ty, q1⟩ := hpat
  obtain ⟨h1, h2⟩ := tyV_is I1 r1 ty
  exact ⟨T, id, pa, slot, hty, h1, h2, Calls.callWith_builtin rfl (PySem.evalArgs_none (hm pins s1 σ H1 x [] v [] Q I1 r1 .nil q1))⟩
theorem pe_bm (pa : PlainAttrs T) (slot : Slot T name id) (hty : typeOf (.builtin id) = pure (.type "method_descriptor")) (hm : MtR X id r) (ho : PE X o to) (ha : PA X (e :: es) t)
    (hbase : attributeBase o name X.env (eval o X.env) = eval o X.env := by rfl)
    (hfew : ((backTo cpos (starEach (e :: es) X.env)).all (fun x => !x.1) && (backToKw cpos (keywordEach [] X.env)).all (fun x => x.1.isSome)
      && decide ((e :: es).length + ([] : List Keyword).length + (if ([] : List Keyword).isEmpty then 0 else 1) < 30)) = true := by rfl)
    (hline : (apos.endLine == cpos.line) = true := by rfl) (hs : starEach (e :: es) X.env = (false, eval e X.env) :: starEach es X.env := by rfl) (hplain : (backTo cpos (starEach es X.env)).any (·.1) = false := by rfl) :
    PE X (.Call (.Attribute o name apos) (e :: es) [] cpos) (tBM X.K T r to t) := by
  intro pins s σ H Q I h
  refine wpAny_Call_method_late hbase hfew hline rfl (thn (ho pins s σ H _ I h) fun v s1 hpat => ?_)
  obtain ⟨x, H1, I1, r1, ty, q1⟩ := hpat
  obtain ⟨h1, h2⟩ := tyV_is I1 r1 ty
  refine ⟨T, id, pa, slot, hty, h1, h2, ?_⟩
  have hA := ha cpos pins s1 σ H1 _ I1 q1
  rw [hs] at hA ⊢
  refine Calls.callWith_builtin (by show (false || (backTo cpos (starEach es X.env)).any (·.1)) = false; rw [hplain] <;> rfl) (Calls.evalArgs_plain ?_)
  exact thn hA fun us s2 ⟨vs, H2, I2, r2, q2⟩ => hm pins s2 σ H2 x vs v us Q I2 r1 r2 q2
/- xs.append(e), list.index on a module's tuple .. are MtR facts of 06m -/
end
end L2
namespace L2
open PySem PySem.Spec PyProof.Rows
def MtM (X : Cx) (id : String) (r : V → List V → Hp → VK → Prop) : Prop :=
  ∀ (pins : List (Addr × Obj)) (s : Shared) (σ : St) (H : Hp) (x : V) (xs : List V) (v : Value) (us : List Value) (Q : VK), Inv X pins σ H s → RelV x v → Vals xs us → r x xs H Q →
    wpAny (model X.prog X.w) X.A (call (.builtin id) (v :: us)) (EP X pins σ Q) X.xe s
theorem Vals.one : ∀ {x : V} {us : List Value}, Vals [x] us → ∃ u, us = [u] ∧ RelV x u := by
  intro x us h
  cases h with
  | cons r h => cases h with
    | nil => exact ⟨_, rfl, r⟩
theorem Vals.two : ∀ {x y : V} {us : List Value}, Vals [x, y] us → ∃ u v, us = [u, v] ∧ RelV x u ∧ RelV y v := by
  intro x y us h
  cases h with
  | cons r h => cases h with
    | cons q h => cases h with
      | nil => exact ⟨_, _, rfl, r, q⟩
section
variable {X : Cx} {pins : List (Addr × Obj)} {σ : St} {H : Hp} {s : Shared} {l b : Addr} {xs ys zs : List V}
theorem Inv.lset {its its' : List Value} {n : Nat} {f : Array Value → Array Value} {t' : Nat} (I : Inv X pins σ H s) (hH : H l = some (.lst xs))
    (e : s.heap.get? l = some { cls := .type "list", data := .seq its.toArray n }) (hf : f its.toArray = its'.toArray) (hv : Vals ys its') (hz : ys.length ≤ sizeLine) :
    Inv X pins σ (upd H l (.lst ys)) { s with heap := s.heap.update l (Obj.mapSeq f), toks := t' } := by
  have q := PySem.IsL.update e f
  rw [hf] at q
  refine I.write (x := l) (e := l) (by rw [hH]; exact trivial) (.inl rfl) (fun b' u hb hu => (Heap.get?_update_other s.heap (Obj.mapSeq f) (Ne.symm hb)).trans hu) ⟨_, q⟩ ?_
  exact ⟨hz, its', _, hv, q⟩
theorem Inv.lstM (I : Inv X pins σ H s) (hH : H l = some (.lst xs)) : xs.length ≤ sizeLine ∧ ∃ (its : List Value) (n : Nat), Vals xs its ∧ xs.length = its.length ∧ s.heap.get? l = some { cls := .type "list", data := .seq its.toArray n } := by
  obtain ⟨z, its, n, r, e⟩ := I.hok l _ hH
  exact ⟨z, its, n, r, r.length, e⟩
end
section
variable {X : Cx}
def rAppend : V → List V → Hp → VK → Prop := fun x vs H Q => ∃ l xs y, x = .ref l ∧ vs = [y] ∧ H l = some (.lst xs) ∧ xs.length < sizeLine ∧ Q .non (upd H l (.lst (xs ++ [y])))
theorem mt_append : MtM X "list.append" rAppend := by
  intro pins s σ H x vs v us Q I rx rv h
  obtain ⟨l, xs, y, rfl, rfl, hH, hz, q⟩ := h
  cases rx
  obtain ⟨u, rfl, ru⟩ := rv.one
  obtain ⟨z, its, n, r, hl, e⟩ := I.lstM hH
  refine call_meets F.slot_list_append ⟨_, e, rfl⟩ F.entry_list_append (F.args_list_append_2 _ _) (PySem.list_append l its.toArray n u (by rw [List.size_toArray]; omega)) ⟨e, ?_⟩
  refine ⟨.non, _, I.lset (its' := its ++ [u]) hH e (by simp) (r.append (.cons ru .nil)) ?_, rfl, q⟩
  rw [List.length_append, List.length_singleton]
  omega
end
section
variable {prog : Program} {w : World} {A : Around} {E : Value → Shared → Prop} {s : Shared}
set_option maxRecDepth 100000 in
end
section
variable {X : Cx}
end
end L2
namespace Att
open PySem PySem.W PySem.Calls PyProof.Rows
theorem ints_of_wellAll {P : Params} {h : Heap} : ∀ (ns : List Int) (vs : List Value), WellAll P h vs (ns.map WData.int) → IntsAre vs ns := by
  intro ns
  induction ns with
  | nil =>
    intro vs w
    rw [List.map_nil] at w
    cases w
    exact .nil
  | cons n ns ih =>
    intro vs w
    rw [List.map_cons] at w
    cases w with
    | cons a b =>
      cases a
      exact .cons _ _ (ih _ b)
theorem script_of {l : OpenLaw} {n : Nat} (hn : l.most = some n) {P : Params} {h : Heap} {args : List WData} {vals : List Value}
    (hpre : l.row.toRowW.claim.pre args = true) (hwl : WellAll P h vals args) :
    ∃ a vs ns, vals = [Value.ref a] ∧ args = [WData.list (ns.map WData.int)] ∧ h.get? a = some { cls := .type "list", data := .seq vs.toArray } ∧ IntsAre vs ns ∧ ns.length ≤ n := by
  have hsh : WShape.hasAll [] args [.list .int] = true := (pre_splitW hpre).1
  have hc : l.pre.holds [] { args := args } = true := (pre_splitW hpre).2
  obtain ⟨d, r, rfl, h1, h2⟩ := hasAllW_cons hsh
  obtain rfl := hasAllW_nil h2
  obtain ⟨xs, rfl, h3⟩ := hasW_list h1
  obtain ⟨ns, rfl⟩ := items_int h3
  have hlen : ns.length ≤ n := by
    unfold OpenLaw.pre at hc
    have h4 : (WTm.not (.lt (.lit (.int (n : Int))) (.len (.arg 0)))).holds [] { args := [.list (ns.map .int)] } = true := by
      have h4 := (holds_andW hc).1
      rw [hn] at h4
      exact h4
    have h5 := condW_of h4 (w_not (w_lt w_lit (w_len_list (w_arg rfl))))
    rw [List.length_map] at h5
    refine Nat.le_of_not_lt fun q => ?_
    have q' : (n : Int) < ((ns.length : Nat) : Int) := by omega
    first
      | (rw [decide_eq_true q'] at h5; exact absurd h5 (by decide))
      | (simp at h5; omega)
  cases hwl with
  | cons w1 w2 =>
    cases w2
    cases w1 with
    | list ho hall => exact ⟨_, _, ns, rfl, rfl, ho, ints_of_wellAll ns _ hall, hlen⟩
theorem post_true (l : OpenLaw) (args : List WData) : l.row.toRowW.claim.post args (.bool true) args = true :=
  postW_of (r := l.row.toRowW) (X := (true == true))
    (show WShape.has [] (.bool true) .bool = true by first | rfl | decide | simp [WShape.has, WShape.arms, WShape.armsAll])
    (show (WTm.eq .res (.lit (.bool true))).value [] { args := args, res := some (.bool true), after := args } = some (.bool (true == true)) from w_eq_bool (w_res rfl) w_lit) rfl
theorem attach_call {l : OpenLaw} {n : Nat} {q : Program} {loose : List Str} {XP : (Str → Option Value) → Heap → Prop} {YP : World → Heap → Prop} {d : DefRec}
    (hn : l.most = some n) (hdf : d.params.defaults = [])
    (call : ∀ (w : World) (s₀ s₁ : Shared) (mg mb : Str → Option Value) (fa : Addr) (o : Obj) (pm cd doc : Value) (a : Addr) (vs : List Value) (ns : List Int),
      Ground q loose [] XP w s₀ mg mb s₁.heap → YP w s₁.heap →
      s₁.heap.get? fa = some o → o.data = .func (docDef d.name d.params d.body d.scope pm cd doc) → s₁.heap.CodeRec cd d.name → mg d.name = some (.ref fa) →
      s₁.heap.get? a = some { cls := .type "list", data := .seq vs.toArray } → IntsAre vs ns → ns.length ≤ n → s₁.gens = #[] →
      codeAny (model l.prog w) callerA (.call (.ref fa) ⟨[.ref a], []⟩) (fun r s' => r = .ok (.ret (.bool true)) ∧ OldK s₁.heap s'.heap ∧ s'.os = s₁.os ∧ AllBare s'.gens) s₁) :
    WalkO q loose XP YP l.row.toRowW d [] (fun f vs => PySem.call f vs) := by
  intro w s₀ s₁ mg mb G Y fa o pm cd doc dV kV ho hd hcd hD hmg hg args vals as hpre hlay hrd hwl hlo
  obtain rfl : dV = .none := Dflts.none hD hdf
  obtain rfl : kV = .none := Dflts.noKw hD
  obtain ⟨a, vs, ns, rfl, rfl, hobj, hints, hlen⟩ := script_of hn hpre hwl
  refine enter_call (codeAny_mono (call w s₀ s₁ mg mb fa o pm cd doc a vs ns G Y ho (fd_plain hd) hcd hmg hobj hints hlen hg) fun r s' hq => ?_)
  obtain ⟨rfl, h2, h3, h4⟩ := hq
  exact ⟨.inl ⟨.bool true, .bool true, [], rfl, fun _ => rfl, .bool true, post_true l _, fun _ => ⟨List.Pairwise.nil, fun _ hm => (nomatch hm)⟩⟩, h2, h3, h4⟩
section
variable {prog : Program} {w : World} {A : Around} {E : Value → Shared → Prop} {s : Shared} {K : Frag}
end
end Att
namespace L2
open PySem PySem.Spec PyProof.Rows
theorem vals_ints : ∀ {vs : List Value} {ns : List Int}, IntsAre vs ns → Vals (ns.map V.int) vs
  | _, _, .nil => .nil
  | _, _, .cons n t h => .cons ⟨t, rfl⟩ (vals_ints h)
def Only (H : Hp) : Prop := ∀ b, H b = none ∨ ∃ o xs, H b = some (.frz o (.lst xs))
theorem law_call {P : Program} {w : World} {K : PySem.W.Frag} {mg mb : Str → Option Value} {CX : CXT} {k : Nat} {fa a : Addr} {fd : FuncData} {x : Str} {sp : Sp} {s₁ : Shared} {vs : List Value} {ns : List Int}
    (KX : K.In s₁.heap) (hns : s₁.heap.Ns mainGlobals mg) (hb : s₁.heap.Ns builtinsNs mb) (hbb : ∀ x : Str, x ≠ "__name__" → mb x = bootBuiltins x) (hlim : s₁.heap.NoLimit) (hg : s₁.gens = #[])
    (ha : s₁.heap.get? a = some { cls := .type "list", data := .seq vs.toArray }) (hi : IntsAre vs ns) (hl : ns.length ≤ sizeLine) (hr : Room k callerA)
    (F : ∀ base : Heap, K.In base → base.Ns mainGlobals mg → FnOk P w K mg base CX k fa fd [x] sp) (hbind : ∀ (s : Shared) (u : Value), BindsTo s fd ⟨[u], []⟩ [(x, u)])
    (hsp : ∀ H : Hp, Only H → SqL K H a (ns.map V.int) → sp [.ref a] H (fun v _ => v = .bl true) fun _ _ _ => False)
    (hCX : ∀ H e s', CX [] H s₁ (fun _ _ _ => False) e s' → False) :
    codeAny (model P w) callerA (.call (.ref fa) ⟨[.ref a], []⟩) (fun r s' => r = .ok (.ret (.bool true)) ∧ OldK s₁.heap s'.heap ∧ s'.os = s₁.os ∧ AllBare s'.gens) s₁ := by
  have rv := vals_ints hi
  have lenV := hi.length
  have core : ∀ H : Hp, Only H → SqL K H a (ns.map V.int) → HOk P w H s₁.heap → (∀ b, H b ≠ none → b = a) → (H a ≠ none → K.lookup a = none) →
      codeAny (model P w) callerA (.call (.ref fa) ⟨[.ref a], []⟩) (fun r s' => r = .ok (.ret (.bool true)) ∧ OldK s₁.heap s'.heap ∧ s'.os = s₁.os ∧ AllBare s'.gens) s₁ := by
    intro H hO hS hok hA hK
    have base_of : ∀ {b : Addr} {o : Obj}, s₁.heap.get? b = some o → H b = none → (hidT s₁.heap H).get? b = some o := fun e n => hidT_get e n
    have noA : ∀ {b : Addr} {o : Obj} {es : Array DictEntry} {ep : Nat}, s₁.heap.get? b = some o → o.data = .dict es ep → H b = none := fun {b o es ep} e d => by
      cases q : H b with
      | none => rfl
      | some u =>
        have e' : b = a := hA b (by rw [q]; simp)
        subst e'
        rw [ha] at e; cases e
        have d' : Data.seq vs.toArray _ = Data.dict es ep := d
        cases d'
    have nsK : ∀ {b : Addr} {m : Str → Option Value}, s₁.heap.Ns b m → (hidT s₁.heap H).Ns b m := fun {b m} ⟨o, es, ep, e, d, r⟩ => ⟨o, es, ep, base_of e (noA e d), d, r⟩
    have hKb : K.In (hidT s₁.heap H) := fun b o e => base_of (KX b o e) (by
      cases q : H b with
      | none => rfl
      | some u =>
        have e' : b = a := hA b (by rw [q]; simp)
        subst e'
        rw [hK (by rw [q]; simp)] at e; cases e)
    have hM : Mod K mg (hidT s₁.heap H) := ⟨hKb, nsK hns, ⟨mb, nsK hb, hbb⟩, let ⟨mc, h1, h2⟩ := hlim; ⟨mc, nsK h1, h2⟩⟩
    have e0 : Env0 P w K mg (hidT s₁.heap H) callerA [] s₁ H := ⟨rfl, hM, fun b o e => of_hidT e, Nat.le_of_eq (hidT_size _ _), trivial, fun b hb => absurd (show b ∈ ([] : List Addr) from hb) (by simp), hok, .of_eq hg⟩
    refine codeAny_mono ((F _ hKb (nsK hns)).run callerA [] s₁ H ⟨[.ref a], []⟩ [.ref a] [.ref a] _ _ hr e0 (hbind s₁ (.ref a)) (.cons rfl .nil) (hsp H hO hS)) fun r s' h => ?_
    cases r with
    | error e => exact (hCX H e s' h).elim
    | ok fl =>
      cases fl with
      | next => exact False.elim h
      | brk => exact False.elim h
      | cont => exact False.elim h
      | ret u =>
        obtain ⟨v, H', os, bare, un, hok', r', q⟩ := h
        have q' : v = .bl true := q
        subst q'
        obtain rfl : u = Value.bool true := r'
        refine ⟨rfl, OldK.of_keep fun b o e => ?_, os, bare⟩
        cases q : H b with
        | none => exact un.keep b o e q (by intro z; exact absurd (show b ∈ ([] : List Addr) from z) (by simp)) (by simp)
        | some u =>
          rcases hO b with z | ⟨ob, xs, z⟩
          · rw [q] at z; cases z
          · have z2 := un.frzs b ob _ z
            obtain ⟨e1, _⟩ := hok b _ z
            obtain ⟨e2, _⟩ := hok' b _ z2
            rw [e] at e1; cases e1
            exact e2
  cases hk : K.lookup a with
  | some o =>
    have e := KX a o hk
    rw [ha] at e
    cases e
    refine core (fun _ => none) (fun _ => .inl rfl) (.inr ⟨_, vs.toArray, _, hk, rfl, rfl, rfl, by rw [List.size_toArray, lenV]; exact hl, by simpa using rv⟩) (fun b u z => by have z' : (none : Option HO) = some u := z; cases z') (fun b z => absurd rfl z) fun z => absurd rfl z
  | none =>
    refine core (fun b => if b = a then some (.frz { cls := .type "list", data := .seq vs.toArray } (.lst (ns.map V.int))) else none) (fun b => ?_) (.inl (.inr ⟨{ cls := .type "list", data := .seq vs.toArray }, if_pos rfl⟩)) (fun b u z => ?_) (fun b z => ?_) fun _ => hk
    · by_cases hb : b = a
      · exact .inr ⟨_, _, if_pos hb⟩
      · exact .inl (if_neg hb)
    · by_cases hb : b = a
      · have z' := (if_pos hb).symm.trans z
        cases z'
        subst hb
        exact ⟨ha, by rw [List.length_map]; exact hl, vs, _, rv, ha⟩
      · have z' := (if_neg hb).symm.trans z
        cases z'
    · by_cases hb : b = a
      · exact hb
      · exact absurd (if_neg hb) z
end L2
namespace L2
open PySem PySem.Spec PyProof.Rows
theorem walk_of {l : PySem.W.OpenLaw} {n k : Nat} {q : Program} {loose : List Str} {XP : (Str → Option Value) → Heap → Prop} {YP : World → Heap → Prop} {d : DefRec} {K : Params → PySem.W.Frag} {CX : World → CXT} {sp : World → Sp} {x : Str}
    (hn : l.most = some n) (hn2 : n ≤ sizeLine) (hdf : d.params.defaults = []) (hr : Room k callerA)
    (hY : ∀ (w : World) (h : Heap), YP w h → (K w.params).In h)
    (F : ∀ (w : World) (mg : Str → Option Value) (fa : Addr) (h : Heap), (K w.params).In h → h.Ns mainGlobals mg → mg d.name = some (.ref fa) →
      ∃ fd : FuncData, (∀ (s : Shared) (u : Value), BindsTo s fd ⟨[u], []⟩ [(x, u)]) ∧
        ∀ base : Heap, (K w.params).In base → base.Ns mainGlobals mg → FnOk l.prog w (K w.params) mg base (CX w) k fa fd [x] (sp w))
    (hsp : ∀ (w : World) (H : Hp) (a : Addr) (ns : List Int), ns.length ≤ n → Only H → SqL (K w.params) H a (ns.map V.int) → sp w [.ref a] H (fun v _ => v = .bl true) fun _ _ _ => False)
    (hCX : ∀ (w : World) (H : Hp) (s : Shared) (e : Value) (s' : Shared), CX w [] H s (fun _ _ _ => False) e s' → False) :
    PySem.W.WalkO q loose XP YP l.row.toRowW d [] (fun f vs => PySem.call f vs) := by
  refine Att.attach_call hn hdf fun w s₀ s₁ mg mb fa o pm cd doc a vs ns G Y ho hd hcd hmg hobj hints hlen hg => ?_
  have KX := hY w _ Y
  obtain ⟨fd, hb, hF⟩ := F w mg fa _ KX G.T.g hmg
  exact law_call KX G.T.g G.T.b G.T.builtins G.T.nolimit hg hobj hints (Nat.le_trans hlen hn2) hr hF hb (fun H hO hS => hsp w H a ns hlen hO hS) fun H e s' => hCX w H s₁ e s'
end L2
/- THE LAST THEOREM (shape; LID, My.* are yours):
   My.Adr: a structure of the addresses that your layer names (classes, functions); My.Txt K t: a structure (Prop) of the equations over K;
   My.txt_mk : {K} {implicit addresses ..} (e1 : nsIn K mainGlobals "law" = some (some (.ref f))) (e2 : K.lookup f = some ⟨oc, od, .func (fnOf "law" "law" params body scope dV kV doc pm an cdv ct), sl⟩) (e3 : codeIn K cdv "law" = true) .. : ∃ t, My.Txt K t
set_option maxRecDepth 100000 in
set_option maxHeartbeats 0 in
theorem PySem.Challenge.cw_LID_holds : PySem.Challenge.rw_LID.Holds := by
  w_on; o_law; k_head; (case hw => w_witness2)
  k_fill
  refine L2.walk_of (l := PySem.Challenge.rw_LID) (n := 63) (k := 40) (x := "script") (CX := fun w => ..) (sp := fun _ => My.sp_law) rfl (by decide) rfl ⟨rfl, by decide, by decide⟩ (fun w h Y => PySem.W.kIn_of Y) ?F ?S ?C
  case F =>
    intro w mg fa h KX G hmg
    have T : ∃ t, My.Txt (L2.KOf KX) t := by
      dsimp only [L2.KOf]                          -- K must stand as «<heap const> w.params» for k_is
      refine' My.txt_mk ?e1 ?e2 ?e3 ..
      (case e1 => PySem.W.k_is)                    -- in the order: a name -> its address -> its object -> its parts
      (case e2 => PySem.W.k_is)
      ..
    obtain ⟨t, T⟩ := T
    have e0 := hmg.symm.trans (PySem.W.mg_of KX G T.law)
    cases e0                                       -- fa is the law's own address
    exact ⟨_, fun s u => .of_eq rfl, fun base kb nb => My.law_fn T kb nb⟩     -- if «.of_eq rfl» comes too early: refine' ⟨_, ?b, fun base kb nb => My.law_fn T kb nb⟩; exact fun s u => .of_eq rfl
  case S => exact fun w H a ns hl hO hS => ..
  case C => exact ..
(the tactic k_is has no namespace: write k_is) -/
namespace L2
open PySem PySem.Spec PyProof.Rows
abbrev CX0 : CXT := fun _ _ _ _ _ _ => False
abbrev E0 : XK := fun _ _ _ => False
theorem pass0 {X : Cx} : Passes CX0 X E0 := fun _ _ _ _ _ _ _ h => h.elim
structure Fun (K : PySem.W.Frag) (x qual : Str) (st : Stmt) (f : Addr) (fd : FuncData) : Prop where
  ex : ∃ (oc : Value) (od : Option Addr) (kV doc pm : Value) (an : Option Addr) (cdv ct : Value) (osl : Array (Option Value)),
    fd = PySem.W.fnOf x qual (defArgs st) (defBody st) (defScope st) .none kV doc pm an cdv ct ∧ K.lookup f = some ⟨oc, od, .func fd, osl⟩ ∧ PySem.W.codeIn K cdv qual = true
  kp : PySem.W.keepIn K (.ref f) = true
section
variable {P : Program} {w : World} {K : PySem.W.Frag} {mg : Str → Option Value} {base : Heap}
theorem Fun.ok {x qual : Str} {st : Stmt} {f : Addr} {fd : FuncData} {N ps : List Str} {k : Nat} {sp : Sp} (F : Fun K x qual st f fd) (S : FnScope N ps (defScope st)) (len : ∀ vs H Q E, sp vs H Q E → vs.length = ps.length)
    (hbody : ∀ (cdv : Value) (A : Around) (outer : List Env) (s : Shared) (H : Hp) (vs : List V) (Q : VK) (E : XK), Room k (A.deeper (envOfC qual (defScope st) s.heap.objs.size f cdv)) → sp vs H Q E →
      ∃ t, PSs (cxOf CX0 P w K mg base N qual (defScope st) f cdv A outer s H E).nox (defBody st) t ∧ t { nx := fun _ H' => Q .non H', rt := Q } (start N vs) H) : FnOk P w K mg base CX0 (k + 1) f fd ps sp := by
  obtain ⟨oc, od, kV, doc, pm, an, cdv, ct, osl, rfl, lk, hcd⟩ := F.ex
  refine fn_of lk hcd S len fun A outer s H vs Q E hr hsp => ?_
  obtain ⟨t, h, q⟩ := hbody cdv A outer s H vs Q E hr hsp
  exact ⟨t, h.nox, q⟩
theorem Fun.binds {x qual : Str} {st : Stmt} {f : Addr} {fd : FuncData} {ps : List Str} (F : Fun K x qual st f fd)
    (h : ∀ (kV doc pm : Value) (an : Option Addr) (cdv ct : Value) (us : List Value), us.length = ps.length → bindArgs (PySem.W.fnOf x qual (defArgs st) (defBody st) (defScope st) .none kV doc pm an cdv ct) ⟨us, []⟩ = pure (ps.zip us)) : Binds K fd ps [] := by
  obtain ⟨oc, od, kV, doc, pm, an, cdv, ct, osl, rfl, lk, hcd⟩ := F.ex
  exact .all (h kV doc pm an cdv ct)
theorem fun_mk {x qual : Str} {st : Stmt} {f : Addr} {oc : Value} {od an : Option Addr} {osl : Array (Option Value)} {kV doc pm cdv ct : Value} (l : K.lookup f = some ⟨oc, od, .func (PySem.W.fnOf x qual (defArgs st) (defBody st) (defScope st) .none kV doc pm an cdv ct), osl⟩)
    (c : PySem.W.codeIn K cdv qual = true) (k : PySem.W.keepIn K (.ref f) = true) : Fun K x qual st f (PySem.W.fnOf x qual (defArgs st) (defBody st) (defScope st) .none kV doc pm an cdv ct) := ⟨⟨oc, od, kV, doc, pm, an, cdv, ct, osl, rfl, l, c⟩, k⟩
end
theorem hu_of {A : Around} {k : Nat} (hr : Room k A) : A.units + 1 < cLine := Nat.lt_of_le_of_lt (Nat.add_le_add_left (by decide : 1 ≤ 64) _) hr.units
section
variable {X : Cx}
theorem pv (i : Nat) {x : Str} {pos : Pos} (hN : X.N[i]? = some x := by rfl) (hv : Vis X.env.scope x := by first | exact Or.inl rfl | exact Or.inr (Or.inl rfl) | exact Or.inr (Or.inr rfl)) (hd : (x == ("__debug__" : Str)) = false := by decide)
    (hcd : (x == ("__classdict__" : Str)) = false := by decide) : PE X (.Name x pos) (tVar i) := pe_var hN hv hd hcd
end
theorem iteF {A B : Prop} (h : B) : if false = true then A else B := by
  rw [if_neg Bool.false_ne_true]
  exact h
theorem iteT {A B : Prop} (h : A) : if true = true then A else B := by
  rw [if_pos rfl]
  exact h
theorem ite2 {c A B : Prop} [Decidable c] (h1 : c → A) (h2 : ¬ c → B) : if c then A else B := by
  by_cases h : c
  · rw [if_pos h]
    exact h1 h
  · rw [if_neg h]
    exact h2 h
def Same (H H' : Hp) : Prop := ∀ b o, H b = some o → H' b = some o
theorem Same.refl (H : Hp) : Same H H := fun _ _ h => h
theorem Same.trans {H H1 H2 : Hp} (a : Same H H1) (b : Same H1 H2) : Same H H2 := fun c o h => b c o (a c o h)
theorem Same.free {H H' : Hp} (e : Same H H') {l : Addr} (h : H' l = Option.none) : H l = Option.none := by
  cases q : H l with
  | none => rfl
  | some o =>
    rw [e l o q] at h
    cases h
theorem Same.seq {K : PySem.W.Frag} {H H' : Hp} {a : Addr} {xs : List V} (e : Same H H') (h : SqL K H a xs) : SqL K H' a xs := by
  rcases h with (h | ⟨o, h⟩) | h
  · exact .inl (.inl (e _ _ h))
  · exact .inl (.inr ⟨o, e _ _ h⟩)
  · exact .inr h
end L2
end
section
open PySem PySem.W PyProof.Rows PySem.Calls PySem.Spec
open Builtin Builtin.ObjectAttr Builtin.Getset_descriptor
namespace EX
section
variable {prog : Program} {w : World} {A : Around} {E : Value → Shared → Prop} {s : Shared} {K : Frag} {x C D : Addr}
theorem ty {M : Model} {h : Heap} {ox : Obj} (hx : h.get? x = some ox) (hc : ox.cls = .ref C) : Looks M h (typeOf (.ref x)) (.ref C) := hc ▸ (Looks.ld hx).andThen .now
theorem check_ga {M : Model} {nameV : Value} {Q : Unit → Shared → Prop} (X : K.In s.heap) (L0 : Looks M s.heap (typeOf (.ref x)) (.ref C)) (hm : mroIn K C (.type "BaseException") = some true) (hq : Q () s) :
    wpAny M A (checkBuiltinCall "BaseException.__getattribute__" ⟨[.ref x, nameV], []⟩) Q E s := by
  obtain ⟨hh, g, dr, t, os⟩ := s
  have L1 := looks_mroIn (M := M) X hm
  have hk : builtinKind "BaseException.__getattribute__" = some .slot := by decide +kernel
  have hsplit : splitId "BaseException.__getattribute__" = some ("BaseException", "__getattribute__") := by decide +kernel
  have ha := F.args_bexc_ga (.ref x) nameV
  simp only [checkBuiltinCall, hk, hsplit]
  refine wpAny_bind ?_
  unfold isInstance
  repeat (first | lk | wp_step)
  exact hq
structure Cls (K : Frag) (D : Addr) : Prop where
  ga : findIn K (.ref D) "__getattribute__" = some (some (.builtin "BaseException.__getattribute__"))
  noHook : findIn K (.ref D) "__getattr__" = some none
  kind : findIn K (.ref D) "__class__" = some (some (.builtin "object.__class__"))
  get : specialIn K (.builtin "object.__class__") "__get__" = some (some (.builtin "getset_descriptor.__get__"))
  takes : takesIn K (.builtin "object.__class__") = some true
  obj : mroIn K D (.type "object") = some true
  exc : mroIn K D (.type "BaseException") = some true
variable {ox : Obj} {Q : Value → Shared → Prop} {h₀ : Heap} {L : Addr} {news : List (Addr × Obj)} {T : String}
end
end EX
end
section
namespace L2
open PySem
abbrev xo (C t : Addr) (od : Option Addr) : Obj := { cls := .ref C, dict := od, data := .fields #[.ref t, .none, .none, .none, .bool false, .none] }
section
variable {prog : Program} {w : World} {A : Around} {E : Value → Shared → Prop} {h : Heap} {g : Array GenState} {d : Drawn} {tk : Nat} {os : OsState}
variable {nm q : Str} {C N fI : Addr} {bs bm bmB : List Value} {hdct : Bool} {sn : List Str} {sub : List Value} {ab : Bool} {col : Option Bool} {dd : Option Addr} {k0 k1 k2 k3 k5 : Option Value} {B newId initId : String}
  {mN : Str → Option Value} {rest : List Value} {oI : Obj}
theorem tcall_init (F : ExcBaseFacts B newId initId bmB) (T : OwnTail h bmB bm) {Q : Fin → Shared → Prop}
    (hC : h.get? C = some (excClassObj nm q C N bs bm hdct sn sub ab col dd k0 k1 k2 k3 k5 newId))
    (hn : h.Ns N mN) (hi : mN "__init__" = some (.ref fI)) (hfI : h.get? fI = some oI) (hfc : oI.cls = .type "function")
    (hq : ∀ h' e, Heap.MadeExcOf h h' e (.ref C) rest → wpAny (model prog w) A (call (.ref fI) (.ref e :: rest)) (fun r s' => r = .none ∧ Q (.done (.ret (.ref e))) s') E ⟨h', g, d, tk, os⟩)
    (hrest : rest.length ≤ sizeLine) : wpAny (model prog w) A (Builtin.«type.__call__» ⟨.ref C :: rest, []⟩) Q E ⟨h, g, d, tk, os⟩ := by
  repeat (first
    | with_reducible refine wpAny_loadPart_at hC ?_
    | with_reducible refine wpAny_madeBy_exc hC ?_
    | wp_step)
  refine codeAny_call_builtin_code (Code.quiet_builtin _ F.quiet) (wpAny_check_new_subT F T hC (codeAny_exc_new_subT F T hC ?_ hrest))
  show wpAny _ _ _ _ _ _
  let tu : Obj := { cls := .type "tuple", data := .seq rest.toArray }
  let h2 : Heap := (h.push tu).push (xo C h.objs.size none)
  have up : ∀ b o, h.get? b = some o → h2.get? b = some o := fun b o z => Heap.get?_push_of_some _ (Heap.get?_push_of_some _ z)
  have hget : h2.get? (h.objs.size + 1) = some (xo C h.objs.size none) := by heap_get
  have hC2 := up _ _ hC
  have hn2 : h2.Ns N mN := by
    obtain ⟨o, es, ep, z, r⟩ := hn
    exact ⟨o, es, ep, up _ _ z, r⟩
  have T2 := T.keeps (h' := h2) up
  have hcC : (Value.ref C :: bm).contains (.ref C) = true := by simp
  show wpAny _ _ _ _ _ ⟨h2, g, d, tk, os⟩
  unfold isInstance
  repeat (first
    | with_reducible refine wpAny_loadPart_at hget ?_
    | (with_reducible refine wpAny_isSubtype_exc hC2 ?_; rw [hcC])
    | wp_step)
  show wpAny _ _ (typeLookup (.ref C) _) _ _ _
  refine wpAny_typeLookup_tail hC2 hn2 T2 F.mroIs F.init.lookup ?_
  rw [hi]
  refine wpAny_holding (wpAny_bind ?_)
  unfold bindSpecial
  refine wpAny_bind (wpAny_typeOf (T := "function") ⟨_, up _ _ hfI, hfc⟩ ?_)
  rw [if_pos (by decide)]
  have M : Heap.MadeExcOf h h2 (h.objs.size + 1) (.ref C) rest := by
    refine ⟨up, Heap.get?_none_of_le (Nat.le_succ _), h.objs.size, hget, Heap.get?_none_of_le (Nat.le_refl _), ?_⟩
    exact Heap.get?_push_of_some _ (Heap.get?_push_at rfl rfl)
  refine wpAny_pure (wpAny_bind (wpAny_mono (hq _ _ M) (fun r s' hr => ?_) fun _ _ z => z))
  obtain ⟨rfl, hQ⟩ := hr
  wp_walk
  exact hQ
theorem call_init (F : ExcBaseFacts B newId initId bmB) (T : OwnTail h bmB bm) {Q : Value → Shared → Prop}
    (hC : h.get? C = some (excClassObj nm q C N bs bm hdct sn sub ab col dd k0 k1 k2 k3 k5 newId))
    (hn : h.Ns N mN) (hi : mN "__init__" = some (.ref fI)) (hfI : h.get? fI = some oI) (hfc : oI.cls = .type "function")
    (hq : ∀ h' e, Heap.MadeExcOf h h' e (.ref C) rest →
      wpAny (model prog w) (A.under (.builtin "type.__call__" ⟨.ref C :: rest, []⟩)) (call (.ref fI) (.ref e :: rest)) (fun r s' => r = .none ∧ Q (.ref e) s') E ⟨h', g, d, tk, os⟩)
    (hrest : rest.length ≤ sizeLine) : wpAny (model prog w) A (call (.ref C) rest) Q E ⟨h, g, d, tk, os⟩ := by
  have e1 := tc_lookup
  have e2 := tc_bind (.ref C)
  have e3 : (⟨h, g, d, tk, os⟩ : Shared).TypeIs (.ref C) "type" := ⟨_, hC, rfl⟩
  refine wpAny_call (codeAny_of_tree ?_)
  show wpAny _ _ (callAny (.ref C) _) _ _ _
  repeat (any_goals (first
    | assumption
    | with_reducible refine wpAny_loadPart_at hC ?_
    | wp_step))
  refine ⟨rfl, codeAny_call_builtin_at (Code.quiet_builtin _ (by decide +kernel)) entry_typeCall (wpAny_check_type_call_sub hC ?_)⟩
  exact tcall_init F T hC hn hi hfI hfc (fun h' e hm => hq h' e hm) hrest
end
section
variable {prog : Program} {w : World} {M : Model} {A : Around} {E : Value → Shared → Prop} {s : Shared} {env : Env}
variable {nm q : Str} {C N fI : Addr} {bs bm bmB : List Value} {hdct : Bool} {sn : List Str} {sub : List Value} {ab : Bool} {col : Option Bool} {dd : Option Addr} {k0 k1 k2 k3 k5 : Option Value} {B newId initId : String}
theorem raiseStmt_of {x : Sem Value} {Q : Flow → Shared → Prop} (hbase : bm.contains (.type "BaseException") = true) (hh : A.handled = none)
    (h : wpAny M A x (fun v s₁ => ∃ e t od, v = .ref e ∧ s₁.heap.get? C = some (excClassObj nm q C N bs bm hdct sn sub ab col dd k0 k1 k2 k3 k5 newId) ∧ s₁.heap.get? e = some (xo C t od) ∧ E (.ref e) s₁) E s) :
    wpAny M A (raiseStmt env (some x) none) Q E s := by
  have hcB : (Value.ref C :: bm).contains (.type "BaseException") = true := by rw [List.contains_cons, hbase, Bool.or_true]
  unfold raiseStmt
  refine wpAny_bind (wpAny_mono h (fun v s₁ h₁ => ?_) fun _ _ z => z)
  obtain ⟨e, t, od, rfl, hC, he, hE⟩ := h₁
  obtain ⟨hp, g, d, tk, os⟩ := s₁
  repeat (first
    | with_reducible refine wpAny_loadPart_at he ?_
    | with_reducible refine wpAny_loadPart_at hC ?_
    | (with_reducible refine wpAny_isSubtype_exc hC ?_; rw [hcB])
    | wp_step)
  exact wpAny_raiseNew_none hh hE
theorem Raise_init (F : ExcBaseFacts B newId initId bmB) {mN : Str → Option Value} {x : Str} {np cpos pos : Pos} {args : List Expr} {Q : Flow → Shared → Prop}
    (hbase : bm.contains (.type "BaseException") = true) (hh : A.handled = none) (hplain : (backTo cpos (starEach args env)).any (·.1) = false) (hi : mN "__init__" = some (.ref fI))
    (h : wpAny (model prog w) A (eval (.Name x np) env) (fun f s₁ => f = .ref C ∧ wpAny (model prog w) A (evalArgs (.ref C) true (backTo cpos (starEach args env)) [])
      (fun a s₂ => a.kw = [] ∧ a.pos.length ≤ sizeLine ∧ s₂.heap.get? C = some (excClassObj nm q C N bs bm hdct sn sub ab col dd k0 k1 k2 k3 k5 newId) ∧ s₂.heap.Ns N mN ∧ OwnTail s₂.heap bmB bm ∧ (∃ oI, s₂.heap.get? fI = some oI ∧ oI.cls = .type "function") ∧
        ∀ h' e, Heap.MadeExcOf s₂.heap h' e (.ref C) a.pos → wpAny (model prog w) (A.under (.builtin "type.__call__" ⟨.ref C :: a.pos, []⟩)) (call (.ref fI) (.ref e :: a.pos))
          (fun r s' => r = .none ∧ s'.heap.get? C = some (excClassObj nm q C N bs bm hdct sn sub ab col dd k0 k1 k2 k3 k5 newId) ∧ (∃ t od, s'.heap.get? e = some (xo C t od)) ∧ E (.ref e) s') E { s₂ with heap := h' }) E s₁) E s) :
    wpAny (model prog w) A (exec (.Raise (some (.Call (.Name x np) args [] cpos)) none pos) env) Q E s := by
  rw [arm_exec_Raise]
  simp only [evalOpt, Option.map]
  refine wpAny_bind (wpAny_standAt (raiseStmt_of (C := C) (nm := nm) (q := q) (N := N) (bs := bs) (bm := bm) (hdct := hdct) (sn := sn) (sub := sub) (ab := ab) (col := col) (dd := dd) (k0 := k0) (k1 := k1) (k2 := k2) (k3 := k3) (k5 := k5) (newId := newId) hbase hh ?_))
  refine wpAny_bind (wpAny_mono (wpAny_Call_ofName (wpAny_mono h (fun f s₁ h₁ => ?_) fun _ _ z => z)) (fun v s₃ h₃ => wpAny_bind (wpAny_standAt (wpAny_pure h₃))) fun _ _ z => z)
  obtain ⟨rfl, h₁⟩ := h₁
  unfold callWith
  refine wpAny_bind (wpAny_holding (wpAny_mono h₁ (fun a s₂ h₂ => wpAny_bind (wpAny_standAt ?_)) fun _ _ z => z))
  obtain ⟨apos, akw⟩ := a
  obtain ⟨hkw, hlen, hC, hn, T, ⟨oI, hfI, hfc⟩, h₂⟩ := h₂
  obtain rfl : akw = [] := hkw
  obtain ⟨hp, g, d, tk, os⟩ := s₂
  simp only [hplain]
  refine wpAny_bind (wpAny_keeperOf_exc hC ?_)
  refine wpAny_bind (call_init F T hC hn hi hfI hfc (fun h' e hm => wpAny_mono (h₂ h' e hm) (fun r s' z => ⟨z.1, ?_⟩) fun _ _ z => z) hlen)
  obtain ⟨_, zC, ⟨t, od, ze⟩, zE⟩ := z
  exact wpAny_bind (wpAny_holding (wpAny_point (wpAny_pure ⟨e, t, od, rfl, zC, ze, zE⟩)))
end
end L2
end
section
namespace L2
open PySem
section
variable {M : Model} {A : Around} {E : Value → Shared → Prop} {s : Shared} {base : Heap} {env : Env} {outer l : List Env} {L e : Addr} {cls a0 fl : Value} {od : Option Addr}
def Dc (h : Heap) (e : Addr) (od : Option Addr) : Prop := ∃ o, h.get? e = some o ∧ o.dict = od
theorem dict_mapFields (o : Obj) (f : Array Value → Array Value) : (Obj.mapFields f o).dict = o.dict := by
  unfold Obj.mapFields
  split <;> rfl
theorem upd_other {h : Heap} {T b : Addr} {f : Obj → Obj} (n : b ≠ T) : (h.update T f).get? b = h.get? b := Heap.get?_update_other _ _ (Ne.symm n)
theorem Dc.upd {h : Heap} {T : Addr} {oT : Obj} {ts : Array Value} {f : Array Value → Array Value} (x : Dc h e od) (hT : h.get? T = some oT) (hd : oT.data = .fields ts) : Dc (h.update T (Obj.mapFields f)) e od := by
  obtain ⟨o, ho, hod⟩ := x
  by_cases n : e = T
  · subst n
    rw [hT] at ho
    cases ho
    exact ⟨_, Heap.get?_update_self _ hT (Obj.isFreed_of_fields (Obj.data_mapFields hd f)), (dict_mapFields _ _).trans hod⟩
  · exact ⟨o, (upd_other n).trans ho, hod⟩
theorem entryD {oe : Obj} {vs : Array Value} {head : Value} {hadNext : Bool} {Q : Unit → Shared → Prop} (hfr : A.frames = some (env :: outer)) (hl : s.heap.FunFrames base (env :: outer)) (hf : env.frame = some L)
    (he : s.heap.get? e = some oe) (hkb : base.StaysIn s.heap) (hen : base.get? e = none) (hd : oe.data = .fields vs) (hsz : 1 < vs.size) (h0 : vs[0]? = some a0)
    (k : ∀ h', Heap.NotedW base (env :: outer) e oe.cls a0 (rawInt L) s.heap h' → Dc h' e oe.dict → Q () { s with heap := h' }) :
    wpAny M A (do
      let a ← frameOf env
      let pl ← entryPlaceOf L hadNext
      let b ← EntryCells.newEntry head a .none (rawInt L) .none pl
      setField (.ref e) 1 b) Q E s := by
  have nin : e ∉ (env :: outer).filterMap (·.frame) := fun hm => by
    obtain ⟨_, o, ho, hnf⟩ := hl.mem hm
    rw [he] at ho
    cases ho
    exact hnf vs hd
  refine wpAny_bind (wpAny_frameOf_fun hfr hl hf fun h1 hs1 => wpAny_bind (wpAny_entryPlaceOf fun pl hpl => ?_))
  unfold EntryCells.newEntry newFields
  refine wpAny_bind (wpAny_newObj_type ?_ (hpl.sizeOk5 _ _ _ _ _))
  generalize htb : ([head, .ref L, .none, rawInt L, .none] ++ (if pl.isEmpty then List.replicate 6 Value.none else pl)) = tb
  have h3 : tb.toArray[3]? = some (rawInt L) := by rw [← htb]; simp
  have e1 : h1.get? e = some oe := (hs1.2.1 e nin).trans he
  have b1 : base.StaysIn h1 := fun b o z => (hs1.2.1 b fun hm => by rw [(hl.mem hm).1] at z; cases z).trans (hkb b o z)
  have pu : ∀ b o, h1.get? b = some o → (h1.push { cls := .type "traceback", dict := none, data := .fields tb.toArray }).get? b = some o := fun b o z => Heap.get?_push_of_some _ z
  have hT : (h1.push { cls := .type "traceback", dict := none, data := .fields tb.toArray }).get? h1.objs.size = some { cls := .type "traceback", dict := none, data := .fields tb.toArray } := Heap.get?_push_size h1 rfl
  have fr : base.get? h1.objs.size = none := b1.fresh
  have nT : h1.objs.size ≠ e := Nat.ne_of_gt (Heap.lt_size e1)
  have lt : ∀ b o, h1.get? b = some o → b ≠ h1.objs.size := fun b o z => Nat.ne_of_lt (Heap.lt_size z)
  refine wpAny_setField (pu _ _ e1) hd hsz ?_
  have e2 := pu _ _ e1
  generalize h1.push { cls := .type "traceback", dict := none, data := .fields tb.toArray } = h2 at *
  generalize h1.objs.size = T at *
  have d3 := Obj.data_mapFields hd (·.setIfInBounds 1 (Value.ref T))
  have e3 := Heap.get?_update_self (Obj.mapFields (·.setIfInBounds 1 (Value.ref T))) e2 (Obj.isFreed_of_fields d3)
  have noR : ∀ b o, s.heap.get? b = some o → (∀ ws, o.data ≠ .fields ws) → b ≠ e := fun b o z hnf y => by
    rw [y, he] at z
    cases z
    exact hnf vs hd
  refine k _ ⟨fun b o z => ?_, hl.of_keeps fun b o z hnf => ?_, ?_, fun b o z hnf => ?_⟩ ⟨_, e3, dict_mapFields _ _⟩
  · rw [upd_other (fun y => by rw [y, hen] at z; cases z)]
    exact pu _ _ (b1 b o z)
  · obtain ⟨sl, y⟩ := hs1.2.2 b o z
    exact ⟨_, (upd_other (noR b o z hnf)).trans (pu _ _ y), rfl⟩
  · exact ⟨_, _, T, _, _, e3, ⟨Obj.cls_mapFields _ _, by rw [Array.getElem?_setIfInBounds_ne (by decide)]; exact h0⟩, d3, by simp [hsz], fr, nT, (upd_other nT).trans hT, rfl, h3⟩
  · obtain ⟨sl, y⟩ := hs1.2.2 b o z
    exact ⟨sl, (upd_other (noR b o z hnf)).trans (pu _ _ y)⟩
theorem landD {Q : Unit → Shared → Prop} (hkb : base.StaysIn s.heap) (hl : s.heap.FunFrames base l) (ht : s.heap.TracedAtW base e cls a0 fl) (hc : Dc s.heap e od)
    (k : ∀ h', base.StaysIn h' → h'.FunFrames base l → h'.TracedW base e cls a0 → s.heap.UpToSlots h' → Dc h' e od → Q () { s with heap := h' }) : wpAny M A (setFlight (.ref e) none) Q E s := by
  obtain ⟨oe, vs, T, oT, ts, he, hcls, hd, h1, hnT, hTe, hT, hdT, h3⟩ := ht
  have z3 : 3 < ts.size := (Array.getElem?_eq_some_iff.mp h3).1
  have noR : ∀ b o, s.heap.get? b = some o → (∀ ws, o.data ≠ .fields ws) → b ≠ T := fun b o z hnf y => by
    rw [y, hT] at z
    cases z
    exact hnf ts hdT
  unfold setFlight
  refine wpAny_bind (wpAny_field he hd h1 ?_)
  rw [if_pos (show (Value.ref T != Value.none) = true from by simp)]
  refine wpAny_setField hT hdT z3 (k _ (fun b o z => ?_) (hl.of_keeps fun b o z hnf => ⟨o, (upd_other (noR b o z hnf)).trans z, rfl⟩) ?_ (fun b o z hnf => ⟨o.slots, (upd_other (noR b o z hnf)).trans z⟩) (hc.upd hT hdT))
  · rw [upd_other (fun y => by rw [y, hnT] at z; cases z)]
    exact hkb b o z
  · exact ⟨oe, vs, T, _, _, (upd_other (Ne.symm hTe)).trans he, hcls, hd, h1, hnT, hTe, Heap.get?_update_self _ hT (Obj.isFreed_of_fields (Obj.data_mapFields hdT _)), Obj.data_mapFields hdT _, by simp [z3]⟩
theorem noteD {Q : Unit → Shared → Prop} (hfr : A.frames = some (env :: outer)) (hf : env.frame = some L) (x : Heap.FlyingW base (env :: outer) e cls a0 s.heap) (hc : Dc s.heap e od)
    (k : ∀ h', Heap.HeldW base (env :: outer) e cls a0 L h' → s.heap.UpToSlots h' → Dc h' e od → Q () { s with heap := h' }) : wpAny M A (noteFrame (.ref e) env) Q E s := by
  obtain ⟨hkb, hen, hl, oe, vs, T, oT, ts, he, ⟨hcls, h0⟩, hd, h1, hnT, hTe, hT, hdT, h3⟩ := x
  subst hcls
  unfold noteFrame
  simp only [hf]
  refine wpAny_bind (wpAny_field he hd h1 ?_)
  rw [if_pos (show (Value.ref T != Value.none) = true from by simp)]
  refine wpAny_bind (wpAny_field hT hdT h3 ?_)
  rw [if_neg (show ¬ ((Value.none == rawInt L) = true) from by simp [rawInt])]
  have noR : ∀ b o, s.heap.get? b = some o → (∀ ws, o.data ≠ .fields ws) → b ≠ T := fun b o z hnf y => by
    rw [y, hT] at z
    cases z
    exact hnf ts hdT
  have hod : oe.dict = od := by
    obtain ⟨o, ho, q⟩ := hc
    rw [he] at ho
    cases ho
    exact q
  refine wpAny_bind (wpAny_setField hT hdT (Array.getElem?_eq_some_iff.mp h3).1 ?_)
  refine entryD hfr (hl.of_keeps fun b o z hnf => ⟨o, (upd_other (noR b o z hnf)).trans z, rfl⟩) hf ((upd_other (Ne.symm hTe)).trans he) (fun b o z => ?_) hen hd (Array.getElem?_eq_some_iff.mp h1).1 h0 fun h' N D => ?_
  · rw [upd_other (fun y => by rw [y, hnT] at z; cases z)]
    exact hkb b o z
  · obtain ⟨x1, x2, x3, x4⟩ := N
    exact k h' ⟨x1, hen, x2, x3⟩ (fun b o z hnf => x4 b o ((upd_other (noR b o z hnf)).trans z) hnf) (hod ▸ D)
theorem landsD {Q : Unit → Shared → Prop} (x : Heap.HeldW base l e cls a0 L s.heap) (hc : Dc s.heap e od)
    (k : ∀ h', Heap.FlyingW base l e cls a0 h' → s.heap.UpToSlots h' → Dc h' e od → Q () { s with heap := h' }) : wpAny M A (setFlight (.ref e) none) Q E s := by
  obtain ⟨f1, f2, f3, f4⟩ := x
  exact landD f1 f3 f4 hc fun h' k1 k2 k3 k4 k5 => k h' ⟨k1, f2, k2, k3⟩ k4 k5
theorem againD {Q : Unit → Shared → Prop} (x : Heap.FlyingW base l e cls a0 s.heap) (hc : Dc s.heap e od)
    (k : ∀ h', Heap.FlyingW base l e cls a0 h' → s.heap.UpToSlots h' → Dc h' e od → Q () { s with heap := h' }) : wpAny M A (setFlight (.ref e) none) Q E s := by
  obtain ⟨f1, f2, f3, f4⟩ := x
  exact landD f1 f3 f4.at hc fun h' k1 k2 k3 k4 k5 => k h' ⟨k1, f2, k2, k3⟩ k4 k5
theorem leavesD {Q : Unit → Shared → Prop} (hfr : A.frames = some (env :: outer)) (hf : env.frame = some L) (x : Heap.FlyingW base (env :: outer) e cls a0 s.heap) (hc : Dc s.heap e od)
    (k : ∀ h', Heap.FlyingW base outer e cls a0 h' → s.heap.UpToSlots h' → Dc h' e od → Q () { s with heap := h' }) : wpAny M A (leaving env (.ref e)) Q E s := by
  unfold leaving
  refine wpAny_bind (noteD hfr hf x hc fun h1 H1 u1 c1 => landsD (s := { s with heap := h1 }) H1 c1 fun h2 F2 u2 c2 => ?_)
  obtain ⟨g1, g2, ⟨_, _, g3⟩, g4⟩ := F2
  exact k h2 ⟨g1, g2, g3, g4⟩ (u1.trans u2) c2
theorem firstD {C t : Addr} {Q : Unit → Shared → Prop} (hfr : A.frames = some (env :: outer)) (hf : env.frame = some L) (hkb : base.StaysIn s.heap) (hen : base.get? e = none) (hl : s.heap.FunFrames base (env :: outer)) (he : s.heap.get? e = some (xo C t od))
    (k : ∀ h', Heap.FlyingW base outer e (.ref C) (.ref t) h' → s.heap.UpToSlots h' → Dc h' e od → Q () { s with heap := h' }) : wpAny M A (leaving env (.ref e)) Q E s := by
  unfold leaving noteFrame
  simp only [hf]
  refine wpAny_bind (wpAny_bind (wpAny_field he rfl (x := .none) rfl ?_))
  rw [if_neg (by decide)]
  refine entryD (a0 := .ref t) hfr hl hf he hkb hen rfl (by show (1 : Nat) < 6; decide) rfl fun h1 N D => ?_
  obtain ⟨x1, x2, x3, x4⟩ := N
  refine landD (s := { s with heap := h1 }) x1 x2 x3 D fun h2 k1 k2 k3 k4 k5 => ?_
  obtain ⟨_, _, k2⟩ := k2
  exact k h2 ⟨k1, hen, k2, k3⟩ (Heap.UpToSlots.trans x4 k4) k5
end
end L2
end
section
namespace L2
open PySem PySem.Spec PyProof.Rows
def VB : List Value := [.type "ValueError", .type "Exception", .type "BaseException", .type "object"]
def nsPlain (K : PySem.W.Frag) (N : Addr) : Bool := match K.lookup N with
  | some ⟨_, _, .dict es _, _⟩ => es.toList.all fun e => match e.key with | .str _ _ => true | _ => false
  | _ => false
def noInit (K : PySem.W.Frag) (N : Addr) : Bool := nsPlain K N && (match PySem.W.nsIn K N "__init__" with | some none => true | _ => false)
theorem noInit_ns {K : PySem.W.Frag} {N : Addr} {h₀ : Heap} (X₀ : K.In h₀) (e : noInit K N = true) : ∃ mN : Str → Option Value, mN "__init__" = none ∧ ∀ h : Heap, K.In h → h.Ns N mN := by
  unfold noInit at e
  simp only [Bool.and_eq_true] at e
  obtain ⟨e1, e2⟩ := e
  unfold nsPlain at e1
  split at e1
  · rename_i c d es ep sl hl
    have sk : StrKeys es := fun en hen => by
      have q := (List.all_eq_true.mp e1) en (by simpa using hen)
      split at q
      · rename_i n t hk
        exact ⟨n, t, hk⟩
      · cases q
    have hN : ∀ h : Heap, K.In h → h.Ns N (nsFind es) := fun h X => ⟨_, es, ep, X _ _ hl, rfl, sk, fun _ => rfl⟩
    refine ⟨nsFind es, ?_, hN⟩
    split at e2
    · rename_i q
      exact PySem.W.ns_none_of X₀ (hN h₀ X₀) q
    · cases e2
  · cases e1
def tailOk (K : PySem.W.Frag) : List Value → Bool
  | [] => false
  | v :: tl => match v with
    | .ref A => (match K.lookup A with | some ⟨_, _, .cls cd, _⟩ => noInit K cd.ns | _ => false) && tailOk K tl
    | _ => (v :: tl) == VB
theorem tail_own {K : PySem.W.Frag} {h₀ : Heap} (X₀ : K.In h₀) : ∀ {l : List Value}, tailOk K l = true → ∀ h : Heap, K.In h → OwnTail h VB l
  | [], e, _, _ => by cases e
  | v :: tl, e, h, X => by
    unfold tailOk at e
    split at e
    · rename_i A
      simp only [Bool.and_eq_true] at e
      obtain ⟨e1, e2⟩ := e
      split at e1
      · rename_i c0 dd cd sl hl
        obtain ⟨mN, hi, hN⟩ := noInit_ns X₀ e1
        exact .own (X _ _ hl) (hN h X) hi (tail_own X₀ e2 h X)
      · cases e1
    · rw [beq_iff_eq.mp e]
      exact .base
def excIn (K : PySem.W.Frag) (C : Addr) : Bool := match K.lookup C with
  | some ⟨.type "type", _, .cls cd, sl⟩ => (match cd.mro, sl.toList with
    | .ref C' :: bm, [_, _, _, _, some (.builtin n), _] => C' == C && !cd.hasDel && n == "ValueError.__new__" && noInit K cd.ns && tailOk K bm
    | _, _ => false)
  | _ => false
theorem excIn_obj {K : PySem.W.Frag} {h₀ : Heap} {C : Addr} (X₀ : K.In h₀) (q : excIn K C = true) : ∃ bm N nm qn bs hdct sn sub ab col dd k0 k1 k2 k3 k5 mN, mN "__init__" = none ∧
    ∀ h : Heap, K.In h → h.get? C = some (excClassObj nm qn C N bs bm hdct sn sub ab col dd k0 k1 k2 k3 k5 "ValueError.__new__") ∧ h.Ns N mN ∧ OwnTail h VB bm := by
  unfold excIn at q
  split at q
  · rename_i dd cd sl ho
    split at q
    · rename_i C' bm k0 k1 k2 k3 n k5 hm hs
      simp only [Bool.and_eq_true, beq_iff_eq, Bool.not_eq_true'] at q
      obtain ⟨⟨⟨⟨rfl, hdel⟩, rfl⟩, hi⟩, ht⟩ := q
      obtain ⟨nm, bs, mro, ns, qn, hd, sn, sub, ab, col, del⟩ := cd
      dsimp only at hm hdel hi
      subst hm hdel
      have hsl : sl = #[k0, k1, k2, k3, some (.builtin "ValueError.__new__"), k5] := by
        obtain ⟨l⟩ := sl
        simp only at hs
        rw [hs]
      subst hsl
      obtain ⟨mN, hi, hN⟩ := noInit_ns X₀ hi
      exact ⟨bm, ns, nm, qn, bs, hd, sn, sub, ab, col, dd, k0, k1, k2, k3, k5, mN, hi, fun h X => ⟨X _ _ ho, hN h X, tail_own X₀ ht h X⟩⟩
    · cases q
  · cases q
theorem ObjOk.is {P : Program} {w : World} {H : Hp} {h : Heap} {a : Addr} {o : HO} (x : ObjOk P w H h a o) : ∃ ob, h.get? a = some ob := by
  cases o with
  | lst xs => obtain ⟨_, _, _, _, e⟩ := x; exact ⟨_, e⟩
  | tup xs => obtain ⟨_, _, _, ob, e, _⟩ := x; exact ⟨_, e⟩
  | dK kvs => obtain ⟨_, _, _, _, o, _, _, e, _⟩ := x; exact ⟨_, e⟩
  | dT kvs => obtain ⟨_, _, _, _, o, _, _, e, _⟩ := x; exact ⟨_, e⟩
  | set S n => obtain ⟨o, _, _, _, e, _⟩ := x; exact ⟨_, e⟩
  | ins C dx fs => obtain ⟨_, _, _, e, _⟩ := x; exact ⟨_, e⟩
  | own y => obtain ⟨_, e⟩ := x; exact ⟨_, e⟩
  | xd fs => obtain ⟨_, ⟨_, _, _, e, _⟩, _⟩ := x; exact ⟨_, e⟩
  | rng lo hi => obtain ⟨_, _, _, e⟩ := x; exact ⟨_, e⟩
  | frz ob u => obtain ⟨e, _⟩ := x; exact ⟨_, e⟩
  | tbl ps => exact ⟨_, (show h.get? a = some _ from x)⟩
  | met f y => exact ⟨_, (show h.get? a = some _ from x)⟩
  | ext φ => obtain ⟨_, ⟨_, e⟩, _⟩ := x; exact ⟨_, e⟩
def CXr (P : Program) (w : World) : CXT := fun outer H s E x s' => ∃ (e : Addr) (C a0 : Value) (H' : Hp) (B : Heap), x = .ref e ∧ s'.os = s.os ∧ AllBare s'.gens ∧ Un (frs outer) [] H H' s.heap s'.heap ∧ HOk P w H' s'.heap ∧
  Heap.FlyingW B outer e C a0 s'.heap ∧ (∀ b u, H' b = some u → ∃ o, B.get? b = some o) ∧ (∀ b o, s.heap.get? b = some o → b ∉ frs outer → ∃ o', B.get? b = some o' ∧ (H b = none → o' = o)) ∧ ∃ od, Dc s'.heap e od ∧ E C od H'
def Raises (X : Cx) (E : XK) : Prop := ∀ (pins : List (Addr × Obj)) (σ : St) (H : Hp) (s : Shared) (e C : Addr) (vs : List Value) (h' : Heap), Inv X pins σ H s → Heap.MadeExcOf s.heap h' e (.ref C) vs → E (.ref C) none H →
  X.xe (.ref e) { s with heap := h' }
section
variable {P : Program} {w : World} {K : PySem.W.Frag} {mg : Str → Option Value} {base : Heap} {N : List Str} {qual : Str} {scope : Scope} {f : Addr} {cd : Value} {A : Around} {outer : List Env} {s₀ : Shared} {H₀ : Hp} {E : XK}
abbrev cxR (P : Program) (w : World) (K : PySem.W.Frag) (mg : Str → Option Value) (base : Heap) (N : List Str) (qual : Str) (scope : Scope) (f : Addr) (cd : Value) (A : Around) (outer : List Env) (s : Shared) (H : Hp) (E : XK) : Cx :=
  cxOf (CXr P w) P w K mg base N qual scope f cd A outer s H E
theorem passesOwnR : PassesOwn (model P w) (cxR P w K mg base N qual scope f cd A outer s₀ H₀ E).A (cxR P w K mg base N qual scope f cd A outer s₀ H₀ E).env (cxR P w K mg base N qual scope f cd A outer s₀ H₀ E).xe := PassesOwn.leaving
theorem hok_stays {H : Hp} {h h' B : Heap} (ok : HOk P w H h) (k : ∀ b u, H b = some u → ∃ o, B.get? b = some o) (s1 : ∀ b o, B.get? b = some o → h.get? b = some o) (s2 : ∀ b o, B.get? b = some o → h'.get? b = some o) : HOk P w H h' := fun a u e =>
  (ok a u e).stay (fun b v hb q => by
    obtain ⟨o, z⟩ : ∃ o, B.get? b = some o := by
      rcases hb with rfl | hb
      · exact k _ _ e
      · exact k _ _ hb
    have z1 := s1 b o z
    rw [q] at z1
    cases z1
    exact s2 b _ z) (fun _ q => q) fun _ _ q => q
theorem raisesG {pins : List (Addr × Obj)} {σ : St} {H : Hp} {s : Shared} {e C t : Addr} {od : Option Addr} (I : Inv (cxR P w K mg base N qual scope f cd A outer s₀ H₀ E) pins σ H s) (he : s.heap.get? e = some (xo C t od)) (hn : s₀.heap.get? e = none) (hH : H e = none) (q : E (.ref C) od H) : (cxR P w K mg base N qual scope f cd A outer s₀ H₀ E).xe (.ref e) s := by
  have noA : ∀ b : Addr, b ∉ (cxR P w K mg base N qual scope f cd A outer s₀ H₀ E).ex := fun b z => absurd (show b ∈ ([] : List Addr) from z) (by simp)
  have lt0 : ∀ b o, s₀.heap.get? b = some o → b ≠ (cxR P w K mg base N qual scope f cd A outer s₀ H₀ E).env.locals := fun b o z => Nat.ne_of_lt (Nat.lt_of_lt_of_le (Heap.lt_size z) I.ok.above)
  have hin : ∀ env ∈ (cxR P w K mg base N qual scope f cd A outer s₀ H₀ E).stack, ∀ b, env.frame = some b → b ∈ e :: frs (cxR P w K mg base N qual scope f cd A outer s₀ H₀ E).stack := fun env he b hb => List.mem_cons_of_mem _ (List.mem_filterMap.mpr ⟨env, he, hb⟩)
  have nin : ∀ b o, s₀.heap.get? b = some o → b ∉ frs outer → b ∉ e :: frs (cxR P w K mg base N qual scope f cd A outer s₀ H₀ E).stack := fun b o z h1 y => by
    rcases List.mem_cons.mp y with y | y
    · rw [y, hn] at z; cases z
    · rcases List.mem_cons.mp (I.stkSub b y) with y | y
      · exact lt0 b o z y
      · exact h1 y
  show wpAny (model P w) (A.deeper (envOfC qual scope s₀.heap.objs.size f cd)) (leaving (envOfC qual scope s₀.heap.objs.size f cd) (.ref e)) _ _ _
  refine firstD (base := PySem.W.hideAll s.heap (e :: frs (cxR P w K mg base N qual scope f cd A outer s₀ H₀ E).stack)) (L := s₀.heap.objs.size) I.ok.frames rfl (fun b o z => PySem.W.of_hideAll _ z) (PySem.W.hideAll_none _ (List.mem_cons_self ..)) (PySem.W.funFrames_hide I.stack hin) he fun h'' x1 x4 x5 => ?_
  have st : ∀ b o, s.heap.get? b = some o → b ∉ e :: frs (cxR P w K mg base N qual scope f cd A outer s₀ H₀ E).stack → (PySem.W.hideAll s.heap (e :: frs (cxR P w K mg base N qual scope f cd A outer s₀ H₀ E).stack)).get? b = some o := fun b o z n => PySem.W.hideAll_get _ z n
  have c1 : ∀ b u, H b = some u → ∃ o, (PySem.W.hideAll s.heap (e :: frs (cxR P w K mg base N qual scope f cd A outer s₀ H₀ E).stack)).get? b = some o := fun b u z => by
    obtain ⟨ob, zb⟩ := (I.hok b u z).is
    refine ⟨ob, st b ob zb fun m => ?_⟩
    rcases List.mem_cons.mp m with m | m
    · rw [m, hH] at z; cases z
    · rw [I.stkFree b m] at z; cases z
  refine ⟨e, .ref C, .ref t, H, _, rfl, I.os, I.bare, ⟨fun b o z n hb _ => ?_, fun b o z n hb _ => ?_, fun b o z n _ => I.base.free b o z n (noA b), fun b o z _ => ?_, I.base.tups, I.base.frzs, I.base.tbls⟩, ?_, x1, c1, fun b o z hb => ?_, od, x5, q⟩
  · exact x1.1 b o (st b o (I.base.keep b o z n hb (noA b)) (nin b o z hb))
  · obtain ⟨sl, e1⟩ := I.base.slot b o z n hb (noA b)
    obtain ⟨o2, ho2, hd2⟩ := (I.ok.funs.mem hb).2
    have z2 : s₀.heap.get? b = some o2 := ho2
    rw [z] at z2
    cases z2
    obtain ⟨sl', e2⟩ := x4 b _ e1 hd2
    exact ⟨sl', e2⟩
  · by_cases hb : b ∈ frs outer
    · obtain ⟨sl, e1⟩ := I.base.slot b o z (I.ok.frf b hb) hb (noA b)
      obtain ⟨o2, ho2, hd2⟩ := (I.ok.funs.mem hb).2
      have z2 : s₀.heap.get? b = some o2 := ho2
      rw [z] at z2
      cases z2
      obtain ⟨sl', e2⟩ := x4 b _ e1 hd2
      exact ⟨_, e2⟩
    · obtain ⟨o1, e1⟩ := I.base.there b o z (noA b)
      exact ⟨o1, x1.1 b o1 (st b o1 e1 (nin b o z hb))⟩
  · exact hok_stays I.hok c1 (fun b o z => PySem.W.of_hideAll _ z) x1.1
  · obtain ⟨o1, e1⟩ := I.base.there b o z (noA b)
    refine ⟨o1, st b o1 e1 (nin b o z hb), fun n => ?_⟩
    have e2 := I.base.keep b o z n hb (noA b)
    rw [e1] at e2
    exact Option.some.inj e2
theorem raisesR : Raises (cxR P w K mg base N qual scope f cd A outer s₀ H₀ E) E := by
  intro pins σ H s e C vs h' I M q
  obtain ⟨t, he, _, _⟩ := M.there
  refine raisesG (t := t) (od := none) (I.kept (t' := s.toks) M.keeps) he ?_ ?_ q
  · cases z : s₀.heap.get? e with
    | none => rfl
    | some o =>
      obtain ⟨o1, e1⟩ := I.base.there e o z (fun y => absurd (show e ∈ ([] : List Addr) from y) (by simp))
      rw [M.new] at e1
      cases e1
  · cases z : H e with
    | none => rfl
    | some u =>
      obtain ⟨ob, zb⟩ := (I.hok e u z).is
      rw [M.new] at zb
      cases zb
theorem passR : Passes (CXr P w) (cxR P w K mg base N qual scope f cd A outer s₀ H₀ E) E := by
  intro pins σ H s x s' I hx
  obtain ⟨e, C, a0, H', B, rfl, os, bare, un, hok, fl, c1, c2, od, hdc, q⟩ := hx
  have noA : ∀ b : Addr, b ∉ (cxR P w K mg base N qual scope f cd A outer s₀ H₀ E).ex := fun b z => absurd (show b ∈ ([] : List Addr) from z) (by simp)
  have lt0 : ∀ b o, s₀.heap.get? b = some o → b ≠ (cxR P w K mg base N qual scope f cd A outer s₀ H₀ E).env.locals := fun b o z => Nat.ne_of_lt (Nat.lt_of_lt_of_le (Heap.lt_size z) I.ok.above)
  have nin : ∀ b, b ∉ frs outer → b ≠ (cxR P w K mg base N qual scope f cd A outer s₀ H₀ E).env.locals → b ∉ frs (cxR P w K mg base N qual scope f cd A outer s₀ H₀ E).stack := fun b h1 h2 z => by
    rcases List.mem_cons.mp (I.stkSub b z) with z | z
    · exact h2 z
    · exact h1 z
  have J : Inv (cxR P w K mg base N qual scope f cd A outer s₀ H₀ E) pins σ H' s' := I.call' os un hok bare (ch := []) (fun b z => absurd z (by simp))
  show wpAny (model P w) (A.deeper (envOfC qual scope s₀.heap.objs.size f cd)) (leaving (envOfC qual scope s₀.heap.objs.size f cd) (.ref e)) _ _ _
  refine leavesD (L := s₀.heap.objs.size) I.ok.frames rfl fl hdc fun h'' fl' sm hdc2 => ?_
  refine ⟨e, C, a0, H', B, rfl, os.trans I.os, bare, ⟨fun b o z n hb _ => ?_, fun b o z n hb _ => ?_, fun b o z n _ => J.base.free b o z n (noA b), fun b o z _ => ?_, J.base.tups, J.base.frzs, J.base.tbls⟩, hok_stays hok c1 fl.1 fl'.1, fl', c1, fun b o z hb => ?_, od, hdc2, q⟩
  · obtain ⟨o', z1, z2⟩ := c2 b o (I.base.keep b o z n hb (noA b)) (nin b hb (lt0 b o z))
    rw [z2 (I.base.free b o z n (noA b))] at z1
    exact fl'.1 b o z1
  · obtain ⟨sl, e1⟩ := J.base.slot b o z n hb (noA b)
    obtain ⟨o2, ho2, hd2⟩ := (I.ok.funs.mem hb).2
    have z2 : s₀.heap.get? b = some o2 := ho2
    rw [z] at z2
    cases z2
    obtain ⟨sl', e2⟩ := sm b _ e1 hd2
    exact ⟨sl', e2⟩
  · by_cases hb : b ∈ frs outer
    · obtain ⟨sl, e1⟩ := J.base.slot b o z (I.ok.frf b hb) hb (noA b)
      obtain ⟨o2, ho2, hd2⟩ := (I.ok.funs.mem hb).2
      have z2 : s₀.heap.get? b = some o2 := ho2
      rw [z] at z2
      cases z2
      obtain ⟨sl', e2⟩ := sm b _ e1 hd2
      exact ⟨_, e2⟩
    · obtain ⟨o1, e1⟩ := I.base.there b o z (noA b)
      obtain ⟨o', z1, _⟩ := c2 b o1 e1 (nin b hb (lt0 b o z))
      exact ⟨o', fl'.1 b o' z1⟩
  · obtain ⟨o1, e1⟩ := I.base.there b o z (noA b)
    obtain ⟨o', z1, z2⟩ := c2 b o1 e1 (nin b hb (lt0 b o z))
    refine ⟨o', z1, fun n => ?_⟩
    rw [z2 (I.base.free b o z n (noA b))]
    have e2 := I.base.keep b o z n hb (noA b)
    rw [e1] at e2
    exact Option.some.inj e2
theorem Fun.okR {x : Str} {st : Stmt} {fd : FuncData} {ps : List Str} {k : Nat} {sp : Sp} (F : Fun K x qual st f fd) (S : FnScope N ps (defScope st)) (len : ∀ vs H Q E, sp vs H Q E → vs.length = ps.length)
    (hbody : ∀ (cdv : Value) (A : Around) (outer : List Env) (s : Shared) (H : Hp) (vs : List V) (Q : VK) (E : XK), Room k (A.deeper (envOfC qual (defScope st) s.heap.objs.size f cdv)) → sp vs H Q E →
      ∃ t, PSs (cxR P w K mg base N qual (defScope st) f cdv A outer s H E) (defBody st) t ∧ t { nx := fun _ H' => Q .non H', rt := Q } (start N vs) H) : FnOk P w K mg base (CXr P w) (k + 1) f fd ps sp := by
  obtain ⟨oc, od, kV, doc, pm, an, cdv, ct, osl, rfl, lk, hcd⟩ := F.ex
  exact fn_of lk hcd S len fun A outer s H vs Q E hr hsp => hbody cdv A outer s H vs Q E hr hsp
end
section
variable {X : Cx} {x : Str} {C : Addr} {E : XK} {e₀ : Expr} {rest : List Expr} {t : TA} {np cpos pos : Pos}
def tRaise (C : Addr) (E : XK) (t : TA) : TS := fun _ σ H => t σ H fun vs H1 => vs.length ≤ sizeLine ∧ E (.ref C) none H1
theorem ps_raise (hK : excIn X.K C = true) (hm : X.mg x = some (.ref C)) (hR : Raises X E) (hA : X.calm = true) (ha : PA X (e₀ :: rest) t) (hg : Gl X x := by rfl) (hd : (x == ("__debug__" : Str)) = false := by decide)
    (he : starEach (e₀ :: rest) X.env = (false, eval e₀ X.env) :: starEach rest X.env := by rfl) (hpl : (backTo cpos (starEach rest X.env)).any (·.1) = false := by rfl) :
    PS X (.Raise (some (.Call (.Name x np) (e₀ :: rest) [] cpos)) none pos) (tRaise C E t) := by
  intro pins s σ H D I h
  obtain ⟨bm, N, nm, q, bs, hdct, sn, sub, ab, col, dd, k0, k1, k2, k3, k5, mN, hni, hK⟩ := excIn_obj I.kIn hK
  obtain ⟨_, _, T₀⟩ := hK _ I.kIn
  refine wpAny_Raise_call_subT (C := C) (nm := nm) (q := q) (N := N) (bs := bs) (bm := bm) (hdct := hdct) (sn := sn) (sub := sub) (ab := ab) (col := col) (dd := dd) (k0 := k0) (k1 := k1) (k2 := k2) (k3 := k3) (k5 := k5)
    PySem.F.excBase_ValueError (mN := mN) (T₀.hasType PySem.F.excBase_ValueError.hasBase) (I.ok.hd hA) (by rw [he]; show (false || (backTo cpos (starEach rest X.env)).any (·.1)) = false; rw [hpl]; rfl) hni (ld_glob I hg hm ⟨rfl, ?_⟩ hd)
  have h1 := ha cpos pins s σ H _ I h
  rw [he] at h1 ⊢
  refine Calls.evalArgs_plain (wpAny_mono h1 (fun us s₂ h₂ => ?_) fun _ _ y => y)
  obtain ⟨vs, H1, I1, r, z, q⟩ := h₂
  obtain ⟨g1, g2, g3⟩ := hK _ I1.kIn
  exact ⟨rfl, by rw [← r.length]; exact z, g1, g2, g3, fun h' e M => hR pins σ H1 s₂ e C us h' I1 M q⟩
end
end L2
end
section
namespace L2
open PySem PySem.Spec PyProof.Rows
def xob (e : Addr) (C : Value) (od : Option Addr) : HO := .ext fun h => ∃ oe, h.get? e = some oe ∧ oe.cls = C ∧ oe.dict = od ∧ PySem.W.notCls oe = true
section
variable {X : Cx} {pins : List (Addr × Obj)} {σ : St} {H H' : Hp} {s s' : Shared} {e : Addr} {C a0 : Value} {B h : Heap}
theorem Inv.flown {tk : Nat} {od : Option Addr} (I : Inv X pins σ H s) (os : s'.os = s.os) (bare : AllBare s'.gens) (un : Un (frs X.stack) [] H H' s.heap s'.heap) (hok : HOk X.prog X.w H' s'.heap) (fl : Heap.FlyingW B X.stack e C a0 s'.heap)
    (c1 : ∀ b u, H' b = some u → ∃ o, B.get? b = some o) (c2 : ∀ b o, s.heap.get? b = some o → b ∉ frs X.stack → ∃ o', B.get? b = some o' ∧ (H b = none → o' = o))
    (fl' : Heap.FlyingW B X.stack e C a0 h) (sm : s'.heap.UpToSlots h) (hdc : Dc h e od) : H' e = none ∧ Inv X pins σ (upd H' e (xob e C od)) { s' with heap := h, toks := tk } := by
  have he : H' e = none := by
    cases q : H' e with
    | none => rfl
    | some u =>
      obtain ⟨o, z⟩ := c1 e u q
      rw [fl.2.1] at z
      cases z
  obtain ⟨oe, ws, hoe, hoec, hoed, _⟩ := fl'.first
  have ne : ∀ b o, s.heap.get? b = some o → b ≠ e := fun b o z q => by
    subst q
    by_cases hb : b ∈ frs X.stack
    · obtain ⟨_, o2, ho2, hd2⟩ := fl'.2.2.1.mem hb
      rw [hoe] at ho2
      cases ho2
      exact hd2 _ hoed
    · obtain ⟨o', z1, _⟩ := c2 b o z hb
      rw [fl.2.1] at z1
      cases z1
  have ne' : ∀ b u, H' b = some u → b ≠ e := fun b u z q => by
    subst q
    rw [he] at z
    cases z
  refine ⟨he, ?_⟩
  refine I.call' (s' := { s' with heap := h, toks := tk }) (H' := upd H' e (xob e C od)) (ch := []) os ⟨fun b o z n hb _ => ?_, fun b o z n hb _ => ?_, fun b o z n _ => ?_, fun b o z _ => ?_, fun b xs z => ?_, fun b o u z => ?_, fun b ps z => ?_⟩ (fun a u q => ?_) bare (fun b z => absurd z (by simp))
  · obtain ⟨o', z1, z2⟩ := c2 b o z hb
    rw [z2 n] at z1
    exact fl'.1 b o z1
  · obtain ⟨sl, e1⟩ := un.slot b o z n hb (by simp)
    obtain ⟨_, o2, ho2, hd2⟩ := fl.2.2.1.mem hb
    rw [e1] at ho2
    cases ho2
    obtain ⟨sl', e2⟩ := sm b _ e1 hd2
    exact ⟨sl', e2⟩
  · rw [upd_ne (ne b o z)]
    exact un.free b o z n (by simp)
  · by_cases hb : b ∈ frs X.stack
    · obtain ⟨_, o2, ho2, _⟩ := fl'.2.2.1.mem hb
      exact ⟨o2, ho2⟩
    · obtain ⟨o', z1, _⟩ := c2 b o z hb
      exact ⟨o', fl'.1 b o' z1⟩
  · have z1 := un.tups b xs z
    rw [upd_ne (ne' b _ z1)]
    exact z1
  · have z1 := un.frzs b o u z
    rw [upd_ne (ne' b _ z1)]
    exact z1
  · obtain ⟨more, z1⟩ := un.tbls b ps z
    exact ⟨more, by rw [upd_ne (ne' b _ z1)]; exact z1⟩
  · by_cases ha : a = e
    · subst ha
      rw [upd_same] at q
      cases q
      obtain ⟨o3, ho3, hd3⟩ := hdc
      rw [hoe] at ho3
      cases ho3
      exact ⟨⟨oe, hoe, hoec, hd3, by unfold PySem.W.notCls; rw [hoed]⟩, ⟨oe, hoe⟩, fun h1 h2 ⟨o1, g1, g2⟩ k => ⟨o1, k o1 g1, g2⟩⟩
    · rw [upd_ne ha] at q
      refine (hok a u q).stay (fun b v hb z => ?_) (fun b z => by rw [upd_ne (ne' b _ z)]; exact z) fun b xs z => by rw [upd_ne (ne' b _ z)]; exact z
      obtain ⟨o, z0⟩ : ∃ o, B.get? b = some o := by
        rcases hb with rfl | hb
        · exact c1 _ _ q
        · exact c1 _ _ hb
      have z1 := fl.1 b o z0
      rw [z] at z1
      cases z1
      exact fl'.1 b _ z0
end
abbrev Cx.hand (X : Cx) (e : Addr) : Cx := { X with A := X.A.mark (some (.ref e)), calm := false, xe := fun _ _ => False }
theorem Cx.Ok.hand {X : Cx} (ok : X.Ok) (e : Addr) : (X.hand e).Ok :=
  ⟨ok.mod, ok.kind, ok.glob, ok.blt, ok.above, ok.inj, ok.has, ok.cab, (fun z => nomatch z), ok.frames, ok.stk, ok.exf, ok.bs, ok.bsz, ok.noex, ok.exfs, ok.funs, ok.frf⟩
section
variable {X : Cx} {pins : List (Addr × Obj)} {σ : St} {H : Hp} {s : Shared} {e : Addr}
theorem Inv.hand (I : Inv X pins σ H s) (e : Addr) : Inv (X.hand e) pins σ H s := ⟨I.ok.hand e, I.os, I.bare, I.base, I.loc, I.cell, I.free, I.freeC, I.pin, I.hok, I.len⟩
theorem Inv.unhand (ok : X.Ok) (I : Inv (X.hand e) pins σ H s) : Inv X pins σ H s := ⟨ok, I.os, I.bare, I.base, I.loc, I.cell, I.free, I.freeC, I.pin, I.hok, I.len⟩
theorem unbind_ok {M : Model} {A : Around} {E : Value → Shared → Prop} {i : Nat} {x : Str} {v : V} {Q : Unit → Shared → Prop} (I : Inv X pins σ H s) (hN : X.N.Nodup) (hi : X.N[i]? = some x) (hk : X.env.scope.names.lookup x = some .local) (hv : σ[i]? = some (some v))
    (h : ∀ s', Inv X pins (σ.set i none) H s' → Q () s') : wpAny M A (unbindName X.env x) Q E s := by
  obtain ⟨m, hn, hl⟩ := id I.loc
  have hcls : (X.env.scope.kind == .class || (X.env.scope.kind == .module && X.env.locals != X.env.globals)) = false := by rw [I.ok.kind]; rfl
  have hiσ : i < σ.length := by rw [I.len]; exact (List.getElem?_eq_some_iff.mp hi).1
  have cne := I.cne
  obtain ⟨u, _, l⟩ := hl i x v hi hv (.inl hk)
  have hm : m x = some u := by
    rcases l with ⟨_, z⟩ | ⟨z, _⟩
    · exact z
    · have z' : X.env.scope.names.lookup x = some .cell ∨ X.env.scope.names.lookup x = some .free := z
      rw [hk] at z'
      rcases z' with z' | z' <;> cases z'
  have tracked : ∀ {a : Addr} {h' : Heap}, (∃ o, s.heap.get? a = some o ∧ H a = none) → Heap.SameBut a s.heap h' → HOk X.prog X.w H h' := fun {a h'} ha hs b ob e => by
    obtain ⟨_, _, hfree⟩ := ha
    refine (I.hok b ob e).stay (fun c w' hc q => (hs.2 c ?_).trans q) (fun _ q => q) fun _ _ q => q
    rintro rfl
    rcases hc with rfl | hc
    · rw [hfree] at e; cases e
    · rw [hfree] at hc; cases hc
  refine wpAny_unbindName_local hk hn hm hcls fun h' u' hn' hs => ?_
  obtain ⟨oL, _, _, hoL, _⟩ := id hn
  refine h _ ⟨I.ok, I.os, I.bare, ⟨fun b o e n hb hx => ?_, fun b o e n hb hx => ?_, I.base.free, fun b o e hx => ?_, I.base.tups, I.base.frzs, I.base.tbls⟩, ⟨_, hn', fun j y v' e1 e2 e3 => ?_⟩, fun y c e => ?_, I.free, I.freeC, fun p hp => ?_, tracked ⟨oL, hoL, I.free⟩ hs, by simpa using I.len⟩
  · exact (hs.2 b (Nat.ne_of_lt (Nat.lt_of_lt_of_le (Heap.lt_size e) I.ok.above))).trans (I.base.keep b o e n hb hx)
  · obtain ⟨sl, e1⟩ := I.base.slot b o e n hb hx
    exact ⟨sl, (hs.2 b (Nat.ne_of_lt (Nat.lt_of_lt_of_le (Heap.lt_size e) I.ok.above))).trans e1⟩
  · obtain ⟨o', e1⟩ := I.base.there b o e hx
    exact ⟨o', (hs.2 b (Nat.ne_of_lt (Nat.lt_of_lt_of_le (Heap.lt_size e) I.ok.above))).trans e1⟩
  · by_cases hj : j = i
    · subst hj
      rw [List.getElem?_set_self hiσ] at e2
      cases e2
    · rw [List.getElem?_set_ne (Ne.symm hj)] at e2
      obtain ⟨u', r', q⟩ := hl j y v' e1 e2 e3
      refine ⟨u', r', ?_⟩
      rcases q with ⟨k, e⟩ | ⟨k, c, e, z⟩
      · refine .inl ⟨k, ?_⟩
        have : y ≠ x := fun e => hj (nodup_ix hN e1 (e ▸ hi))
        simp [this, e]
      · exact .inr ⟨k, c, e, z.sameBut hs (cne y c e)⟩
  · obtain ⟨w', z⟩ := I.cell y c e
    exact ⟨w', z.sameBut hs (cne y c e)⟩
  · obtain ⟨e, n, ne, nf, d⟩ := I.pin p hp
    exact ⟨(hs.2 p.1 ne).trans e, n, ne, nf, d⟩
end
def XE (X : Cx) (pins : List (Addr × Obj)) (σ : St) (E : XK) (x : Value) (s' : Shared) : Prop := ∃ H1 s1, Inv X pins σ H1 s1 ∧ CXr X.prog X.w X.stack H1 s1 E x s'
def XP (X : Cx) (pins : List (Addr × Obj)) (E : St → XK) (x : Value) (s' : Shared) : Prop := ∃ σ', XE X pins σ' (E σ') x s'
abbrev TSX := Ends → (St → XK) → St → Hp → Prop
abbrev TEX := St → Hp → VK → XK → Prop
def PSX (X : Cx) (sts : List Stmt) (t : TSX) : Prop :=
  ∀ (pins : List (Addr × Obj)) (s : Shared) (σ : St) (H : Hp) (D : Ends) (E : St → XK), Inv X pins σ H s → t D E σ H → wpAny (model X.prog X.w) X.A (execs sts X.env) (SP X pins D) (XP X pins E) s
def PEX (X : Cx) (e : Expr) (t : TEX) : Prop :=
  ∀ (pins : List (Addr × Obj)) (s : Shared) (σ : St) (H : Hp) (Q : VK) (E : XK), Inv X pins σ H s → t σ H Q E → wpAny (model X.prog X.w) X.A (eval e X.env) (EP X pins σ Q) (XE X pins σ E) s
section
variable {X : Cx} {e : Expr} {te : TEX} {pos : Pos} {a b : List Stmt} {t u : TSX}
def tIfX (c : TT) (t u : TSX) : TSX := fun D E σ H => c σ H fun b H1 => if b = true then t D E σ H1 else u D E σ H1
theorem psx_if {c : Expr} {tc : TT} (hc : PT X.nox c tc) (ha : PSX X a t) (hb : PSX X b u) : PSX X [.If c a b pos] (tIfX tc t u) := by
  intro pins s σ H D E I h
  refine wpAny_execs_cons ?_
  refine wpAny_If (wpAny_mono (hc pins s σ H _ (I.wish _) h) (fun d s1 q => ?_) fun _ _ z => z.elim)
  obtain ⟨H1, I1, q1⟩ := q
  have fin : ∀ f s2, SP X pins D f s2 → (match f with | .next => wpAny (model X.prog X.w) X.A (execs [] X.env) (SP X pins D) (XP X pins E) s2 | f => SP X pins D f s2) := fun f s2 z => by
    cases f with
    | next => exact wpAny_execs_nil z
    | ret v => exact z
    | brk => exact z
    | cont => exact z
  cases d with
  | true => exact wpAny_mono (ha pins s1 σ H1 D E I1.unwish q1) fin fun _ _ z => z
  | false => exact wpAny_mono (hb pins s1 σ H1 D E I1.unwish q1) fin fun _ _ z => z
end
section
variable {X : Cx} {k : Nat} {f C : Addr} {fd : FuncData} {ps : List Str} {sp : Sp} {dvs : List V} {ds : List Value} {x m : Str} {p pos apos : Pos} {e o : Expr} {es : List Expr} {ta : TE} {t : TA}
theorem run_fnX {pins : List (Addr × Obj)} {σ : St} {H : Hp} {s : Shared} {Q : VK} {E : XK} {us : List Value} {vs : List V} (F : FnOk X.prog X.w X.K X.mg X.base (CXr X.prog X.w) k f fd ps sp) (hr : Room k X.A) (hb : Binds X.K fd ps ds) (hd : Vals dvs ds)
    (I : Inv X pins σ H s) (r : Vals vs us) (h : sp (vs ++ dvs) H Q E) : wpAny (model X.prog X.w) X.A (call (.ref f) us) (EP X pins σ Q) (XE X pins σ E) s := by
  have r2 : Vals (vs ++ dvs) (us ++ ds) := r.append hd
  have hl : (us ++ ds).length = ps.length := by rw [← r2.length]; exact F.len _ _ _ _ h
  refine wpAny_call (codeAny_mono (F.run X.A X.stack s H ⟨us, []⟩ (us ++ ds) (vs ++ dvs) Q E hr I.env0 (hb s us I.kIn hl) r2 h) fun r s' hq => ?_)
  cases r with
  | error e => exact ⟨H, s, I, hq⟩
  | ok fl =>
    cases fl with
    | ret u => exact I.after hq
    | next => exact False.elim hq
    | brk => exact False.elim hq
    | cont => exact False.elim hq
def tMethX (C : Addr) (m : Str) (sp : Sp) (dvs : List V) (ta : TE) (t : TA) : TEX := fun σ H Q E => ta σ H fun x H1 => ∃ a dx fs, x = .ref a ∧ H1 a = some (.ins C dx fs) ∧ fs.lookup m = none ∧
  t σ H1 fun vs H2 => sp (x :: (vs ++ dvs)) H2 Q E
theorem pex_meth {pl : Sem Bool} (he : PE X.nox o ta) (c : Cls X.K C) (hm : Meth X.K C m f) (F : FnOk X.prog X.w X.K X.mg X.base (CXr X.prog X.w) k f fd ps sp) (hr : Room k X.A) (hb : Binds X.K fd ps ds) (hd : Vals dvs ds) (ha : PA X.nox (e :: es) t)
    (hst : starEach (e :: es) X.env = (false, eval e X.env) :: starEach es X.env := by rfl) (hpl : (backTo pos (starEach es X.env)).any (·.1) = false := by rfl)
    (ht : eval (.Call (.Attribute o m apos) (e :: es) [] pos) X.env = (do
      let ov ← eval o X.env
      standAt apos.atName
      let (f, first) ← holding [ov] (getMethod ov m pl)
      callWith pos f first (backTo pos (starEach (e :: es) X.env)) (backToKw pos (keywordEach [] X.env))) := by rfl) :
    PEX X (.Call (.Attribute o m apos) (e :: es) [] pos) (tMethX C m sp dvs ta t) := by
  intro pins s σ H Q E I h
  refine PySem.W.methodCall_KW (pl := pl) (wpAny_mono (he pins s σ H _ (I.wish _) h) (fun u s1 q => ?_) fun _ _ z => z.elim) ht
  obtain ⟨x, H1, I1, rx, a, dx, fs, ex, ea, l, q⟩ := q
  have I1 := I1.unwish
  subst ex
  obtain rfl : u = Value.ref a := rx
  refine getmeth_ok I1 ea c hm l ?_
  refine PySem.W.callWith_K (first := [.ref a]) (h₀ := X.base) I.ok.mod.kin hm.kp (wpAny_mono (ha pos pins s1 σ H1 _ (I1.wish _) q) (fun us s2 q => ?_) fun _ _ z => z.elim) hst hpl
  obtain ⟨vs, H2, I2, r, q2⟩ := q
  exact ⟨I2.kIn, run_fnX (us := .ref a :: us) (vs := .ref a :: vs) F hr hb hd I2.unwish (.cons rfl r) q2⟩
end
section
variable {X : Cx} {x n : Str} {HC : Addr} {i : Nat} {body suite : List Stmt} {b₀ : Stmt} {tb : TSX} {ts : TS} {np hpos pos : Pos}
def tTry (K : PySem.W.Frag) (HC : Addr) (i : Nat) (tb : TSX) (ts : TS) : TS := fun D σ H => tb D (fun σ' C od H1 => PySem.W.exmOne K C (.ref HC) = some true ∧
  ∀ e, H1 e = none → ts { nx := fun σ2 H2 => D.nx (σ2.set i none) H2, rt := D.rt, bk := fun σ2 H2 => D.bk (σ2.set i none) H2, ct := fun σ2 H2 => D.ct (σ2.set i none) H2 } (σ'.set i (some (.ref e))) (upd H1 e (xob e C od))) σ H
theorem ps_try (hN : X.N.Nodup) (hi : X.N[i]? = some n) (hn : X.env.scope.names.lookup n = some .local) (hst : X.stack = X.env :: X.outer) (hf : X.env.frame = some X.env.locals) (hm : X.mg x = some (.ref HC)) (hb : PSX X body tb)
    (hs : ∀ e, PSs (X.hand e) (b₀ :: suite) ts) (hg : Gl X x := by rfl) (hd : (x == ("__debug__" : Str)) = false := by decide) :
    PS X (.Try body [.ExceptHandler (some (.Name x np)) (some n) (b₀ :: suite) hpos] [] [] pos) (tTry X.K HC i tb ts) := by
  intro pins s σ H D I h
  have hfr : X.A.frames = some (X.env :: X.outer) := by rw [← hst]; exact I.ok.frames
  refine wpAny_Try_except (wpAny_mono (hb pins s σ H D _ I h) (fun f s1 q => ?_) fun xv s1 hx => ?_)
  · cases f with
    | next => exact wpAny_execs_nil q
    | ret v => exact q
    | brk => exact q
    | cont => exact q
  · obtain ⟨σ', H1, s0, I1, e, C, a0, H', B, rfl, os, bare, un, hok, fl, c1, c2, od, hdc, hex, hq⟩ := hx
    have fl1 : Heap.FlyingW B (X.env :: X.outer) e C a0 s1.heap := by rw [← hst]; exact fl
    refine noteD hfr hf fl1 hdc fun h₄ held₄ sm₄ dc₄ => ?_
    refine landsD (s := { s1 with heap := h₄ }) held₄ dc₄ fun h₅ fl₅ sm₅ dc₅ => ?_
    have fl₅' : Heap.FlyingW B X.stack e C a0 h₅ := by rw [hst]; exact fl₅
    obtain ⟨_, I₅⟩ := I1.flown (tk := s1.toks) os bare un hok fl c1 c2 fl₅' (sm₄.trans sm₅) dc₅
    refine wpAny_handleBy_cons (codeAny_handlers_test ?_) (by intro q; cases q)
    refine ld_glob (X := X.hand e) (I₅.hand e) hg hm ?_ hd
    obtain ⟨ob, hob, hobc⟩ := fl₅.there
    have LT : PySem.W.Looks (model X.prog X.w) h₅ (typeOf (.ref e)) C := by
      subst hobc
      exact (PySem.W.Looks.ld hob).andThen .now
    refine (PySem.W.exm_one I₅.kIn LT hex).here ?_
    refine codeAny_handlers_suite_as ?_
    refine againD fl₅ dc₅ fun h₆ fl₆ sm₆ dc₆ => ?_
    have fl₆' : Heap.FlyingW B X.stack e C a0 h₆ := by rw [hst]; exact fl₆
    obtain ⟨he, I₆⟩ := I1.flown (tk := s1.toks) os bare un hok fl c1 c2 fl₆' ((sm₄.trans sm₅).trans sm₆) dc₆
    refine store_ok (X := X.hand e) (I₆.hand e) hN hi (.inl hn) (show RelV (.ref e) (.ref e) from rfl) (fun s₇ I₇ => ?_) (.inr hn)
    refine wpAny_mono (hs e pins s₇ _ _ _ I₇ (hq e he)) (fun f s₈ q => ?_) fun _ _ z => z.elim
    have back : ∀ (f : Flow) (σ2 : St) (H2 : Hp) (s₈ : Shared), Inv (X.hand e) pins σ2 H2 s₈ → (∀ s10, Inv X pins (σ2.set i none) H2 s10 → SP X pins D f s10) →
        wpAny (model X.prog X.w) X.A (do bindName X.env n .none; unbindBehindTheSuite X.env n hpos) (fun _ s₃ => SP X pins D f s₃) X.xe s₈ := fun f σ2 H2 s₈ I2 k => by
      have I2 := I2.unhand I.ok
      refine wpAny_bind (wpAny_bindName (store_ok I2 hN hi (.inl hn) (show RelV .non .none from rfl) (fun s9 I9 => ?_) (.inr hn)))
      unfold unbindBehindTheSuite
      refine wpAny_onRaise (unbind_ok (v := .non) I9 hN hi hn ?_ fun s10 I10 => ?_)
      · rw [List.getElem?_set_self (by rw [I2.len]; exact (List.getElem?_eq_some_iff.mp hi).1)]
      · rw [List.set_set] at I10
        exact k s10 I10
    cases f with
    | next =>
      obtain ⟨σ2, H2, I2, q2⟩ := q
      exact back .next σ2 H2 s₈ I2 fun s10 I10 => ⟨_, _, I10, q2⟩
    | ret v =>
      obtain ⟨v', σ2, H2, I2, r2, q2⟩ := q
      exact back (.ret v) σ2 H2 s₈ I2 fun s10 I10 => ⟨v', _, _, I10, r2, q2⟩
    | brk =>
      obtain ⟨σ2, H2, I2, q2⟩ := q
      exact back .brk σ2 H2 s₈ I2 fun s10 I10 => ⟨_, _, I10, q2⟩
    | cont =>
      obtain ⟨σ2, H2, I2, q2⟩ := q
      exact back .cont σ2 H2 s₈ I2 fun s10 I10 => ⟨_, _, I10, q2⟩
end
structure RoomQ (k : Nat) (A : Around) : Prop where
  dp : A.depth + 3 * k + 5 < recursionLimit
  un : A.units + 16 * k + 200 < cLine
structure FnOkQ (P : Program) (w : World) (K : PySem.W.Frag) (mg : Str → Option Value) (base : Heap) (k : Nat) (f : Addr) (fd : FuncData) (ps : List Str) (sp : Sp) : Prop where
  len : ∀ vs H Q, sp vs H Q E0 → vs.length = ps.length
  run : ∀ (A : Around) (outer : List Env) (s : Shared) (H : Hp) (args : Args) (us : List Value) (vs : List V) (Q : VK), RoomQ k A → Env0 P w K mg base A outer s H → BindsTo s fd args (ps.zip us) → Vals vs us → sp vs H Q E0 →
    codeAny (model P w) A (.call (.ref f) args) (CR CX0 outer P w H s Q E0) s
section
variable {P : Program} {w : World} {K : PySem.W.Frag} {mg : Str → Option Value} {base : Heap} {N ps : List Str} {qual : Str} {f : Addr} {k : Nat} {sp : Sp}
end
section
variable {X : Cx} {k : Nat} {f : Addr} {fd : FuncData} {ps : List Str} {sp : Sp} {x : Str} {p pos : Pos} {e : Expr} {es : List Expr} {t : TA}
end
end L2
end
section
namespace L2
open PySem PySem.Spec PyProof.Rows PySem.SeqAt
inductive Th (H : Hp) : V → Prop where
  | non : Th H .non
  | bl (b : Bool) : Th H (.bl b)
  | int (i : Int) : Th H (.int i)
  | str (x : Str) : Th H (.str x)
  | lst {a : Addr} {xs : List V} (e : H a = some (.lst xs)) : Th H (.ref a)
  | frz {a : Addr} {o : Obj} {xs : List V} (e : H a = some (.frz o (.lst xs))) : Th H (.ref a)
  | tup {a : Addr} {xs : List V} (e : H a = some (.tup xs)) : Th H (.ref a)
  | dic {a : Addr} {kvs : List (Key × V)} (e : H a = some (.dK kvs)) : Th H (.ref a)
def isI : V → Bool
  | .int _ => true
  | _ => false
def isB : V → Bool
  | .bl _ => true
  | _ => false
section
variable {K : PySem.W.Frag}
theorem kit_int_non : PySem.W.kitOne K (.type "NoneType") (.type "int") = some false := by kernel_rfl
theorem kit_int_bl : PySem.W.kitOne K (.type "bool") (.type "int") = some true := by kernel_rfl
theorem kit_int_int : PySem.W.kitOne K (.type "int") (.type "int") = some true := by kernel_rfl
theorem kit_int_str : PySem.W.kitOne K (.type "str") (.type "int") = some false := by kernel_rfl
theorem kit_int_lst : PySem.W.kitOne K (.type "list") (.type "int") = some false := by kernel_rfl
theorem kit_int_tup : PySem.W.kitOne K (.type "tuple") (.type "int") = some false := by kernel_rfl
theorem kit_int_dic : PySem.W.kitOne K (.type "dict") (.type "int") = some false := by kernel_rfl
theorem kit_bool_non : PySem.W.kitOne K (.type "NoneType") (.type "bool") = some false := by kernel_rfl
theorem kit_bool_bl : PySem.W.kitOne K (.type "bool") (.type "bool") = some true := by kernel_rfl
theorem kit_bool_int : PySem.W.kitOne K (.type "int") (.type "bool") = some false := by kernel_rfl
theorem kit_bool_str : PySem.W.kitOne K (.type "str") (.type "bool") = some false := by kernel_rfl
theorem kit_bool_lst : PySem.W.kitOne K (.type "list") (.type "bool") = some false := by kernel_rfl
theorem kit_bool_tup : PySem.W.kitOne K (.type "tuple") (.type "bool") = some false := by kernel_rfl
theorem kit_bool_dic : PySem.W.kitOne K (.type "dict") (.type "bool") = some false := by kernel_rfl
theorem kit_tup_tup : PySem.W.kitOne K (.type "tuple") (.type "tuple") = some true := by kernel_rfl
theorem kit_lst_lst : PySem.W.kitOne K (.type "list") (.type "list") = some true := by kernel_rfl
theorem kit_lst_non : PySem.W.kitOne K (.type "NoneType") (.type "list") = some false := by kernel_rfl
theorem kit_lst_bl : PySem.W.kitOne K (.type "bool") (.type "list") = some false := by kernel_rfl
theorem kit_lst_int : PySem.W.kitOne K (.type "int") (.type "list") = some false := by kernel_rfl
theorem kit_lst_str : PySem.W.kitOne K (.type "str") (.type "list") = some false := by kernel_rfl
theorem kit_lst_tup : PySem.W.kitOne K (.type "tuple") (.type "list") = some false := by kernel_rfl
theorem kit_lst_dic : PySem.W.kitOne K (.type "dict") (.type "list") = some false := by kernel_rfl
end
section
variable {X : Cx}
theorem call_isint : CallR X (.builtin "isinstance") (fun xs H Q => ∃ x, xs = [x, .ty "int"] ∧ Th H x ∧ Q (.bl (isI x || isB x)) H) := by
  intro pins s σ H xs us Q I r h
  obtain ⟨x, rfl, th, q⟩ := h
  obtain ⟨u, v, rfl, rx, rt⟩ := r.two
  obtain rfl : v = Value.type "int" := rt
  cases th with
  | non => exact isinst_ok I rx .non kit_int_non fun tk => ⟨.bl _, H, I.tok tk, rfl, q⟩
  | bl b => exact isinst_ok I rx (.bl b) kit_int_bl fun tk => ⟨.bl _, H, I.tok tk, rfl, q⟩
  | int i => exact isinst_ok I rx (.int i) kit_int_int fun tk => ⟨.bl _, H, I.tok tk, rfl, q⟩
  | str z => exact isinst_ok I rx (.str z) kit_int_str fun tk => ⟨.bl _, H, I.tok tk, rfl, q⟩
  | lst e => exact isinst_ok I rx (.lst e) kit_int_lst fun tk => ⟨.bl _, H, I.tok tk, rfl, q⟩
  | frz e => exact isinst_ok I rx (.frz e) kit_int_lst fun tk => ⟨.bl _, H, I.tok tk, rfl, q⟩
  | tup e => exact isinst_ok I rx (.tup e) kit_int_tup fun tk => ⟨.bl _, H, I.tok tk, rfl, q⟩
  | dic e => exact isinst_ok I rx (.dK e) kit_int_dic fun tk => ⟨.bl _, H, I.tok tk, rfl, q⟩
theorem call_isbool : CallR X (.builtin "isinstance") (fun xs H Q => ∃ x, xs = [x, .ty "bool"] ∧ Th H x ∧ Q (.bl (isB x)) H) := by
  intro pins s σ H xs us Q I r h
  obtain ⟨x, rfl, th, q⟩ := h
  obtain ⟨u, v, rfl, rx, rt⟩ := r.two
  obtain rfl : v = Value.type "bool" := rt
  cases th with
  | non => exact isinst_ok I rx .non kit_bool_non fun tk => ⟨.bl _, H, I.tok tk, rfl, q⟩
  | bl b => exact isinst_ok I rx (.bl b) kit_bool_bl fun tk => ⟨.bl _, H, I.tok tk, rfl, q⟩
  | int i => exact isinst_ok I rx (.int i) kit_bool_int fun tk => ⟨.bl _, H, I.tok tk, rfl, q⟩
  | str z => exact isinst_ok I rx (.str z) kit_bool_str fun tk => ⟨.bl _, H, I.tok tk, rfl, q⟩
  | lst e => exact isinst_ok I rx (.lst e) kit_bool_lst fun tk => ⟨.bl _, H, I.tok tk, rfl, q⟩
  | frz e => exact isinst_ok I rx (.frz e) kit_bool_lst fun tk => ⟨.bl _, H, I.tok tk, rfl, q⟩
  | tup e => exact isinst_ok I rx (.tup e) kit_bool_tup fun tk => ⟨.bl _, H, I.tok tk, rfl, q⟩
  | dic e => exact isinst_ok I rx (.dK e) kit_bool_dic fun tk => ⟨.bl _, H, I.tok tk, rfl, q⟩
def isLst (H : Hp) : V → Bool
  | .ref a => match H a with | some (.lst _) => true | some (.frz _ (.lst _)) => true | _ => false
  | _ => false
theorem call_islist : CallR X (.builtin "isinstance") (fun xs H Q => ∃ x, xs = [x, .ty "list"] ∧ Th H x ∧ Q (.bl (isLst H x)) H) := by
  intro pins s σ H xs us Q I r h
  obtain ⟨x, rfl, th, q⟩ := h
  obtain ⟨u, v, rfl, rx, rt⟩ := r.two
  obtain rfl : v = Value.type "list" := rt
  cases th with
  | non => exact isinst_ok I rx .non kit_lst_non fun tk => ⟨.bl _, H, I.tok tk, rfl, q⟩
  | bl b => exact isinst_ok I rx (.bl b) kit_lst_bl fun tk => ⟨.bl _, H, I.tok tk, rfl, q⟩
  | int i => exact isinst_ok I rx (.int i) kit_lst_int fun tk => ⟨.bl _, H, I.tok tk, rfl, q⟩
  | str z => exact isinst_ok I rx (.str z) kit_lst_str fun tk => ⟨.bl _, H, I.tok tk, rfl, q⟩
  | lst e => exact isinst_ok I rx (.lst e) kit_lst_lst fun tk => ⟨.bl _, H, I.tok tk, rfl, by simp only [isLst, e] at q; exact q⟩
  | frz e => exact isinst_ok I rx (.frz e) kit_lst_lst fun tk => ⟨.bl _, H, I.tok tk, rfl, by simp only [isLst, e] at q; exact q⟩
  | tup e => exact isinst_ok I rx (.tup e) kit_lst_tup fun tk => ⟨.bl _, H, I.tok tk, rfl, by simp only [isLst, e] at q; exact q⟩
  | dic e => exact isinst_ok I rx (.dK e) kit_lst_dic fun tk => ⟨.bl _, H, I.tok tk, rfl, by simp only [isLst, e] at q; exact q⟩
end
mutual
inductive DatR (K : PySem.W.Frag) (H : Hp) : V → PyData → Prop
  | non : DatR K H .non .none
  | bl (b : Bool) : DatR K H (.bl b) (.bool b)
  | int (i : Int) : DatR K H (.int i) (.int i)
  | str (x : Str) : DatR K H (.str x) (.str x)
  | lst {a : Addr} {xs : List V} {ds : List PyData} : SqL K H a xs → DatsR K H xs ds → DatR K H (.ref a) (.list ds)
  | tup {a : Addr} {xs : List V} {ds : List PyData} : SqT K H a xs → DatsR K H xs ds → DatR K H (.ref a) (.tuple ds)
inductive DatsR (K : PySem.W.Frag) (H : Hp) : List V → List PyData → Prop
  | nil : DatsR K H [] []
  | cons {x : V} {d : PyData} {xs : List V} {ds : List PyData} : DatR K H x d → DatsR K H xs ds → DatsR K H (x :: xs) (d :: ds)
end
section
variable {X : Cx} {pins : List (Addr × Obj)} {σ : St} {H : Hp} {s : Shared}
mutual
theorem DatR.reads (I : Inv X pins σ H s) : ∀ {v : V} {d : PyData} {u : Value}, DatR X.K H v d → RelV v u → ∃ as, Reads s.heap u d as
  | _, _, _, .non, r => ⟨[], by cases (show _ = Value.none from r); exact .none⟩
  | _, _, _, .bl b, r => ⟨[], by cases (show _ = Value.bool b from r); exact .bool b⟩
  | _, _, _, .int i, r => ⟨[], by obtain ⟨t, rfl⟩ := r; exact .int i t⟩
  | _, _, _, .str x, r => ⟨[], by obtain ⟨t, rfl⟩ := r; exact .str x t⟩
  | _, _, _, .lst (a := a) sq ds, r => by
    cases (show _ = Value.ref a from r)
    obtain ⟨its, rv, ⟨o, n, e, hc, _, hd⟩, _⟩ := I.list sq
    obtain ⟨as, ra⟩ := DatsR.reads I ds rv
    exact ⟨_, .list e hc hd (by simpa using ra)⟩
  | _, _, _, .tup (a := a) sq ds, r => by
    cases (show _ = Value.ref a from r)
    obtain ⟨its, rv, ⟨o, e, hc, n, hd⟩, _⟩ := I.tuple sq
    obtain ⟨as, ra⟩ := DatsR.reads I ds rv
    exact ⟨_, .tuple e hc hd (by simpa using ra)⟩
theorem DatsR.reads (I : Inv X pins σ H s) : ∀ {vs : List V} {ds : List PyData} {us : List Value}, DatsR X.K H vs ds → Vals vs us → ∃ as, ReadsAll s.heap us ds as
  | _, _, _, .nil, .nil => ⟨[], .nil⟩
  | _, _, _, .cons d ds, .cons r rs => by
    obtain ⟨as, ra⟩ := DatR.reads I d r
    obtain ⟨bs, rb⟩ := DatsR.reads I ds rs
    exact ⟨_, .cons ra rb⟩
end
end
section
variable {X : Cx}
def rEqD (K : PySem.W.Frag) : R2 := fun x y H Q => ∃ da db, DatR K H x da ∧ DatR K H y db ∧ shaped da = true ∧ shaped db = true ∧ Q (.bl (PyData.eqv da db)) H
def rNeD (K : PySem.W.Frag) : R2 := fun x y H Q => ∃ da db, DatR K H x da ∧ DatR K H y db ∧ shaped da = true ∧ shaped db = true ∧ Q (.bl (!PyData.eqv da db)) H
theorem op_eqD (hu : X.A.units + 64 < cLine) : OpR X (compareOp .Eq) (rEqD X.K) := by
  intro pins s σ H x y v u Q I rx ry h
  obtain ⟨da, db, ra, rb, ha, hb, q⟩ := h
  obtain ⟨as, r1⟩ := ra.reads I rx
  obtain ⟨bs, r2⟩ := rb.reads I ry
  exact eq_dataH r1 r2 ha hb hu ⟨.bl _, H, I, rfl, q⟩
theorem op_neD (hu : X.A.units + 64 < cLine) : OpR X (compareOp .NotEq) (rNeD X.K) := by
  intro pins s σ H x y v u Q I rx ry h
  obtain ⟨da, db, ra, rb, ha, hb, q⟩ := h
  obtain ⟨as, r1⟩ := ra.reads I rx
  obtain ⟨bs, r2⟩ := rb.reads I ry
  exact ne_dataH r1 r2 ha hb hu ⟨.bl _, H, I, rfl, q⟩
end
end L2
end
section
namespace L2
open PySem PySem.Spec PyProof.Rows
def compN (x : Str) (N : List Str) : List Str := x :: N.map fun y => if y = x then ("" : Str) else y
def CapOk (X : Cx) (x : Str) (cl : List (Str × Addr)) : List (Str × NameKind) → Prop
  | [] => True
  | (n, k) :: r => (((n = x ∨ n = ".0") ∧ k = .local) ∨ (k ≠ .local ∧ k ≠ .cell ∧ k ≠ .free) ∨ (k = .cell ∧ n ≠ x ∧ n ≠ "" ∧ X.env.scope.names.lookup n = some .cell ∧ cl.lookup n = X.env.cells.lookup n)) ∧ CapOk X x cl r
def ClOk (X : Cx) : List (Str × Addr) → Prop
  | [] => True
  | (n, c) :: r => X.env.cells.lookup n = some c ∧ ClOk X r
theorem CapOk.at {X : Cx} {x : Str} {cl : List (Str × Addr)} {y : Str} {k : NameKind} : ∀ {l : List (Str × NameKind)}, CapOk X x cl l → l.lookup y = some k →
    ((y = x ∨ y = ".0") ∧ k = .local) ∨ (k ≠ .local ∧ k ≠ .cell ∧ k ≠ .free) ∨ (k = .cell ∧ y ≠ x ∧ y ≠ "" ∧ X.env.scope.names.lookup y = some .cell ∧ cl.lookup y = X.env.cells.lookup y)
  | [], _, h => by simp at h
  | (n, k') :: r, ⟨h1, h2⟩, h => by
    rw [List.lookup_cons] at h
    split at h
    · rename_i e
      cases h
      rw [beq_iff_eq.mp e]
      exact h1
    · exact CapOk.at h2 h
theorem ClOk.at {X : Cx} {y : Str} {c : Addr} : ∀ {l : List (Str × Addr)}, ClOk X l → l.lookup y = some c → X.env.cells.lookup y = some c
  | [], _, h => by simp at h
  | (n, k') :: r, ⟨h1, h2⟩, h => by
    rw [List.lookup_cons] at h
    split at h
    · rename_i e
      cases h
      rw [beq_iff_eq.mp e]
      exact h1
    · exact ClOk.at h2 h
abbrev cxC (X : Cx) (x : Str) (scope : Scope) (cl : List (Str × Addr)) (C : Addr) (s₂ : Shared) (H₂ : Hp) (fp : List Addr) : Cx :=
  { X with N := compN x X.N, s₀ := s₂, H₀ := H₂, env := compEnvC scope cl C X.env, outer := X.stack, ex := fp, fn := fun _ => false, pn := [], xe := fun _ _ => False }
section
variable {X : Cx} {pins : List (Addr × Obj)} {σ : St} {H₂ : Hp} {s₂ : Shared} {fp : List Addr} {x : Str} {scope : Scope} {cl : List (Str × Addr)} {C : Addr}
theorem okC (I : Inv X pins σ H₂ s₂) (hf : ∀ b ∈ fp, FpOk X pins H₂ b) (ho : ∀ b ∈ fp, ∃ o, s₂.heap.get? b = some o) (hkind : scope.kind = .function) (hc : CapOk X x cl (relabel scope X.env).names) (hcl : ClOk X cl) (hC : s₂.heap.objs.size ≤ C) :
    (cxC X x scope cl C s₂ H₂ fp).Ok where
  mod := I.ok.mod
  kind := hkind
  glob := I.ok.glob
  blt := I.ok.blt
  above := hC
  inj := fun y z c h1 h2 => I.ok.inj y z c (hcl.at h1) (hcl.at h2)
  has := fun y hy => by
    have hy' : (relabel scope X.env).names.lookup y = some .cell ∨ (relabel scope X.env).names.lookup y = some .free := hy
    rcases hy' with h | h
    · rcases hc.at h with ⟨_, z⟩ | ⟨_, z, _⟩ | ⟨_, _, _, z1, z2⟩
      · cases z
      · exact absurd rfl z
      · obtain ⟨c, e⟩ := I.ok.has y (.inl z1)
        exact ⟨c, z2.trans e⟩
    · rcases hc.at h with ⟨_, z⟩ | ⟨_, _, z⟩ | ⟨z, _⟩
      · cases z
      · exact absurd rfl z
      · cases z
  cab := fun y c h _ => absurd (show false = true from h) Bool.false_ne_true
  hd := I.ok.hd
  frames := I.ok.frames
  stk := .inl rfl
  exf := fun b hb => by
    obtain ⟨o, e⟩ := ho b hb
    exact ⟨Nat.ne_of_lt (Nat.lt_of_lt_of_le (Heap.lt_size e) hC), fun y c h => (hf b hb).2.2.2.2.1 y c (hcl.at h)⟩
  bs := I.bs
  bsz := Nat.le_trans I.ok.bsz I.sz
  noex := fun b o e hb => by
    rcases (hf b hb).2.2.2.1 with z | z
    · exact I.ok.noex b o e z
    · exact absurd (Nat.lt_of_lt_of_le (Heap.lt_size (I.ok.bs b o e).1) z) (Nat.lt_irrefl _)
  exfs := fun b hb z => by
    rcases List.mem_cons.mp (I.stkSub b z) with q | q
    · exact (hf b hb).2.1 q
    · exact (hf b hb).2.2.1 q
  funs := I.stack
  frf := I.stkFree
theorem invC {h₁ : Heap} {tk : Nat} (I : Inv X pins σ H₂ s₂) (hf : ∀ b ∈ fp, FpOk X pins H₂ b) (ho : ∀ b ∈ fp, ∃ o, s₂.heap.get? b = some o) (hkind : scope.kind = .function) (hc : CapOk X x cl (relabel scope X.env).names) (hcl : ClOk X cl) (hx0 : x ≠ "") (hdot : (".0" : Str) ∉ X.N)
    (hC : C = s₂.heap.objs.size + 1) (hns : h₁.Ns C fun _ => none) (old : ∀ b o, s₂.heap.get? b = some o → h₁.get? b = some o) (hD : ∃ n, h₁.get? s₂.heap.objs.size = some { cls := .type "list", data := .seq #[] n }) :
    Inv (cxC X x scope cl C s₂ H₂ fp) [] (none :: σ) (upd H₂ s₂.heap.objs.size (.lst [])) { s₂ with heap := h₁, toks := tk } := by
  have hn : H₂ s₂.heap.objs.size = none := I.hok.fresh (Nat.le_refl _)
  refine ⟨okC I hf ho hkind hc hcl (by rw [hC]; exact Nat.le_succ _), rfl, I.bare, Un.laid old (Nat.le_refl _) hn, ⟨_, hns, fun i y v h1 h2 h3 => ?_⟩, fun y c e => ?_, ?_, fun y c e => ?_, fun p hp => absurd (show p ∈ ([] : List (Addr × Obj)) from hp) (by simp), ?_, ?_⟩
  · cases i with
    | zero =>
      have h2' : some (none : Option V) = some (some v) := h2
      cases h2'
    | succ i =>
      have h1' : (X.N.map fun y => if y = x then ("" : Str) else y)[i]? = some y := h1
      have h2' : σ[i]? = some (some v) := h2
      rw [List.getElem?_map] at h1'
      cases e : X.N[i]? with
      | none => rw [e] at h1'; cases h1'
      | some z =>
        rw [e] at h1'
        have h1'' : (if z = x then ("" : Str) else z) = y := Option.some.inj h1'
        have cap : ∀ k, (relabel scope X.env).names.lookup y = some k → k = .local ∨ k = .cell ∨ k = .free → X.env.scope.names.lookup y = some .cell ∧ cl.lookup y = X.env.cells.lookup y ∧ k = .cell ∧ z = y := fun k hk hv => by
          rcases hc.at hk with ⟨q, _⟩ | ⟨q1, q2, q3⟩ | ⟨q0, q1, q2, q3, q4⟩
          · exfalso
            rcases q with q | q
            · subst q
              by_cases hz : z = y
              · rw [if_pos hz] at h1''
                exact hx0 h1''.symm
              · rw [if_neg hz] at h1''
                exact hz h1''
            · subst q
              by_cases hz : z = x
              · rw [if_pos hz] at h1''
                exact absurd h1'' (by decide +kernel)
              · rw [if_neg hz] at h1''
                subst h1''
                exact hdot (List.mem_of_getElem? e)
          · rcases hv with q | q | q
            · exact absurd q q1
            · exact absurd q q2
            · exact absurd q q3
          · refine ⟨q3, q4, q0, ?_⟩
            by_cases hz : z = x
            · rw [if_pos hz] at h1''
              exact absurd h1''.symm q2
            · rw [if_neg hz] at h1''
              exact h1''
        have h3' : (relabel scope X.env).names.lookup y = some .local ∨ (relabel scope X.env).names.lookup y = some .cell ∨ (relabel scope X.env).names.lookup y = some .free := h3
        obtain ⟨k, hk, hv⟩ : ∃ k, (relabel scope X.env).names.lookup y = some k ∧ (k = .local ∨ k = .cell ∨ k = .free) := by
          rcases h3' with q | q | q
          · exact ⟨_, q, .inl rfl⟩
          · exact ⟨_, q, .inr (.inl rfl)⟩
          · exact ⟨_, q, .inr (.inr rfl)⟩
        obtain ⟨c1, c2, c3, rfl⟩ := cap k hk hv
        subst c3
        obtain ⟨m, _, hl⟩ := I.loc
        obtain ⟨u, r, l⟩ := hl i z v e h2' (.inr (.inl c1))
        refine ⟨u, r, ?_⟩
        rcases l with ⟨q, _⟩ | ⟨_, c, q1, q2⟩
        · have q' : X.env.scope.names.lookup z = some .local := q
          rw [c1] at q'
          cases q'
        · refine .inr ⟨.inl hk, c, c2.trans q1, ?_⟩
          obtain ⟨oc, g1, g2⟩ := q2
          exact ⟨oc, old _ _ g1, g2⟩
  · obtain ⟨v, oc, g1, g2⟩ := I.cell y c (hcl.at e)
    exact ⟨v, oc, old _ _ g1, g2⟩
  · show (upd H₂ s₂.heap.objs.size (.lst [])) C = none
    rw [upd_ne (by rw [hC]; exact Nat.ne_of_gt (Nat.lt_succ_self _))]
    exact I.hok.fresh (by rw [hC]; exact Nat.le_succ _)
  · obtain ⟨v, oc, g1, g2⟩ := I.cell y c (hcl.at e)
    rw [upd_ne (Nat.ne_of_lt (Heap.lt_size g1))]
    exact I.freeC y c (hcl.at e)
  · obtain ⟨n, e⟩ := hD
    exact I.hok.laid old (Nat.le_refl _) ⟨Nat.zero_le _, [], n, .nil, e⟩
  · show (none :: σ).length = (compN x X.N).length
    simp [compN, I.len]
theorem fpC (I : Inv X pins σ H₂ s₂) (hf : ∀ b ∈ fp, FpOk X pins H₂ b) (ho : ∀ b ∈ fp, ∃ o, s₂.heap.get? b = some o) (hcl : ClOk X cl) (hC : s₂.heap.objs.size ≤ C) {H : Hp} (hn : ∀ b ∈ fp, H b = none) : ∀ b ∈ fp, FpOk (cxC X x scope cl C s₂ H₂ fp) [] H b := fun b hb => by
  obtain ⟨o, e⟩ := ho b hb
  refine ⟨hn b hb, Nat.ne_of_lt (Nat.lt_of_lt_of_le (Heap.lt_size e) hC), fun z => ?_, .inl hb, fun y c h => (hf b hb).2.2.2.2.1 y c (hcl.at h), fun p hp => absurd (show p ∈ ([] : List (Addr × Obj)) from hp) (by simp)⟩
  rcases List.mem_cons.mp (I.stkSub b z) with q | q
  · exact (hf b hb).2.1 q
  · exact (hf b hb).2.2.1 q
end
theorem compLoop_go {prog : Program} {w : World} {A : Around} {R : Result → Shared → Prop} {s : Shared} {elt target iter : Expr} {ifs : List Expr} {scope : Scope} {pos : Pos} {it acc : Value} {env : Env} (I : Nat → Shared → Prop)
    (turn : ∀ n s, I n s → wpAny (model prog w) A (pyNext it) (fun r s₁ => match r with
      | none => R (.ok .next) s₁
      | some v => wpAny (model prog w) A (letOwnedTupleGo target it v) (fun _ s₀ => wpAny (model prog w) A (assign target env v) (fun _ s₂ =>
          wpAny (model prog w) A (forIn ifs true fun c r => if r = true then do let ok ← isTrue c env (eval c env); pure (ForInStep.yield ok) else pure (ForInStep.yield r)) (fun ok s₃ =>
            if ok = true then wpAny (model prog w) A (eval elt env) (fun x s₄ =>
              wpAny (model prog w) A (call (.builtin "list.append") [acc, x]) (fun _ s₅ => ∃ m, m < n ∧ I m s₅) (fun _ _ => False) s₄) (fun _ _ => False) s₃
            else ∃ m, m < n ∧ I m s₃) (fun _ _ => False) s₂) (fun _ _ => False) s₀) (fun _ _ => False) s₁) (fun _ _ => False) s)
    (n : Nat) (h : I n s) :
    codeAny (model prog w) A (.compLoop (.ListComp elt [⟨target, iter, ifs, 0⟩] scope pos) 0 it acc env) R s := by
  refine codeAny_loop rfl I (fun n s hI => ?_) n h
  show wpAny _ A ((compTurn (.ListComp elt [⟨target, iter, ifs, 0⟩] scope pos) 0 it acc env).onRaise (fun x => do noteFrame x env; theTreesLotGoes x)) _ _ s
  refine wpAny_noted ?_
  refine wpAny_noRaise ?_
  rw [compTurn_list]
  refine wpAny_bind (wpAny_standAt (wpAny_bind (wpAny_mono (turn n s hI) (fun r s₁ h₁ => ?_) fun _ _ h' => h')))
  cases r with
  | none => exact wpAny_pure h₁
  | some v =>
    refine wpAny_bind (wpAny_mono h₁ (fun _ s₀ h₀ => wpAny_bind (wpAny_mono h₀ (fun _ s₂ h₂ => wpAny_bind (wpAny_mono h₂ (fun ok s₃ h₃ => ?_) fun _ _ h' => h')) fun _ _ h' => h')) fun _ _ h' => h')
    cases ok with
    | false => exact wpAny_pure ⟨rfl, h₃⟩
    | true =>
      exact wpAny_bind (wpAny_bind (wpAny_mono h₃ (fun x s₄ h₄ => wpAny_bind (wpAny_mono h₄ (fun _ s₅ h₅ => wpAny_pure (wpAny_pure ⟨rfl, h₅⟩)) fun _ _ h' => h')) fun _ _ h' => h'))
inductive Ifs (PTc : Expr → TT → Prop) : List Expr → TT → Prop
  | nil : Ifs PTc [] (fun _ H Q => Q true H)
  | one {c : Expr} {t : TT} : PTc c t → Ifs PTc [c] t
def tComp (wi : TI) (tc : TT) (te : TE) : TE := fun σ H Q => wi σ H fun J H1 => ∀ D, H1 D = none → ∃ W : Nat → Nat → List V → Hp → Prop, (∃ m, W 0 m [] (upd H1 D (.lst []))) ∧ ∀ i m ys H, W i m ys H → H D = some (.lst ys) ∧
  ((J.stop i H ∧ Q (.ref D) H) ∨ (J.go i H ∧ ∃ N : List V → Hp → Prop, (∀ zs H', N zs H' → ∃ m', m' < m ∧ W (i + 1) m' zs H') ∧ ∀ x H', J.yld i H x H' → tc (some x :: σ) H' fun b H2 => if b = true then te (some x :: σ) H2 fun y H3 => H3 D = some (.lst ys) ∧ ys.length < sizeLine ∧ N (ys ++ [y]) (upd H3 D (.lst (ys ++ [y])))
    else N ys H2))
section
variable {X : Cx} {x : Str} {px pos : Pos} {scope : Scope} {cl : List (Str × Addr)} {elt iter : Expr} {ifs : List Expr} {wi : TI} {tc : TT} {te : TE}
theorem comp_block (hcalm : X.calm = true) (hkind : scope.kind = .function) (hnc : ∀ y ∈ scope.names, y.2 ≠ .cell) (hc : CapOk X x cl (relabel scope X.env).names) (hcl : ClOk X cl) (hx0 : x ≠ "") (hdot : (".0" : Str) ∉ X.N) (hxl : scope.names.lookup x = some .local) (hN : (compN x X.N).Nodup)
    (ht : ∀ C s₂ H₂ fp, Ifs (PT (cxC X x scope cl C s₂ H₂ fp)) ifs tc) (he : ∀ C s₂ H₂ fp, PE (cxC X x scope cl C s₂ H₂ fp) elt te)
    {pins : List (Addr × Obj)} {σ : St} {H₂ : Hp} {s₂ : Shared} {Q : VK} {it : Addr} {fp : List Addr} {tn : Nat → Heap → Prop} {J : It} {RR : Value → Addr → Result → Shared → Prop} {E : Value → Shared → Prop} (I : Inv X pins σ H₂ s₂) (T : Turn X.prog X.w X.K (.Name x px) J fp it tn) (st : tn 0 s₂.heap)
    (hf : ∀ b ∈ fp, FpOk X pins H₂ b)
    (hq : ∀ D, H₂ D = none → ∃ W : Nat → Nat → List V → Hp → Prop, (∃ m, W 0 m [] (upd H₂ D (.lst []))) ∧ ∀ i m ys H, W i m ys H → H D = some (.lst ys) ∧
      ((J.stop i H ∧ Q (.ref D) H) ∨ (J.go i H ∧ ∃ N : List V → Hp → Prop, (∀ zs H', N zs H' → ∃ m', m' < m ∧ W (i + 1) m' zs H') ∧ ∀ x H', J.yld i H x H' → tc (some x :: σ) H' fun b H2 => if b = true then te (some x :: σ) H2 fun y H3 => H3 D = some (.lst ys) ∧ ys.length < sizeLine ∧ N (ys ++ [y]) (upd H3 D (.lst (ys ++ [y])))
        else N ys H2)))
    (hRR : ∀ D C s' H', Inv X pins σ H' s' → Q (.ref D) H' → H' C = none → C ≠ X.env.locals → X.s₀.heap.objs.size ≤ C → (∀ y c, X.env.cells.lookup y = some c → c ≠ C) → (∀ p ∈ X.pn ++ pins, p.1 ≠ C) → (∃ m, s'.heap.Ns C m) → RR (.ref D) C (.ok .next) s') :
    wpAny (model X.prog X.w) X.A (newList []) (fun acc s₃ => wpAny (model X.prog X.w) X.A (newFunctionEnv scope X.env.globals cl [] X.env.qual none .none (some X.env)) (fun cenv s₄ =>
      codeAny (model X.prog X.w) X.A (.compStart (.ListComp elt [⟨.Name x px, iter, ifs, 0⟩] scope pos) 0 (.ref it) acc { cenv with scope := relabel scope X.env }) (RR acc cenv.locals) s₄) E s₃) E s₂ := by
  refine wpAny_newObj_type (wpAny_newFunctionEnv hnc (by intro y hy; simp at hy) (fun h₁ hns₁ hsb₁ => ?_) hkind)
  dsimp only at hns₁ hsb₁ ⊢
  have ho : ∀ b ∈ fp, ∃ o, s₂.heap.get? b = some o := fun b hb => let ⟨o, e, _⟩ := T.obj 0 _ st b hb; ⟨o, e⟩
  generalize hH2 : s₂.heap.push { cls := .type "list", dict := none, data := .seq ([] : List Value).toArray } = P2 at hns₁ hsb₁ ⊢
  have hC : P2.objs.size = s₂.heap.objs.size + 1 := by rw [← hH2, Heap.size_push]
  have old : ∀ b o, s₂.heap.get? b = some o → h₁.get? b = some o := fun b o e => hsb₁.extBut b o (by rw [hC]; exact Nat.ne_of_lt (Nat.lt_succ_of_lt (Heap.lt_size e))) (Heap.get?_push_of_some _ (hH2 ▸ Heap.get?_push_of_some _ e))
  have hD : ∃ n, h₁.get? s₂.heap.objs.size = some { cls := .type "list", data := .seq #[] n } := ⟨_, hsb₁.extBut _ _ (by rw [hC]; exact Nat.ne_of_lt (Nat.lt_succ_self _)) (Heap.get?_push_of_some _ (hH2 ▸ Heap.get?_push_size _ rfl))⟩
  have hns' : h₁.Ns P2.objs.size fun _ => none := by
    have e : (fun x : Str => ([] : List (Str × Value)).reverse.lookup x) = fun _ => none := by funext y; rfl
    rw [← e]
    exact hns₁
  have I0 := invC (tk := s₂.toks + ([] : List (Str × Value)).length) I hf ho hkind hc hcl hx0 hdot hC hns' old hD
  obtain ⟨W, ⟨m0, w0⟩, turn⟩ := hq _ (I.hok.fresh (Nat.le_refl _))
  have hCs : X.s₀.heap.objs.size ≤ P2.objs.size := by rw [hC]; exact Nat.le_succ_of_le I.sz
  have loop : ∀ s₃ : Shared, s₃ = { s₂ with heap := h₁, toks := s₂.toks + ([] : List (Str × Value)).length } →
      codeAny (model X.prog X.w) X.A (.compLoop (.ListComp elt [⟨.Name x px, iter, ifs, 0⟩] scope pos) 0 (.ref it) (.ref s₂.heap.objs.size) (compEnvC scope cl P2.objs.size X.env)) (RR (.ref s₂.heap.objs.size) P2.objs.size) s₃ := by
    rintro s₃ rfl
    refine compLoop_go (fun n s' => ∃ i ys v H, Inv (cxC X x scope cl P2.objs.size s₂ H₂ fp) [] (v :: σ) H s' ∧ tn i s'.heap ∧ (∀ b ∈ fp, H b = none) ∧ W i n ys H) ?_ m0
      ⟨0, [], none, _, I0, T.keep _ _ _ st fun b _ o e => old b o e, fun b hb => by rw [upd_ne (by obtain ⟨o, e⟩ := ho b hb; exact Nat.ne_of_lt (Heap.lt_size e))]; exact (hf b hb).1, w0⟩
    rintro n s' ⟨i, ys, v, H, I', st', fr', w'⟩
    have fpn : ∀ {H : Hp}, (∀ b ∈ fp, H b = none) → ∀ b ∈ fp, FpOk (cxC X x scope cl P2.objs.size s₂ H₂ fp) [] H b := fun hn => fpC I hf ho hcl (by rw [hC]; exact Nat.le_succ _) hn
    obtain ⟨hDl, go⟩ := turn i n ys H w'
    rcases go with ⟨stop, qn⟩ | ⟨go, Nx, hNx, step⟩
    · refine wpAny_mono (T.done (cxC X x scope cl P2.objs.size s₂ H₂ fp) rfl rfl rfl hcalm i [] s' (v :: σ) H (fun _ _ => False) I' (fpn fr') st' stop) (fun r s4 z => ?_) fun _ _ z => z
      obtain ⟨hr, I4⟩ := z
      subst hr
      obtain ⟨m4, hm4, _⟩ := I4.loc
      refine hRR _ _ s4 H (I.call' I4.os I4.base I4.hok I4.bare fun b hb => ?_) qn I4.free ?_ hCs (fun y c e z => ?_) (fun p hp z => ?_) ⟨m4, hm4⟩
      · obtain ⟨f0, f1, f2, f3, f4, f5⟩ := hf b hb
        exact ⟨f3, f1, f4, f5⟩
      · rw [hC]
        exact Nat.ne_of_gt (Nat.lt_succ_of_lt I.lt)
      · obtain ⟨v', oc, g1, _⟩ := I.cell y c e
        have := Heap.lt_size g1
        rw [z, hC] at this
        exact absurd (Nat.lt_of_succ_lt this) (Nat.lt_irrefl _)
      · have := Heap.lt_size (I.pin p hp).1
        rw [z, hC] at this
        exact absurd (Nat.lt_of_succ_lt this) (Nat.lt_irrefl _)
    · refine wpAny_mono (T.item (cxC X x scope cl P2.objs.size s₂ H₂ fp) rfl rfl rfl hcalm i [] s' (v :: σ) H (fun _ _ => False) I' (fpn fr') st' go) (fun r s4 z => ?_) fun _ _ z => z
      obtain ⟨u, hr, h4⟩ := z
      subst hr
      refine wpAny_mono h4 (fun _ s5 z => ?_) fun _ _ z => z
      obtain ⟨y, H5, I5, r5, y5, st5, fr5⟩ := z
      have I5' := I5.pinned (fpn fr5) (T.obj _ _ st5)
      have hxl' : (relabel scope X.env).names.lookup x = some .local := lookup_relabel_local hxl
      have hs := step y H5 y5
      refine wpAny_mono (pg_name (X := cxC X x scope cl P2.objs.size s₂ H₂ fp) (i := 0) (pos := px) hN rfl (.inl hxl') (.inr hxl') _ s5 (v :: σ) H5 y u (fun σ6 H6 => σ6 = some y :: σ ∧ H6 = H5) I5' r5 ⟨rfl, rfl⟩) (fun _ s6 z => ?_) fun _ _ z => z
      obtain ⟨σ6, H6, I6, rfl, rfl⟩ := z
      have again : ∀ {H7 : Hp} {s7 : Shared} {zs : List V}, Inv (cxC X x scope cl P2.objs.size s₂ H₂ fp) ([] ++ pinsAt fp s5.heap) (some y :: σ) H7 s7 → Nx zs H7 →
          ∃ m, m < n ∧ ∃ i ys v H, Inv (cxC X x scope cl P2.objs.size s₂ H₂ fp) [] (v :: σ) H s7 ∧ tn i s7.heap ∧ (∀ b ∈ fp, H b = none) ∧ W i m ys H := fun {H7 s7 zs} I7 w7 => by
        obtain ⟨m', hm, w7⟩ := hNx _ _ w7
        refine ⟨m', hm, i + 1, zs, some y, H7, I7.unpinned, T.keep _ _ _ st5 fun b hb o e => (I7.pin (b, o) (List.mem_append_right _ (List.mem_append_right _ (mem_pinsAt hb e)))).1, fun b hb => ?_, w7⟩
        obtain ⟨o, e, d⟩ := T.obj _ _ st5 b hb
        exact (I7.pin (b, o) (List.mem_append_right _ (List.mem_append_right _ (mem_pinsAt hb e)))).2.1
      have elts : ∀ {H7 : Hp} {s7 : Shared}, Inv (cxC X x scope cl P2.objs.size s₂ H₂ fp) ([] ++ pinsAt fp s5.heap) (some y :: σ) H7 s7 →
          (te (some y :: σ) H7 fun y' H3 => H3 s₂.heap.objs.size = some (.lst ys) ∧ ys.length < sizeLine ∧ Nx (ys ++ [y']) (upd H3 s₂.heap.objs.size (.lst (ys ++ [y'])))) →
          wpAny (model X.prog X.w) X.A (eval elt (compEnvC scope cl P2.objs.size X.env)) (fun xv s₄ =>
              wpAny (model X.prog X.w) X.A (call (.builtin "list.append") [.ref s₂.heap.objs.size, xv]) (fun _ s₅ => ∃ m, m < n ∧ ∃ i ys v H, Inv (cxC X x scope cl P2.objs.size s₂ H₂ fp) [] (v :: σ) H s₅ ∧ tn i s₅.heap ∧ (∀ b ∈ fp, H b = none) ∧ W i m ys H) (fun _ _ => False) s₄) (fun _ _ => False) s7 := fun {H7 s7} I7 q7 => by
        refine wpAny_mono (he P2.objs.size s₂ H₂ fp _ s7 (some y :: σ) H7 _ I7 q7) (fun u8 s8 z => ?_) fun _ _ z => z
        obtain ⟨y', H8, I8, r8, hD8, hz8, w8⟩ := z
        refine wpAny_mono (mt_append (X := cxC X x scope cl P2.objs.size s₂ H₂ fp) _ s8 (some y :: σ) H8 (.ref s₂.heap.objs.size) [y'] (.ref s₂.heap.objs.size) [u8] (fun _ H9 => H9 = upd H8 s₂.heap.objs.size (.lst (ys ++ [y']))) I8 rfl (.cons r8 .nil) ⟨_, ys, y', rfl, rfl, hD8, hz8, rfl⟩) (fun _ s9 z => ?_) fun _ _ z => z
        obtain ⟨_, H9, I9, _, rfl⟩ := z
        exact again I9 w8
      cases ht P2.objs.size s₂ H₂ fp with
      | nil => exact wpAny_tests_nil (elts I6 hs)
      | one hc1 =>
        refine wpAny_tests_one (wpAny_mono (hc1 _ s6 (some y :: σ) _ _ I6 hs) (fun b s7 z => ?_) fun _ _ z => z)
        obtain ⟨H7, I7, q7⟩ := z
        cases b with
        | true => exact elts I7 q7
        | false => exact again I7 q7
  exact codeAny_compStart_list (loop _ rfl) (T.self _ 0 _ _ _ (T.keep _ _ _ st fun b _ o e => old b o e) (loop _ rfl))
theorem pe_comp (hcalm : X.calm = true) (hi : PI X (.Name x px) iter wi) (hclos : closureFor scope X.env = pure cl) (hc : CapOk X x cl (relabel scope X.env).names) (hcl : ClOk X cl)
    (ht : ∀ C s₂ H₂ fp, Ifs (PT (cxC X x scope cl C s₂ H₂ fp)) ifs tc) (he : ∀ C s₂ H₂ fp, PE (cxC X x scope cl C s₂ H₂ fp) elt te) (hN : (compN x X.N).Nodup)
    (hkind : scope.kind = .function := by rfl) (hnc : ∀ y ∈ scope.names, y.2 ≠ .cell := by decide +kernel) (hnm : ∀ y ∈ scope.names, y.2 = .local → scope.names.lookup y.1 = some .local := by decide +kernel) (hx0 : x ≠ "" := by decide +kernel) (hdot : (".0" : Str) ∉ X.N := by decide +kernel) (hxl : scope.names.lookup x = some .local := by rfl)
    (hs : ∀ x, foldedSetIterable iter X.env x = pure x := by intro _; rfl) : PE X (.ListComp elt [⟨.Name x px, iter, ifs, 0⟩] scope pos) (tComp wi tc te) := by
  intro pins s σ H Q I h
  rw [eval_ListComp]
  refine wpAny_comprehension_free (use := none) rfl hs hclos hkind hnm (wpAny_mono (hi pins s σ H _ I h) (fun xv s₁ h₁ => wpAny_mono h₁ (fun itv s₂ h₂ => ?_) fun _ _ e => e) fun _ _ e => e)
  obtain ⟨it, fp, tn, J, H2, e, I2, T, st2, f2, hq⟩ := h₂
  subst e
  refine comp_block (RR := fun acc C => compPost (model X.prog X.w) X.A X.xe none (EP X pins σ Q) acc C) hcalm hkind hnc hc hcl hx0 hdot hxl hN ht he I2 T st2 f2 hq fun D C s' H' I' q' n1 n2 n3 n4 n5 n6 => ?_
  obtain ⟨m, hm⟩ := n6
  refine ⟨m, hm, fun h' hs' => ?_⟩
  exact ⟨.ref D, H', I'.turned (t' := s'.toks) (fun b o hb e => (hs'.2 b hb).trans e) n1 n2 (.inr n3) n4 n5, rfl, q'⟩
end
abbrev tYes : TT := fun _ H Q => Q true H
theorem comp_list {K : PySem.W.Frag} {a : Addr} {xs : List V} {tc : TT} {te : TE} {σ : St} {H1 : Hp} {Q : Addr → Hp → Prop} (Pv : Addr → Nat → List V → Hp → Prop) (h0 : ∀ D, H1 D = none → Pv D 0 [] (upd H1 D (.lst []))) (hl : ∀ D i ys H, i ≤ xs.length → Pv D i ys H → SqL K H a xs ∧ H D = some (.lst ys))
    (hs : ∀ D i x ys H, xs[i]? = some x → Pv D i ys H → tc (some x :: σ) H fun b H2 => if b = true then te (some x :: σ) H2 fun y H3 => H3 D = some (.lst ys) ∧ ys.length < sizeLine ∧ Pv D (i + 1) (ys ++ [y]) (upd H3 D (.lst (ys ++ [y]))) else Pv D (i + 1) ys H2)
    (hd : ∀ D ys H, Pv D xs.length ys H → Q D H) :
    ∀ D, H1 D = none → ∃ W : Nat → Nat → List V → Hp → Prop, (∃ m, W 0 m [] (upd H1 D (.lst []))) ∧ ∀ i m ys H, W i m ys H → H D = some (.lst ys) ∧
      (((Itl K a).stop i H ∧ Q D H) ∨ ((Itl K a).go i H ∧ ∃ N : List V → Hp → Prop, (∀ zs H', N zs H' → ∃ m', m' < m ∧ W (i + 1) m' zs H') ∧ ∀ x H', (Itl K a).yld i H x H' → tc (some x :: σ) H' fun b H2 => if b = true then te (some x :: σ) H2 fun y H3 => H3 D = some (.lst ys) ∧ ys.length < sizeLine ∧ N (ys ++ [y]) (upd H3 D (.lst (ys ++ [y])))
        else N ys H2)) := fun D hD => by
  refine ⟨fun i m ys H => m = xs.length - i ∧ i ≤ xs.length ∧ Pv D i ys H, ⟨xs.length, by simp, Nat.zero_le _, h0 D hD⟩, ?_⟩
  rintro i m ys H ⟨rfl, hi, p⟩
  obtain ⟨q, qd⟩ := hl D i ys H hi p
  refine ⟨qd, ?_⟩
  by_cases hlt : i < xs.length
  · refine .inr ⟨⟨xs, xs[i], q, by simp [hlt]⟩, Pv D (i + 1), fun zs H' p' => ⟨xs.length - (i + 1), by omega, rfl, hlt, p'⟩, fun x H' y => ?_⟩
    obtain ⟨e, y⟩ := y
    subst e
    exact hs D i x ys _ (y xs q) p
  · have e : i = xs.length := by omega
    subst e
    exact .inl ⟨⟨xs, q, Nat.le_refl _⟩, hd D ys H p⟩
theorem comp_range {lo : Int} {n : Nat} {tc : TT} {te : TE} {σ : St} {H1 : Hp} {Q : Addr → Hp → Prop} (Pv : Addr → Nat → List V → Hp → Prop) (h0 : ∀ D, H1 D = none → Pv D 0 [] (upd H1 D (.lst []))) (hl : ∀ D i ys H, i ≤ n → Pv D i ys H → H D = some (.lst ys))
    (hs : ∀ D i ys H, i < n → Pv D i ys H → tc (some (.int (lo + i)) :: σ) H fun b H2 => if b = true then te (some (.int (lo + i)) :: σ) H2 fun y H3 => H3 D = some (.lst ys) ∧ ys.length < sizeLine ∧ Pv D (i + 1) (ys ++ [y]) (upd H3 D (.lst (ys ++ [y]))) else Pv D (i + 1) ys H2)
    (hd : ∀ D ys H, Pv D n ys H → Q D H) :
    ∀ D, H1 D = none → ∃ W : Nat → Nat → List V → Hp → Prop, (∃ m, W 0 m [] (upd H1 D (.lst []))) ∧ ∀ i m ys H, W i m ys H → H D = some (.lst ys) ∧
      (((Itr lo n).stop i H ∧ Q D H) ∨ ((Itr lo n).go i H ∧ ∃ N : List V → Hp → Prop, (∀ zs H', N zs H' → ∃ m', m' < m ∧ W (i + 1) m' zs H') ∧ ∀ x H', (Itr lo n).yld i H x H' → tc (some x :: σ) H' fun b H2 => if b = true then te (some x :: σ) H2 fun y H3 => H3 D = some (.lst ys) ∧ ys.length < sizeLine ∧ N (ys ++ [y]) (upd H3 D (.lst (ys ++ [y])))
        else N ys H2)) := fun D hD => by
  refine ⟨fun i m ys H => m = n - i ∧ i ≤ n ∧ Pv D i ys H, ⟨n, by simp, Nat.zero_le _, h0 D hD⟩, ?_⟩
  rintro i m ys H ⟨rfl, hi, p⟩
  refine ⟨hl D i ys H hi p, ?_⟩
  by_cases hlt : i < n
  · refine .inr ⟨hlt, Pv D (i + 1), fun zs H' p' => ⟨n - (i + 1), by omega, rfl, hlt, p'⟩, fun x H' y => ?_⟩
    obtain ⟨e, y⟩ := y
    subst e y
    exact hs D i ys _ hlt p
  · have e : i = n := by omega
    subst e
    exact .inl ⟨Nat.le_refl _, hd D ys H p⟩
end L2
end
section
namespace L2
open PySem PySem.Spec PyProof.Rows
theorem iteTS {c : Bool} {A B : Prop} (hc : c = true) (h : A) : if c = true then A else B := by
  rw [if_pos hc]
  exact h
theorem iteFS {c : Bool} {A B : Prop} (hc : c = false) (h : B) : if c = true then A else B := by
  rw [hc]
  exact iteF h
theorem call_allB {X : Cx} (hc : X.calm = true) : CallR X (.builtin "all") (fun xs H Q => ∃ (l : Addr) (bs : List Bool), xs = [.ref l] ∧ H l = some (.lst (bs.map V.bl)) ∧ Q (.bl (bs.all id)) H) := by
  intro pins s σ H xs us Q I r h
  obtain ⟨l, bs, rfl, hl, q⟩ := h
  obtain ⟨u, rfl, ru⟩ := r.one
  obtain rfl : u = Value.ref l := ru
  obtain ⟨its, rv, p, hz⟩ := I.list (SqL.of hl)
  have hlt : l < s.heap.objs.size := by obtain ⟨_, _, e, _⟩ := p; exact Heap.lt_size e
  refine call_all_walk (wpAny_pyIter_list p.isList ?_)
  refine ⟨s.heap.objs.size, [s.heap.objs.size, l], [s.heap.objs.size], its.toArray.size, _, _, fun i => (bs[i]?).getD true, rfl, Walks.list (A := X.A.in1) (I.ok.hd hc) _ l (Nat.ne_of_lt hlt) its.toArray,
    ⟨⟨_, Heap.get?_push_size _ rfl, rfl, rfl⟩, p.isList.push _⟩, fun i v s' Q' E' hP hQ => ?_, fun h' tk hk => ?_⟩
  · have hi : its[i]? = some v := by simpa using hP
    have hlen := rv.length
    have hib : i < its.length := (List.getElem?_eq_some_iff.mp hi).1
    obtain ⟨u, e1, e2⟩ := rv.get (i := i) (x := V.bl ((bs[i]?).getD true)) (by
      rw [List.getElem?_map, List.getElem?_eq_getElem (by rw [List.length_map] at hlen; omega)]
      rfl)
    rw [hi] at e1
    cases e1
    cases e2
    exact wpAny_truthy_bool hQ
  · have e : ((List.range its.toArray.size).all fun i => (bs[i]?).getD true) = bs.all id := by
      have hlen := rv.length
      rw [List.length_map] at hlen
      rw [List.size_toArray, ← hlen]
      exact PyProof.Rows.LSm.range_all bs
    rw [e]
    exact ⟨.bl _, H, I.kept (t' := tk) fun b o z => hk b o (by have := Heap.lt_size z; intro q; rw [List.mem_singleton] at q; rw [q] at this; exact Nat.lt_irrefl _ this) (Heap.get?_push_of_some _ z), rfl, q⟩
theorem isLst_of {H : Hp} {p : Addr} {xs : List V} (h : H p = some (.lst xs)) : isLst H (.ref p) = true := by
  unfold isLst
  dsimp only
  rw [h]
abbrev Pgs := List (Option (Addr × List Int))
def pgV : Option (Addr × List Int) → V
  | none => .non
  | some (p, _) => .ref p
def cont (ps : Pgs) : List (Option (List Int)) := ps.map (Option.map (·.2))
structure Pg (H : Hp) (a : Addr) (ps : Pgs) : Prop where
  top : H a = some (.lst (ps.map pgV))
  each : ∀ (i : Nat) (p : Addr) (ws : List Int), ps[i]? = some (some (p, ws)) → H p = some (.lst (ws.map V.int)) ∧ p ≠ a
  nd : ∀ (i j : Nat) (p : Addr) (ws ws' : List Int), ps[i]? = some (some (p, ws)) → ps[j]? = some (some (p, ws')) → i = j
def At (a : Addr) (ps : Pgs) (b : Addr) : Prop := b = a ∨ ∃ (i : Nat) (ws : List Int), ps[i]? = some (some (b, ws))
theorem Pg.same {H H' : Hp} {a : Addr} {ps : Pgs} (g : Pg H a ps) (s : Same H H') : Pg H' a ps := ⟨s _ _ g.top, fun i p ws e => ⟨s _ _ (g.each i p ws e).1, (g.each i p ws e).2⟩, g.nd⟩
theorem Pg.keep {H H' : Hp} {a : Addr} {ps : Pgs} (g : Pg H a ps) (s : ∀ b, At a ps b → H' b = H b) : Pg H' a ps :=
  ⟨(s a (.inl rfl)).trans g.top, fun i p ws e => ⟨(s p (.inr ⟨i, ws, e⟩)).trans (g.each i p ws e).1, (g.each i p ws e).2⟩, g.nd⟩
theorem Pg.at {H : Hp} {a b : Addr} {ps : Pgs} (g : Pg H a ps) (h : At a ps b) : ∃ o, H b = some o := by
  rcases h with rfl | ⟨i, ws, e⟩
  · exact ⟨_, g.top⟩
  · exact ⟨_, (g.each i b ws e).1⟩
theorem atI_pg {ps : Pgs} {i : Nat} (h : i < ps.length) : ∃ o, ps[i]? = some o ∧ atI (ps.map pgV) (i : Int) = some (pgV o) := by
  refine ⟨ps[i], List.getElem?_eq_getElem h, atI_nat ?_⟩
  rw [List.getElem?_map, List.getElem?_eq_getElem h]
  rfl
theorem atI_word {ws : List Int} {j : Nat} (h : j < ws.length) : atI (ws.map V.int) (j : Int) = some (.int (ws.getD j 0)) := by
  refine atI_nat ?_
  rw [List.getElem?_map, List.getElem?_eq_getElem h, List.getD_eq_getElem?_getD, List.getElem?_eq_getElem h]
  rfl
theorem ixN_nat {n j : Nat} (h : j < n) : ixN n (j : Int) = some j := by
  unfold ixN
  rw [if_pos (Int.natCast_nonneg j), if_pos (by omega), Int.toNat_natCast]
def setW (ps : Pgs) (i j : Nat) (w : Int) : Pgs := ps.set i ((ps[i]?).getD none |>.map fun q => (q.1, q.2.set j w))
theorem setW_at {ps : Pgs} {i j : Nat} {w : Int} {p : Addr} {ws : List Int} (h : ps[i]? = some (some (p, ws))) : setW ps i j w = ps.set i (some (p, ws.set j w)) := by
  unfold setW
  rw [h]
  rfl
theorem setW_len (ps : Pgs) (i j : Nat) (w : Int) : (setW ps i j w).length = ps.length := List.length_set ..
theorem Pg.setW {H : Hp} {a : Addr} {ps : Pgs} {i j : Nat} {w : Int} {p : Addr} {ws : List Int} (g : Pg H a ps) (h : ps[i]? = some (some (p, ws))) : Pg (upd H p (.lst ((ws.map V.int).set j (.int w)))) a (setW ps i j w) := by
  have hi : i < ps.length := (List.getElem?_eq_some_iff.mp h).1
  have hp := g.each i p ws h
  rw [setW_at h]
  refine ⟨?_, fun k q vs e => ?_, fun k l q vs vs' e1 e2 => ?_⟩
  · rw [upd_ne (Ne.symm hp.2), g.top, List.map_set]
    congr 2
    refine (List.ext_getElem? fun k => ?_).symm
    by_cases hk : i = k
    · subst hk
      rw [List.getElem?_set_self (by rw [List.length_map]; exact hi), List.getElem?_map, h]
      rfl
    · rw [List.getElem?_set_ne hk]
  · by_cases hk : i = k
    · subst hk
      rw [List.getElem?_set_self hi] at e
      cases e
      refine ⟨?_, hp.2⟩
      rw [upd_same, List.map_set]
    · rw [List.getElem?_set_ne hk] at e
      have hq := g.each k q vs e
      refine ⟨?_, hq.2⟩
      rw [upd_ne (fun z => hk (by subst z; exact g.nd i k _ _ _ h e))]
      exact hq.1
  · have back : ∀ (k : Nat) (vs : List Int), (ps.set i (some (p, ws.set j w)))[k]? = some (some (q, vs)) → ∃ vs', ps[k]? = some (some (q, vs')) := fun k vs e => by
      by_cases hk : i = k
      · subst hk
        rw [List.getElem?_set_self hi] at e
        cases e
        exact ⟨_, h⟩
      · rw [List.getElem?_set_ne hk] at e
        exact ⟨_, e⟩
    obtain ⟨_, f1⟩ := back k vs e1
    obtain ⟨_, f2⟩ := back l vs' e2
    exact g.nd k l q _ _ f1 f2
theorem cont_setW {ps qs : Pgs} (h : cont ps = cont qs) (i j : Nat) (w : Int) : cont (setW ps i j w) = cont (setW qs i j w) := by
  have e : ∀ ps : Pgs, cont (setW ps i j w) = (cont ps).set i ((((cont ps)[i]?).getD none).map fun ws => ws.set j w) := fun ps => by
    unfold cont setW
    rw [List.map_set, List.getElem?_map]
    congr 1
    cases e : ps[i]? with
    | none => rfl
    | some o => cases o <;> rfl
  rw [e, e, h]
theorem cont_len {ps qs : Pgs} (h : cont ps = cont qs) : ps.length = qs.length := by
  have := congrArg List.length h
  unfold cont at this
  rw [List.length_map, List.length_map] at this
  exact this
theorem cont_at {ps qs : Pgs} (h : cont ps = cont qs) (i : Nat) : (ps[i]?).map (Option.map (·.2)) = (qs[i]?).map (Option.map (·.2)) := by
  have := congrArg (fun l => l[i]?) h
  unfold cont at this
  simpa using this
theorem cont_some {ps qs : Pgs} (h : cont ps = cont qs) {i : Nat} {p : Addr} {ws : List Int} (e : ps[i]? = some (some (p, ws))) : ∃ q, qs[i]? = some (some (q, ws)) := by
  have z := cont_at h i
  rw [e] at z
  cases f : qs[i]? with
  | none => rw [f] at z; cases z
  | some o =>
    rw [f] at z
    cases o with
    | none => cases z
    | some x =>
      obtain ⟨q, vs⟩ := x
      have z' : ws = vs := by simpa using z
      subst z'
      exact ⟨q, rfl⟩
theorem same_new {H : Hp} {p : Addr} {o : HO} (h : H p = none) : Same H (upd H p o) := fun b u e => by
  rw [upd_ne (ne_of_none e h)]
  exact e
theorem Same.set {H H' : Hp} {t : Addr} {o : HO} (s : Same H H') (h : H t = none) : Same H (upd H' t o) := fun b u e => by
  rw [upd_ne (ne_of_none e h)]
  exact s b u e
def Good (ps : Pgs) : Prop := ∀ (i : Nat) (p : Addr) (ws : List Int), ps[i]? = some (some (p, ws)) → ws.length = 8 ∧ ∀ w ∈ ws, 0 ≤ w ∧ w < 281474976710656
def tCopy (K : PySem.W.Frag) : TE := tIf (tTest (tOp (fun x y H Q => y = .non ∧ Q (.bl (decide (x = .non))) H) (tVar 0) (tC .non))) (tC .non) (tCB (fun xs H Q => ∃ p ys, xs = [.ref p] ∧ (SqL K H p ys ∨ SqT K H p ys) ∧ ∀ l, H l = none → Q (.ref l) (upd H l (.lst ys))) (tCons (tVar 0) tNil))
theorem copy_pages {K : PySem.W.Frag} {a : Addr} {ps : Pgs} {σ : St} {H : Hp} {Q : Addr → Hp → Prop} (g : Pg H a ps) (hl : ps.length ≤ 1000)
    (q : ∀ D H' qs, Same H H' → Pg H' D qs → cont qs = cont ps → (∀ b, At D qs b → H b = none) → Q D H') :
    ∀ D, H D = none → ∃ W : Nat → Nat → List V → Hp → Prop, (∃ m, W 0 m [] (upd H D (.lst []))) ∧ ∀ i m ys H, W i m ys H → H D = some (.lst ys) ∧
      (((Itl K a).stop i H ∧ Q D H) ∨ ((Itl K a).go i H ∧ ∃ N : List V → Hp → Prop, (∀ zs H', N zs H' → ∃ m', m' < m ∧ W (i + 1) m' zs H') ∧ ∀ x H', (Itl K a).yld i H x H' → tYes (some x :: σ) H' fun b H2 => if b = true then tCopy K (some x :: σ) H2 fun y H3 => H3 D = some (.lst ys) ∧ ys.length < sizeLine ∧ N (ys ++ [y]) (upd H3 D (.lst (ys ++ [y])))
        else N ys H2)) := by
  refine comp_list (xs := ps.map pgV) (fun D i ys H' => ∃ qs : Pgs, H D = none ∧ Same H H' ∧ Pg H' D qs ∧ ys = qs.map pgV ∧ qs.length = i ∧ cont qs = cont (ps.take i) ∧ ∀ b, At D qs b → H b = none) ?_ ?_ ?_ ?_
  · intro D hD
    refine ⟨[], hD, same_new hD, ⟨upd_same, fun i p ws e => by simp at e, fun i j p ws ws' e => by simp at e⟩, rfl, rfl, rfl, fun b h => ?_⟩
    rcases h with rfl | ⟨i, ws, e⟩
    · exact hD
    · simp at e
  · rintro D i ys H' _ ⟨qs, _, ss, g', rfl, _, _, _⟩
    exact ⟨SqL.of (ss _ _ g.top), g'.top⟩
  · rintro D i x ys H' hi ⟨qs, hD, ss, g', rfl, hq, hc, hfr⟩
    rw [List.getElem?_map] at hi
    cases e : ps[i]? with
    | none => rw [e] at hi; cases hi
    | some o =>
      rw [e] at hi
      have hi' : pgV o = x := Option.some.inj hi
      subst hi'
      have hil : i < ps.length := (List.getElem?_eq_some_iff.mp e).1
      have hlen : (qs.map pgV).length < sizeLine := by
        rw [List.length_map, hq]
        exact Nat.lt_of_lt_of_le (by omega : i < 1001) (by decide)
      have htake : ps.take (i + 1) = ps.take i ++ [o] := by
        rw [List.take_add_one, e]
        rfl
      refine iteT ?_
      have more : ∀ (o' : Option (Addr × List Int)) (H2 : Hp), o'.map (·.2) = o.map (·.2) → Same H' H2 → (∀ p ws, o' = some (p, ws) → H2 p = some (.lst (ws.map V.int)) ∧ H' p = none) →
          H2 D = some (.lst (qs.map pgV)) ∧ (qs.map pgV).length < sizeLine ∧ ∃ qs' : Pgs, H D = none ∧ Same H (upd H2 D (.lst (qs.map pgV ++ [pgV o']))) ∧ Pg (upd H2 D (.lst (qs.map pgV ++ [pgV o']))) D qs' ∧ qs.map pgV ++ [pgV o'] = qs'.map pgV ∧ qs'.length = i + 1 ∧ cont qs' = cont (ps.take (i + 1)) ∧ ∀ b, At D qs' b → H b = none := fun o' H2 ho s2 hn => by
        refine ⟨s2 _ _ g'.top, hlen, qs ++ [o'], hD, Same.set (ss.trans s2) hD, ⟨by rw [upd_same, List.map_append]; rfl, fun k p ws z => ?_, fun k l p ws ws' z1 z2 => ?_⟩, by rw [List.map_append]; rfl, by rw [List.length_append, hq]; rfl, ?_, fun b hb => ?_⟩
        · rcases Nat.lt_or_ge k qs.length with hk | hk
          · rw [List.getElem?_append_left hk] at z
            have := g'.each k p ws z
            refine ⟨?_, this.2⟩
            rw [upd_ne this.2]
            exact s2 _ _ this.1
          · rw [List.getElem?_append_right hk] at z
            have hk' : k - qs.length = 0 := by
              rcases Nat.eq_zero_or_pos (k - qs.length) with h | h
              · exact h
              · rw [List.getElem?_eq_none (by simp; omega)] at z
                cases z
            rw [hk'] at z
            obtain ⟨z1, z2⟩ := hn p ws (Option.some.inj z)
            have ne : p ≠ D := fun q => by rw [q, g'.top] at z2; cases z2
            refine ⟨?_, ne⟩
            rw [upd_ne ne]
            exact z1
        · have split : ∀ (k : Nat) (vs : List Int), (qs ++ [o'])[k]? = some (some (p, vs)) → (k < qs.length ∧ qs[k]? = some (some (p, vs))) ∨ (k = qs.length ∧ o' = some (p, vs)) := fun k vs z => by
            rcases Nat.lt_or_ge k qs.length with hk | hk
            · rw [List.getElem?_append_left hk] at z
              exact .inl ⟨hk, z⟩
            · rw [List.getElem?_append_right hk] at z
              have hk' : k - qs.length = 0 := by
                rcases Nat.eq_zero_or_pos (k - qs.length) with h | h
                · exact h
                · rw [List.getElem?_eq_none (by simp; omega)] at z
                  cases z
              rw [hk'] at z
              exact .inr ⟨by omega, Option.some.inj z⟩
          have old : ∀ (k : Nat) (vs vs' : List Int), qs[k]? = some (some (p, vs)) → o' = some (p, vs') → False := fun k vs vs' z1 z2 => by
            have h1 := (g'.each k p vs z1).1
            rw [(hn p vs' z2).2] at h1
            cases h1
          rcases split k ws z1 with ⟨_, a1⟩ | ⟨rfl, a1⟩ <;> rcases split l ws' z2 with ⟨_, a2⟩ | ⟨rfl, a2⟩
          · exact g'.nd k l p ws ws' a1 a2
          · exact (old _ _ _ a1 a2).elim
          · exact (old _ _ _ a2 a1).elim
          · rfl
        · rw [htake]
          unfold cont at hc ⊢
          rw [List.map_append, List.map_append, hc]
          congr 1
          simp [ho]
        · rcases hb with rfl | ⟨k, ws, z⟩
          · exact hD
          · rcases Nat.lt_or_ge k qs.length with hk | hk
            · rw [List.getElem?_append_left hk] at z
              exact hfr b (.inr ⟨k, ws, z⟩)
            · rw [List.getElem?_append_right hk] at z
              have hk' : k - qs.length = 0 := by
                rcases Nat.eq_zero_or_pos (k - qs.length) with h | h
                · exact h
                · rw [List.getElem?_eq_none (by simp; omega)] at z
                  cases z
              rw [hk'] at z
              exact ss.free (hn b ws (Option.some.inj z)).2
      cases o with
      | none =>
        refine ⟨_, rfl, rfl, _, rfl, iteT ?_⟩
        exact more none H' rfl (Same.refl _) fun p ws z => by cases z
      | some x =>
        obtain ⟨p, ws⟩ := x
        refine ⟨_, rfl, rfl, _, rfl, iteF ⟨_, rfl, p, _, rfl, .inl (SqL.of (ss _ _ (g.each i p ws e).1)), fun l hl => ?_⟩⟩
        refine more (some (l, ws)) _ rfl (same_new hl) fun p' ws' z => ?_
        cases z
        exact ⟨upd_same, hl⟩
  · rintro D ys H' ⟨qs, _, ss, g', rfl, hq, hc, hfr⟩
    rw [List.length_map, List.take_length] at hc
    exact q D H' qs ss g' hc hfr
end L2
end
section
namespace L2
open PySem PySem.Spec PyProof.Rows
theorem Inv.turnedN {X : Cx} {pins : List (Addr × Obj)} {σ : St} {H : Hp} {s : Shared} {h' : Heap} {t' : Nat} {fp : List Addr} (I : Inv X pins σ H s) (k : ∀ b o, b ∉ fp → s.heap.get? b = some o → h'.get? b = some o) (hf : ∀ b ∈ fp, FpOk X pins H b) : Inv X pins σ H { s with heap := h', toks := t' } := by
  have nit : ∀ b u, H b = some u → b ∉ fp := fun b u e z => by rw [(hf b z).1] at e; cases e
  refine I.step (g' := s.gens) (d' := s.drawn) (ch := fp) (fun b hb => ?_) (fun b o _ _ hc e _ => k b o hc e) (fun b o _ _ hc e _ => ⟨o.slots, k b o hc e⟩) (fun _ _ _ _ n => n)
    (fun b o hc e => ⟨o, k b o hc e⟩) (fun _ _ e => e) (fun _ _ _ e => e) (fun b ps e => ⟨#[], by rw [e]; simp⟩) (fun m hm => ?_) (fun b u e => ?_) I.bare
  · obtain ⟨f0, f1, f2, f3, f4, f5⟩ := hf b hb
    exact ⟨f3, f1, f4, f5⟩
  · obtain ⟨o, es, ep, ho, r⟩ := hm
    exact ⟨o, es, ep, k _ o (fun z => (hf _ z).2.1 rfl) ho, r⟩
  · refine (I.hok b u e).stay (fun c v hc q => k c v ?_ q) (fun _ q => q) fun _ _ q => q
    rcases hc with z | z
    · rw [z]; exact nit b u e
    · exact nit c _ z
end L2
end
section
namespace L2
open PySem PySem.Spec PyProof.Rows
theorem app_at {ps : Pgs} {o : Option (Addr × List Int)} {p : Addr} {vs : List Int} {k : Nat} (z : (ps ++ [o])[k]? = some (some (p, vs))) : (k < ps.length ∧ ps[k]? = some (some (p, vs))) ∨ (k = ps.length ∧ o = some (p, vs)) := by
  rcases Nat.lt_or_ge k ps.length with hk | hk
  · rw [List.getElem?_append_left hk] at z
    exact .inl ⟨hk, z⟩
  · rw [List.getElem?_append_right hk] at z
    have hk' : k - ps.length = 0 := by
      rcases Nat.eq_zero_or_pos (k - ps.length) with h | h
      · exact h
      · rw [List.getElem?_eq_none (by simp; omega)] at z
        cases z
    rw [hk'] at z
    exact .inr ⟨by omega, Option.some.inj z⟩
theorem Pg.app {H H2 : Hp} {D : Addr} {qs : Pgs} {o : Option (Addr × List Int)} (g : Pg H D qs) (s2 : Same H H2) (hn : ∀ (p : Addr) (ws : List Int), o = some (p, ws) → H2 p = some (.lst (ws.map V.int)) ∧ H p = none) :
    Pg (upd H2 D (.lst (qs.map pgV ++ [pgV o]))) D (qs ++ [o]) := by
  refine ⟨by rw [upd_same, List.map_append]; rfl, fun k p ws z => ?_, fun k l p ws ws' z1 z2 => ?_⟩
  · rcases app_at z with ⟨_, z⟩ | ⟨_, z⟩
    · have := g.each k p ws z
      refine ⟨?_, this.2⟩
      rw [upd_ne this.2]
      exact s2 _ _ this.1
    · obtain ⟨z1, z2⟩ := hn p ws z
      have ne : p ≠ D := fun q => by rw [q, g.top] at z2; cases z2
      refine ⟨?_, ne⟩
      rw [upd_ne ne]
      exact z1
  · have old : ∀ (k : Nat) (vs vs' : List Int), qs[k]? = some (some (p, vs)) → o = some (p, vs') → False := fun k vs vs' z1 z2 => by
      have h1 := (g.each k p vs z1).1
      rw [(hn p vs' z2).2] at h1
      cases h1
    rcases app_at z1 with ⟨_, a1⟩ | ⟨rfl, a1⟩ <;> rcases app_at z2 with ⟨_, a2⟩ | ⟨rfl, a2⟩
    · exact g.nd k l p ws ws' a1 a2
    · exact (old _ _ _ a1 a2).elim
    · exact (old _ _ _ a2 a1).elim
    · rfl
theorem At.app {D b : Addr} {qs : Pgs} {o : Option (Addr × List Int)} (h : At D (qs ++ [o]) b) : At D qs b ∨ ∃ ws, o = some (b, ws) := by
  rcases h with rfl | ⟨k, ws, z⟩
  · exact .inl (.inl rfl)
  · rcases app_at z with ⟨_, z⟩ | ⟨_, z⟩
    · exact .inl (.inr ⟨k, ws, z⟩)
    · exact .inr ⟨ws, z⟩
theorem Good.app {qs : Pgs} {o : Option (Addr × List Int)} (g : Good qs) (h : ∀ (p : Addr) (ws : List Int), o = some (p, ws) → ws.length = 8 ∧ ∀ w ∈ ws, 0 ≤ w ∧ w < 281474976710656) : Good (qs ++ [o]) := fun k p ws z => by
  rcases app_at z with ⟨_, z⟩ | ⟨_, z⟩
  · exact g k p ws z
  · exact h p ws z
theorem datsI {K : PySem.W.Frag} {H : Hp} : ∀ ws : List Int, DatsR K H (ws.map V.int) (ws.map PyData.int)
  | [] => .nil
  | b :: bs => .cons (.int b) (datsI bs)
theorem layI : ∀ ws : List Int, PyData.canLayAll0 (ws.map PyData.int) = true ∧ PyData.depthAll (ws.map PyData.int) = 0
  | [] => ⟨rfl, rfl⟩
  | b :: bs => by
    obtain ⟨h1, h2⟩ := layI bs
    constructor
    · simp only [List.map_cons, PyData.canLayAll0, PyData.canLay0, h1, Bool.and_self]
    · simp only [List.map_cons, PyData.depthAll, PyData.depth, h2, Nat.max_self]
theorem eqvI : ∀ ws : List Int, PyData.eqvAll (ws.map PyData.int) (ws.map PyData.int) = true
  | [] => rfl
  | b :: bs => by simp only [List.map_cons, PyData.eqvAll, PyData.eqv, eqvI bs, beq_self_eq_true, Bool.and_self]
end L2
end
section
namespace L2
open PySem PySem.Spec PyProof.Rows Builtin Builtin.ObjectAttr
def overV : List Value → Bool
  | [] => false
  | v :: r => match v with
    | .ref _ => overV r
    | _ => (v :: r) == VB
theorem overV_refuse (self : Value) : ∀ {l : List Value}, overV l = true → refuseLoop self "__setattr__" l = pure ()
  | [], e => by cases e
  | v :: r, e => by
    unfold overV at e
    split at e
    · rw [refuseLoop_ref]; exact overV_refuse self e
    · rw [beq_iff_eq.mp e]; exact PySem.F.store_ValueError.passes self
theorem overV_has : ∀ {l : List Value}, overV l = true → l.contains (.type "object") = true
  | [], e => by cases e
  | v :: r, e => by
    unfold overV at e
    split at e
    · rw [List.contains_cons, overV_has e, Bool.or_true]
    · rw [beq_iff_eq.mp e]; decide
def overIn (K : PySem.W.Frag) (C : Addr) : Bool := (PySem.W.clsIn K C).any fun cd => overV cd.mro
structure XCls (K : PySem.W.Frag) (C : Addr) : Prop where
  sa : PySem.W.findIn K (.ref C) "__setattr__" = some (some (.builtin "object.__setattr__"))
  ov : overIn K C = true
  hd : PySem.W.hasDictIn K C = true
  ga : PySem.W.findIn K (.ref C) "__getattribute__" = some (some (.builtin "BaseException.__getattribute__"))
  gh : PySem.W.findIn K (.ref C) "__getattr__" = some none
  mb : PySem.W.mroIn K C (.type "BaseException") = some true
section
variable {prog : Program} {w : World} {A : Around} {s : Shared} {K : PySem.W.Frag} {x C : Addr} {R : Result → Shared → Prop}
theorem xsa_open {name : Str} {tk : Tok} {v : Value} (X : K.In s.heap) (L0 : PySem.W.Looks (model prog w) s.heap (typeOf (.ref x)) (.ref C)) (hp : overIn K C = true) (ht : PySem.W.findIn K (.ref C) name = some none)
    (h : wpAny (model prog w) A.in1 (storeInOwnDict (.ref x) (.ref C) (.str name tk) name v false)
      (fun fin s' => match fin with | .done f => R (.ok f) s' | .again c' => c'.quiet = true ∧ codeAny (model prog w) A c' R s') (fun e s' => R (.error e) s') s) :
    codeAny (model prog w) A (.call (.builtin "object.__setattr__") ⟨[.ref x, .str name tk, v], []⟩) R s := by
  have SF := PySem.F.store_object
  obtain ⟨cd, hc, ho⟩ := PySem.W.any_some hp
  have ne : cd.mro.isEmpty = false := by
    cases q : cd.mro with
    | nil => rw [q] at ho; cases ho
    | cons _ _ => rfl
  have sub : PySem.W.Looks (model prog w) s.heap (isInstance (.ref x) (.type "object")) true := L0.andThen (PySem.W.looks_mroIn X (by
    unfold PySem.W.mroIn
    rw [hc, Option.bind_some, if_neg (by rw [ne]; decide), overV_has ho]))
  refine codeAny_call_builtin SF.slot.plain SF.entry (@PySem.W.check_slot (model prog w) _ _ s "object.__setattr__" "object" "__setattr__" (.ref x) [.str name tk, v] [] _ SF.kind SF.split sub (SF.args (.ref x) (.str name tk) v) ?_)
  have hm : PySem.W.Looks (model prog w) s.heap (mroOf (.ref C)) cd.mro := (PySem.W.looks_clsIn X hc).andThen .now
  rw [PySem.W.osa_eq, refuse_eq]
  refine wpAny_bind (wpAny_bind (L0.here (wpAny_bind (hm.here ?_))))
  rw [overV_refuse _ ho]
  exact wpAny_pure (wpAny_bind (L0.here (wpAny_bind ((PySem.W.looks_findIn X ht).here (wpAny_bind (wpAny_pure h))))))
end
def xnw (e C t : Addr) (od : Option Addr) : HO := .ext fun h => h.get? e = some (xo C t od)
def xdo (d : Addr) (fs : List (Str × V)) : HO := .ext fun h => ∃ mA, h.Ns1 d mA ∧ (∀ f, RelO (fs.lookup f) (mA f)) ∧ PySem.Within mA (fs.map (·.1))
theorem xnw_ok {P : Program} {w : World} {H : Hp} {h : Heap} {e C t : Addr} {od : Option Addr} (x : h.get? e = some (xo C t od)) : ObjOk P w H h e (xnw e C t od) := ⟨x, ⟨_, x⟩, fun h1 h2 z k => k _ z⟩
theorem xdo_ok {P : Program} {w : World} {H : Hp} {h : Heap} {d : Addr} {fs : List (Str × V)} {mA : Str → Option Value} (x : h.Ns1 d mA) (y : ∀ f, RelO (fs.lookup f) (mA f)) (z : PySem.Within mA (fs.map (·.1))) : ObjOk P w H h d (xdo d fs) :=
  ⟨⟨mA, x, y, z⟩, (by obtain ⟨o, _, _, e, _⟩ := x; exact ⟨o, e⟩), fun h1 h2 ⟨m, ⟨o, es, ep, e, r⟩, y, z⟩ k => ⟨m, ⟨o, es, ep, k _ e, r⟩, y, z⟩⟩
section
variable {X : Cx} {pins : List (Addr × Obj)} {σ : St} {H : Hp} {s : Shared} {e C t d : Addr} {fs : List (Str × V)} {f : Str} {y : V} {u : Value} {A : Around} {E : Value → Shared → Prop} {Q : Unit → Shared → Prop}
theorem xset0 (I : Inv X pins σ H s) (e0 : H e = some (xnw e C t none)) (c : XCls X.K C) (n : NoAttr X.K C f) (ry : RelV y u)
    (h : ∀ d H' s', H d = none → d ≠ e → H' e = some (xnw e C t (some d)) → H' d = some (xdo d [(f, y)]) → (∀ b, b ≠ e → b ≠ d → H' b = H b) → Inv X pins σ H' s' → Q () s') :
    wpAny (model X.prog X.w) A (setAttr (.ref e) f u) Q E s := by
  have hx : s.heap.get? e = some (xo C t none) := (show ObjOk X.prog X.w H s.heap e (xnw e C t none) from I.hok e _ e0).1
  have IA : PySem.W.InstAt s.heap e (xo C t none) C none := ⟨hx, rfl, rfl, trivial⟩
  refine PySem.W.set_plain I.kIn IA c.sa (xsa_open (s := { s with toks := s.toks + 1 }) I.kIn (EX.ty hx rfl) c.ov n ?_)
  obtain ⟨cd, hc, hd'⟩ := PySem.W.any_some c.hd
  refine wpAny_bind (wpAny_pure (wpAny_bind (wpAny_bind (wpAny_loadPart hx (wpAny_bind (PySem.W.Looks.here (s := { s with toks := s.toks + 1 }) (PySem.W.looks_clsIn I.kIn hc) ?_))))))
  rw [hd']
  have hxs : e ≠ s.heap.objs.size := Nat.ne_of_lt (Heap.lt_size hx)
  have I1 := I.laid (a := s.heap.objs.size) (o := xdo s.heap.objs.size []) (t' := s.toks + 1) (h' := s.heap.push { cls := .type "dict", data := .dict #[] }) (fun b o z => Heap.get?_push_of_some _ z) (Nat.le_refl _)
    (xdo_ok (mA := fun _ => none) (Heap.Ns1.of_empty ⟨_, #[], _, Heap.get?_push_at rfl rfl, rfl, fun q hq => absurd hq (by simp), fun _ => rfl⟩) (fun _ => trivial) PySem.Within.nil)
  rw [if_neg (by decide), if_neg (by show ¬ ((!true || !true) = true); decide)]
  have e1 : (s.heap.push { cls := .type "dict", data := .dict #[] }).get? e = some (xo C t none) := Heap.get?_push_of_some _ hx
  refine wpAny_bind (wpAny_alloc' (wpAny_bind (wpAny_update' e1 (wpAny_pure ?_))))
  have he1 : upd H s.heap.objs.size (xdo s.heap.objs.size []) e = some (xnw e C t none) := by rw [upd_ne hxs]; exact e0
  have hd0 : H s.heap.objs.size = none := I.hok.fresh (Nat.le_refl _)
  have e2 : ((s.heap.push { cls := .type "dict", data := .dict #[] }).update e fun o => { cls := o.cls, dict := some s.heap.objs.size, data := o.data, slots := o.slots }).get? e = some (xo C t (some s.heap.objs.size)) := Heap.get?_update_self _ e1 rfl
  have I2 := I1.write (x := e) (e := e) (o := xnw e C t (some s.heap.objs.size)) (t' := s.toks + 1) (h' := (s.heap.push { cls := .type "dict", data := .dict #[] }).update e fun o => { cls := o.cls, dict := some s.heap.objs.size, data := o.data, slots := o.slots })
    (by rw [he1]; exact True.intro) (.inl rfl) (fun b o z q => (upd_other z).trans q) ⟨_, e2⟩ (xnw_ok e2)
  have hd2 : ((s.heap.push { cls := .type "dict", data := .dict #[] }).update e fun o => { cls := o.cls, dict := some s.heap.objs.size, data := o.data, slots := o.slots }).Ns1 s.heap.objs.size (fun _ => none) :=
    Heap.Ns1.of_empty ⟨_, #[], _, (upd_other hxs.symm).trans (Heap.get?_push_at rfl rfl), rfl, fun q hq => absurd hq (by simp), fun _ => rfl⟩
  generalize ((s.heap.push { cls := .type "dict", data := .dict #[] }).update e fun o => { cls := o.cls, dict := some s.heap.objs.size, data := o.data, slots := o.slots }) = h2 at *
  generalize s.heap.objs.size = d at *
  have hd3 : upd (upd H d (xdo d [])) e (xnw e C t (some d)) d = some (xdo d []) := by rw [upd_ne hxs.symm, upd_same]
  show wpAny _ _ (storeInDict d (.str f s.toks) f u) _ _ _
  unfold storeInDict newKeyGuard
  refine wpAny_bind (wpAny_pure (wpAny_bind (wpAny_nsSet1 hd2 fun h' hn' hs => ?_)))
  obtain ⟨oD, esD, epD, hoD, hdD, hcD⟩ := hn'.count (PySem.Within.cons f u PySem.Within.nil)
  refine wpAny_bind (wpAny_lookBehind hoD (by rw [hdD]; exact pastItsLine_dict (Nat.le_trans hcD (by rw [List.length_cons, List.length_nil, sizeLine_eq]; omega))) (wpAny_pure ?_))
  refine h d _ _ hd0 hxs.symm ?_ ?_ ?_ (I2.write (x := d) (e := d) (o := xdo d [(f, y)]) (by rw [hd3]; exact True.intro) (.inl rfl) (fun b o z q => (hs.2 b z).trans q) ⟨_, hoD⟩ (xdo_ok hn' (fun g => ?_) (fun g hg => ?_)))
  · rw [upd_ne hxs, upd_same]
  · rw [upd_same]
  · intro b z1 z2
    rw [upd_ne z2, upd_ne z1, upd_ne z2]
  · show RelO (List.lookup g [(f, y)]) (if g = f then some u else none)
    by_cases q : g = f
    · rw [q, if_pos rfl, List.lookup_cons_self]; exact ry
    · rw [if_neg q, List.lookup_cons, beq_false_of_ne q]; exact True.intro
  · by_cases q : g = f
    · rw [q]; exact List.mem_cons_self ..
    · exact absurd (if_neg q) hg
theorem xset (I : Inv X pins σ H s) (e0 : H e = some (xnw e C t (some d))) (d0 : H d = some (xdo d fs)) (c : XCls X.K C) (n : NoAttr X.K C f) (ry : RelV y u) (hl : fs.length < 1000)
    (h : ∀ s', Inv X pins σ (upd H d (xdo d (putF f y fs))) s' → Q () s') : wpAny (model X.prog X.w) A (setAttr (.ref e) f u) Q E s := by
  have hx : s.heap.get? e = some (xo C t (some d)) := (show ObjOk X.prog X.w H s.heap e (xnw e C t (some d)) from I.hok e _ e0).1
  obtain ⟨⟨mA, hn, hr, hw⟩, ⟨od, hod⟩, _⟩ := (show ObjOk X.prog X.w H s.heap d (xdo d fs) from I.hok d _ d0)
  have IA : PySem.W.InstAt s.heap e (xo C t (some d)) C (some od) := ⟨hx, rfl, rfl, hod⟩
  refine PySem.W.set_plain I.kIn IA c.sa (xsa_open (s := { s with toks := s.toks + 1 }) I.kIn (EX.ty hx rfl) c.ov n ?_)
  obtain ⟨cd, hc, hd'⟩ := PySem.W.any_some c.hd
  refine wpAny_bind (wpAny_pure (wpAny_bind (wpAny_bind (wpAny_loadPart hx (wpAny_bind (PySem.W.Looks.here (s := { s with toks := s.toks + 1 }) (PySem.W.looks_clsIn I.kIn hc) ?_))))))
  rw [hd']
  refine wpAny_pure (a := some d) ?_
  show wpAny _ _ (storeInDict d (.str f s.toks) f u) _ _ _
  unfold storeInDict newKeyGuard
  refine wpAny_bind (wpAny_pure (wpAny_bind (wpAny_nsSet1 (s := { s with toks := s.toks + 1 }) hn fun h' hn' hs => ?_)))
  obtain ⟨oD, esD, epD, hoD, hdD, hcD⟩ := hn'.count (PySem.Within.cons f u hw)
  refine wpAny_bind (wpAny_lookBehind hoD (by rw [hdD]; exact pastItsLine_dict (Nat.le_trans hcD (by rw [List.length_cons, List.length_map, sizeLine_eq]; omega))) (wpAny_pure ?_))
  refine h _ (I.write (x := d) (e := d) (by rw [d0]; exact True.intro) (.inl rfl) (fun b o z q => (hs.2 b z).trans q) ⟨_, hoD⟩ (xdo_ok hn' (fun g => ?_) (fun g hg => ?_)))
  · show RelO ((putF f y fs).lookup g) (if g = f then some u else mA g)
    rw [lookup_putF]
    by_cases q : g = f
    · rw [if_pos q, if_pos q]; exact ry
    · rw [if_neg q, if_neg q]; exact hr g
  · by_cases q : g = f
    · rw [q]; exact (keys_putF f y fs).1
    · refine (keys_putF f y fs).2 g (hw g fun z => hg ?_)
      show (if g = f then some u else mA g) = none
      rw [if_neg q]; exact z
end
section
variable {prog : Program} {w : World} {A : Around} {s : Shared} {K : PySem.W.Frag} {x C : Addr} {E : Value → Shared → Prop}
theorem xga {name : Str} {v : Value} {b : Bool} {Q : Value → Shared → Prop} (X : K.In s.heap) (c : XCls K C) (L0 : PySem.W.Looks (model prog w) s.heap (typeOf (.ref x)) (.ref C)) (Lf : PySem.W.Looks (model prog w) s.heap (find (.ref x) (.ref C) name) (.value v)) (hv : PySem.W.handedIn v = true)
    (h : Q v { s with toks := s.toks + 1 }) : wpAny (model prog w) A (getAttr (.ref x) name b) Q E s := by
  obtain ⟨hh, g, d, t, os⟩ := s
  have L1 := PySem.W.looks_findIn (M := model prog w) X c.ga
  have L2 := PySem.W.looks_findIn (M := model prog w) X c.gh
  have hx2 : (Value.builtin "BaseException.__getattribute__" == Value.builtin "object.__getattribute__") = false := by decide +kernel
  unfold getAttr getAttrBy
  refine wpAny_bind (wpAny_mkText (wpAny_holding (wpAny_bind (L0.at (wpAny_bind (L1.at ?_))))))
  dsimp only
  rw [if_neg (by rw [hx2, Bool.and_false]; exact Bool.false_ne_true)]
  unfold getAttrByItsOwn hookBefore
  refine wpAny_bind (L2.at ?_)
  refine wpAny_bind (wpAny_attempt (wpAny_holding ?_))
  unfold callGetattribute boundAndCalled
  rw [if_neg (by cases b <;> decide)]
  rw [PySem.F.attr_ValueError.ga.bind (.ref x)]
  refine wpAny_bind (wpAny_pure (wpAny_call ?_))
  refine codeAny_call_builtin PySem.F.attr_ValueError.ga.plain F.entry_bexc_ga (EX.check_ga X L0 c.mb ?_)
  refine wpAny_bind (wpAny_pure (a := (Value.ref x, [Value.str name _])) ?_)
  refine wpAny_bind (wpAny_pure (a := name) ?_)
  refine wpAny_bind (L0.at ?_)
  refine wpAny_bind (Lf.at ?_)
  refine wpAny_pure ?_
  exact PySem.W.handed_on hv h
end
end L2
end
section
namespace L2
open PySem PySem.Spec PyProof.Rows Builtin Builtin.ObjectAttr
section
variable {X : Cx} {pins : List (Addr × Obj)} {σ : St} {H : Hp} {s : Shared} {e C t d : Addr} {fs : List (Str × V)} {f : Str} {v : V}
theorem xget {A : Around} {E : Value → Shared → Prop} {b : Bool} {Q : Value → Shared → Prop} (I : Inv X pins σ H s) (e0 : H e = some (xob e (.ref C) (some d))) (d0 : H d = some (xdo d fs)) (c : XCls X.K C) (n : NoAttr X.K C f) (l : fs.lookup f = some v)
    (h : ∀ u s', Inv X pins σ H s' → RelV v u → Q u s') : wpAny (model X.prog X.w) A (getAttr (.ref e) f b) Q E s := by
  obtain ⟨⟨oe, h1, h2, h3, h4⟩, _, _⟩ := (show ObjOk X.prog X.w H s.heap e (xob e (.ref C) (some d)) from I.hok e _ e0)
  obtain ⟨⟨mA, hn, hr, _⟩, _, _⟩ := (show ObjOk X.prog X.w H s.heap d (xdo d fs) from I.hok d _ d0)
  obtain ⟨od, ho, hl⟩ := lookIn_ns hn
  obtain ⟨u, hu, ru⟩ := RelO.some_of (v := v) (o := mA f) (by rw [← l]; exact hr f)
  have IA : PySem.W.InstAt s.heap e oe C (some od) := ⟨h1, h2, h4, by rw [h3]; exact ho⟩
  have Lf := PySem.W.looks_find (M := model X.prog X.w) I.kIn IA (PySem.W.findObj_own c.hd n rfl (by rw [hl, hu]))
  exact xga I.kIn c (EX.ty h1 h2) Lf (handed_of ru) (h u _ (I.tok _) ru)
end
def tXFld (K : PySem.W.Frag) (ta : TE) (f : Str) : TE := fun σ H Q => ta σ H fun x H1 => ∃ e C d fs v, x = .ref e ∧ H1 e = some (xob e (.ref C) (some d)) ∧ H1 d = some (xdo d fs) ∧ XCls K C ∧ NoAttr K C f ∧ fs.lookup f = some v ∧ Q v H1
def sXf0 (K : PySem.W.Frag) (ta tv : TE) (f : Str) : TS := fun D σ H => tv σ H fun y H1 => ta σ H1 fun x H2 => ∃ e C t, x = .ref e ∧ H2 e = some (xnw e C t none) ∧ XCls K C ∧ NoAttr K C f ∧
  ∀ d H', H2 d = none → d ≠ e → H' e = some (xnw e C t (some d)) → H' d = some (xdo d [(f, y)]) → (∀ b, b ≠ e → b ≠ d → H' b = H2 b) → D.nx σ H'
def sXf (K : PySem.W.Frag) (ta tv : TE) (f : Str) : TS := fun D σ H => tv σ H fun y H1 => ta σ H1 fun x H2 => ∃ e C t d fs, x = .ref e ∧ H2 e = some (xnw e C t (some d)) ∧ H2 d = some (xdo d fs) ∧ XCls K C ∧ NoAttr K C f ∧ fs.length < 1000 ∧ D.nx σ (upd H2 d (xdo d (putF f y fs)))
section
variable {X : Cx} {o e value : Expr} {f : Str} {pos pos' tpos : Pos} {ta tv : TE}
theorem pe_xfld (he : PE X e ta) (hb : attributeBase e f X.env (eval e X.env) = eval e X.env) : PE X (.Attribute e f pos) (tXFld X.K ta f) := by
  intro pins s σ H Q I h
  refine attr_of hb (thn (he pins s σ H _ I h) fun u s1 hpat => ?_)
  obtain ⟨x, H1, I1, rx, a, C, d, fs, v, ex, ea, ed, c, n, l, q⟩ := hpat
  subst ex
  obtain rfl : u = Value.ref a := rx
  exact xget I1 ea ed c n l fun u' s2 I2 ru => ⟨v, H1, I2, ru, q⟩
theorem pe_xfldK {K : PySem.W.Frag} (hK : X.K = K) (he : PE X e ta) (hb : attributeBase e f X.env (eval e X.env) = eval e X.env) : PE X (.Attribute e f pos) (tXFld K ta f) := by
  subst hK
  exact pe_xfld he hb
theorem ps_xf0 (ha : PE X o ta) (hv : PE X value tv) (hs : swapsWith value (some (.Attribute o f pos')) pos.line X.env = pure false) : PS X (.Assign [.Attribute o f pos'] value pos) (sXf0 X.K ta tv f) := by
  intro pins s σ H D I h
  refine plainObj_wpAny_Assign_Attribute (thn (hv pins s σ H _ I h) fun u s1 ⟨y, H1, I1, ry, q⟩ => thn (ha pins s1 σ H1 _ I1 q) fun ov s2 hpat => ?_) hs
  obtain ⟨x, H2, I2, rx, a, C, t, ex, ea, c, n, q2⟩ := hpat
  subst ex
  obtain rfl : ov = Value.ref a := rx
  exact xset0 I2 ea c n ry fun d H' s3 h1 h2 h3 h4 h5 I3 => ⟨σ, H', I3, q2 d H' h1 h2 h3 h4 h5⟩
theorem ps_xf (ha : PE X o ta) (hv : PE X value tv) (hs : swapsWith value (some (.Attribute o f pos')) pos.line X.env = pure false) : PS X (.Assign [.Attribute o f pos'] value pos) (sXf X.K ta tv f) := by
  intro pins s σ H D I h
  refine plainObj_wpAny_Assign_Attribute (thn (hv pins s σ H _ I h) fun u s1 ⟨y, H1, I1, ry, q⟩ => thn (ha pins s1 σ H1 _ I1 q) fun ov s2 hpat => ?_) hs
  obtain ⟨x, H2, I2, rx, a, C, t, d, fs, ex, ea, ed, c, n, l, q2⟩ := hpat
  subst ex
  obtain rfl : ov = Value.ref a := rx
  exact xset I2 ea ed c n ry l fun s3 I3 => ⟨σ, _, I3, q2⟩
end
def excInI (K : PySem.W.Frag) (C fI : Addr) : Bool := match K.lookup C with
  | some ⟨.type "type", _, .cls cd, sl⟩ => (match cd.mro, sl.toList with
    | .ref C' :: bm, [_, _, _, _, some (.builtin n), _] => C' == C && !cd.hasDel && n == "ValueError.__new__" && nsPlain K cd.ns && (PySem.W.nsIn K cd.ns "__init__" == some (some (.ref fI))) && tailOk K bm
    | _, _ => false)
  | _ => false
theorem ns_some_of {K : PySem.W.Frag} {h : Heap} {N : Addr} {mg : Str → Option Value} {n : Str} {v : Value} (X : K.In h) (G : h.Ns N mg) (e : PySem.W.nsIn K N n = some (some v)) : mg n = some v := by
  obtain ⟨o, es, ep, ho, hd, _, hf⟩ := G
  unfold PySem.W.nsIn at e
  split at e
  · rename_i c d es' n' sl q
    have z := X _ _ q
    rw [ho] at z
    cases z
    cases hd
    revert e
    cases hx : List.find? (fun y => y.key.isStr n) es.toList with
    | none =>
      dsimp only
      split <;> exact nofun
    | some en =>
      intro e
      cases e
      rw [← hf]
      unfold nsFind findBy
      rw [← Array.find?_toList, hx]
      rfl
  · cases e
theorem excInI_obj {K : PySem.W.Frag} {h₀ : Heap} {C fI : Addr} (X₀ : K.In h₀) (q : excInI K C fI = true) : ∃ bm N nm qn bs hdct sn sub ab col dd k0 k1 k2 k3 k5 mN, mN "__init__" = some (.ref fI) ∧
    ∀ h : Heap, K.In h → h.get? C = some (excClassObj nm qn C N bs bm hdct sn sub ab col dd k0 k1 k2 k3 k5 "ValueError.__new__") ∧ h.Ns N mN ∧ OwnTail h VB bm := by
  unfold excInI at q
  split at q
  · rename_i dd cd sl ho
    split at q
    · rename_i C' bm k0 k1 k2 k3 n k5 hm hs
      simp only [Bool.and_eq_true, beq_iff_eq, Bool.not_eq_true'] at q
      obtain ⟨⟨⟨⟨⟨rfl, hdel⟩, rfl⟩, hp⟩, hi⟩, ht⟩ := q
      obtain ⟨nm, bs, mro, ns, qn, hd, sn, sub, ab, col, del⟩ := cd
      dsimp only at hm hdel hi hp
      subst hm hdel
      have hsl : sl = #[k0, k1, k2, k3, some (.builtin "ValueError.__new__"), k5] := by
        obtain ⟨l⟩ := sl
        simp only at hs
        rw [hs]
      subst hsl
      unfold nsPlain at hp
      split at hp
      · rename_i c1 d1 es ep sl1 hl
        have sk : StrKeys es := fun en hen => by
          have y := (List.all_eq_true.mp hp) en (by simpa using hen)
          split at y
          · rename_i n t hk
            exact ⟨n, t, hk⟩
          · cases y
        have hN : ∀ h : Heap, K.In h → h.Ns ns (nsFind es) := fun h X => ⟨_, es, ep, X _ _ hl, rfl, sk, fun _ => rfl⟩
        exact ⟨bm, ns, nm, qn, bs, hd, sn, sub, ab, col, dd, k0, k1, k2, k3, k5, nsFind es, ns_some_of X₀ (hN h₀ X₀) hi, fun h X => ⟨X _ _ ho, hN h X, tail_own X₀ ht h X⟩⟩
      · cases hp
    · cases q
  · cases q
def spXI (C : Addr) (n : Nat) (ff : List V → List (Str × V)) : Sp := fun vs H Q _ => ∃ (e t : Addr) (xs : List V), vs = .ref e :: xs ∧ xs.length = n ∧ H e = some (xnw e C t none) ∧
  ∀ (d : Addr) (H' : Hp), H d = none → d ≠ e → H' e = some (xnw e C t (some d)) → H' d = some (xdo d (ff xs)) → (∀ b, b ≠ e → b ≠ d → H' b = H b) → Q .non H'
def RaisesG (X : Cx) (E : XK) : Prop := ∀ (pins : List (Addr × Obj)) (σ : St) (H : Hp) (s : Shared) (e C t : Addr) (od : Option Addr), Inv X pins σ H s → s.heap.get? e = some (xo C t od) → (∀ o, X.s₀.heap.get? e = some o → e ∈ X.ex) → H e = none → E (.ref C) od H → X.xe (.ref e) s
theorem raisesGR {P : Program} {w : World} {K : PySem.W.Frag} {mg : Str → Option Value} {base : Heap} {N : List Str} {qual : Str} {scope : Scope} {f : Addr} {cd : Value} {A : Around} {outer : List Env} {s₀ : Shared} {H₀ : Hp} {E : XK} : RaisesG (cxR P w K mg base N qual scope f cd A outer s₀ H₀ E) E := fun pins σ H s e C t od I he hn hH q => by
  refine raisesG I he ?_ hH q
  cases z : s₀.heap.get? e with
  | none => rfl
  | some o => exact absurd (show e ∈ ([] : List Addr) from hn o z) (by simp)
section
variable {X : Cx} {pins : List (Addr × Obj)} {σ : St} {H : Hp} {s : Shared} {e C t : Addr}
theorem Inv.lay {h' : Heap} {us : List Value} (I : Inv X pins σ H s) (M : Heap.MadeExcOf s.heap h' e (.ref C) us) : H e = none ∧ ∃ t, h'.get? e = some (xo C t none) ∧ Inv X pins σ (upd H e (xnw e C t none)) { s with heap := h' } := by
  obtain ⟨t, he, _, _⟩ := M.there
  have hH : H e = none := by
    cases z : H e with
    | none => rfl
    | some u =>
      obtain ⟨ob, zb⟩ := (I.hok e u z).is
      rw [M.new] at zb
      cases zb
  have ne : ∀ b o, s.heap.get? b = some o → b ≠ e := fun b o z y => by rw [y, M.new] at z; cases z
  refine ⟨hH, t, he, I.un (t' := s.toks) ⟨fun b o z _ _ _ => M.keeps b o z, fun b o z _ _ _ => ⟨o.slots, M.keeps b o z⟩, fun b o z n _ => by rw [upd_ne (ne b o z)]; exact n, fun b o z _ => ⟨o, M.keeps b o z⟩, fun b xs z => by rw [upd_ne (ne_of_none z hH)]; exact z, fun b o u z => by rw [upd_ne (ne_of_none z hH)]; exact z, fun b ps z => ⟨#[], by rw [upd_ne (ne_of_none z hH), z]; simp⟩⟩ fun a u q => ?_⟩
  by_cases ha : a = e
  · subst ha
    rw [upd_same] at q
    cases q
    exact xnw_ok he
  · rw [upd_ne ha] at q
    exact (I.hok a u q).stay (fun b o _ z => M.keeps b o z) (fun b z => by rw [upd_ne (ne_of_none z hH)]; exact z) fun b xs z => by rw [upd_ne (ne_of_none z hH)]; exact z
theorem Inv.let {od : Option Addr} (I : Inv X pins σ H s) (e0 : H e = some (xnw e C t od)) : Inv X pins σ (fun b => if b = e then none else H b) s := by
  have k : ∀ b u, H b = some u → (∀ φ, u ≠ .ext φ) → (fun b => if b = e then none else H b) b = some u := fun b u z n => by
    show (if b = e then none else H b) = some u
    rw [if_neg (fun y => by rw [y, e0] at z; cases z; exact n _ rfl)]
    exact z
  refine I.un (h' := s.heap) (t' := s.toks) ⟨fun b o z _ _ _ => z, fun b o z _ _ _ => ⟨o.slots, z⟩, fun b o z n _ => ?_, fun b o z _ => ⟨o, z⟩, fun b xs z => k b _ z nofun, fun b o u z => k b _ z nofun, fun b ps z => ⟨#[], (k b _ z nofun).trans (by simp)⟩⟩ fun a u q => ?_
  · show (if b = e then none else H b) = none
    split
    · rfl
    · exact n
  · by_cases ha : a = e
    · rw [if_pos ha] at q; cases q
    · rw [if_neg ha] at q
      exact (I.hok a u q).stay (fun b o _ z => z) (fun b z => k b _ z nofun) fun b xs z => k b _ z nofun
end
section
variable {X : Cx} {x : Str} {C fI : Addr} {fdI : FuncData} {psI : List Str} {k n : Nat} {ff : List V → List (Str × V)} {E : XK} {e₀ : Expr} {rest : List Expr} {t : TA} {np cpos pos : Pos}
def tRaiseI (C : Addr) (n : Nat) (ff : List V → List (Str × V)) (E : XK) (t : TA) : TS := fun _ σ H => t σ H fun vs H1 => vs.length = n ∧ ∀ d, H1 d = none → E (.ref C) (some d) (upd H1 d (xdo d (ff vs)))
theorem ps_raiseI (hK : excInI X.K C fI = true) (hf : PySem.W.isFn X.K (.ref fI) = true) (hm : X.mg x = some (.ref C)) (hR : RaisesG X E) (hA : X.calm = true) (F : FnOk X.prog X.w X.K X.mg X.base CX0 k fI fdI psI (spXI C n ff)) (hr : Room (k + 1) X.A) (hb : Binds X.K fdI psI []) (hz : n ≤ 100)
    (ha : PA X (e₀ :: rest) t) (hg : Gl X x := by rfl) (hd : (x == ("__debug__" : Str)) = false := by decide)
    (he : starEach (e₀ :: rest) X.env = (false, eval e₀ X.env) :: starEach rest X.env := by rfl) (hpl : (backTo cpos (starEach rest X.env)).any (·.1) = false := by rfl) :
    PS X (.Raise (some (.Call (.Name x np) (e₀ :: rest) [] cpos)) none pos) (tRaiseI C n ff E t) := by
  intro pins s σ H D I h
  obtain ⟨bm, N, nm, q, bs, hdct, sn, sub, ab, col, dd, k0, k1, k2, k3, k5, mN, hi, hK⟩ := excInI_obj I.kIn hK
  obtain ⟨_, _, T₀⟩ := hK _ I.kIn
  refine Raise_init (C := C) (fI := fI) (nm := nm) (q := q) (N := N) (bs := bs) (bm := bm) (hdct := hdct) (sn := sn) (sub := sub) (ab := ab) (col := col) (dd := dd) (k0 := k0) (k1 := k1) (k2 := k2) (k3 := k3) (k5 := k5)
    PySem.F.excBase_ValueError (mN := mN) (T₀.hasType PySem.F.excBase_ValueError.hasBase) (I.ok.hd hA) (by rw [he]; show (false || (backTo cpos (starEach rest X.env)).any (·.1)) = false; rw [hpl]; rfl) hi (ld_glob I hg hm ⟨rfl, ?_⟩ hd)
  have h1 := ha cpos pins s σ H _ I h
  rw [he] at h1 ⊢
  refine Calls.evalArgs_plain (wpAny_mono h1 (fun us s₂ h₂ => ?_) fun _ _ y => y)
  obtain ⟨vs, H1, I1, r, hl, q⟩ := h₂
  obtain ⟨g1, g2, g3⟩ := hK _ I1.kIn
  have hsz : us.length ≤ sizeLine := by rw [← r.length, hl]; exact Nat.le_trans hz (by decide)
  refine ⟨rfl, hsz, g1, g2, g3, ?_, fun h' e M => ?_⟩
  · have y := beq_iff_eq.mp hf
    unfold PySem.W.typeIn at y
    obtain ⟨oI, y1, y2⟩ := Option.map_eq_some_iff.mp y
    exact ⟨oI, I1.kIn _ _ y1, y2⟩
  obtain ⟨H1e, t0, he0, I2⟩ := I1.lay M
  have hsp : spXI C n ff (V.ref e :: vs) (upd H1 e (xnw e C t0 none)) (fun v H2 => v = .non ∧ ∃ d, H1 d = none ∧ d ≠ e ∧ H2 e = some (xnw e C t0 (some d)) ∧ H2 d = some (xdo d (ff vs)) ∧ ∀ b, b ≠ e → b ≠ d → H2 b = H1 b) E0 :=
    ⟨e, t0, vs, rfl, hl, upd_same, fun d H' d1 d2 d3 d4 d5 => ⟨rfl, d, by rw [upd_ne d2] at d1; exact d1, d2, d3, d4, fun b b1 b2 => by rw [d5 b b1 b2, upd_ne b1]⟩⟩
  have r2 : Vals (V.ref e :: vs) (Value.ref e :: us) := .cons rfl r
  have hlen : (Value.ref e :: us ++ []).length = psI.length := by
    have z := r2.length
    rw [F.len _ _ _ _ hsp] at z
    rw [List.append_nil]
    exact z.symm
  have hbb := hb _ (Value.ref e :: us) I2.kIn hlen
  rw [List.append_nil] at hbb
  refine wpAny_call (codeAny_mono (F.run _ X.stack _ _ ⟨Value.ref e :: us, []⟩ (Value.ref e :: us) _ _ E0 (hr.make C us []) (I2.env0.make C us []) hbb r2 hsp) fun r s' hq => ?_)
  cases r with
  | error x => exact hq.elim
  | ok fl =>
    cases fl with
    | ret u =>
      obtain ⟨v, H', I3, rv, ev, d, d1, d2, d3, d4, d5⟩ := I2.after hq
      subst ev
      have he3 : s'.heap.get? e = some (xo C t0 (some d)) := (show ObjOk X.prog X.w H' s'.heap e (xnw e C t0 (some d)) from I3.hok e _ d3).1
      have I4 := I3.let d3
      have eH : (fun b => if b = e then none else H' b) = upd H1 d (xdo d (ff vs)) := by
        funext b
        by_cases b1 : b = e
        · rw [if_pos b1, b1, upd_ne d2.symm, H1e]
        · rw [if_neg b1]
          by_cases b2 : b = d
          · rw [b2, d4, upd_same]
          · rw [d5 b b1 b2, upd_ne b2]
      rw [eH] at I4
      refine ⟨rv, (hK _ I3.kIn).1, ⟨t0, some d, he3⟩, hR pins σ _ s' e C t0 (some d) I4 he3 (fun o z => ?_) (by rw [upd_ne d2.symm]; exact H1e) (q d d1)⟩
      by_cases hx : e ∈ X.ex
      · exact hx
      · obtain ⟨o', z'⟩ := I1.base.there e o z hx
        rw [M.new] at z'
        cases z'
    | next => exact False.elim hq
    | brk => exact False.elim hq
    | cont => exact False.elim hq
end
end L2
end
section
namespace L2
open PySem
structure CMeth (K : PySem.W.Frag) (C : Addr) (m : Str) (f : Addr) : Prop where
  sp : PySem.W.specialIn K (.ref C) "__getattribute__" = some (some (.builtin "type.__getattribute__"))
  rd : PySem.W.readsIn K C (.type "type") = true
  at_ : PySem.W.findCls K (.ref C) (.type "type") m = some (.val (.ref f))
  kp : PySem.W.keepIn K (.ref f) = true
section
variable {X : Cx} {CX : CXT} {k : Nat} {f C : Addr} {fd : FuncData} {ps : List Str} {sp : Sp} {dvs : List V} {ds : List Value} {E : XK} {x m : Str} {p pos apos : Pos} {e o : Expr} {es : List Expr} {t : TA}
theorem pe_cmeth {pl : Sem Bool} (F : FnOk X.prog X.w X.K X.mg X.base CX k f fd ps sp) (hr : Room k X.A) (hg : Gl X x) (hm : X.mg x = some (.ref C)) (c : CMeth X.K C m f) (hb : Binds X.K fd ps ds) (hd : Vals dvs ds) (hx : Passes CX X E)
    (ha : PA X (e :: es) t) (hdb : (x == ("__debug__" : Str)) = false := by decide)
    (hst : starEach (e :: es) X.env = (false, eval e X.env) :: starEach es X.env := by rfl) (hpl : (backTo pos (starEach es X.env)).any (·.1) = false := by rfl)
    (ht : eval (.Call (.Attribute (.Name x p) m apos) (e :: es) [] pos) X.env = (do
      let ov ← eval (.Name x p) X.env
      standAt apos.atName
      let (f, first) ← holding [ov] (getMethod ov m pl)
      callWith pos f first (backTo pos (starEach (e :: es) X.env)) (backToKw pos (keywordEach [] X.env))) := by rfl) :
    PE X (.Call (.Attribute (.Name x p) m apos) (e :: es) [] pos) (tCall sp dvs E t) := by
  intro pins s σ H Q I h
  refine PySem.W.methodCall_KW (pl := pl) (ld_glob I hg hm ?_ hdb) ht
  refine PySem.W.method_cls I.kIn c.sp (PySem.W.cls_value I.kIn c.rd c.at_ rfl ?_)
  have I1 := I.tok (s.toks + 1)
  refine PySem.W.callWith_K (first := []) (h₀ := X.base) I.ok.mod.kin c.kp (thn (ha pos pins _ σ H _ I1 h) fun us s1 ⟨vs, H1, I2, r, q⟩ => ⟨I2.kIn, ?_⟩) hst hpl
  exact run_fn F hr hb hd hx I2 r q
end
end L2
end
section
namespace L2
open PySem PySem.Spec PyProof.Rows
end L2
namespace L2
open PySem PySem.Spec PyProof.Rows
section
variable (P : Program) (w : World)
end
section
variable {P : Program} {w : World} {H H' : Hp} {h h' : Heap} {a : Addr} {o : HO}
end
section
variable {P : Program} {w : World} {H : Hp} {h h' : Heap} {x e : Addr} {o' : HO}
end
section
variable {fs fs' ex ex' : List Addr} {H H1 H2 : Hp} {h h1 h2 h' : Heap} {a x e : Addr} {o : HO}
end
end L2
namespace L2
open PySem PySem.Spec PyProof.Rows
section
variable {X : Cx} {pins : List (Addr × Obj)} {σ : List (Option V)} {H H' : Hp} {s : Shared} {h' : Heap}
end
end L2
namespace L2
open PySem PySem.Spec PyProof.Rows
section
variable {X : Cx}
variable {a b : Expr} {ta tb : TE} {pos : Pos}
variable {tA tB' : TT} {rest : List Expr}
end
end L2
namespace L2
open PySem PySem.Spec PyProof.Rows
section
variable {X : Cx} {pins : List (Addr × Obj)} {σ : St} {H : Hp} {s : Shared} {a : Addr} {xs ys : List V}
end
section
variable {X : Cx} {pins : List (Addr × Obj)} {σ : St} {H : Hp} {s : Shared} {E : Value → Shared → Prop}
end
section
variable {X : Cx} {st : Stmt} {rest : List Stmt} {t u : TS} {e : Expr} {te : TE} {pos : Pos}
end
section
variable {X : Cx} {pos : Pos}
end
section
variable {X : Cx} {pos : Pos}
end
end L2
namespace L2
open PySem PySem.Spec PyProof.Rows
section
variable {X : Cx} {tg : Expr}
end
end L2
namespace L2
open PySem PySem.Spec PyProof.Rows
section
variable {X : Cx} {a b c : Expr} {ta tb tc : TE} {pos : Pos}
end
section
variable {X : Cx} {a b c : Expr} {ta tb tc : TE} {pos : Pos}
end
end L2
namespace L2
open PySem PySem.Spec PyProof.Rows
section
variable {prog : Program} {w : World} {A : Around} {E : Value → Shared → Prop} {s : Shared} {K : PySem.W.Frag} {x dx C f : Addr} {mA : Str → Option Value} {name : Str} {v : Value}
end
section
variable {P : Program} {w : World} {H H' : Hp} {h h' : Heap} {a C dx : Addr} {fs fs' : List (Str × V)}
end
section
variable {X : Cx} {pins : List (Addr × Obj)} {σ : St} {H : Hp} {s : Shared} {a C dx : Addr} {fs : List (Str × V)} {f : Str} {v : V} {A : Around} {E : Value → Shared → Prop}
end
section
variable {X : Cx} {o e value : Expr} {f : Str} {pos pos' tpos : Pos} {ta tv : TE}
end
section
variable {X : Cx} {pins : List (Addr × Obj)} {σ : St} {H : Hp} {s : Shared} {A : Around} {E : Value → Shared → Prop} {Q : Value → Shared → Prop} {c : Value} {b : Bool}
end
end L2
namespace L2
open PySem PySem.Spec PyProof.Rows
section
variable {X : Cx} {e : Expr} {es : List Expr} {te : TE} {t : TA} {pos : Pos}
end
section
variable {X : Cx} {pins : List (Addr × Obj)} {σ : St} {H : Hp} {s s' : Shared}
end
section
variable {X : Cx} {CX : CXT} {k : Nat} {f C : Addr} {fd : FuncData} {ps : List Str} {sp : Sp} {dvs : List V} {ds : List Value} {E : XK} {x m : Str} {p pos apos : Pos} {e o : Expr} {es : List Expr} {ta : TE} {t : TA}
end
section
variable {X : Cx} {CX : CXT} {k : Nat} {f C : Addr} {fd : FuncData} {ps ks : List Str} {sp : Sp} {E : XK} {x m : Str} {p pos apos kpos : Pos} {e o : Expr} {es : List Expr} {kws : List Keyword} {te ta : TE} {t tk : TA} {nm : Option Str}
variable {g : List Value → List Value → List Value} {gV : List V → List V → List V}
end
end L2
namespace L2
open PySem PySem.Spec PyProof.Rows
section
variable {X : Cx} {x : Str} {p pos : Pos} {e : Expr} {es : List Expr} {t : TA} {id T : String} {r : List V → Hp → VK → Prop}
end
end L2
namespace L2
open PySem PySem.Spec PyProof.Rows
section
variable {κ : Type} [DecidableEq κ]
def valV (kvs : List (κ × V)) (k : κ) : Option V := (kvs.find? fun kv => decide (kv.1 = k)).map (·.2)
def putK (kvs : List (κ × V)) (k : κ) (v : V) : List (κ × V) :=
  if (kvs.any fun kv => decide (kv.1 = k)) = true then kvs.map (fun kv => if kv.1 = k then (kv.1, v) else kv) else kvs ++ [(k, v)]
def dropK (kvs : List (κ × V)) (k : κ) : List (κ × V) := kvs.filter fun kv => decide (kv.1 ≠ k)
theorem valV_pos {p : κ × V} {r : List (κ × V)} {k : κ} (e : p.1 = k) : valV (p :: r) k = some p.2 := by simp [valV, List.find?_cons, e]
theorem valV_neg {p : κ × V} {r : List (κ × V)} {k : κ} (e : ¬ p.1 = k) : valV (p :: r) k = valV r k := by simp [valV, List.find?_cons, e]
theorem valV_any (k : κ) : ∀ kvs : List (κ × V), (kvs.any fun kv => decide (kv.1 = k)) = (valV kvs k).isSome
  | [] => rfl
  | p :: r => by
    rw [List.any_cons]
    by_cases e : p.1 = k
    · simp only [valV_pos e, decide_eq_true e, Bool.true_or, Option.isSome_some]
    · rw [valV_neg e, decide_eq_false e, Bool.false_or]; exact valV_any k r
theorem length_putK (kvs : List (κ × V)) (k : κ) (v : V) : (putK kvs k v).length ≤ kvs.length + 1 := by
  unfold putK
  split
  · rw [List.length_map]; omega
  · rw [List.length_append, List.length_cons, List.length_nil]; omega
theorem RelO.isSome_eq {o : Option V} {u : Option Value} (r : RelO o u) : o.isSome = u.isSome := by
  cases o with
  | none => cases u with
    | none => rfl
    | some _ => exact (show False from r).elim
  | some _ => cases u with
    | none => exact (show False from r).elim
    | some _ => rfl
theorem RelO.getD {o : Option V} {u : Option Value} {d : V} {d' : Value} (r : RelO o u) (rd : RelV d d') : RelV (o.getD d) (u.getD d') := by
  cases o with
  | none => cases u with
    | none => exact rd
    | some _ => exact (show False from r).elim
  | some _ => cases u with
    | none => exact (show False from r).elim
    | some _ => exact r
theorem KV.val {kvs : List (κ × V)} {vs : List (κ × Value)} (r : KV kvs vs) (k : κ) : RelO (valV kvs k) (valueAt vs k) := by
  unfold KV at r
  induction r with
  | nil => exact True.intro
  | @cons p q ps qs h t ih =>
    obtain ⟨h1, h2⟩ := h
    by_cases e : p.1 = k
    · have e' : q.1 = k := h1.symm.trans e
      have b : valueAt (q :: qs) k = some q.2 := by simp [valueAt, List.find?_cons, e']
      rw [valV_pos e, b]; exact h2
    · have e' : ¬ q.1 = k := fun z => e (h1.trans z)
      have b : valueAt (q :: qs) k = valueAt qs k := by simp [valueAt, List.find?_cons, e']
      rw [valV_neg e, b]; exact ih
theorem KV.any {kvs : List (κ × V)} {vs : List (κ × Value)} (r : KV kvs vs) (k : κ) : (kvs.any fun kv => decide (kv.1 = k)) = vs.any fun kv => decide (kv.1 = k) := by
  unfold KV at r
  induction r with
  | nil => rfl
  | cons h t ih => rw [List.any_cons, List.any_cons, ih, h.1]
theorem KV.repl {kvs : List (κ × V)} {vs : List (κ × Value)} (r : KV kvs vs) (k : κ) {y : V} {u : Value} (ry : RelV y u) :
    KV (kvs.map fun kv => if kv.1 = k then (kv.1, y) else kv) (vs.map fun kv => if kv.1 = k then (kv.1, u) else kv) := by
  unfold KV at r ⊢
  induction r with
  | nil => exact .nil
  | @cons p q ps qs h t ih =>
    rw [List.map_cons, List.map_cons]
    refine .cons ?_ ih
    obtain ⟨h1, h2⟩ := h
    by_cases e : p.1 = k
    · rw [if_pos e, if_pos (h1.symm.trans e)]; exact ⟨h1, ry⟩
    · rw [if_neg e, if_neg (fun z => e (h1.trans z))]; exact ⟨h1, h2⟩
theorem KV.put {kvs : List (κ × V)} {vs : List (κ × Value)} (r : KV kvs vs) (k : κ) {y : V} {u : Value} (ry : RelV y u) : KV (putK kvs k y) (stored vs k u) := by
  unfold putK stored
  rw [r.any k]
  by_cases e : (vs.any fun kv => decide (kv.1 = k)) = true
  · rw [if_pos e, if_pos e]; exact r.repl k ry
  · rw [if_neg e, if_neg e]; exact Paired.snoc r ⟨rfl, ry⟩
theorem KV.drop {kvs : List (κ × V)} {vs : List (κ × Value)} (r : KV kvs vs) (k : κ) : KV (dropK kvs k) (without vs k) := by
  unfold KV at r ⊢
  unfold dropK without
  induction r with
  | nil => exact .nil
  | @cons p q ps qs h t ih =>
    obtain ⟨h1, h2⟩ := h
    rw [List.filter_cons, List.filter_cons]
    by_cases e : p.1 = k
    · have a : ¬ decide (p.1 ≠ k) = true := by simp [e]
      have b : ¬ decide (q.1 ≠ k) = true := by simp [h1.symm.trans e]
      rw [if_neg a, if_neg b]; exact ih
    · have e' : ¬ q.1 = k := fun z => e (h1.trans z)
      have a : decide (p.1 ≠ k) = true := by simp [e]
      have b : decide (q.1 ≠ k) = true := by simp [e']
      rw [if_pos a, if_pos b]; exact .cons ⟨h1, h2⟩ ih
theorem KV.length {kvs : List (κ × V)} {vs : List (κ × Value)} (r : KV kvs vs) : kvs.length = vs.length := Paired.length r
theorem dropK_le (kvs : List (κ × V)) (k : κ) : (dropK kvs k).length ≤ kvs.length := List.length_filter_le _ _
end
theorem kV_is {P : Program} {w : World} {k : Key} {u : Value} (r : RelV (kV k) u) : (mixKind P w).is k u = true := by
  cases k with
  | inl i => obtain ⟨t, e⟩ := (show ∃ t, u = Value.int i t from r); subst e; exact mixKind_int P w i t
  | inr x => obtain ⟨t, e⟩ := (show ∃ t, u = Value.str x t from r); subst e; exact mixKind_str P w x t
theorem items_are {P : Program} {w : World} : ∀ {ks : List Key} {us : List Value}, Vals (ks.map kV) us → ItemsAre (mixKind P w) ks us
  | [], _, r => by rw [List.map_nil] at r; cases r; exact .nil
  | k :: ks, _, r => by
    rw [List.map_cons] at r
    cases r with
    | cons h t => exact .cons (kV_is h) (items_are t)
abbrev KT (H : Hp) : List (List Key × V) → List (List Key × Addr × Value) → Prop := Paired fun p q => p.1 = q.1 ∧ H q.2.1 = some (.tup (p.1.map kV)) ∧ RelV p.2 q.2.2
theorem KT.val {H : Hp} {kvs : List (List Key × V)} {xs : List (List Key × Addr × Value)} (r : KT H kvs xs) (k : List Key) : RelO (valV kvs k) ((atKey xs k).map (·.2)) := by
  induction r with
  | nil => exact True.intro
  | @cons p q ps qs h t ih =>
    obtain ⟨h1, _, h2⟩ := h
    by_cases e : p.1 = k
    · have e' : q.1 = k := h1.symm.trans e
      have b : atKey (q :: qs) k = some q.2 := by simp [atKey, List.find?_cons, e']
      rw [valV_pos e, b]; exact h2
    · have e' : ¬ q.1 = k := fun z => e (h1.trans z)
      have b : atKey (q :: qs) k = atKey qs k := by simp [atKey, List.find?_cons, e']
      rw [valV_neg e, b]; exact ih
theorem KT.repl {H : Hp} {kvs : List (List Key × V)} {xs : List (List Key × Addr × Value)} (r : KT H kvs xs) (k : List Key) {y : V} {u : Value} (ry : RelV y u) :
    KT H (kvs.map fun kv => if kv.1 = k then (kv.1, y) else kv) (xs.map (putAt k u)) := by
  induction r with
  | nil => exact .nil
  | @cons p q ps qs h t ih =>
    rw [List.map_cons, List.map_cons]
    refine .cons ?_ ih
    obtain ⟨h1, h2, h3⟩ := h
    unfold putAt
    by_cases e : p.1 = k
    · rw [if_pos e, if_pos (h1.symm.trans e)]; exact ⟨h1, h2, ry⟩
    · rw [if_neg e, if_neg (fun z => e (h1.trans z))]; exact ⟨h1, h2, h3⟩
theorem KT.put {H : Hp} {kvs : List (List Key × V)} {xs : List (List Key × Addr × Value)} (r : KT H kvs xs) (k : List Key) {b : Addr} {y : V} {u : Value} (hb : H b = some (.tup (k.map kV))) (ry : RelV y u) :
    KT H (putK kvs k y) (storedH xs k b u) := by
  have e : (kvs.any fun kv => decide (kv.1 = k)) = (atKey xs k).isSome := by
    rw [valV_any, (r.val k).isSome_eq, Option.isSome_map]
  unfold putK storedH
  rw [e]
  by_cases q : (atKey xs k).isSome = true
  · rw [if_pos q, if_pos q]; exact r.repl k ry
  · rw [if_neg q, if_neg q]; exact Paired.snoc r ⟨rfl, hb, ry⟩
theorem KT.keeps {H H' : Hp} {kvs : List (List Key × V)} {xs : List (List Key × Addr × Value)} (r : KT H kvs xs) (ht : ∀ b ys, H b = some (.tup ys) → H' b = some (.tup ys)) : KT H' kvs xs :=
  Paired.mapP r fun _ _ z => ⟨z.1, ht _ _ z.2.1, z.2.2⟩
section
variable {P : Program} {w : World} {H : Hp} {h : Heap} {a : Addr}
theorem rd_of {u : HO} (ok : HOk P w H h) (e : Rd H a u) : ObjOk P w H h a u := e.ok ok
theorem dk_rd {kvs : List (Key × V)} (ok : HOk P w H h) (e : Rd H a (.dK kvs)) : kvs.length ≤ sizeLine ∧ (a == sysModules) = false ∧ ∃ vs, KV kvs vs ∧ h.DictOf (mixKind P w) a vs :=
  show ObjOk P w H h a (.dK kvs) from rd_of ok e
theorem dk_of {kvs : List (Key × V)} (ok : HOk P w H h) (e : H a = some (.dK kvs)) : kvs.length ≤ sizeLine ∧ (a == sysModules) = false ∧ ∃ vs, KV kvs vs ∧ h.DictOf (mixKind P w) a vs := dk_rd ok (.inl e)
theorem key_of {ks : List Key} (ok : HOk P w H h) (e : H a = some (.tup (ks.map kV))) : (tupleKind (mixKind P w)).is h ks a := by
  obtain ⟨_, its, r, o, h1, h2, n, h3⟩ := (show ObjOk P w H h a (.tup (ks.map kV)) from ok a _ e)
  exact ⟨o, its.toArray, n, h1, h2, h3, by simpa using items_are r⟩
theorem dt_rd {kvs : List (List Key × V)} (ok : HOk P w H h) (e : Rd H a (.dT kvs)) : kvs.length ≤ sizeLine ∧ (a == sysModules) = false ∧
    ∃ xs, KT H kvs xs ∧ h.DictOfH (tupleKind (mixKind P w)) a xs := by
  obtain ⟨z, y, xs, r, o, es, ep, h1, h2, h3, h4, h5⟩ := (show ObjOk P w H h a (.dT kvs) from rd_of ok e)
  refine ⟨z, y, xs, r, o, es, ep, h1, h2, h3, h4, fun x hx => ?_, h5⟩
  have all : ∀ {l : List (List Key × V)} {m : List (List Key × Addr × Value)}, KT H l m → ∀ x ∈ m, (tupleKind (mixKind P w)).is h x.1 x.2.1 := by
    intro l m q
    induction q with
    | nil => intro x hx; exact nomatch hx
    | @cons p q ps qs hq t ih =>
      intro x hx
      rcases List.mem_cons.mp hx with e | hx
      · subst e
        exact key_of ok (by rw [← hq.1]; exact hq.2.1)
      · exact ih x hx
  exact all r x hx
theorem dt_of {kvs : List (List Key × V)} (ok : HOk P w H h) (e : H a = some (.dT kvs)) : kvs.length ≤ sizeLine ∧ (a == sysModules) = false ∧
    ∃ xs, KT H kvs xs ∧ h.DictOfH (tupleKind (mixKind P w)) a xs := dt_rd ok (.inl e)
end
def DGet (H : Hp) (a : Addr) (y : V) (r : Option V) : Prop :=
  (∃ kvs k, Rd H a (.dK kvs) ∧ y = kV k ∧ r = valV kvs k) ∨ ∃ kvs k b, Rd H a (.dT kvs) ∧ y = .ref b ∧ H b = some (.tup (k.map kV)) ∧ r = valV kvs k
def DPut (H : Hp) (a : Addr) (y v : V) (H' : Hp) : Prop :=
  (∃ kvs k, H a = some (.dK kvs) ∧ y = kV k ∧ kvs.length < sizeLine ∧ H' = upd H a (.dK (putK kvs k v))) ∨
  ∃ kvs k b, H a = some (.dT kvs) ∧ y = .ref b ∧ H b = some (.tup (k.map kV)) ∧ kvs.length < sizeLine ∧ H' = upd H a (.dT (putK kvs k v))
theorem DGet.k {H : Hp} {a : Addr} {kvs : List (Key × V)} {k : Key} (e : H a = some (.dK kvs)) : DGet H a (kV k) (valV kvs k) := .inl ⟨kvs, k, .inl e, rfl, rfl⟩
theorem DPut.k {H : Hp} {a : Addr} {kvs : List (Key × V)} {k : Key} {v : V} (e : H a = some (.dK kvs)) (hl : kvs.length < sizeLine) : DPut H a (kV k) v (upd H a (.dK (putK kvs k v))) := .inl ⟨kvs, k, e, rfl, hl, rfl⟩
section
variable {X : Cx} {pins : List (Addr × Obj)} {σ : St} {H : Hp} {s : Shared} {a : Addr} {y v : V} {u r : Value} {o : Option V} {A : Around} {E : Value → Shared → Prop}
theorem Inv.big (I : Inv X pins σ H s) : sysModules < s.heap.objs.size := by
  have h : mainGlobals < s.heap.objs.size := (I.mod.glob.keeps I.bk).lt
  exact Nat.lt_trans (by decide) h
theorem d_notIn {Q : Value → Shared → Prop} (hu : A.units + 1 < cLine) (I : Inv X pins σ H s) (g : DGet H a y o) (ry : RelV y u) (h : ∀ s', Inv X pins σ H s' → Q (.bool (!o.isSome)) s') :
    wpAny (model X.prog X.w) A (compareOp .NotIn u (.ref a)) Q E s := by
  rcases g with ⟨kvs, k, e, ey, l⟩ | ⟨kvs, k, b, e, ey, eb, l⟩
  · subst ey
    obtain ⟨z, hd, vs, rel, dd⟩ := dk_rd I.hok e
    refine wpAny_notIn_of (kV_is ry) hd dd.mapOf ?_
    rw [← (rel.val k).isSome_eq, ← l]
    exact h _ (I.tok _)
  · subst ey
    cases (show u = Value.ref b from ry)
    obtain ⟨z, hd, xs, rel, dd⟩ := dt_rd I.hok e
    refine wpAny_notIn_heap (tupleKind_room_in1 hu) (key_of I.hok eb) hd dd ?_
    have q := (rel.val k).isSome_eq
    rw [Option.isSome_map] at q
    rw [← q, ← l]
    exact h _ (I.tok _)
theorem d_write {h' : Heap} {t' : Nat} {ob : HO} (I : Inv X pins σ H s) (mu : Mut (H a)) (hs : Heap.SameBut a s.heap h') (he : ∃ q, h'.get? a = some q) (new : ObjOk X.prog X.w (upd H a ob) h' a ob) :
    Inv X pins σ (upd H a ob) { s with heap := h', toks := t' } :=
  I.write (x := a) (e := a) mu (.inl rfl) (fun b q hb z => (hs.2 b hb).trans z) he new
theorem dk_new {P : Program} {w : World} {H' : Hp} {h' : Heap} {kvs : List (Key × V)} {vs : List (Key × Value)} (z : kvs.length ≤ sizeLine) (hd : (a == sysModules) = false) (rel : KV kvs vs) (dd : h'.DictOf (mixKind P w) a vs) :
    ObjOk P w H' h' a (.dK kvs) := ⟨z, hd, vs, rel, dd⟩
theorem d_setItem {H' : Hp} {Q : Unit → Shared → Prop} (hu : A.units + 1 < cLine) (I : Inv X pins σ H s) (g : DPut H a y v H') (ry : RelV y u) (rv : RelV v r) (h : ∀ s', Inv X pins σ H' s' → Q () s') :
    wpAny (model X.prog X.w) A (setItem (.ref a) u r) Q E s := by
  rcases g with ⟨kvs, k, e, ey, l, eH⟩ | ⟨kvs, k, b, e, ey, eb, l, eH⟩
  · subst ey eH
    obtain ⟨z, hd, vs, rel, dd⟩ := dk_of I.hok e
    have hz : vs.length ≤ sizeLine := by rw [← rel.length]; exact z
    have hl : (putK kvs k v).length ≤ sizeLine := by have := length_putK kvs k v; omega
    refine wpAny_setItem_pairs (hsz := hz) (kV_is ry) dd fun h' dd' hs => h _ ?_
    have he : ∃ q, h'.get? a = some q := let ⟨q, _, _, hq, _⟩ := dd'; ⟨q, hq⟩
    exact d_write I (by rw [e]; exact True.intro) hs he (dk_new hl hd (rel.put k rv) dd')
  · subst ey eH
    cases (show u = Value.ref b from ry)
    obtain ⟨z, hd, xs, rel, dd⟩ := dt_of I.hok e
    have hz : xs.length ≤ sizeLine := by rw [← Paired.length rel]; exact z
    have hl : (putK kvs k v).length ≤ sizeLine := by have := length_putK kvs k v; omega
    refine wpAny_setItem_heap (hsz := hz) (tupleKind_room_in1 hu) (key_of I.hok eb) dd fun h' dd' hs => h _ ?_
    obtain ⟨q, es, ep, hq, h2, h3, h4, _, h5⟩ := dd'
    refine d_write I (by rw [e]; exact True.intro) hs ⟨q, hq⟩ ⟨hl, hd, _, (rel.put k eb rv).keeps fun c ys ec => ?_, q, es, ep, hq, h2, h3, h4, h5⟩
    rw [upd_ne (ne_of ec e (fun z => nomatch z))]
    exact ec
end
section
variable {X : Cx} {pins : List (Addr × Obj)} {σ : St} {H : Hp} {s : Shared} {a : Addr} {kvs : List (Key × V)} {k : Key} {u : Value} {A : Around} {E : Value → Shared → Prop}
theorem d_pop {v : V} {more : List Value} {Q : Value → Shared → Prop} (I : Inv X pins σ H s) (e : H a = some (.dK kvs)) (ry : RelV (kV k) u) (l : valV kvs k = some v) (hm : more = [] ∨ ∃ x, more = [x])
    (h : ∀ w' s', Inv X pins σ (upd H a (.dK (dropK kvs k))) s' → RelV v w' → Q w' s') : wpAny (model X.prog X.w) A (call (.builtin "dict.pop") (.ref a :: u :: more)) Q E s := by
  obtain ⟨z, hd, vs, rel, dd⟩ := dk_of I.hok e
  obtain ⟨w', hw, rw'⟩ := RelO.some_of (v := v) (o := valueAt vs k) (by rw [← l]; exact rel.val k)
  have hp : (keyPart u).isSome = true := by
    cases k with
    | inl i => obtain ⟨t, q⟩ := (show ∃ t, u = Value.int i t from ry); subst q; rfl
    | inr x => obtain ⟨t, q⟩ := (show ∃ t, u = Value.str x t from ry); subst q; rfl
  have ha : argsOk "dict.pop" ⟨.ref a :: u :: more, []⟩ := by
    rcases hm with q | ⟨x, q⟩
    · subst q; exact PySem.F.args_dict_pop_2 _ _
    · subst q; exact PySem.F.args_dict_pop_3 _ _ _
  refine call_meetsIn PySem.F.slot_dict_pop dd.typeIs PySem.F.entry_dict_pop ha (meets_dict_pop_there (mixKind X.prog X.w) a (kV_is ry) more hm hp)
    ⟨vs, w', dd, by rw [← rel.length]; exact z, hw, fun h' dd' hs => h w' _ ?_ rw'⟩
  have he : ∃ q, h'.get? a = some q := let ⟨q, _, _, hq, _⟩ := dd'; ⟨q, hq⟩
  exact d_write I (by rw [e]; exact True.intro) hs he (dk_new (Nat.le_trans (dropK_le kvs k) z) hd (rel.drop k) dd')
theorem d_len {Q : Value → Shared → Prop} (I : Inv X pins σ H s) (e : Rd H a (.dK kvs)) (h : ∀ t s', Inv X pins σ H s' → Q (.int kvs.length t) s') : wpAny (model X.prog X.w) A (call (.builtin "len") [.ref a]) Q E s := by
  obtain ⟨z, hd, vs, rel, dd⟩ := dk_rd I.hok e
  refine call_len_dict hd dd (by rw [← rel.length]; rw [sizeLine_eq] at z; omega) ?_
  rw [← rel.length]
  exact h _ _ (I.tok _)
end
def tDNotIn (ty td : TE) : TE := fun σ H Q => ty σ H fun y H1 => td σ H1 fun x H2 => ∃ a o, x = .ref a ∧ DGet H2 a y o ∧ Q (.bl (!o.isSome)) H2
def sDPut (td ty tv : TE) : TS := fun D σ H => tv σ H fun v H1 => td σ H1 fun x H2 => ty σ H2 fun y H3 => ∃ a H4, x = .ref a ∧ DPut H3 a y v H4 ∧ D.nx σ H4
section
variable {X : Cx} {o i e value : Expr} {pos pos' tpos : Pos} {td ty tv : TE}
theorem pc_dnotin (hu : X.A.units + 1 < cLine) (hi : PE X i ty) (ho : PE X o td) : PC X .NotIn i o (tDNotIn ty td) := by
  intro pins s σ H Q I h
  refine thn (hi pins s σ H _ I h) fun iv s1 ⟨y, H1, I1, ry, q1⟩ => thn (ho pins s1 σ H1 _ I1 q1) fun u s2 hpat => ?_
  obtain ⟨x, H2, I2, rx, a, ov, ex, g, q2⟩ := hpat
  subst ex
  obtain rfl : u = Value.ref a := rx
  exact d_notIn hu I2 g ry fun s3 I3 => ⟨.bl (!ov.isSome), H2, I3, rfl, q2⟩
theorem ps_dput (hu : X.A.units + 1 < cLine) (ho : PE X o td) (hi : PE X i ty) (hv : PE X value tv) (hs : swapsWith value (some (.Subscript o i pos')) pos.line X.env = pure false) :
    PS X (.Assign [.Subscript o i pos'] value pos) (sDPut td ty tv) := by
  intro pins s σ H D I h
  refine wpAny_Assign_Subscript (thn (hv pins s σ H _ I h) fun r s1 ⟨v, H1, I1, rv, q1⟩ => thn (ho pins s1 σ H1 _ I1 q1) fun u s2 ⟨x, H2, I2, rx, q2⟩ => thn (hi pins s2 σ H2 _ I2 q2) fun iv s3 hpat => ?_) hs
  obtain ⟨y, H3, I3, ry, a, H4, ex, g, q3⟩ := hpat
  subst ex
  obtain rfl : u = Value.ref a := rx
  exact d_setItem hu I3 g ry rv fun s4 I4 => ⟨σ, H4, I4, q3⟩
end
theorem dk_empty {P : Program} {w : World} {H : Hp} (h : Heap) (hb : sysModules < h.objs.size) : ObjOk P w H (h.push { cls := .type "dict", data := .dict #[] }) h.objs.size (.dK []) :=
  ⟨Nat.zero_le _, beq_eq_false_iff_ne.mpr (Ne.symm (Nat.ne_of_lt hb)), [], .nil, Heap.DictOf.new h⟩
def tDNewK : TE := fun _ H Q => ∀ p, H p = none → Q (.ref p) (upd H p (.dK []))
section
variable {X : Cx} {pos : Pos}
theorem pe_dnewK : PE X (.Dict [] [] pos) tDNewK := fun pins s σ H Q I h =>
  wpAny_Dict_empty ⟨.ref s.heap.objs.size, _, I.laid (a := s.heap.objs.size) (o := .dK []) (t' := s.toks) (fun _ _ q => Heap.get?_push_of_some _ q) (Nat.le_refl _) (dk_empty s.heap I.big), rfl, h _ (I.hok.fresh (Nat.le_refl _))⟩
end
structure M1 (X : Cx) (o : Expr) (m : Str) (apos : Pos) (e : Expr) (cpos : Pos) : Prop where
  base : attributeBase o m X.env (eval o X.env) = eval o X.env
  few : ((backTo cpos (starEach [e] X.env)).all (fun x => !x.1) && (backToKw cpos (keywordEach [] X.env)).all (fun x => x.1.isSome)
    && decide (([e] : List Expr).length + ([] : List Keyword).length + (if ([] : List Keyword).isEmpty then 0 else 1) < 30)) = true
  line : (apos.endLine == cpos.line) = true
  trees : backTo cpos (starEach [e] X.env) = [(false, eval e X.env)]
structure M2 (X : Cx) (o : Expr) (m : Str) (apos : Pos) (e f : Expr) (cpos : Pos) : Prop where
  base : attributeBase o m X.env (eval o X.env) = eval o X.env
  few : ((backTo cpos (starEach [e, f] X.env)).all (fun x => !x.1) && (backToKw cpos (keywordEach [] X.env)).all (fun x => x.1.isSome)
    && decide (([e, f] : List Expr).length + ([] : List Keyword).length + (if ([] : List Keyword).isEmpty then 0 else 1) < 30)) = true
  line : (apos.endLine == cpos.line) = true
  trees : backTo cpos (starEach [e, f] X.env) = [(false, eval e X.env), (false, eval f X.env)]
def IsD (H : Hp) (a : Addr) : Prop := (∃ kvs, Rd H a (.dK kvs)) ∨ ∃ kvs, Rd H a (.dT kvs)
theorem isD_at {X : Cx} {pins : List (Addr × Obj)} {σ : St} {H : Hp} {s : Shared} {a : Addr} (I : Inv X pins σ H s) (d : IsD H a) :
    s.TypeIs (.ref a) "dict" ∧ (∀ b, Value.ref a = .ref b → ∃ ob, s.heap.get? b = some ob ∧ ob.dict = none) ∧ (a == sysModules) = false := by
  rcases d with ⟨kvs, e⟩ | ⟨kvs, e⟩
  · obtain ⟨_, hd, vs, _, dd⟩ := dk_rd I.hok e
    refine ⟨dd.typeIs, fun b q => ?_, hd⟩
    cases q
    obtain ⟨ob, _, _, h1, h2, _⟩ := dd
    exact ⟨ob, h1, h2.2.1⟩
  · obtain ⟨_, hd, xs, _, dd⟩ := dt_rd I.hok e
    refine ⟨dd.typeIs, fun b q => ?_, hd⟩
    cases q
    obtain ⟨ob, _, _, h1, h2, _⟩ := dd
    exact ⟨ob, h1, h2.2.1⟩
section
variable {X : Cx} {pins : List (Addr × Obj)} {σ : St} {H : Hp} {s : Shared} {a : Addr} {y d : V} {u r : Value} {o : Option V} {A : Around} {E : Value → Shared → Prop}
theorem d_get1 {Q : Value → Shared → Prop} (hu : A.units + 1 < cLine) (I : Inv X pins σ H s) (g : DGet H a y o) (ry : RelV y u) (h : ∀ w' s', Inv X pins σ H s' → RelV (o.getD .non) w' → Q w' s') :
    wpAny (model X.prog X.w) A (call (.builtin "dict.get") [.ref a, u]) Q E s := by
  rcases g with ⟨kvs, k, e, ey, l⟩ | ⟨kvs, k, b, e, ey, eb, l⟩
  · subst ey
    obtain ⟨z, hd, vs, rel, dd⟩ := dk_rd I.hok e
    refine call_meetsIn PySem.F.slot_dict_get dd.typeIs PySem.F.entry_dict_get (PySem.F.args_dict_get_2 _ _) (meets_dict_get (mixKind X.prog X.w) a (kV_is ry) hd) ⟨_, dd.mapOf, h _ _ (I.tok _) ?_⟩
    rw [l]
    exact (rel.val k).getD rfl
  · subst ey
    cases (show u = Value.ref b from ry)
    obtain ⟨z, hd, xs, rel, dd⟩ := dt_rd I.hok e
    refine call_meetsIn PySem.F.slot_dict_get dd.typeIs PySem.F.entry_dict_get (PySem.F.args_dict_get_2 _ _) (meetsH_dict_get (tupleKind (mixKind X.prog X.w)) a b hd) ⟨tupleKind_room_in1 hu, k, xs, key_of I.hok eb, dd, h _ _ (I.tok _) ?_⟩
    rw [l]
    exact (rel.val k).getD rfl
end
def tDGet1 (td ty : TE) : TE := fun σ H Q => td σ H fun x H1 => ∃ a, x = .ref a ∧ IsD H1 a ∧ ty σ H1 fun y H2 => ∃ o, DGet H2 a y o ∧ Q (o.getD .non) H2
def tDPop1 (td ty : TE) : TE := fun σ H Q => td σ H fun x H1 => ∃ a, x = .ref a ∧ IsD H1 a ∧ ty σ H1 fun y H2 => ∃ kvs k v, H2 a = some (.dK kvs) ∧ y = kV k ∧ valV kvs k = some v ∧ Q v (upd H2 a (.dK (dropK kvs k)))
section
variable {X : Cx} {o e f : Expr} {apos cpos : Pos} {td ty tx : TE}
theorem pe_dget1 (hu : X.A.units + 1 < cLine) (ho : PE X o td) (he : PE X e ty) (m : M1 X o "get" apos e cpos) : PE X (.Call (.Attribute o "get" apos) [e] [] cpos) (tDGet1 td ty) := by
  intro pins s σ H Q I h
  refine wpAny_Call_method m.base m.few m.line PySem.F.plainAttrs_dict PySem.F.slot_dict_get PySem.F.type_dict_get (thn (ho pins s σ H _ I h) fun u s1 hpat => ?_)
  obtain ⟨x, H1, I1, rx, a, ex, d, q1⟩ := hpat
  subst ex
  obtain rfl : u = Value.ref a := rx
  obtain ⟨t1, t2, _⟩ := isD_at I1 d
  refine ⟨t1, t2, ?_⟩
  rw [m.trees]
  refine Calls.callWith_builtin rfl (Calls.evalArgs_plain (Calls.spliced_cons (thn (he pins s1 σ H1 _ I1 q1) fun iv s2 ⟨y, H2, I2, ry, ov, g, q2⟩ => Calls.spliced_nil ?_)))
  exact d_get1 hu I2 g ry fun w' s3 I3 rw' => ⟨_, H2, I3, rw', q2⟩
theorem pe_dpop1 (ho : PE X o td) (he : PE X e ty) (m : M1 X o "pop" apos e cpos) : PE X (.Call (.Attribute o "pop" apos) [e] [] cpos) (tDPop1 td ty) := by
  intro pins s σ H Q I h
  refine wpAny_Call_method m.base m.few m.line PySem.F.plainAttrs_dict PySem.F.slot_dict_pop PySem.F.type_dict_pop (thn (ho pins s σ H _ I h) fun u s1 hpat => ?_)
  obtain ⟨x, H1, I1, rx, a, ex, d, q1⟩ := hpat
  subst ex
  obtain rfl : u = Value.ref a := rx
  obtain ⟨t1, t2, _⟩ := isD_at I1 d
  refine ⟨t1, t2, ?_⟩
  rw [m.trees]
  refine Calls.callWith_builtin rfl (Calls.evalArgs_plain (Calls.spliced_cons (thn (he pins s1 σ H1 _ I1 q1) fun iv s2 ⟨y, H2, I2, ry, kvs, k, v, ea, ey, l, q2⟩ => Calls.spliced_nil ?_)))
  subst ey
  exact d_pop I2 ea ry l (.inl rfl) fun w' s3 I3 rw' => ⟨v, _, I3, rw', q2⟩
end
section
variable {X : Cx} {pins : List (Addr × Obj)} {σ : St} {H : Hp} {s : Shared} {a : Addr} {kvs : List (Key × V)} {A : Around} {E : Value → Shared → Prop}
end
section
variable {X : Cx} {pins : List (Addr × Obj)} {σ : St} {H : Hp} {s : Shared} {a : Addr} {y : V} {u : Value} {A : Around} {E : Value → Shared → Prop}
end
end L2
namespace Att
open PySem PySem.W PySem.Calls PyProof.Rows
section
variable {prog : Program} {w : World} {A : Around} {E : Value → Shared → Prop} {s : Shared} {K : Frag}
end
end Att
namespace L2
open PySem PySem.Spec PyProof.Rows
end L2
namespace L2
open PySem PySem.Spec PyProof.Rows
end L2
namespace L2
open PySem PySem.Spec PyProof.Rows
section
variable {P : Program} {w : World} {K : PySem.W.Frag} {mg : Str → Option Value} {base : Heap}
end
section
variable {X : Cx}
theorem call_lenD : CallR X (.builtin "len") (fun xs H Q => ∃ a kvs, xs = [V.ref a] ∧ H a = some (.dK kvs) ∧ Q (.int kvs.length) H) := by
  intro pins s σ H xs us Q I r h
  obtain ⟨a, kvs, rfl, ha, q⟩ := h
  obtain ⟨u, rfl, ru⟩ := vals1 r
  cases ru
  exact d_len I (.inl ha) fun t s' I' => ⟨.int kvs.length, H, I', ⟨t, rfl⟩, q⟩
end
section
variable {κ : Type} [DecidableEq κ]
theorem nd_snoc : ∀ {l : List κ} {k : κ}, l.Nodup → ¬ k ∈ l → (l ++ [k]).Nodup
  | [], k, _, _ => by simp
  | a :: r, k, h, hk => by
    obtain ⟨h1, h2⟩ := List.nodup_cons.mp h
    show (a :: (r ++ [k])).Nodup
    refine List.nodup_cons.mpr ⟨fun m => ?_, nd_snoc h2 fun m => hk (List.mem_cons.mpr (Or.inr m))⟩
    rcases List.mem_append.mp m with q | q
    · exact h1 q
    · exact hk (List.mem_cons.mpr (Or.inl (List.mem_singleton.mp q).symm))
theorem dropK_pos {p : κ × V} {r : List (κ × V)} {k : κ} (e : p.1 = k) : dropK (p :: r) k = dropK r k := by
  unfold dropK
  rw [List.filter_cons, if_neg (by simp [e])]
theorem dropK_neg {p : κ × V} {r : List (κ × V)} {k : κ} (e : ¬ p.1 = k) : dropK (p :: r) k = p :: dropK r k := by
  unfold dropK
  rw [List.filter_cons, if_pos (by simp [e])]
end
end L2
end
section
namespace L2
open PySem PySem.Spec PyProof.Rows
section
variable {X : Cx} {pins : List (Addr × Obj)} {σ σ0 : St} {H H0 : Hp} {s s0 : Shared} {d : Addr} {ob : Obj} {kvs : List (Key × V)}
theorem Inv.freeze (I : Inv X pins σ H s) (e : H d = some (.dK kvs)) (ho : s.heap.get? d = some ob) : Inv X pins σ (upd H d (.frz ob (.dK kvs))) s := by
  have nd : ∀ b u, H b = some u → u ≠ .dK kvs → b ≠ d := fun b u q n z => by subst z; rw [e] at q; exact n (Option.some.inj q).symm
  have hk : HOk X.prog X.w (upd H d (.frz ob (.dK kvs))) s.heap := fun b u q => by
    have st : ∀ {b : Addr} {u : HO}, ObjOk X.prog X.w H s.heap b u → ObjOk X.prog X.w (upd H d (.frz ob (.dK kvs))) s.heap b u := fun x => x.stay (fun _ _ _ q => q)
      (fun c q => by rw [upd_ne (nd c _ q (by intro z; cases z))]; exact q) fun c xs q => by rw [upd_ne (nd c _ q (by intro z; cases z))]; exact q
    by_cases hb : b = d
    · subst hb
      rw [upd_same] at q
      cases q
      exact ⟨ho, st (I.hok b _ e)⟩
    · rw [upd_ne hb] at q
      exact st (I.hok b u q)
  refine I.un (h' := s.heap) (t' := s.toks) ⟨fun b o q _ _ _ => q, fun b o q _ _ _ => ⟨o.slots, q⟩, fun b o q n _ => ?_, fun b o q _ => ⟨o, q⟩, fun b xs q => ?_, fun b o u q => ?_, fun b ps q => ⟨#[], ?_⟩⟩ hk
  · rw [upd_ne (by intro z; subst z; rw [e] at n; cases n)]
    exact n
  · rw [upd_ne (nd b _ q (by intro z; cases z))]
    exact q
  · rw [upd_ne (nd b _ q (by intro z; cases z))]
    exact q
  · rw [upd_ne (nd b _ q (by intro z; cases z)), q]
    simp
theorem Inv.thaw (I0 : Inv X pins σ0 H0 s0) (e0 : H0 d = some (.dK kvs)) (I : Inv X pins σ H s) (e : H d = some (.frz ob (.dK kvs))) : Inv X pins σ (upd H d (.dK kvs)) s := by
  have nd : ∀ b u, H b = some u → u ≠ .frz ob (.dK kvs) → b ≠ d := fun b u q n z => by subst z; rw [e] at q; exact n (Option.some.inj q).symm
  have nn : ∀ b, H b = none → b ≠ d := fun b q z => by subst z; rw [e] at q; cases q
  have n0 : ∀ b u, H0 b = some u → u ≠ .dK kvs → b ≠ d := fun b u q n z => by subst z; rw [e0] at q; exact n (Option.some.inj q).symm
  have st : ∀ {b : Addr} {u : HO}, ObjOk X.prog X.w H s.heap b u → ObjOk X.prog X.w (upd H d (.dK kvs)) s.heap b u := fun x => x.stay (fun _ _ _ q => q)
      (fun c q => by rw [upd_ne (nd c _ q (by intro z; cases z))]; exact q) fun c xs q => by rw [upd_ne (nd c _ q (by intro z; cases z))]; exact q
  refine ⟨I.ok, I.os, I.bare, ⟨I.base.keep, I.base.slot, fun b o q n hx => ?_, I.base.there, fun b xs q => ?_, fun b o u q => ?_, fun b ps q => ?_⟩, I.loc, I.cell, ?_, fun x c q => ?_, fun p hp => ?_, fun b u q => ?_, I.len⟩
  · have z := I.base.free b o q n hx
    rw [upd_ne (nn b z)]
    exact z
  · have z := I.base.tups b xs q
    rw [upd_ne (nd b _ z (by intro z; cases z))]
    exact z
  · have z := I0.base.frzs b o u q
    rw [upd_ne (n0 b _ z (by intro z; cases z))]
    exact I.base.frzs b o u q
  · obtain ⟨more, z⟩ := I.base.tbls b ps q
    refine ⟨more, ?_⟩
    rw [upd_ne (nd b _ z (by intro z; cases z))]
    exact z
  · rw [upd_ne (nn _ I.free)]
    exact I.free
  · rw [upd_ne (nn _ (I.freeC x c q))]
    exact I.freeC x c q
  · obtain ⟨a, b, c⟩ := I.pin p hp
    refine ⟨a, ?_, c⟩
    rw [upd_ne (nn _ b)]
    exact b
  · by_cases hb : b = d
    · subst hb
      rw [upd_same] at q
      cases q
      exact st (show ObjOk X.prog X.w H s.heap b (.frz ob (.dK kvs)) from I.hok b _ e).2
    · rw [upd_ne hb] at q
      exact st (I.hok b u q)
end
theorem kV_rel {P : Program} {w : World} {k : Key} {u : Value} (h : (mixKind P w).is k u = true) : RelV (kV k) u := by
  rcases keyIs_shape (show keyIs k u = true from h) with ⟨i, t, rfl, rfl⟩ | ⟨x, t, rfl, rfl⟩
  · exact ⟨t, rfl⟩
  · exact ⟨t, rfl⟩
theorem Vals.of_get : ∀ {xs : List V} {us : List Value}, xs.length = us.length → (∀ (i : Nat) (x : V) (u : Value), xs[i]? = some x → us[i]? = some u → RelV x u) → Vals xs us
  | [], [], _, _ => .nil
  | [], _ :: _, h, _ => by simp at h
  | _ :: _, [], h, _ => by simp at h
  | x :: xs, u :: us, h, f => .cons (f 0 x u rfl rfl) (Vals.of_get (by simpa using h) fun i y w h1 h2 => f (i + 1) y w h1 h2)
theorem KV.get : ∀ {kvs : List (Key × V)} {vs : List (Key × Value)}, KV kvs vs → ∀ (i : Nat) (k : Key) (v : V), kvs[i]? = some (k, v) → ∃ u, vs[i]? = some (k, u) ∧ RelV v u
  | _, _, .nil, i, k, v, h => by simp at h
  | p :: kvs, q :: vs, .cons r t, 0, k, v, h => by
    have h' : some p = some (k, v) := h
    cases h'
    obtain ⟨r1, r2⟩ := r
    have r1' : k = q.1 := r1
    exact ⟨q.2, by show some q = some (k, q.2); rw [r1'], r2⟩
  | p :: kvs, q :: vs, .cons r t, i + 1, k, v, h => KV.get (kvs := kvs) (vs := vs) t i k v h
theorem kit_tup_int {K : PySem.W.Frag} : PySem.W.kitOne K (.type "int") (.type "tuple") = some false := by kernel_rfl
theorem call_list_dict {X : Cx} (hcalm : X.calm = true) : CallR X (.type "list") (fun xs H Q => ∃ d kvs, xs = [.ref d] ∧ H d = some (.dK kvs) ∧ ∀ l, H l = none → Q (.ref l) (upd H l (.lst (kvs.map fun kv => kV kv.1)))) := by
  intro pins s σ H xs us Q I r h
  obtain ⟨d, kvs, rfl, hd, q⟩ := h
  obtain ⟨u, rfl, rx⟩ := vals1 r
  cases rx
  obtain ⟨z, lo, vs, rel, dd⟩ := dk_of I.hok hd
  obtain ⟨ep, hat⟩ := dd.dictAt
  refine PySem.W.kdl_call (PySem.W.kdl_dict (knd := mixKind X.prog X.w) (kvs := vs) (ep := ep) lo) (I.ok.hd hcalm) hat (by rw [← KV.length rel]; exact z) fun h' tk acc c kp hD hacc => ?_
  have hv : Vals (kvs.map fun kv => kV kv.1) acc.toList := by
    have hl : acc.toList.length = kvs.length := by rw [Array.length_toList, hacc.1, KV.length rel]
    refine Vals.of_get (by rw [List.length_map, hl]) fun i x u hx hu => ?_
    rw [List.getElem?_map] at hx
    cases e : kvs[i]? with
    | none => rw [e] at hx; cases hx
    | some kv =>
      rw [e] at hx
      obtain ⟨k, v⟩ := kv
      have hx' : kV k = x := Option.some.inj hx
      obtain ⟨k', x', h1, h2⟩ := hacc.2 i u (by rw [← Array.getElem?_toList]; exact hu)
      obtain ⟨u', h3, _⟩ := KV.get rel i k v e
      rw [h1] at h3
      cases h3
      rw [← hx']
      exact kV_rel h2
  refine ⟨.ref s.heap.objs.size, _, I.laid (o := .lst (kvs.map fun kv => kV kv.1)) (t' := tk) kp (Nat.le_refl _) ⟨by rw [List.length_map]; exact z, acc.toList, c, hv, by rw [Array.toArray_toList]; exact hD⟩, rfl, q _ (I.hok.fresh (Nat.le_refl _))⟩
def viewO (v d : Addr) : HO := .ext fun h => h.IsItemsView v d
def rItems : V → List V → Hp → VK → Prop := fun x vs H Q => ∃ d kvs, x = .ref d ∧ vs = [] ∧ H d = some (.dK kvs) ∧ ∀ v, H v = none → Q (.ref v) (upd H v (viewO v d))
theorem mt_items {X : Cx} : MtR X "dict.items" rItems := by
  intro pins s σ H x vs v us Q I rx rv h
  obtain ⟨d, kvs, rfl, rfl, hd, q⟩ := h
  cases rx
  cases rv
  obtain ⟨z, lo, vs, rel, dd⟩ := dk_of I.hok hd
  refine PySem.call_meetsIn PySem.F.slot_dict_items dd.typeIs PySem.F.entry_dict_items (PySem.F.args_dict_items_1 _) (meets_dict_items (mixKind X.prog X.w) d lo) ⟨⟨_, dd⟩, ?_⟩
  exact ⟨.ref s.heap.objs.size, _, I.laid (o := viewO s.heap.objs.size d) (t' := s.toks) (fun b o q => Heap.get?_push_of_some _ q) (Nat.le_refl _) ⟨⟨_, Heap.get?_push_size _ rfl, rfl, rfl⟩, ⟨_, Heap.get?_push_size _ rfl⟩, fun h1 h2 ⟨o, a, b⟩ k => ⟨o, k o a, b⟩⟩, rfl, q _ (I.hok.fresh (Nat.le_refl _))⟩
def Itm (d : Addr) (ob : Obj) (kvs : List (Key × V)) : It :=
  ⟨fun i H => H d = some (.frz ob (.dK kvs)) ∧ i < kvs.length, fun i H x H' => ∃ t k v, H t = none ∧ x = .ref t ∧ kvs[i]? = some (k, v) ∧ H' = upd H t (.tup [kV k, v]), fun i H => H d = some (.frz ob (.dK kvs)) ∧ kvs.length ≤ i⟩
theorem turn_items {P : Program} {w : World} {K : PySem.W.Frag} {elts : List Expr} {x1 : Nat} {pos : Pos} (d it : Addr) (ob : Obj) (kvs : List (Key × V)) {es : Array DictEntry} {ep : Nat} (hob : ob.data = .dict es ep) :
    Turn P w K (.Tuple elts x1 pos) (Itm d ob kvs) [it] it (fun i h => ∃ ok ov, IsItemIter h it d i kvs.length ep ok ov) where
  mem := by simp
  obj := fun i h st b hb => by
    obtain ⟨ok, ov, e⟩ := st
    rw [List.mem_singleton.mp hb]
    exact ⟨_, e, fun v z => by cases z⟩
  keep := fun i h h' ⟨ok, ov, e⟩ k => ⟨ok, ov, k it (by simp) _ e⟩
  item := by
    intro X hP hw hK hc i pins s σ H E I hf st hg
    subst hP hw hK
    obtain ⟨hd, hi⟩ := hg
    obtain ⟨ok, ov, hit⟩ := st
    obtain ⟨ho, z, lo, vs, rel, dd⟩ := (show ObjOk X.prog X.w H s.heap d (.frz ob (.dK kvs)) from I.hok d _ hd)
    obtain ⟨ep', dat⟩ := dd.dictAt
    obtain ⟨o', es', g1, g2, g3, g4⟩ := id dat
    rw [ho] at g1
    cases g1
    rw [hob] at g3
    cases g3
    obtain ⟨k, v, hkv⟩ : ∃ k v, kvs[i]? = some (k, v) := ⟨kvs[i].1, kvs[i].2, by simp [hi]⟩
    obtain ⟨u, hu, ru⟩ := KV.get rel i k v hkv
    have hil : it < s.heap.objs.size := Heap.lt_size hit
    rw [KV.length rel] at hit
    refine wpAny_pyNext_items_item hit dat hu fun key h1 hkey hout ht hsz hk => ⟨_, rfl, ?_⟩
    refine wpAny_letOwnedTupleGo_items hout fun h2 he2 hs2 => ?_
    have hs2 : Heap.SameBut it h1 h2 := hs2
    have hT : H s.heap.objs.size = none := I.hok.fresh (Nat.le_refl _)
    have I1 : Inv X pins σ (upd H s.heap.objs.size (.tup [kV k, v])) { s with heap := s.heap.push { cls := .type "tuple", data := .seq #[key, u] }, toks := s.toks } := by
      refine I.laid (fun b o z => Heap.get?_push_of_some _ z) (Nat.le_refl _) ?_
      exact ⟨by show 2 ≤ sizeLine; decide, [key, u], .cons (kV_rel hkey) (.cons ru .nil), _, Heap.get?_push_size _ rfl, rfl, _, rfl⟩
    have hf1 : ∀ b ∈ [it], FpOk X pins (upd H s.heap.objs.size (.tup [kV k, v])) b := fun b hb => by
      obtain ⟨f0, f⟩ := hf b hb
      refine ⟨?_, f⟩
      rw [upd_ne (by rw [List.mem_singleton.mp hb]; exact Nat.ne_of_lt hil)]
      exact f0
    have I2 : Inv X pins σ (upd H s.heap.objs.size (.tup [kV k, v])) { s with heap := h2, toks := s.toks } := by
      refine Inv.turnedN (s := { s with heap := s.heap.push { cls := .type "tuple", data := .seq #[key, u] }, toks := s.toks }) (h' := h2) (t' := s.toks) (fp := [it]) I1 (fun b o hb z => ?_) hf1
      have n1 : b ≠ it := fun q => hb (by simp [q])
      rw [hs2.2 b n1]
      by_cases hbT : b = s.heap.objs.size
      · subst hbT
        have z' : some _ = some o := (Heap.get?_push_size s.heap (o := { cls := .type "tuple", data := .seq #[key, u] }) rfl).symm.trans z
        rw [← z']
        exact ht
      · refine hk b o n1 ?_
        rwa [show (s.heap.push { cls := .type "tuple", data := .seq #[key, u] }).get? b = s.heap.get? b from Heap.get?_push_ne _ _ _ hbT] at z
    refine ⟨.ref s.heap.objs.size, _, I2, rfl, ⟨_, k, v, hT, rfl, hkv, rfl⟩, ⟨key, u, ?_⟩, fun b hb => (hf1 b hb).1⟩
    rw [KV.length rel]
    exact he2
  done := by
    intro X hP hw hK hc i pins s σ H E I hf st hg
    subst hP hw hK
    obtain ⟨hd, hi⟩ := hg
    obtain ⟨ok, ov, hit⟩ := st
    obtain ⟨ho, z, lo, vs, rel, dd⟩ := (show ObjOk X.prog X.w H s.heap d (.frz ob (.dK kvs)) from I.hok d _ hd)
    obtain ⟨ep', dat⟩ := dd.dictAt
    obtain ⟨o', es', g1, g2, g3, g4⟩ := id dat
    rw [ho] at g1
    cases g1
    rw [hob] at g3
    cases g3
    rw [KV.length rel] at hit
    refine wpAny_pyNext_items_end (I.ok.hd hc) hit dat (List.getElem?_eq_none_iff.mpr (by rw [← KV.length rel]; exact hi)) fun h' eb => ⟨rfl, I.turnedN (t' := s.toks) (fp := [it]) (fun b o hb z => eb b o (fun q => hb (by simp [q])) z) hf⟩
  self := fun _ _ _ _ _ ⟨_, _, st⟩ h => PySem.W.kcp_self st h
def compN2 (x y : Str) (N : List Str) : List Str := x :: y :: N.map fun z => if z = x ∨ z = y then ("" : Str) else z
def CapOk2 (x y : Str) (l : List (Str × NameKind)) : Prop := ∀ n k, l.lookup n = some k → ((n = x ∨ n = y ∨ n = ".0") ∧ k = .local) ∨ (k ≠ .local ∧ k ≠ .cell ∧ k ≠ .free)
def capOk2 (x y : Str) : List (Str × NameKind) → Bool
  | [] => true
  | (n, k) :: r => (((n == x || n == y || n == ".0") && k == .local) || (k != .local && k != .cell && k != .free)) && capOk2 x y r
theorem capOk2_of {x y : Str} : ∀ {l : List (Str × NameKind)}, capOk2 x y l = true → CapOk2 x y l
  | [], _, n, k, h => by simp at h
  | (m, j) :: r, h0, n, k, h => by
    unfold capOk2 at h0
    rw [Bool.and_eq_true] at h0
    rw [List.lookup_cons] at h
    split at h
    · rename_i e
      cases h
      have e' := beq_iff_eq.mp e
      subst e'
      have h1 := h0.1
      simp only [Bool.or_eq_true, Bool.and_eq_true, beq_iff_eq, bne_iff_ne, ne_eq] at h1
      rcases h1 with ⟨a, b⟩ | ⟨⟨a, b⟩, c⟩
      · exact .inl ⟨by rcases a with (a | a) | a <;> simp [a], b⟩
      · exact .inr ⟨a, b, c⟩
    · exact capOk2_of h0.2 n k h
abbrev cxD (X : Cx) (x y : Str) (scope : Scope) (C : Addr) (s₂ : Shared) (H₂ : Hp) (fp : List Addr) : Cx :=
  { X with N := compN2 x y X.N, s₀ := s₂, H₀ := H₂, env := compEnvC scope [] C X.env, outer := X.stack, ex := fp, fn := fun _ => false, pn := [], xe := fun _ _ => False }
section
variable {X : Cx} {pins : List (Addr × Obj)} {σ : St} {H₂ : Hp} {s₂ : Shared} {fp : List Addr} {x y : Str} {scope : Scope} {C : Addr}
theorem okD (I : Inv X pins σ H₂ s₂) (hf : ∀ b ∈ fp, FpOk X pins H₂ b) (ho : ∀ b ∈ fp, ∃ o, s₂.heap.get? b = some o) (hkind : scope.kind = .function) (hc : CapOk2 x y (relabel scope X.env).names) (hC : s₂.heap.objs.size ≤ C) :
    (cxD X x y scope C s₂ H₂ fp).Ok where
  mod := I.ok.mod
  kind := hkind
  glob := I.ok.glob
  blt := I.ok.blt
  above := hC
  inj := fun y z c h1 h2 => by
    have h1' : ([] : List (Str × Addr)).lookup y = some c := h1
    simp at h1'
  has := fun z hz => by
    have hz' : (relabel scope X.env).names.lookup z = some .cell ∨ (relabel scope X.env).names.lookup z = some .free := hz
    rcases hz' with h | h
    · rcases hc _ _ h with ⟨_, q⟩ | ⟨_, q, _⟩
      · cases q
      · exact absurd rfl q
    · rcases hc _ _ h with ⟨_, q⟩ | ⟨_, _, q⟩
      · cases q
      · exact absurd rfl q
  cab := fun y c h _ => absurd (show false = true from h) Bool.false_ne_true
  hd := I.ok.hd
  frames := I.ok.frames
  stk := .inl rfl
  exf := fun b hb => by
    obtain ⟨o, e⟩ := ho b hb
    exact ⟨Nat.ne_of_lt (Nat.lt_of_lt_of_le (Heap.lt_size e) hC), fun y c h => by
      have h1' : ([] : List (Str × Addr)).lookup y = some c := h
      simp at h1'⟩
  bs := I.bs
  bsz := Nat.le_trans I.ok.bsz I.sz
  noex := fun b o e hb => by
    rcases (hf b hb).2.2.2.1 with z | z
    · exact I.ok.noex b o e z
    · exact absurd (Nat.lt_of_lt_of_le (Heap.lt_size (I.ok.bs b o e).1) z) (Nat.lt_irrefl _)
  exfs := fun b hb z => by
    rcases List.mem_cons.mp (I.stkSub b z) with q | q
    · exact (hf b hb).2.1 q
    · exact (hf b hb).2.2.1 q
  funs := I.stack
  frf := I.stkFree
theorem invD {h₁ : Heap} {tk : Nat} (I : Inv X pins σ H₂ s₂) (hf : ∀ b ∈ fp, FpOk X pins H₂ b) (ho : ∀ b ∈ fp, ∃ o, s₂.heap.get? b = some o) (hkind : scope.kind = .function) (hc : CapOk2 x y (relabel scope X.env).names) (hx0 : x ≠ "") (hy0 : y ≠ "") (hdot : (".0" : Str) ∉ X.N)
    (hC : C = s₂.heap.objs.size + 1) (hns : h₁.Ns C fun _ => none) (old : ∀ b o, s₂.heap.get? b = some o → h₁.get? b = some o) (hD : ∃ n, h₁.get? s₂.heap.objs.size = some { cls := .type "list", data := .seq #[] n }) :
    Inv (cxD X x y scope C s₂ H₂ fp) [] (none :: none :: σ) (upd H₂ s₂.heap.objs.size (.lst [])) { s₂ with heap := h₁, toks := tk } := by
  have hn : H₂ s₂.heap.objs.size = none := I.hok.fresh (Nat.le_refl _)
  have nocell : ∀ (z : Str) (c : Addr), (compEnvC scope [] C X.env).cells.lookup z = some c → False := fun z c e => by
    have h1' : ([] : List (Str × Addr)).lookup z = some c := e
    simp at h1'
  refine ⟨okD I hf ho hkind hc (by rw [hC]; exact Nat.le_succ _), rfl, I.bare, Un.laid old (Nat.le_refl _) hn, ⟨_, hns, fun i n v h1 h2 h3 => ?_⟩, fun z c e => (nocell z c e).elim, ?_, fun z c e => (nocell z c e).elim, fun p hp => absurd (show p ∈ ([] : List (Addr × Obj)) from hp) (by simp), ?_, ?_⟩
  · exfalso
    match i, h1, h2 with
    | 0, h1, h2 =>
      have h2' : some (none : Option V) = some (some v) := h2
      cases h2'
    | 1, h1, h2 =>
      have h2' : some (none : Option V) = some (some v) := h2
      cases h2'
    | i + 2, h1, h2 =>
      have h1' : (X.N.map fun z => if z = x ∨ z = y then ("" : Str) else z)[i]? = some n := h1
      rw [List.getElem?_map] at h1'
      cases e : X.N[i]? with
      | none => rw [e] at h1'; cases h1'
      | some z =>
        rw [e] at h1'
        have h1'' : (if z = x ∨ z = y then ("" : Str) else z) = n := Option.some.inj h1'
        have h3' : (relabel scope X.env).names.lookup n = some .local ∨ (relabel scope X.env).names.lookup n = some .cell ∨ (relabel scope X.env).names.lookup n = some .free := h3
        have key : n = x ∨ n = y ∨ n = ".0" := by
          rcases h3' with q | q | q
          · rcases hc _ _ q with ⟨a, _⟩ | ⟨a, _⟩
            · exact a
            · exact absurd rfl a
          · rcases hc _ _ q with ⟨_, a⟩ | ⟨_, a, _⟩
            · cases a
            · exact absurd rfl a
          · rcases hc _ _ q with ⟨_, a⟩ | ⟨_, _, a⟩
            · cases a
            · exact absurd rfl a
        by_cases hz : z = x ∨ z = y
        · rw [if_pos hz] at h1''
          rcases key with q | q | q
          · exact hx0 (q.symm.trans h1''.symm)
          · exact hy0 (q.symm.trans h1''.symm)
          · rw [q] at h1''
            exact absurd h1'' (by decide +kernel)
        · rw [if_neg hz] at h1''
          subst h1''
          rcases key with q | q | q
          · exact hz (.inl q)
          · exact hz (.inr q)
          · subst q
            exact hdot (List.mem_of_getElem? e)
  · show (upd H₂ s₂.heap.objs.size (.lst [])) C = none
    rw [upd_ne (by rw [hC]; exact Nat.ne_of_gt (Nat.lt_succ_self _))]
    exact I.hok.fresh (by rw [hC]; exact Nat.le_succ _)
  · obtain ⟨n, e⟩ := hD
    exact I.hok.laid old (Nat.le_refl _) ⟨Nat.zero_le _, [], n, .nil, e⟩
  · show (none :: none :: σ).length = (compN2 x y X.N).length
    simp [compN2, I.len]
theorem fpD (I : Inv X pins σ H₂ s₂) (hf : ∀ b ∈ fp, FpOk X pins H₂ b) (ho : ∀ b ∈ fp, ∃ o, s₂.heap.get? b = some o) (hC : s₂.heap.objs.size ≤ C) {H : Hp} (hn : ∀ b ∈ fp, H b = none) : ∀ b ∈ fp, FpOk (cxD X x y scope C s₂ H₂ fp) [] H b := fun b hb => by
  obtain ⟨o, e⟩ := ho b hb
  refine ⟨hn b hb, Nat.ne_of_lt (Nat.lt_of_lt_of_le (Heap.lt_size e) hC), fun z => ?_, .inl hb, fun y c h => ?_, fun p hp => absurd (show p ∈ ([] : List (Addr × Obj)) from hp) (by simp)⟩
  · rcases List.mem_cons.mp (I.stkSub b z) with q | q
    · exact (hf b hb).2.1 q
    · exact (hf b hb).2.2.1 q
  · have h1' : ([] : List (Str × Addr)).lookup y = some c := h
    simp at h1'
end
def tCompI (ti te : TE) : TE := fun σ H Q => ti σ H fun xv H1 => ∃ v d kvs, xv = .ref v ∧ H1 v = some (viewO v d) ∧ H1 d = some (.dK kvs) ∧ ∀ ob D, H1 D = none → ∃ W : Nat → List V → Hp → Prop,
  W 0 [] (upd (upd H1 d (.frz ob (.dK kvs))) D (.lst [])) ∧ ∀ i ys H, W i ys H → H D = some (.lst ys) ∧ H d = some (.frz ob (.dK kvs)) ∧
    (i = kvs.length → Q (.ref D) (upd H d (.dK kvs))) ∧ (∀ k z t, kvs[i]? = some (k, z) → H t = none → te (some (kV k) :: some z :: σ) (upd H t (.tup [kV k, z])) fun y H3 => H3 D = some (.lst ys) ∧ W (i + 1) (ys ++ [y]) (upd H3 D (.lst (ys ++ [y])))) ∧ ys.length = i
section
variable {X : Cx} {x y : Str} {px py pos tpos : Pos} {scope : Scope} {elt iter : Expr} {ti te : TE} {k1 : Nat}
theorem pe_compI (hcalm : X.calm = true) (hi : PE X iter ti) (hclos : closureFor scope X.env = pure []) (hcb : capOk2 x y (relabel scope X.env).names = true)
    (he : ∀ C s₂ H₂ fp, PE (cxD X x y scope C s₂ H₂ fp) elt te) (hN : (compN2 x y X.N).Nodup)
    (hkind : scope.kind = .function := by rfl) (hnc : ∀ y ∈ scope.names, y.2 ≠ .cell := by decide +kernel) (hnm : ∀ y ∈ scope.names, y.2 = .local → scope.names.lookup y.1 = some .local := by decide +kernel) (hx0 : x ≠ "" := by decide +kernel) (hy0 : y ≠ "" := by decide +kernel) (hdot : (".0" : Str) ∉ X.N := by decide +kernel)
    (hxl : scope.names.lookup x = some .local := by rfl) (hyl : scope.names.lookup y = some .local := by rfl)
    (hs : ∀ x, foldedSetIterable iter X.env x = pure x := by intro _; rfl) : PE X (.ListComp elt [⟨.Tuple [.Name x px, .Name y py] k1 tpos, iter, [], 0⟩] scope pos) (tCompI ti te) := by
  have hc := capOk2_of hcb
  intro pins s σ H Q I h
  rw [eval_ListComp]
  refine wpAny_comprehension_free (use := none) rfl hs hclos hkind hnm (wpAny_mono (hi pins s σ H _ I h) (fun xv s₁ h₁ => ?_) fun _ _ e => e)
  obtain ⟨xv', H1, I1, rx, v, d, kvs, e, hv, hd, hq⟩ := h₁
  subst e
  cases rx
  obtain ⟨z, lo, vs, rel, dd⟩ := dk_of I1.hok hd
  obtain ⟨ob, es, ep, ho, hx1, hob, hrest⟩ := id dd
  have dat : s₁.heap.DictAt (mixKind X.prog X.w) d vs ep := ⟨ob, es, ho, hx1, hob, hrest⟩
  have hvw : s₁.heap.IsItemsView v d := (show ObjOk X.prog X.w H1 s₁.heap v (viewO v d) from I1.hok v _ hv).1
  refine wpAny_pyIter_items hvw dat ?_
  have T := turn_items (P := X.prog) (w := X.w) (K := X.K) (elts := [.Name x px, .Name y py]) (x1 := k1) (pos := tpos) d s₁.heap.objs.size ob kvs hob
  have I2 : Inv X pins σ (upd H1 d (.frz ob (.dK kvs))) { s₁ with heap := s₁.heap.push { cls := .type "dict_itemiterator", data := .fields #[.none, .bool false, .ref d, .int 0 0, .int vs.length 0, .int ep 0, .none, .none] }, toks := s₁.toks } :=
    (I1.freeze hd ho).kept (t' := s₁.toks) fun b o e => Heap.get?_push_of_some _ e
  have st0 : ∃ ok ov, IsItemIter (s₁.heap.push { cls := .type "dict_itemiterator", data := .fields #[.none, .bool false, .ref d, .int 0 0, .int vs.length 0, .int ep 0, .none, .none] }) s₁.heap.objs.size d 0 kvs.length ep ok ov :=
    ⟨.none, .none, by rw [KV.length rel]; exact Heap.get?_push_size _ rfl⟩
  have f2 : ∀ b ∈ [s₁.heap.objs.size], FpOk X pins (upd H1 d (.frz ob (.dK kvs))) b := fun b hb => by
    rw [List.mem_singleton.mp hb]
    exact I1.fpOk (Nat.le_refl _) (by rw [upd_ne (Nat.ne_of_gt (Heap.lt_size ho))]; exact I1.hok.fresh (Nat.le_refl _))
  obtain ⟨D, hDe⟩ : ∃ D, D = s₁.heap.objs.size + 1 := ⟨_, rfl⟩
  obtain ⟨W, w0, turn⟩ := hq ob (s₁.heap.objs.size + 1) (I1.hok.fresh (Nat.le_succ _))
  generalize hs2 : ({ s₁ with heap := s₁.heap.push { cls := .type "dict_itemiterator", data := .fields #[.none, .bool false, .ref d, .int 0 0, .int vs.length 0, .int ep 0, .none, .none] }, toks := s₁.toks } : Shared) = s₂ at I2
  have hsz2 : s₂.heap.objs.size = s₁.heap.objs.size + 1 := by rw [← hs2]; exact Heap.size_push _ _
  have st2 : ∃ ok ov, IsItemIter s₂.heap s₁.heap.objs.size d 0 kvs.length ep ok ov := by rw [← hs2]; exact st0
  clear hs2 st0 hDe
  generalize hH2 : upd H1 d (.frz ob (.dK kvs)) = H₂ at I2 f2 w0
  generalize hit0 : s₁.heap.objs.size = it at T f2 st2 hsz2 w0 turn
  rw [← hsz2] at w0 turn
  refine wpAny_newObj_type (wpAny_newFunctionEnv hnc (by intro y hy; simp at hy) (fun h₁ hns₁ hsb₁ => ?_) hkind)
  dsimp only at hns₁ hsb₁ ⊢
  have hof : ∀ b ∈ [it], ∃ o, s₂.heap.get? b = some o := fun b hb => let ⟨o, e, _⟩ := T.obj 0 _ st2 b hb; ⟨o, e⟩
  generalize hP2 : s₂.heap.push { cls := .type "list", dict := none, data := .seq ([] : List Value).toArray } = P2 at hns₁ hsb₁ ⊢
  have hC : P2.objs.size = s₂.heap.objs.size + 1 := by rw [← hP2, Heap.size_push]
  have old : ∀ b o, s₂.heap.get? b = some o → h₁.get? b = some o := fun b o e => hsb₁.extBut b o (by rw [hC]; exact Nat.ne_of_lt (Nat.lt_succ_of_lt (Heap.lt_size e))) (Heap.get?_push_of_some _ (hP2 ▸ Heap.get?_push_of_some _ e))
  have hD : ∃ n, h₁.get? s₂.heap.objs.size = some { cls := .type "list", data := .seq #[] n } := ⟨_, hsb₁.extBut _ _ (by rw [hC]; exact Nat.ne_of_lt (Nat.lt_succ_self _)) (Heap.get?_push_of_some _ (hP2 ▸ Heap.get?_push_size _ rfl))⟩
  have hns' : h₁.Ns P2.objs.size fun _ => none := by
    have e : (fun x : Str => ([] : List (Str × Value)).reverse.lookup x) = fun _ => none := by funext y; rfl
    rw [← e]
    exact hns₁
  have I0 := invD (tk := s₂.toks + ([] : List (Str × Value)).length) I2 f2 hof hkind hc hx0 hy0 hdot hC hns' old hD
  have hCs : X.s₀.heap.objs.size ≤ P2.objs.size := by rw [hC]; exact Nat.le_succ_of_le I2.sz
  have loop : ∀ s₃ : Shared, s₃ = { s₂ with heap := h₁, toks := s₂.toks + ([] : List (Str × Value)).length } →
      codeAny (model X.prog X.w) X.A (.compLoop (.ListComp elt [⟨.Tuple [.Name x px, .Name y py] k1 tpos, iter, [], 0⟩] scope pos) 0 (.ref it) (.ref s₂.heap.objs.size) (compEnvC scope [] P2.objs.size X.env)) (compPost (model X.prog X.w) X.A X.xe none (EP X pins σ Q) (.ref s₂.heap.objs.size) P2.objs.size) s₃ := by
    rintro s₃ rfl
    refine compLoop_go (fun n s' => ∃ i ys a b H, Inv (cxD X x y scope P2.objs.size s₂ H₂ [it]) [] (a :: b :: σ) H s' ∧ (∃ ok ov, IsItemIter s'.heap it d i kvs.length ep ok ov) ∧ (∀ b ∈ [it], H b = none) ∧ W i ys H ∧ i + n = kvs.length) ?_ kvs.length
      ⟨0, [], none, none, _, I0, T.keep _ _ _ st2 fun b _ o e => old b o e, fun b hb => by rw [upd_ne (by obtain ⟨o, e⟩ := hof b hb; exact Nat.ne_of_lt (Heap.lt_size e))]; exact (f2 b hb).1, w0, Nat.zero_add _⟩
    rintro n s' ⟨i, ys, a, b, H, I', st', fr', w', hn⟩
    have fpn : ∀ {H : Hp}, (∀ b ∈ [it], H b = none) → ∀ b ∈ [it], FpOk (cxD X x y scope P2.objs.size s₂ H₂ [it]) [] H b := fun hn => fpD I2 f2 hof (by rw [hC]; exact Nat.le_succ _) hn
    obtain ⟨hDl, hdf, stop, step, hlen⟩ := turn i ys H w'
    by_cases hlt : i < kvs.length
    · refine wpAny_mono (T.item (cxD X x y scope P2.objs.size s₂ H₂ [it]) rfl rfl rfl hcalm i [] s' (a :: b :: σ) H (fun _ _ => False) I' (fpn fr') st' ⟨hdf, hlt⟩) (fun r s4 z => ?_) fun _ _ z => z
      obtain ⟨u, hr, h4⟩ := z
      subst hr
      refine wpAny_mono h4 (fun _ s5 z => ?_) fun _ _ z => z
      obtain ⟨xt, H5, I5, r5, y5, st5, fr5⟩ := z
      obtain ⟨t, k, zv, ht0, rfl, hkv, rfl⟩ := y5
      have I5' := I5.pinned (fpn fr5) (T.obj _ _ st5)
      have hxl' : (relabel scope X.env).names.lookup x = some .local := lookup_relabel_local hxl
      have hyl' : (relabel scope X.env).names.lookup y = some .local := lookup_relabel_local hyl
      have hs6 := step k zv t hkv ht0
      have pg := pg_tup (X := cxD X x y scope P2.objs.size s₂ H₂ [it]) (k := k1) (pos := tpos) (n := 2) hcalm (pgs_cons (pg_name (X := cxD X x y scope P2.objs.size s₂ H₂ [it]) (i := 0) (pos := px) hN rfl (.inl hxl') (.inr hxl')) (pgs_cons (pg_name (X := cxD X x y scope P2.objs.size s₂ H₂ [it]) (i := 1) (pos := py) hN rfl (.inl hyl') (.inr hyl')) pgs_nil))
      refine wpAny_mono (pg _ s5 (a :: b :: σ) _ (.ref t) u (fun σ6 H6 => σ6 = some (kV k) :: some zv :: σ ∧ H6 = upd H t (.tup [kV k, zv])) I5' r5 ⟨t, [kV k, zv], rfl, SqT.of upd_same, rfl, _, _, rfl, _, _, rfl, rfl, rfl, rfl⟩) (fun _ s6 z => ?_) fun _ _ z => z
      obtain ⟨σ6, H6, I6, rfl, rfl⟩ := z
      have again : ∀ {H7 : Hp} {s7 : Shared} {zs : List V}, Inv (cxD X x y scope P2.objs.size s₂ H₂ [it]) ([] ++ pinsAt [it] s5.heap) (some (kV k) :: some zv :: σ) H7 s7 → W (i + 1) zs H7 →
          ∃ m, m < n ∧ ∃ i ys a b H, Inv (cxD X x y scope P2.objs.size s₂ H₂ [it]) [] (a :: b :: σ) H s7 ∧ (∃ ok ov, IsItemIter s7.heap it d i kvs.length ep ok ov) ∧ (∀ b ∈ [it], H b = none) ∧ W i ys H ∧ i + m = kvs.length := fun {H7 s7 zs} I7 w7 => by
        refine ⟨n - 1, by omega, i + 1, zs, some (kV k), some zv, H7, I7.unpinned, T.keep _ _ _ st5 fun b hb o e => (I7.pin (b, o) (List.mem_append_right _ (List.mem_append_right _ (mem_pinsAt hb e)))).1, fun b hb => ?_, w7, by omega⟩
        obtain ⟨o, e, d⟩ := T.obj _ _ st5 b hb
        exact (I7.pin (b, o) (List.mem_append_right _ (List.mem_append_right _ (mem_pinsAt hb e)))).2.1
      refine wpAny_tests_nil ?_
      refine wpAny_mono (he P2.objs.size s₂ H₂ [it] _ s6 _ _ _ I6 hs6) (fun u8 s8 z => ?_) fun _ _ z => z
      obtain ⟨y', H8, I8, r8, hD8, w8⟩ := z
      refine wpAny_mono (mt_append (X := cxD X x y scope P2.objs.size s₂ H₂ [it]) _ s8 _ H8 (.ref s₂.heap.objs.size) [y'] (.ref s₂.heap.objs.size) [u8] (fun _ H9 => H9 = upd H8 s₂.heap.objs.size (.lst (ys ++ [y']))) I8 rfl (.cons r8 .nil) ⟨_, ys, y', rfl, rfl, hD8, Nat.lt_of_lt_of_le (by rw [hlen]; exact hlt) ‹_›, rfl⟩) (fun _ s9 z => ?_) fun _ _ z => z
      obtain ⟨_, H9, I9, _, rfl⟩ := z
      exact again I9 w8
    · have hie : i = kvs.length := by omega
      refine wpAny_mono (T.done (cxD X x y scope P2.objs.size s₂ H₂ [it]) rfl rfl rfl hcalm i [] s' (a :: b :: σ) H (fun _ _ => False) I' (fpn fr') st' ⟨hdf, by omega⟩) (fun r s4 z => ?_) fun _ _ z => z
      obtain ⟨hr, I4⟩ := z
      subst hr
      obtain ⟨m4, hm4, _⟩ := I4.loc
      have Iout : Inv X pins σ H s4 := I2.call' I4.os I4.base I4.hok I4.bare fun b hb => by
        obtain ⟨f0, f1, f2, f3, f4, f5⟩ := f2 b hb
        exact ⟨f3, f1, f4, f5⟩
      have Ith : Inv X pins σ (upd H d (.dK kvs)) s4 := Inv.thaw I1 hd Iout hdf
      have hCn : (upd H d (.dK kvs)) P2.objs.size = none := by
        have hCH : H P2.objs.size = none := I4.free
        rw [upd_ne (by intro z; rw [z, hdf] at hCH; cases hCH)]
        exact hCH
      refine ⟨m4, hm4, fun h' hs' => ?_⟩
      refine ⟨.ref s₂.heap.objs.size, upd H d (.dK kvs), Ith.turned (t' := s4.toks) (it := P2.objs.size) (fun b o hb e => (hs'.2 b hb).trans e) hCn ?_ (.inr hCs) (fun y c e z => ?_) (fun p hp z => ?_), rfl, stop hie⟩
      · rw [hC]
        exact Nat.ne_of_gt (Nat.lt_succ_of_lt I2.lt)
      · obtain ⟨v', oc, g1, _⟩ := I2.cell y c e
        have := Heap.lt_size g1
        rw [z, hC] at this
        exact absurd (Nat.lt_of_succ_lt this) (Nat.lt_irrefl _)
      · have := Heap.lt_size (I2.pin p hp).1
        rw [z, hC] at this
        exact absurd (Nat.lt_of_succ_lt this) (Nat.lt_irrefl _)
  exact codeAny_compStart_list (loop _ rfl) (T.self _ 0 _ _ _ (T.keep _ _ _ st2 fun b _ o e => old b o e) (loop _ rfl))
end
end L2
end
section
namespace L2
open PySem
def dP : Option (List Int) → PyData
  | none => .none
  | some ws => .list (ws.map PyData.int)
def dC (c : List (Option (List Int))) : PyData := .list (c.map dP)
theorem dP_ok (o : Option (List Int)) : (dP o).canLay0 = true ∧ (dP o).depth ≤ 1 ∧ PyData.eqv (dP o) (dP o) = true := by
  cases o with
  | none => exact ⟨rfl, by decide, rfl⟩
  | some ws =>
    obtain ⟨h1, h2⟩ := layI ws
    exact ⟨by simp only [dP, PyData.canLay0, h1], by simp only [dP, PyData.depth, h2]; decide, eqvI ws⟩
theorem dC_all : ∀ c : List (Option (List Int)), PyData.canLayAll0 (c.map dP) = true ∧ PyData.depthAll (c.map dP) ≤ 1 ∧ PyData.eqvAll (c.map dP) (c.map dP) = true
  | [] => ⟨rfl, by decide, rfl⟩
  | o :: r => by
    obtain ⟨h1, h2, h3⟩ := dC_all r
    obtain ⟨g1, g2, g3⟩ := dP_ok o
    refine ⟨?_, ?_, ?_⟩
    · simp only [List.map_cons, PyData.canLayAll0, h1, g1, Bool.and_self]
    · simp only [List.map_cons, PyData.depthAll]
      omega
    · simp only [List.map_cons, PyData.eqvAll, h3, g3, Bool.and_self]
theorem shapedC (c : List (Option (List Int))) : SeqAt.shaped (dC c) = true := by
  obtain ⟨h1, h2, _⟩ := dC_all c
  simp only [dC, SeqAt.shaped, PyData.canLay0, PyData.depth, h1, Bool.true_and]
  exact decide_eq_true (by omega)
theorem eqvC (c : List (Option (List Int))) : PyData.eqv (dC c) (dC c) = true := by
  simp only [dC, PyData.eqv]
  exact (dC_all c).2.2
theorem datP {K : PySem.W.Frag} {H : Hp} : ∀ ps : Pgs, (∀ (p : Addr) (ws : List Int), some (p, ws) ∈ ps → H p = some (.lst (ws.map V.int))) → DatsR K H (ps.map pgV) ((cont ps).map dP)
  | [], _ => .nil
  | none :: r, h => .cons .non (datP r fun p ws m => h p ws (List.mem_cons_of_mem _ m))
  | some (p, ws) :: r, h => .cons (.lst (SqL.of (h p ws (List.mem_cons_self ..))) (datsI ws)) (datP r fun p ws m => h p ws (List.mem_cons_of_mem _ m))
theorem datPg {K : PySem.W.Frag} {H : Hp} {a : Addr} {ps : Pgs} (g : Pg H a ps) : DatR K H (.ref a) (dC (cont ps)) := .lst (SqL.of g.top) (datP ps fun p ws m => by
  obtain ⟨i, e⟩ := List.getElem?_of_mem m
  exact (g.each i p ws e).1)
structure PEq (X : Cx) (e : Expr) (t : TE) : Prop where
  h : PE X e t
structure PAq (X : Cx) (es : List Expr) (t : TA) : Prop where
  h : PA X es t
structure PSq (X : Cx) (st : Stmt) (t : TS) : Prop where
  h : PS X st t
structure PSsq (X : Cx) (st : List Stmt) (t : TS) : Prop where
  h : PSs X st t
theorem paq_cons {X : Cx} {e : Expr} {es : List Expr} {te : TE} {t : TA} (h1 : PEq X e te) (h2 : PAq X es t) (hs : ∀ (l : List Expr) (env : Env), starEach (e :: l) env = (false, eval e env) :: starEach l env := by intro _ _; rfl) : PAq X (e :: es) (tCons te t) := ⟨pa_cons h1.h h2.h (hs es X.env)⟩
theorem peq_lst {X : Cx} {es : List Expr} {t : TA} {pos : Pos} (h : PAq X es t) : PEq X (.List es pos) (tLst t) := ⟨pe_lst h.h⟩
theorem pssq_one {X : Cx} {st : Stmt} {t : TS} (h : PSq X st t) : PSsq X [st] t := ⟨pss_one h.h⟩
structure PTq (X : Cx) (c : Expr) (t : TT) : Prop where
  h : PT X c t
structure PIq (X : Cx) (tg iter : Expr) (w : TI) : Prop where
  h : PI X tg iter w
structure PGq (X : Cx) (tg : Expr) (g : TG) : Prop where
  h : PG X tg g
section
variable {X : Cx} {st : Stmt} {rest : List Stmt} {t u : TS} {e tg iter : Expr} {te : TE} {pos : Pos}
theorem pssq_nil : PSsq X [] tNext := ⟨pss_nil⟩
theorem pssq_cons (h1 : PSq X st t) (h2 : PSsq X rest u) : PSsq X (st :: rest) (tSeq t u) := ⟨pss_cons h1.h h2.h⟩
theorem psq_if {c : Expr} {a b : List Stmt} {tc : TT} (hc : PTq X c tc) (ha : PSsq X a t) (hb : PSsq X b u) : PSq X (.If c a b pos) (tIfS tc t u) := ⟨ps_if hc.h ha.h hb.h⟩
theorem peq_ix {a b : Expr} {ta tb : TE} {r : R2} (hr : IxR X r) (ha : PEq X a ta) (hb : PEq X b tb) (hs : PlainIx b) : PEq X (.Subscript a b pos) (tOp r ta tb) := ⟨pe_ix hr ha.h hb.h hs⟩
theorem peq_op {a b : Expr} {ta tb : TE} {op : Operator} {r : R2} (ho : OpR X (binaryOp op) r) (ha : PEq X a ta) (hb : PEq X b tb) : PEq X (.BinOp a op b pos) (tOp r ta tb) := ⟨pe_op ho ha.h hb.h⟩
theorem psq_setq {i : Nat} {x : Str} {pos' : Pos} (hN : X.N.Nodup) (hi : X.N[i]? = some x) (hx : Loc X.env.scope x) (he : PEq X e te) (hs : swapsWith e (some (.Name x pos')) pos.line X.env = pure false := by rfl) (hf : X.fn x = true ∨ X.env.scope.names.lookup x = some .local := by first | exact .inl rfl | exact .inr rfl | assumption) :
    PSq X (.Assign [.Name x pos'] e pos) (tAsg te (gName i)) := ⟨ps_set hN hi hx he.h hs hf⟩
theorem PSsq.ex {D : Ends} {σ : St} {H : Hp} {sts : List Stmt} (h : PSsq X sts t) (g : t D σ H) : ∃ t, PSs X sts t ∧ t D σ H := ⟨t, h.h, g⟩
end
inductive IntCs : List Expr → List Int → Prop
  | nil : IntCs [] []
  | cons {z : Int} {j : Nat} {p : Pos} {es : List Expr} {zs : List Int} : IntCs es zs → IntCs (.Constant (.int z) j p :: es) (z :: zs)
def tVals (vs : List V) : TA := fun _ H Q => Q vs H
theorem pa_ints {X : Cx} {es : List Expr} {zs : List Int} (h : IntCs es zs) : PAq X es (tVals (zs.map V.int)) := by
  induction h with
  | nil => exact ⟨pa_nil⟩
  | cons _ ih => exact ⟨fun p pins s σ H Q I q => (paq_cons ⟨pe_int⟩ ih).h p pins s σ H Q I q⟩
theorem peq_ints {X : Cx} {es : List Expr} {zs : List Int} {pos : Pos} (h : IntCs es zs) : PEq X (.List es pos) (tLst (tVals (zs.map V.int))) := peq_lst (pa_ints h)
end L2
end
section
namespace L2
open PySem PySem.Spec PyProof.Rows
def isTup (H : Hp) : V → Bool
  | .ref a => match H a with | some (.tup _) => true | _ => false
  | _ => false
section
variable {K : PySem.W.Frag}
theorem kit_tup_non : PySem.W.kitOne K (.type "NoneType") (.type "tuple") = some false := by kernel_rfl
theorem kit_tup_bl : PySem.W.kitOne K (.type "bool") (.type "tuple") = some false := by kernel_rfl
theorem kit_tup_str : PySem.W.kitOne K (.type "str") (.type "tuple") = some false := by kernel_rfl
theorem kit_tup_lst : PySem.W.kitOne K (.type "list") (.type "tuple") = some false := by kernel_rfl
theorem kit_tup_dic : PySem.W.kitOne K (.type "dict") (.type "tuple") = some false := by kernel_rfl
end
section
variable {X : Cx}
theorem call_istupT : CallR X (.builtin "isinstance") (fun xs H Q => ∃ x, xs = [x, .ty "tuple"] ∧ Th H x ∧ Q (.bl (isTup H x)) H) := by
  intro pins s σ H xs us Q I r h
  obtain ⟨x, rfl, th, q⟩ := h
  obtain ⟨u, v, rfl, rx, rt⟩ := r.two
  obtain rfl : v = PySem.Value.type "tuple" := rt
  cases th with
  | non => exact isinst_ok I rx .non kit_tup_non fun tk => ⟨.bl _, H, I.tok tk, rfl, q⟩
  | bl b => exact isinst_ok I rx (.bl b) kit_tup_bl fun tk => ⟨.bl _, H, I.tok tk, rfl, q⟩
  | int i => exact isinst_ok I rx (.int i) kit_tup_int fun tk => ⟨.bl _, H, I.tok tk, rfl, q⟩
  | str z => exact isinst_ok I rx (.str z) kit_tup_str fun tk => ⟨.bl _, H, I.tok tk, rfl, q⟩
  | lst e => exact isinst_ok I rx (.lst e) kit_tup_lst fun tk => ⟨.bl _, H, I.tok tk, rfl, by simp only [isTup, e] at q; exact q⟩
  | frz e => exact isinst_ok I rx (.frz e) kit_tup_lst fun tk => ⟨.bl _, H, I.tok tk, rfl, by simp only [isTup, e] at q; exact q⟩
  | tup e => exact isinst_ok I rx (.tup e) kit_tup_tup fun tk => ⟨.bl _, H, I.tok tk, rfl, by simp only [isTup, e] at q; exact q⟩
  | dic e => exact isinst_ok I rx (.dK e) kit_tup_dic fun tk => ⟨.bl _, H, I.tok tk, rfl, by simp only [isTup, e] at q; exact q⟩
end
end L2
end
section
namespace L2
open PySem PySem.Spec PyProof.Rows
section
variable {X : Cx} {e : Expr} {te : TEX} {pos : Pos}
def tSetX (i : Nat) (te : TEX) : TSX := fun D E σ H => te σ H (fun v H1 => D.nx (σ.set i (some v)) H1) (E σ)
theorem psx_set {i : Nat} {x : Str} {pos' : Pos} (hN : X.N.Nodup) (hi : X.N[i]? = some x) (hx : Loc X.env.scope x) (he : PEX X e te) (hs : swapsWith e (some (.Name x pos')) pos.line X.env = pure false := by rfl) (hf : X.fn x = true ∨ X.env.scope.names.lookup x = some .local := by first | exact .inl rfl | exact .inr rfl | assumption) : PSX X [.Assign [.Name x pos'] e pos] (tSetX i te) := by
  intro pins s σ H D E I h
  refine wpAny_execs_cons ?_
  refine wpAny_Assign_Name (wpAny_mono (he pins s σ H _ (E σ) I h) (fun v s1 q => ?_) fun x s1 q => ⟨σ, q⟩) hs
  obtain ⟨y, H1, I1, r1, q1⟩ := q
  exact store_ok I1 hN hi hx r1 (fun s2 I2 => wpAny_execs_nil (show SP X pins D .next s2 from ⟨_, H1, I2, q1⟩)) hf
end
end L2
end
section
namespace K25
open PySem L2
abbrev sWhole : Stmt := top 17
abbrev sBelow : Stmt := top 18
abbrev sWord : Stmt := top 19
abbrev sEight : Stmt := top 26
abbrev sImage : Stmt := top 27
abbrev sCWord : Stmt := top 28
abbrev sRead : Stmt := inClass (top 29) 4
abbrev sWrite : Stmt := inClass (top 29) 5
abbrev sSpot : Stmt := inClass (top 29) 7
abbrev sCPage : Stmt := inClass (top 29) 8
abbrev sInit : Stmt := inClass (top 30) 0
abbrev sSize : Stmt := inClass (top 30) 1
abbrev sHas : Stmt := inClass (top 30) 2
abbrev sWordAt : Stmt := inClass (top 30) 3
abbrev sPutWord : Stmt := inClass (top 30) 4
def below : V → Int → Bool
  | .int i, b => decide (0 ≤ i) && decide (i < b)
  | _, _ => false
theorem below_int {x : V} {b : Int} (h : below x b = true) : ∃ i, x = .int i ∧ 0 ≤ i ∧ i < b := by
  cases x with
  | int i =>
    simp only [below, Bool.and_eq_true, decide_eq_true_eq] at h
    exact ⟨i, rfl, h.1, h.2⟩
  | _ => cases h
theorem below_of {i b : Int} (h0 : 0 ≤ i) (h1 : i < b) : below (.int i) b = true := by simp [below, h0, h1]
structure Dn (K : PySem.W.Frag) (mg : Str → Option Value) (x : Str) (st : Stmt) (ps : List Str) (f : Addr) (fd : FuncData) : Prop where
  F : Fun K x x st f fd
  m : mg x = some (.ref f)
  b : Binds K fd ps []
structure Me (K : PySem.W.Frag) (C : Addr) (x qual : Str) (st : Stmt) (ps : List Str) (f : Addr) (fd : FuncData) : Prop where
  F : Fun K x qual st f fd
  m : Meth K C x f
  b : Binds K fd ps []
structure Txt (K : PySem.W.Frag) (mg : Str → Option Value) : Prop where
  isi : mg "isinstance" = none
  int : mg "int" = none
  boo : mg "bool" = none
  lst : mg "list" = none
  len : mg "len" = none
  all : mg "all" = none
  rng : mg "range" = none
structure Sto (K : PySem.W.Frag) (mg : Str → Option Value) (C NP NL NW NI : Addr) : Prop where
  cl : Cls K C
  nh : NoAttr K C "held"
  words : ∃ t, mg "WORDS" = some (.int 281474976710656 t)
  cells : ∃ t, mg "CELLS" = some (.int 8 t)
  most : ∃ t, mg "MOST_PAGES" = some (.int 24 t)
  np : mg "NoPage" = some (.ref NP)
  xp : L2.excIn K NP = true
  nl : mg "NoPlace" = some (.ref NL)
  xl : L2.excIn K NL = true
  nw : mg "NoWord" = some (.ref NW)
  xw : L2.excIn K NW = true
  ni : mg "NoImage" = some (.ref NI)
  xi : L2.excIn K NI = true
def flds (h : Addr) : List (Str × V) := putF "held" (.ref h) []
theorem flds_held (h : Addr) : (flds h).lookup ("held" : Str) = some (.ref h) := by
  unfold flds
  rw [lookup_putF, if_pos rfl]
theorem flds_no (h : Addr) {m : Str} (h1 : ¬ m = "held") : (flds h).lookup m = none := by
  unfold flds
  rw [lookup_putF, if_neg h1]
  rfl
structure Mem (C : Addr) (H : Hp) (m h : Addr) (ps : Pgs) : Prop where
  ob : ∃ dx, H m = some (.ins C dx (flds h))
  pg : Pg H h ps
  good : Good ps
  len : 1 ≤ ps.length ∧ ps.length ≤ 24
theorem Mem.same {C : Addr} {H H' : Hp} {m h : Addr} {ps : Pgs} (M : Mem C H m h ps) (s : Same H H') : Mem C H' m h ps := ⟨⟨_, s _ _ M.ob.choose_spec⟩, M.pg.same s, M.good, M.len⟩
def isThere : Option (Option (Addr × List Int)) → Bool
  | some (some _) => true
  | _ => false
def hasP (ps : Pgs) : V → Bool
  | .int i => decide (0 ≤ i) && decide (i < ps.length) && isThere ps[i.toNat]?
  | _ => false
theorem hasP_int {ps : Pgs} {x : V} (h : hasP ps x = true) : ∃ (i : Nat) (p : Addr) (ws : List Int), x = .int i ∧ ps[i]? = some (some (p, ws)) := by
  cases x with
  | int i =>
    simp only [hasP, Bool.and_eq_true, decide_eq_true_eq] at h
    obtain ⟨⟨h0, h1⟩, h2⟩ := h
    cases e : ps[i.toNat]? with
    | none => rw [e] at h2; cases h2
    | some o =>
      cases o with
      | none => rw [e] at h2; cases h2
      | some q => exact ⟨i.toNat, q.1, q.2, congrArg V.int (by omega), e⟩
  | _ => cases h
theorem hasP_of {ps : Pgs} {i : Nat} {p : Addr} {ws : List Int} (e : ps[i]? = some (some (p, ws))) : hasP ps (.int i) = true := by
  have hi : i < ps.length := (List.getElem?_eq_some_iff.mp e).1
  simp only [hasP, Int.toNat_natCast, e, isThere, Bool.and_true, Bool.and_eq_true, decide_eq_true_eq]
  omega
def spWhole : Sp := fun vs H Q _ => ∃ x, vs = [x] ∧ Th H x ∧ Q (.bl (isI x)) H
def spBelow : Sp := fun vs H Q _ => ∃ x b, vs = [x, .int b] ∧ Th H x ∧ Q (.bl (below x b)) H
def spWord : Sp := fun vs H Q _ => ∃ x, vs = [x] ∧ Th H x ∧ Q (.bl (below x 281474976710656)) H
def spSize (C : Addr) : Sp := fun vs H Q _ => ∃ m h ps, vs = [.ref m] ∧ Mem C H m h ps ∧ Q (.int ps.length) H
def spHas (C : Addr) : Sp := fun vs H Q _ => ∃ m h ps x, vs = [.ref m, x] ∧ Mem C H m h ps ∧ Th H x ∧ Q (.bl (hasP ps x)) H
def spWordAt (C : Addr) : Sp := fun vs H Q _ => ∃ m h ps, ∃ (i j : Nat) (p : Addr) (ws : List Int), vs = [.ref m, .int i, .int j] ∧ Mem C H m h ps ∧ ps[i]? = some (some (p, ws)) ∧ j < 8 ∧ Q (.int (ws.getD j 0)) H
def spPutWord (C : Addr) : Sp := fun vs H Q _ => ∃ m h ps, ∃ (i j : Nat) (w : Int) (p : Addr) (ws : List Int), vs = [.ref m, .int i, .int j, .int w] ∧ Mem C H m h ps ∧ ps[i]? = some (some (p, ws)) ∧ j < 8 ∧ Q .non (upd H p (.lst ((ws.map V.int).set j (.int w))))
section
variable {P : Program} {w : World} {K : PySem.W.Frag} {mg : Str → Option Value} {base : Heap} {C NP NL NW NI : Addr}
theorem scWh : FnScope ["thing"] ["thing"] (defScope sWhole) := ⟨rfl, rfl, rfl, by decide +kernel, rfl, by decide +kernel, by decide +kernel⟩
theorem ok_whole {f : Addr} {fd : FuncData} (F : Fun K "is_whole" "is_whole" sWhole f fd) (T : Txt K mg) : FnOk P w K mg base CX0 1 f fd ["thing"] spWhole := by
  refine F.ok scWh (fun vs H Q E h => ?_) (fun cdv A outer s H vs Q E hr h => ?_)
  · obtain ⟨x, rfl, _⟩ := h
    rfl
  · obtain ⟨x, rfl, th, q⟩ := h
    refine ⟨_, (pss_one (ps_ret (pe_and (pe_callB call_isint (by rfl) T.isi PyProof.Rows.boot_isinstance (pa_cons (pv 0) (pa_cons (pe_bltn (by rfl) T.int PyProof.Rows.boot_int (show RelV (.ty "int") (.type "int") from rfl)) pa_nil))) (pe_one (pe_not (pe_callB call_isbool (by rfl) T.isi PyProof.Rows.boot_isinstance (pa_cons (pv 0) (pa_cons (pe_bltn (by rfl) T.boo PyProof.Rows.boot_bool (show RelV (.ty "bool") (.type "bool") from rfl)) pa_nil)))))))), ?_⟩
    refine ⟨x, rfl, x, rfl, th, _, rfl, ?_⟩
    cases th with
    | non => exact iteF q
    | bl b => exact iteT ⟨_, rfl, _, rfl, .bl b, _, rfl, q⟩
    | int i => exact iteT ⟨_, rfl, _, rfl, .int i, _, rfl, q⟩
    | str z => exact iteF q
    | lst e => exact iteF q
    | frz e => exact iteF q
    | tup e => exact iteF q
    | dic e => exact iteF q
theorem scBe : FnScope ["thing", "bound"] ["thing", "bound"] (defScope sBelow) := ⟨rfl, rfl, rfl, by decide +kernel, rfl, by decide +kernel, by decide +kernel⟩
theorem ok_below {f f1 : Addr} {fd fd1 : FuncData} (F : Fun K "is_below" "is_below" sBelow f fd) (W : Dn K mg "is_whole" sWhole ["thing"] f1 fd1) (T : Txt K mg) : FnOk P w K mg base CX0 2 f fd ["thing", "bound"] spBelow := by
  have G : FnOk P w K mg base CX0 1 f1 fd1 ["thing"] spWhole := ok_whole W.F T
  refine F.ok scBe (fun vs H Q E h => ?_) (fun cdv A outer s H vs Q E hr h => ?_)
  · obtain ⟨x, b, rfl, _⟩ := h
    rfl
  · obtain ⟨x, b, rfl, th, q⟩ := h
    refine ⟨_, (pss_one (ps_ret (pe_and (pe_call G hr (by rfl) W.m W.F.kp W.b .nil pass0 (pa_cons (pv 0) pa_nil)) (pe_one (pe_chain op_le op_lt pe_int (pv 0) (pv 1)))))), ?_⟩
    refine ⟨x, rfl, x, rfl, th, _, rfl, ?_⟩
    cases th with
    | int i =>
      refine iteT ⟨_, rfl, 0, i, rfl, rfl, _, rfl, ?_⟩
      by_cases h0 : (0 : Int) ≤ i
      · rw [decide_eq_true h0]
        refine iteT ⟨_, rfl, i, b, rfl, rfl, ?_⟩
        simp only [below, decide_eq_true h0, Bool.true_and] at q
        exact q
      · rw [decide_eq_false h0]
        refine iteF ?_
        simp only [below, decide_eq_false h0, Bool.false_and] at q
        exact q
    | non => exact iteF q
    | bl b => exact iteF q
    | str z => exact iteF q
    | lst e => exact iteF q
    | frz e => exact iteF q
    | tup e => exact iteF q
    | dic e => exact iteF q
theorem scWd : FnScope ["thing"] ["thing"] (defScope sWord) := ⟨rfl, rfl, rfl, by decide +kernel, rfl, by decide +kernel, by decide +kernel⟩
theorem ok_word {f f1 : Addr} {fd fd1 : FuncData} (F : Fun K "is_word" "is_word" sWord f fd) (B : Dn K mg "is_below" sBelow ["thing", "bound"] f1 fd1) (G : FnOk P w K mg base CX0 2 f1 fd1 ["thing", "bound"] spBelow) (S : Sto K mg C NP NL NW NI) : FnOk P w K mg base CX0 3 f fd ["thing"] spWord := by
  refine F.ok scWd (fun vs H Q E h => ?_) (fun cdv A outer s H vs Q E hr h => ?_)
  · obtain ⟨x, rfl, _⟩ := h
    rfl
  · obtain ⟨x, rfl, th, q⟩ := h
    obtain ⟨t1, m1⟩ := S.words
    refine ⟨_, (pss_one (ps_ret (pe_call G hr (by rfl) B.m B.F.kp B.b .nil pass0 (pa_cons (pv 0) (pa_cons (pe_glob (by rfl) m1 (show RelV (.int 281474976710656) (.int 281474976710656 t1) from ⟨_, rfl⟩)) pa_nil))))), ?_⟩
    exact ⟨x, rfl, x, _, rfl, th, q⟩
theorem scSi : FnScope ["self"] ["self"] (defScope sSize) := ⟨rfl, rfl, rfl, by decide +kernel, rfl, by decide +kernel, by decide +kernel⟩
theorem ok_size {f : Addr} {fd : FuncData} (F : Fun K "size" "Memory.size" sSize f fd) (S : Sto K mg C NP NL NW NI) (T : Txt K mg) : FnOk P w K mg base CX0 1 f fd ["self"] (spSize C) := by
  refine F.ok scSi (fun vs H Q E h => ?_) (fun cdv A outer s H vs Q E hr h => ?_)
  · obtain ⟨m, h, ps, rfl, _⟩ := h
    rfl
  · obtain ⟨m, h, ps, rfl, M, q⟩ := h
    obtain ⟨dx, hm⟩ := M.ob
    refine ⟨_, (pss_one (ps_ret (pe_callB call_len_seq (by rfl) T.len PySem.boot_len (pa_cons (pe_fld (pv 0) rfl) pa_nil)))), ?_⟩
    refine ⟨_, rfl, m, C, dx, _, _, rfl, hm, S.cl, S.nh, flds_held h, h, _, rfl, .inl (SqL.of M.pg.top), ?_⟩
    rw [List.length_map]
    exact q
theorem scHa : FnScope ["self", "page"] ["self", "page"] (defScope sHas) := ⟨rfl, rfl, rfl, by decide +kernel, rfl, by decide +kernel, by decide +kernel⟩
theorem ok_has {f f1 f2 : Addr} {fd fd1 fd2 : FuncData} (F : Fun K "has" "Memory.has" sHas f fd) (B : Dn K mg "is_below" sBelow ["thing", "bound"] f1 fd1) (G : FnOk P w K mg base CX0 2 f1 fd1 ["thing", "bound"] spBelow)
    (Z : Me K C "size" "Memory.size" sSize ["self"] f2 fd2) (GZ : FnOk P w K mg base CX0 1 f2 fd2 ["self"] (spSize C)) (S : Sto K mg C NP NL NW NI) : FnOk P w K mg base CX0 3 f fd ["self", "page"] (spHas C) := by
  refine F.ok scHa (fun vs H Q E h => ?_) (fun cdv A outer s H vs Q E hr h => ?_)
  · obtain ⟨m, h, ps, x, rfl, _⟩ := h
    rfl
  · obtain ⟨m, h, ps, x, rfl, M, th, q⟩ := h
    obtain ⟨dx, hm⟩ := M.ob
    have hr1 : Room 1 _ := hr.mono (by decide)
    refine ⟨_, (pss_one (ps_ret (pe_and (pe_call G hr (by rfl) B.m B.F.kp B.b .nil pass0 (pa_cons (pv 1) (pa_cons (pe_meth0 (pv 0) S.cl Z.m GZ hr1 Z.b .nil pass0) pa_nil))) (pe_one (pe_cmpR op_notN (pe_ix ix_list (pe_fld (pv 0) rfl) (pv 1) (fun _ _ => rfl)) pe_non (nomark _)))))), ?_⟩
    refine ⟨_, rfl, _, rfl, m, dx, _, rfl, hm, flds_no h (by decide +kernel), m, h, ps, rfl, M, x, _, rfl, th, _, rfl, ?_⟩
    cases hb : below x (ps.length : Int) with
    | false =>
      refine iteF ?_
      have e : hasP ps x = false := by
        cases x with
        | int i =>
          simp only [below] at hb
          simp only [hasP, hb, Bool.false_and]
        | _ => rfl
      rw [e] at q
      exact q
    | true =>
      obtain ⟨i, rfl, h0, h1⟩ := below_int hb
      obtain ⟨n, rfl⟩ : ∃ n : Nat, i = (n : Int) := ⟨i.toNat, by omega⟩
      obtain ⟨o, ho, ha⟩ := atI_pg (ps := ps) (i := n) (by omega)
      refine iteT ⟨_, rfl, m, C, dx, _, _, rfl, hm, S.cl, S.nh, flds_held h, _, rfl, h, _, _, _, rfl, rfl, SqL.of M.pg.top, ha, rfl, ?_⟩
      cases o with
      | none =>
        have e : hasP ps (.int (n : Int)) = false := by simp [hasP, ho, isThere]
        rw [e] at q
        exact q
      | some z =>
        rw [hasP_of ho] at q
        exact q
theorem scWa : FnScope ["self", "page", "cell"] ["self", "page", "cell"] (defScope sWordAt) := ⟨rfl, rfl, rfl, by decide +kernel, rfl, by decide +kernel, by decide +kernel⟩
theorem ok_wordat {f : Addr} {fd : FuncData} (F : Fun K "word_at" "Memory.word_at" sWordAt f fd) (S : Sto K mg C NP NL NW NI) : FnOk P w K mg base CX0 1 f fd ["self", "page", "cell"] (spWordAt C) := by
  refine F.ok scWa (fun vs H Q E h => ?_) (fun cdv A outer s H vs Q E hr h => ?_)
  · obtain ⟨m, h, ps, i, j, p, ws, rfl, _⟩ := h
    rfl
  · obtain ⟨m, h, ps, i, j, p, ws, rfl, M, e, hj, q⟩ := h
    obtain ⟨dx, hm⟩ := M.ob
    obtain ⟨o, ho, ha⟩ := atI_pg (ps := ps) (i := i) (List.getElem?_eq_some_iff.mp e).1
    obtain rfl : o = some (p, ws) := Option.some.inj (ho.symm.trans e)
    refine ⟨_, (pss_one (ps_ret (pe_ix ix_list (pe_ix ix_list (pe_fld (pv 0) rfl) (pv 1) (fun _ _ => rfl)) (pv 2) (fun _ _ => rfl)))), ?_⟩
    exact ⟨_, rfl, m, C, dx, _, _, rfl, hm, S.cl, S.nh, flds_held h, _, rfl, h, _, _, _, rfl, rfl, SqL.of M.pg.top, ha, _, rfl, p, _, _, _, rfl, rfl, SqL.of (M.pg.each i p ws e).1, atI_word (by rw [(M.good i p ws e).1]; exact hj), q⟩
theorem scPw : FnScope ["self", "page", "cell", "word"] ["self", "page", "cell", "word"] (defScope sPutWord) := ⟨rfl, rfl, rfl, by decide +kernel, rfl, by decide +kernel, by decide +kernel⟩
theorem ok_putword {f : Addr} {fd : FuncData} (F : Fun K "put_word" "Memory.put_word" sPutWord f fd) (S : Sto K mg C NP NL NW NI) : FnOk P w K mg base CX0 1 f fd ["self", "page", "cell", "word"] (spPutWord C) := by
  refine F.ok scPw (fun vs H Q E h => ?_) (fun cdv A outer s H vs Q E hr h => ?_)
  · obtain ⟨m, h, ps, i, j, v, p, ws, rfl, _⟩ := h
    rfl
  · obtain ⟨m, h, ps, i, j, v, p, ws, rfl, M, e, hj, q⟩ := h
    obtain ⟨dx, hm⟩ := M.ob
    obtain ⟨o, ho, ha⟩ := atI_pg (ps := ps) (i := i) (List.getElem?_eq_some_iff.mp e).1
    obtain rfl : o = some (p, ws) := Option.some.inj (ho.symm.trans e)
    refine ⟨_, (pss_one (ps_asg (pv 3) (pg_sub (pe_ix ix_list (pe_fld (pv 0) rfl) (pv 1) (fun _ _ => rfl)) (pv 2) set_list))), ?_⟩
    exact ⟨_, rfl, _, rfl, m, C, dx, _, _, rfl, hm, S.cl, S.nh, flds_held h, _, rfl, h, _, _, _, rfl, rfl, SqL.of M.pg.top, ha, _, rfl, p, _, _, _, rfl, rfl, (M.pg.each i p ws e).1, ixN_nat (by rw [List.length_map, (M.good i p ws e).1]; exact hj), q⟩
theorem scCW : FnScope ["word"] ["word"] (defScope sCWord) := ⟨rfl, rfl, rfl, by decide +kernel, rfl, by decide +kernel, by decide +kernel⟩
def spCWord (NW : Addr) : Sp := fun vs H Q E => ∃ z, vs = [z] ∧ Th H z ∧ (below z 281474976710656 = true → Q .non H) ∧ (below z 281474976710656 = false → E (.ref NW) none H)
theorem ok_cword {f f3 : Addr} {fd fd3 : FuncData} (F : Fun K "check_word" "check_word" sCWord f fd) (B : Dn K mg "is_word" sWord ["thing"] f3 fd3) (G : FnOk P w K mg base CX0 3 f3 fd3 ["thing"] spWord) (S : Sto K mg C NP NL NW NI) : FnOk P w K mg base (CXr P w) 4 f fd ["word"] (spCWord NW) := by
  refine F.okR scCW (fun vs H Q E h => ?_) (fun cdv A outer s H vs Q E hr h => ?_)
  · obtain ⟨z, rfl, _⟩ := h
    rfl
  · obtain ⟨z, rfl, tz, q, e3⟩ := h
    refine ⟨_, (pss_one (ps_if (pt_not (pt_val (pe_call G hr (by rfl) B.m B.F.kp B.b .nil pass0 (pa_cons (pv 0) pa_nil)))) (pss_one (ps_raise S.xw S.nw raisesR rfl (pa_cons pe_str pa_nil))) pss_nil)), ?_⟩
    refine ⟨_, rfl, z, rfl, tz, _, rfl, ?_⟩
    cases hd : below z 281474976710656 with
    | false => exact iteT ⟨by decide, e3 hd⟩
    | true => exact iteF (q hd)
theorem scEi : FnScope ["thing"] ["thing"] (defScope sEight) := ⟨rfl, rfl, rfl, by decide +kernel, rfl, by decide +kernel, by decide +kernel⟩
theorem ndEi : (compN "word" ["thing"]).Nodup := by decide +kernel
theorem dotEi : (".0" : Str) ∉ (["thing"] : List Str) := by decide +kernel
def spEight : Sp := fun vs H Q _ => ∃ (p : Addr) (ws : List Int), vs = [.ref p] ∧ H p = some (.lst (ws.map V.int)) ∧ ws.length = 8 ∧ (∀ w ∈ ws, 0 ≤ w ∧ w < 281474976710656) ∧ ∀ H', Same H H' → Q (.bl true) H'
theorem ok_eight {f f1 : Addr} {fd fd1 : FuncData} (F : Fun K "is_eight_words" "is_eight_words" sEight f fd) (B : Dn K mg "is_word" sWord ["thing"] f1 fd1) (G : FnOk P w K mg base CX0 3 f1 fd1 ["thing"] spWord) (S : Sto K mg C NP NL NW NI) (T : Txt K mg) : FnOk P w K mg base CX0 4 f fd ["thing"] spEight := by
  refine F.ok scEi (fun vs H Q E h => ?_) (fun cdv A outer s H vs Q E hr h => ?_)
  · obtain ⟨p, ws, rfl, _⟩ := h
    rfl
  · obtain ⟨p, ws, rfl, hp, hl, hw, q⟩ := h
    obtain ⟨t2, m2⟩ := S.cells
    refine ⟨_, (pss_one (ps_ret (pe_and (pe_callB call_islist (by rfl) T.isi PyProof.Rows.boot_isinstance (pa_cons (pv 0) (pa_cons (pe_bltn (by rfl) T.lst PyProof.Rows.boot_list (show RelV (.ty "list") (.type "list") from rfl)) pa_nil))) (pe_and (pe_cmpR op_eq (pe_callB call_len_seq (by rfl) T.len PySem.boot_len (pa_cons (pv 0) pa_nil)) (pe_glob (by rfl) m2 (show RelV (.int 8) (.int 8 t2) from ⟨_, rfl⟩)) (nomark _)) (pe_one (pe_callB (call_allB rfl) (by rfl) T.all PyProof.Rows.boot_all (pa_cons (pe_comp (cl := []) (tc := tYes) (te := tCall spWord [] E0 (tCons (tVar 0) tNil)) rfl (pi_list (pv 0)) (closureFor_none (by decide +kernel)) (show CapOk _ _ _ _ from ⟨.inl ⟨.inr rfl, rfl⟩, .inl ⟨.inl rfl, rfl⟩, .inr (.inl ⟨by decide, by decide, by decide⟩), trivial⟩) trivial (fun C s₂ H₂ fp => .nil) (fun C s₂ H₂ fp => (pe_call G hr (by rfl) B.m B.F.kp B.b .nil pass0 (pa_cons (pv 0) pa_nil))) ndEi (hdot := dotEi)) pa_nil))))))), ?_⟩
    refine ⟨_, rfl, _, rfl, .lst hp, _, rfl, iteTS (isLst_of hp) ?_⟩
    refine ⟨_, rfl, p, _, rfl, .inl (SqL.of hp), rfl, _, rfl, iteTS (by show decide (V.int ((ws.map V.int).length : Int) = V.int 8) = true; rw [List.length_map, hl]; rfl) ?_⟩
    refine ⟨_, rfl, p, rfl, ⟨_, SqL.of hp⟩, comp_list (xs := ws.map V.int) (fun D i ys H' => H D = none ∧ Same H H' ∧ ys = (List.replicate i true).map V.bl ∧ H' D = some (.lst ys)) ?_ ?_ ?_ ?_⟩
    · exact fun D hD => ⟨hD, same_new hD, rfl, upd_same⟩
    · rintro D i ys H' _ ⟨hD, ss, rfl, hy⟩
      exact ⟨SqL.of (ss _ _ hp), hy⟩
    · rintro D i x ys H' hi ⟨hD, ss, rfl, hy⟩
      rw [List.getElem?_map] at hi
      cases e : ws[i]? with
      | none => rw [e] at hi; cases hi
      | some z =>
        rw [e] at hi
        have hi' : V.int z = x := Option.some.inj hi
        subst hi'
        obtain ⟨z0, z1⟩ := hw z (List.mem_of_getElem? e)
        have hil : i < 8 := by rw [← hl]; exact (List.getElem?_eq_some_iff.mp e).1
        refine iteT ⟨_, rfl, _, rfl, .int z, ?_⟩
        rw [below_of z0 z1]
        refine ⟨hy, ?_, hD, Same.set ss hD, ?_, upd_same⟩
        · rw [List.length_map, List.length_replicate]
          exact Nat.lt_of_lt_of_le hil (by decide)
        · rw [List.replicate_succ', List.map_append]
          rfl
    · rintro D ys H' ⟨hD, ss, rfl, hy⟩
      refine ⟨D, _, rfl, hy, ?_⟩
      rw [show ((List.replicate (ws.map V.int).length true).all id) = true by simp]
      exact q H' ss
theorem scIm : FnScope ["pages", "page"] ["pages"] (defScope sImage) := ⟨rfl, rfl, rfl, by decide +kernel, rfl, by decide +kernel, by decide +kernel⟩
def spImage : Sp := fun vs H Q _ => ∃ (p : Addr) (ps : Pgs), vs = [.ref p] ∧ Pg H p ps ∧ Good ps ∧ 1 ≤ ps.length ∧ ps.length ≤ 24 ∧ ∀ H', Same H H' → Q .non H'
theorem ok_image {f f1 : Addr} {fd fd1 : FuncData} (F : Fun K "check_image" "check_image" sImage f fd) (B : Dn K mg "is_eight_words" sEight ["thing"] f1 fd1) (G : FnOk P w K mg base CX0 4 f1 fd1 ["thing"] spEight) (S : Sto K mg C NP NL NW NI) (T : Txt K mg) : FnOk P w K mg base (CXr P w) 5 f fd ["pages"] spImage := by
  refine F.okR scIm (fun vs H Q E h => ?_) (fun cdv A outer s H vs Q E hr h => ?_)
  · obtain ⟨p, ps, rfl, _⟩ := h
    rfl
  · obtain ⟨p, ps, rfl, g, hg, l1, l2, q⟩ := h
    obtain ⟨t3, m3⟩ := S.most
    refine ⟨_, (pss_cons (ps_if (PW.pt (pw_or (pt_not (pt_val (pe_callB call_islist (by rfl) T.isi PyProof.Rows.boot_isinstance (pa_cons (pv 0) (pa_cons (pe_bltn (by rfl) T.lst PyProof.Rows.boot_list (show RelV (.ty "list") (.type "list") from rfl)) pa_nil))))) (pw_or1 (pt_not (pt_chain op_le op_le pe_int (pe_callB call_len_seq (by rfl) T.len PySem.boot_len (pa_cons (pv 0) pa_nil)) (pe_glob (by rfl) m3 (show RelV (.int 24) (.int 24 t3) from ⟨_, rfl⟩))))))) (pss_one (ps_raise S.xi S.ni raisesR rfl (pa_cons pe_str pa_nil))) pss_nil) (pss_one (ps_for passesOwnR rfl (pi_list (pv 0)) (pg_name (i := 1) scIm.nd rfl (Or.inl rfl)) (pss_one (ps_if (PW.pt (pw_and (pt_cmpR op_notN (pv 1) pe_non (nomark _)) (pw_and1 (pt_not (pt_val (pe_call G hr (by rfl) B.m B.F.kp B.b .nil pass0 (pa_cons (pv 1) pa_nil))))))) (pss_one (ps_raise S.xi S.ni raisesR rfl (pa_cons pe_str pa_nil))) pss_nil))))), ?_⟩
    refine ⟨_, rfl, _, rfl, .lst g.top, _, rfl, iteFS (by show (!isLst H (.ref p)) = false; rw [isLst_of g.top]; rfl) ?_⟩
    refine ⟨_, rfl, p, _, rfl, .inl (SqL.of g.top), 1, _, rfl, rfl, _, rfl, iteTS (by show decide ((1 : Int) ≤ ((ps.map pgV).length : Int)) = true; rw [List.length_map]; exact decide_eq_true (by omega)) ?_⟩
    refine ⟨_, 24, rfl, rfl, _, rfl, iteFS (by show (!decide ((((ps.map pgV).length : Int)) ≤ 24)) = false; rw [List.length_map, decide_eq_true (by omega)]; rfl) ?_⟩
    refine ⟨_, rfl, p, rfl, ⟨_, SqL.of g.top⟩, for_list (K := K) (a := p) (xs := ps.map pgV) (fun i σ H' => (∃ v, σ = [some (.ref p), v]) ∧ Same H H') ⟨⟨_, rfl⟩, Same.refl _⟩ (fun i σ H' _ ⟨_, ss⟩ => SqL.of (ss _ _ g.top)) ?_ ?_⟩
    · rintro i x σ H' hi ⟨⟨v, rfl⟩, ss⟩
      rw [List.getElem?_map] at hi
      cases e : ps[i]? with
      | none => rw [e] at hi; cases hi
      | some o =>
        rw [e] at hi
        have hi' : pgV o = x := Option.some.inj hi
        subst hi'
        cases o with
        | none =>
          refine ⟨_, rfl, rfl, _, rfl, iteF ?_⟩
          refine iteF ?_
          exact ⟨⟨_, rfl⟩, ss⟩
        | some z =>
          obtain ⟨a, ws⟩ := z
          refine ⟨_, rfl, rfl, _, rfl, iteT ?_⟩
          refine ⟨_, rfl, a, ws, rfl, ss _ _ (g.each i a ws e).1, (hg i a ws e).1, (hg i a ws e).2, fun H2 s2 => ⟨_, rfl, iteF ?_⟩⟩
          exact ⟨⟨_, rfl⟩, ss.trans s2⟩
    · rintro σ H' ⟨_, ss⟩
      exact q H' ss
theorem scIn : FnScope ["self", "pages"] ["self", "pages"] (defScope sInit) := ⟨rfl, rfl, rfl, by decide +kernel, rfl, by decide +kernel, by decide +kernel⟩
theorem ndIn : (compN "page" ["self", "pages"]).Nodup := by decide +kernel
theorem dotIn : (".0" : Str) ∉ (["self", "pages"] : List Str) := by decide +kernel
def spInit (C : Addr) : Sp := fun vs H Q _ => ∃ (m dx p : Addr) (ps : Pgs), vs = [.ref m, .ref p] ∧ H m = some (.ins C dx []) ∧ Pg H p ps ∧ Good ps ∧ 1 ≤ ps.length ∧ ps.length ≤ 24 ∧
  ∀ (h : Addr) (H' : Hp) (qs : Pgs), (∀ b o, b ≠ m → H b = some o → H' b = some o) → Mem C H' m h qs → cont qs = cont ps → (∀ b, At h qs b → H b = none) → Q .non H'
theorem good_cont {ps qs : Pgs} (h : cont qs = cont ps) (g : Good ps) : Good qs := fun i p ws e => by
  obtain ⟨q, f⟩ := cont_some h e
  exact g i q ws f
theorem ok_init {f f1 : Addr} {fd fd1 : FuncData} (F : Fun K "__init__" "Memory.__init__" sInit f fd) (B : Dn K mg "check_image" sImage ["pages"] f1 fd1) (G : FnOk P w K mg base (CXr P w) 5 f1 fd1 ["pages"] spImage) (S : Sto K mg C NP NL NW NI) (T : Txt K mg) : FnOk P w K mg base (CXr P w) 6 f fd ["self", "pages"] (spInit C) := by
  refine F.okR scIn (fun vs H Q E h => ?_) (fun cdv A outer s H vs Q E hr h => ?_)
  · obtain ⟨m, dx, p, ps, rfl, _⟩ := h
    rfl
  · obtain ⟨m, dx, p, ps, rfl, hm, g, hg, l1, l2, q⟩ := h
    refine ⟨_, (pss_cons (ps_expr (pe_call G hr (by rfl) B.m B.F.kp B.b .nil passR (pa_cons (pv 1) pa_nil))) (pss_one (ps_fld (pv 0) (pe_comp (cl := []) (tc := tYes) (te := tCopy K) rfl (pi_list (pv 1)) (closureFor_none (by decide +kernel)) (show CapOk _ _ _ _ from ⟨.inl ⟨.inr rfl, rfl⟩, .inl ⟨.inl rfl, rfl⟩, .inr (.inl ⟨by decide, by decide, by decide⟩), trivial⟩) trivial (fun C s₂ H₂ fp => .nil) (fun C s₂ H₂ fp => (pe_ifExp (pt_cmpR op_isN (pv 0) pe_non (nomark _)) pe_non (pe_callTy call_list_of (by rfl) T.lst PyProof.Rows.boot_list (pa_cons (pv 0) pa_nil)))) ndIn (hdot := dotIn)) rfl))), ?_⟩
    refine ⟨_, rfl, p, ps, rfl, g, hg, l1, l2, fun H1 s1 => ?_⟩
    refine ⟨_, rfl, p, rfl, ⟨_, SqL.of (s1 _ _ g.top)⟩, copy_pages (g.same s1) (by omega) fun D H2 qs s2 g2 hc hf => ?_⟩
    have s12 := s1.trans s2
    have hm2 := s12 _ _ hm
    have nm : ∀ b, At D qs b → b ≠ m := fun b hb z => by
      have := s1.free (hf b hb)
      rw [z, hm] at this
      cases this
    refine ⟨_, rfl, m, C, dx, _, rfl, hm2, S.cl, S.nh, (by show 0 < 1000; decide), ?_⟩
    refine q D _ qs (fun b o hb e => by rw [upd_ne hb]; exact s12 _ _ e) ⟨⟨dx, upd_same⟩, g2.keep fun b hb => upd_ne (nm b hb), good_cont hc hg, ?_⟩ hc fun b hb => s1.free (hf b hb)
    have := cont_len hc
    omega
end
end K25
end
section
namespace K25
open PySem L2
theorem hasP_cont {ps qs : Pgs} (h : cont ps = cont qs) (x : V) : hasP ps x = hasP qs x := by
  cases x with
  | int i =>
    have hl := cont_len h
    have e : isThere ps[i.toNat]? = isThere qs[i.toNat]? := by
      have z := cont_at h i.toNat
      revert z
      cases ps[i.toNat]? with
      | none => cases qs[i.toNat]? with
        | none => intro; rfl
        | some o => intro z; cases z
      | some o => cases qs[i.toNat]? with
        | none => intro z; cases z
        | some o' =>
          intro z
          cases o <;> cases o' <;> first | rfl | cases z
    simp only [hasP, e, hl]
  | _ => rfl
theorem below_far {i b : Int} (h : b ≤ i) : below (.int i) b = false := by
  have e : decide (i < b) = false := decide_eq_false (by omega)
  simp [below, e]
structure Both (C : Addr) (H : Hp) (m h D : Addr) (ps qs : Pgs) : Prop where
  M : Mem C H m h ps
  g : Pg H D qs
  c : cont ps = cont qs
  ap : ∀ b, At h ps b → ¬ At D qs b
theorem passX0 {P : Program} {w : World} {X : Cx} : Passes (CXr P w) X E0 := by
  rintro _ _ _ _ _ _ _ ⟨_, _, _, _, _, _, _, _, _, _, _, _, _, _, _, q⟩
  exact q.elim
theorem _root_.L2.At.setW {h b : Addr} {ps : Pgs} {i j : Nat} {w : Int} (x : At h (setW ps i j w) b) : At h ps b := by
  rcases x with rfl | ⟨k, ws, e⟩
  · exact .inl rfl
  · unfold L2.setW at e
    by_cases hk : i = k
    · subst hk
      cases e0 : ps[i]? with
      | none =>
        rw [List.getElem?_eq_none (by rw [List.length_set]; exact List.getElem?_eq_none_iff.mp e0)] at e
        cases e
      | some o =>
        rw [List.getElem?_set_self (List.getElem?_eq_some_iff.mp e0).1, e0] at e
        cases o with
        | none => cases e
        | some z =>
          obtain ⟨p, vs⟩ := z
          cases e
          exact .inr ⟨i, vs, e0⟩
    · rw [List.getElem?_set_ne hk] at e
      exact .inr ⟨k, ws, e⟩
theorem there_setW {ps : Pgs} {i j : Nat} {w : Int} (n : Nat) : isThere (setW ps i j w)[n]? = isThere ps[n]? := by
  unfold L2.setW
  by_cases hn : i = n
  · subst hn
    cases e : ps[i]? with
    | none => rw [List.getElem?_eq_none (by rw [List.length_set]; exact List.getElem?_eq_none_iff.mp e)]
    | some o =>
      rw [List.getElem?_set_self (List.getElem?_eq_some_iff.mp e).1]
      cases o <;> rfl
  · rw [List.getElem?_set_ne hn]
theorem _root_.L2.Good.setW {ps : Pgs} {i j : Nat} {w : Int} {p : Addr} {ws : List Int} (g : Good ps) (h : ps[i]? = some (some (p, ws))) (w0 : 0 ≤ w) (w1 : w < 281474976710656) : Good (setW ps i j w) := fun k q vs e => by
  rw [setW_at h] at e
  have hi : i < ps.length := (List.getElem?_eq_some_iff.mp h).1
  by_cases hk : i = k
  · subst hk
    rw [List.getElem?_set_self hi] at e
    cases e
    obtain ⟨g1, g2⟩ := g i p ws h
    refine ⟨by rw [List.length_set]; exact g1, fun v hv => ?_⟩
    rcases List.mem_or_eq_of_mem_set hv with z | z
    · exact g2 v z
    · rw [z]
      exact ⟨w0, w1⟩
  · rw [List.getElem?_set_ne hk] at e
    exact g k q vs e
theorem Mem.setW {C : Addr} {H : Hp} {m h : Addr} {ps : Pgs} {i j : Nat} {w : Int} {p : Addr} {ws : List Int} (M : Mem C H m h ps) (e : ps[i]? = some (some (p, ws))) (w0 : 0 ≤ w) (w1 : w < 281474976710656) : Mem C (upd H p (.lst ((ws.map V.int).set j (.int w)))) m h (setW ps i j w) := by
  obtain ⟨dx, hm⟩ := M.ob
  have hp := (M.pg.each i p ws e).1
  exact ⟨⟨dx, by rw [upd_ne (ne_of hm hp (by intro z; cases z))]; exact hm⟩, M.pg.setW e, M.good.setW e w0 w1, by rw [setW_len]; exact M.len⟩
end K25
end
section
namespace K25
open PySem L2
abbrev sSInit : Stmt := inClass (top 24) 0
abbrev sSTold : Stmt := inClass (top 24) 5
abbrev Rs := List (Int × Int × Int)
def lookR : Rs → Int → Option (Int × Int)
  | [], _ => none
  | x :: r, k => if x.1 = k then some x.2 else lookR r k
def putR : Rs → Int × Int × Int → Rs
  | [], x => [x]
  | y :: r, x => if y.1 = x.1 then x :: r else y :: putR r x
def delR (rs : Rs) (k : Int) : Rs := rs.filter fun x => decide (x.1 ≠ k)
def keepR (n : Int) (rs : Rs) (x : Int × Int × Int) : Rs × Option Int := if ((putR rs x).length : Int) ≤ n then (putR rs x, none) else ((putR rs x).tail, (putR rs x).head?.map (·.1))
def oV : Option Int → V
  | none => .non
  | some i => .int i
inductive Rws (H : Hp) : List (Key × V) → Rs → Prop
  | nil : Rws H [] []
  | cons {k p r : Int} {t : Addr} {kvs : List (Key × V)} {rs : Rs} : H t = some (.tup [.int p, .int r]) → Rws H kvs rs → Rws H ((Sum.inl k, .ref t) :: kvs) ((k, p, r) :: rs)
theorem Rws.imp {H H' : Hp} (f : ∀ t xs, H t = some (.tup xs) → H' t = some (.tup xs)) {kvs : List (Key × V)} {rs : Rs} (h : Rws H kvs rs) : Rws H' kvs rs := by
  induction h with
  | nil => exact .nil
  | cons e _ ih => exact .cons (f _ _ e) ih
theorem Rws.len {H : Hp} {kvs : List (Key × V)} {rs : Rs} (h : Rws H kvs rs) : kvs.length = rs.length := by
  induction h with
  | nil => rfl
  | cons e _ ih => rw [List.length_cons, List.length_cons, ih]
theorem Rws.keys {H : Hp} {kvs : List (Key × V)} {rs : Rs} (h : Rws H kvs rs) : (kvs.map fun kv => kV kv.1) = rs.map fun x => V.int x.1 := by
  induction h with
  | nil => rfl
  | cons e _ ih => rw [List.map_cons, List.map_cons, ih]; rfl
theorem inl_ne {a b : Int} (h : ¬ a = b) : ¬ (Sum.inl a : Key) = Sum.inl b := fun z => h (Sum.inl.inj z)
theorem Rws.look {H : Hp} {kvs : List (Key × V)} {rs : Rs} (h : Rws H kvs rs) (k : Int) : (lookR rs k = none ∧ valV kvs (Sum.inl k) = none) ∨ ∃ p r t, lookR rs k = some (p, r) ∧ valV kvs (Sum.inl k) = some (.ref t) ∧ H t = some (.tup [.int p, .int r]) := by
  induction h with
  | nil => exact .inl ⟨rfl, rfl⟩
  | @cons k' p r t kvs rs e _ ih =>
    by_cases hk : k' = k
    · subst hk
      exact .inr ⟨p, r, t, by unfold lookR; rw [if_pos rfl], valV_pos rfl, e⟩
    · have e1 : lookR ((k', p, r) :: rs) k = lookR rs k := by
        show (if k' = k then _ else _) = _
        rw [if_neg hk]
      rw [e1, valV_neg (p := (Sum.inl k', V.ref t)) (inl_ne hk)]
      exact ih
theorem Rws.del {H : Hp} {kvs : List (Key × V)} {rs : Rs} (h : Rws H kvs rs) (k : Int) : Rws H (dropK kvs (Sum.inl k)) (delR rs k) := by
  induction h with
  | nil => exact .nil
  | @cons k' p r t kvs rs e _ ih =>
    by_cases hk : k' = k
    · rw [dropK_pos (p := (Sum.inl k', V.ref t)) (by rw [hk]), show delR ((k', p, r) :: rs) k = delR rs k from by unfold delR; rw [List.filter_cons_of_neg (by simp [hk])]]
      exact ih
    · rw [dropK_neg (p := (Sum.inl k', V.ref t)) (inl_ne hk), show delR ((k', p, r) :: rs) k = (k', p, r) :: delR rs k from by unfold delR; rw [List.filter_cons_of_pos (by simp [hk])]]
      exact .cons e ih
theorem Rws.get {H : Hp} {kvs : List (Key × V)} {rs : Rs} (h : Rws H kvs rs) : ∀ (i : Nat) (k : Key) (z : V), kvs[i]? = some (k, z) → ∃ x t, rs[i]? = some x ∧ k = Sum.inl x.1 ∧ z = .ref t ∧ H t = some (.tup [.int x.2.1, .int x.2.2]) := by
  induction h with
  | nil => intro i k z e; simp at e
  | @cons k' p r t kvs rs e _ ih =>
    intro i k z he
    cases i with
    | zero =>
      have he' : some (Sum.inl k', V.ref t) = some (k, z) := he
      cases he'
      exact ⟨(k', p, r), t, rfl, rfl, rfl, e⟩
    | succ i => exact ih i k z he
theorem lookR_mem : ∀ {rs : Rs} {k : Int}, lookR rs k = none → ¬ k ∈ rs.map (·.1)
  | [], k, _ => by simp
  | x :: rs, k, h => by
    unfold lookR at h
    by_cases hk : x.1 = k
    · rw [if_pos hk] at h
      cases h
    · rw [if_neg hk] at h
      rw [List.map_cons, List.mem_cons]
      rintro (z | z)
      · exact hk z.symm
      · exact lookR_mem h z
theorem putK_cons_ne {kvs : List (Key × V)} {k j : Key} {v u : V} (h : ¬ j = k) : putK ((j, u) :: kvs) k v = (j, u) :: putK kvs k v := by
  unfold putK
  rw [List.any_cons, decide_eq_false h, Bool.false_or]
  split
  · rw [List.map_cons, if_neg h]
  · rfl
theorem map_no {k : Key} {v : V} : ∀ {kvs : List (Key × V)}, ¬ k ∈ kvs.map (·.1) → kvs.map (fun kv => if kv.1 = k then (kv.1, v) else kv) = kvs
  | [], _ => rfl
  | p :: kvs, h => by
    rw [List.map_cons, List.mem_cons] at h
    rw [List.map_cons, if_neg (fun z => h (.inl z.symm)), map_no fun z => h (.inr z)]
theorem Rws.keyl {H : Hp} {kvs : List (Key × V)} {rs : Rs} (h : Rws H kvs rs) : kvs.map (·.1) = rs.map fun x => (Sum.inl x.1 : Key) := by
  induction h with
  | nil => rfl
  | cons e _ ih => rw [List.map_cons, List.map_cons, ih]
theorem Rws.put {H : Hp} {kvs : List (Key × V)} {rs : Rs} {k p r : Int} {t : Addr} (h : Rws H kvs rs) (nd : (rs.map (·.1)).Nodup) (e : H t = some (.tup [.int p, .int r])) : Rws H (putK kvs (Sum.inl k) (.ref t)) (putR rs (k, p, r)) := by
  induction h with
  | nil => exact .cons e .nil
  | @cons k' p' r' t' kvs rs e' h' ih =>
    rw [List.map_cons, List.nodup_cons] at nd
    by_cases hk : k' = k
    · subst hk
      have e1 : putR ((k', p', r') :: rs) (k', p, r) = (k', p, r) :: rs := by unfold putR; rw [if_pos rfl]
      have e2 : putK ((Sum.inl k', V.ref t') :: kvs) (Sum.inl k') (V.ref t) = (Sum.inl k', V.ref t) :: kvs := by
        unfold putK
        rw [List.any_cons, decide_eq_true rfl, Bool.true_or, if_pos rfl, List.map_cons, if_pos rfl, map_no]
        rw [h'.keyl]
        intro z
        obtain ⟨x, hx, he⟩ := List.mem_map.mp z
        exact nd.1 (List.mem_map.mpr ⟨x, hx, Sum.inl.inj he⟩)
      rw [e1, e2]
      exact .cons e h'
    · have e1 : putR ((k', p', r') :: rs) (k, p, r) = (k', p', r') :: putR rs (k, p, r) := by
        show (if k' = k then _ else _) = _
        rw [if_neg hk]
      rw [e1, putK_cons_ne (inl_ne hk)]
      exact .cons e' (ih nd.2)
theorem putR_keys : ∀ {rs : Rs} {x : Int × Int × Int}, (putR rs x).map (·.1) = if x.1 ∈ rs.map (·.1) then rs.map (·.1) else rs.map (·.1) ++ [x.1]
  | [], x => by simp [putR]
  | y :: rs, x => by
    unfold putR
    by_cases h : y.1 = x.1
    · rw [if_pos h, if_pos (by rw [List.map_cons, h]; exact List.mem_cons_self), List.map_cons, List.map_cons, h]
    · rw [if_neg h, List.map_cons, putR_keys, List.map_cons]
      by_cases m : x.1 ∈ rs.map (·.1)
      · rw [if_pos m, if_pos (List.mem_cons_of_mem _ m)]
      · rw [if_neg m, if_neg (by rw [List.mem_cons]; rintro (z | z); exact h z.symm; exact m z)]
        rfl
theorem putR_nd {rs : Rs} {x : Int × Int × Int} (h : (rs.map (·.1)).Nodup) : ((putR rs x).map (·.1)).Nodup := by
  rw [putR_keys]
  split
  · exact h
  · exact nd_snoc h ‹_›
theorem putR_len {rs : Rs} {x : Int × Int × Int} : (putR rs x).length ≤ rs.length + 1 ∧ 1 ≤ (putR rs x).length := by
  have h := congrArg List.length (putR_keys (rs := rs) (x := x))
  rw [List.length_map] at h
  have g := putR_keys (rs := rs) (x := x)
  split at h
  · rename_i m
    rw [List.length_map] at h
    have : rs ≠ [] := by rintro rfl; simp at m
    have := List.length_pos_iff.mpr this
    omega
  · rw [List.length_append, List.length_map] at h
    simp at h
    omega
theorem delR_head {y : Int × Int × Int} {rs : Rs} (h : ((y :: rs).map (·.1)).Nodup) : delR (y :: rs) y.1 = rs := by
  rw [List.map_cons, List.nodup_cons] at h
  unfold delR
  rw [List.filter_cons_of_neg (by simp), List.filter_eq_self]
  intro z hz
  refine decide_eq_true fun e => h.1 (List.mem_map.mpr ⟨z, hz, e⟩)
theorem delR_nd {rs : Rs} {k : Int} (h : (rs.map (·.1)).Nodup) : ((delR rs k).map (·.1)).Nodup := h.sublist (List.filter_sublist.map _)
theorem delR_no {rs : Rs} {k : Int} (h : lookR rs k = none) : delR rs k = rs := by
  unfold delR
  rw [List.filter_eq_self]
  intro z hz
  exact decide_eq_true fun e => lookR_mem h (List.mem_map.mpr ⟨z, hz, e⟩)
theorem delR_len (rs : Rs) (k : Int) : (delR rs k).length ≤ rs.length := List.length_filter_le ..
structure Shf (K : PySem.W.Frag) (mg : Str → Option Value) (C : Addr) : Prop where
  cl : Cls K C
  nm : NoAttr K C "most"
  ns : NoAttr K C "seats"
  seats : ∃ t, mg "SEATS" = some (.int 12 t)
structure FsOk (fs : List (Str × V)) (n : Int) (q : Addr) : Prop where
  most : fs.lookup ("most" : Str) = some (.int n)
  seats : fs.lookup ("seats" : Str) = some (.ref q)
  no : ∀ m : Str, ¬ m = "most" → ¬ m = "seats" → fs.lookup m = none
  few : fs.length ≤ 100
theorem length_putF_of (f : Str) (v : V) : ∀ {fs : List (Str × V)}, (fs.lookup f).isSome = true → (putF f v fs).length = fs.length
  | [], h => by simp at h
  | (g, x) :: r, h => by
    show (if g = f then (g, v) :: r else (g, x) :: putF f v r).length = _
    by_cases e : g = f
    · rw [if_pos e]
      rfl
    · rw [if_neg e, List.length_cons, List.length_cons, length_putF_of f v (fs := r)]
      rw [List.lookup_cons, beq_eq_false_iff_ne.mpr (Ne.symm e)] at h
      exact h
structure Sh (C : Addr) (H : Hp) (m q : Addr) (n : Int) (rs : Rs) : Prop where
  ob : ∃ dx fs, H m = some (.ins C dx fs) ∧ FsOk fs n q
  se : ∃ kvs, H q = some (.dK kvs) ∧ Rws H kvs rs
  nd : (rs.map (·.1)).Nodup
  ln : rs.length ≤ 13
  n1 : 1 ≤ n
  n2 : n ≤ 12
theorem Sh.same {C : Addr} {H H' : Hp} {m q : Addr} {n : Int} {rs : Rs} (S : Sh C H m q n rs) (s : Same H H') : Sh C H' m q n rs := by
  obtain ⟨dx, fs, e, f⟩ := S.ob
  obtain ⟨kvs, e2, r⟩ := S.se
  exact ⟨⟨dx, fs, s _ _ e, f⟩, ⟨kvs, s _ _ e2, r.imp fun t xs z => s _ _ z⟩, S.nd, S.ln, S.n1, S.n2⟩
def But (a : Addr) (H H' : Hp) : Prop := ∀ b o, b ≠ a → H b = some o → H' b = some o
theorem But.of {a : Addr} {H H' : Hp} (s : Same H H') : But a H H' := fun b o _ e => s b o e
theorem But.upd {a : Addr} {H : Hp} {o : HO} : But a H (upd H a o) := fun b u h e => by rw [upd_ne h]; exact e
theorem But.trans {a : Addr} {H H1 H2 : Hp} (s : But a H H1) (t : But a H1 H2) : But a H H2 := fun b o h e => t b o h (s b o h e)
theorem But.same {a : Addr} {H H1 H2 : Hp} (b : But a H1 H2) (s : Same H H1) (h : H a = none) : Same H H2 := fun x o e => b x o (ne_of_none e h) (s x o e)
theorem Sh.but {C a : Addr} {H H' : Hp} {m q : Addr} {n : Int} {rs : Rs} (S : Sh C H m q n rs) (s : But a H H') (h1 : m ≠ a) (h2 : q ≠ a) (h3 : ∀ xs, H a ≠ some (.tup xs)) : Sh C H' m q n rs := by
  obtain ⟨dx, fs, e, f⟩ := S.ob
  obtain ⟨kvs, e2, r⟩ := S.se
  exact ⟨⟨dx, fs, s _ _ h1 e, f⟩, ⟨kvs, s _ _ h2 e2, r.imp fun t xs z => s _ _ (fun y => h3 xs (y ▸ z)) z⟩, S.nd, S.ln, S.n1, S.n2⟩
theorem Sh.nq {C : Addr} {H : Hp} {m q : Addr} {n : Int} {rs : Rs} (S : Sh C H m q n rs) : m ≠ q := by
  obtain ⟨dx, fs, e, f⟩ := S.ob
  obtain ⟨kvs, e2, r⟩ := S.se
  exact ne_of e e2 (by intro z; cases z)
theorem Sh.qt {C : Addr} {H : Hp} {m q : Addr} {n : Int} {rs : Rs} (S : Sh C H m q n rs) (xs : List V) : H q ≠ some (.tup xs) := by
  obtain ⟨kvs, e2, r⟩ := S.se
  rw [e2]
  intro z
  cases z
theorem Sh.seat {C : Addr} {H : Hp} {m q : Addr} {n : Int} {rs rs' : Rs} {kvs' : List (Key × V)} (S : Sh C H m q n rs) (r' : Rws H kvs' rs') (nd : (rs'.map (·.1)).Nodup) (ln : rs'.length ≤ 13) : Sh C (upd H q (.dK kvs')) m q n rs' := by
  obtain ⟨dx, fs, e, f⟩ := S.ob
  exact ⟨⟨dx, fs, by rw [upd_ne S.nq]; exact e, f⟩, ⟨kvs', upd_same, r'.imp fun t xs z => by rw [upd_ne fun y => S.qt xs (by rw [← y]; exact z)]; exact z⟩, nd, ln, S.n1, S.n2⟩
inductive Trs (H : Hp) : List V → Rs → Prop
  | nil : Trs H [] []
  | cons {k p r : Int} {t : Addr} {ys : List V} {rs : Rs} : H t = some (.tup [.int k, .int p, .int r]) → Trs H ys rs → Trs H (.ref t :: ys) ((k, p, r) :: rs)
theorem Trs.imp {H H' : Hp} (f : ∀ t xs, H t = some (.tup xs) → H' t = some (.tup xs)) {ys : List V} {rs : Rs} (h : Trs H ys rs) : Trs H' ys rs := by
  induction h with
  | nil => exact .nil
  | cons e _ ih => exact .cons (f _ _ e) ih
theorem Trs.len {H : Hp} {ys : List V} {rs : Rs} (h : Trs H ys rs) : ys.length = rs.length := by
  induction h with
  | nil => rfl
  | cons e _ ih => rw [List.length_cons, List.length_cons, ih]
theorem Trs.app {H : Hp} {ys : List V} {rs : Rs} {k p r : Int} {t : Addr} (h : Trs H ys rs) (e : H t = some (.tup [.int k, .int p, .int r])) : Trs H (ys ++ [.ref t]) (rs ++ [(k, p, r)]) := by
  induction h with
  | nil => exact .cons e .nil
  | cons e' _ ih => exact .cons e' ih
theorem Trs.get {H : Hp} {ys : List V} {rs : Rs} (h : Trs H ys rs) : ∀ (i : Nat) (x : Int × Int × Int), rs[i]? = some x → ∃ t, ys[i]? = some (.ref t) ∧ H t = some (.tup [.int x.1, .int x.2.1, .int x.2.2]) := by
  induction h with
  | nil => intro i x e; simp at e
  | @cons k p r t ys rs e _ ih =>
    intro i x he
    cases i with
    | zero =>
      have he' : some (k, p, r) = some x := he
      cases he'
      exact ⟨t, rfl, e⟩
    | succ i => exact ih i x he
structure TL (H : Hp) (l : Addr) (rs : Rs) : Prop where
  ls : ∃ ys, H l = some (.lst ys) ∧ Trs H ys rs
def spSInit (C : Addr) : Sp := fun vs H Q _ => ∃ (m dx : Addr) (n : Int), vs = [.ref m, .int n] ∧ H m = some (.ins C dx []) ∧ 1 ≤ n ∧ n ≤ 12 ∧ ∀ (q : Addr) (H' : Hp), But m H H' → H q = none → Sh C H' m q n [] → Q .non H'
def spSTold (C : Addr) : Sp := fun vs H Q _ => ∃ (m q : Addr) (n : Int) (rs : Rs), vs = [.ref m] ∧ Sh C H m q n rs ∧ ∀ (l : Addr) (H' : Hp), Same H H' → H l = none → TL H' l rs → Q (.ref l) H'
section
variable {P : Program} {w : World} {K : PySem.W.Frag} {mg : Str → Option Value} {base : Heap} {C : Addr}
theorem scSIn : FnScope ["self", "most"] ["self", "most"] (defScope sSInit) := ⟨rfl, rfl, rfl, by decide +kernel, rfl, by decide +kernel, by decide +kernel⟩
theorem ok_sinit {f f1 : Addr} {fd fd1 : FuncData} (F : Fun K "__init__" "Shelf.__init__" sSInit f fd) (D1 : Dn K mg "is_whole" sWhole ["thing"] f1 fd1) (G1 : FnOk P w K mg base CX0 1 f1 fd1 ["thing"] spWhole) (S : Shf K mg C) : FnOk P w K mg base CX0 2 f fd ["self", "most"] (spSInit C) := by
  obtain ⟨t1, m1⟩ := S.seats
  refine F.ok scSIn (fun vs H Q E h => ?_) (fun cdv A outer s H vs Q E hr h => ?_)
  · obtain ⟨m, dx, n, rfl, _⟩ := h
    rfl
  · obtain ⟨m, dx, n, rfl, hm, h1, h2, q⟩ := h
    refine ⟨_, pss_cons (ps_if (PW.pt (pw_or (pt_not (pt_val (pe_call G1 hr (by rfl) D1.m D1.F.kp D1.b .nil pass0 (pa_cons (pv 1) pa_nil)))) (pw_or1 (pt_not (pt_chain op_le op_le pe_int (pv 1) (pe_glob (by rfl) m1 (show RelV (.int 12) (.int 12 t1) from ⟨_, rfl⟩))))))) pss_never pss_nil) (pss_cons (ps_fld (pv 0) (pv 1) rfl) (pss_one (ps_fld (pv 0) pe_dnewK rfl))), ?_⟩
    refine ⟨_, rfl, .int n, rfl, .int n, _, rfl, iteF ?_⟩
    refine ⟨_, rfl, 1, n, rfl, rfl, _, rfl, ?_⟩
    rw [decide_eq_true h1]
    refine iteT ⟨n, 12, rfl, rfl, _, rfl, ?_⟩
    rw [decide_eq_true h2]
    refine iteF ?_
    refine ⟨_, rfl, _, rfl, m, C, dx, _, rfl, hm, S.cl, S.nm, (by show 0 < 1000; decide), ?_⟩
    intro p hp
    have np : m ≠ p := ne_of_none upd_same hp
    refine ⟨_, rfl, m, C, dx, _, rfl, (by rw [upd_ne np]; exact upd_same), S.cl, S.ns, (by show 1 < 1000; decide), ?_⟩
    have hp0 : H p = none := by
      rw [upd_ne np.symm] at hp
      exact hp
    refine q p _ (fun b o hb e => ?_) hp0 ⟨⟨dx, _, upd_same, ⟨?_, ?_, fun g z1 z2 => ?_, ?_⟩⟩, ⟨[], ?_, .nil⟩, List.nodup_nil, by decide, h1, h2⟩
    · rw [upd_ne hb, upd_ne (ne_of_none e hp0), upd_ne hb]
      exact e
    · rw [lookup_putF, if_neg (by decide +kernel), lookup_putF, if_pos rfl]
    · rw [lookup_putF, if_pos rfl]
    · rw [lookup_putF, if_neg z2, lookup_putF, if_neg z1]
      rfl
    · exact Nat.le_trans (length_putF _ _ _) (Nat.le_trans (Nat.succ_le_succ (length_putF _ _ _)) (by decide))
    · rw [upd_ne np.symm]
      exact upd_same
theorem scSTo : FnScope ["self"] ["self"] (defScope sSTold) := ⟨rfl, rfl, rfl, by decide +kernel, rfl, by decide +kernel, by decide +kernel⟩
theorem ndSTo : (compN2 "number" "row" ["self"]).Nodup := by decide +kernel
theorem dotSTo : (".0" : Str) ∉ (["self"] : List Str) := by decide +kernel
theorem ok_stold {f : Addr} {fd : FuncData} (F : Fun K "told" "Shelf.told" sSTold f fd) (S : Shf K mg C) : FnOk P w K mg base CX0 1 f fd ["self"] (spSTold C) := by
  refine F.ok scSTo (fun vs H Q E h => ?_) (fun cdv A outer s H vs Q E hr h => ?_)
  · obtain ⟨m, q, n, rs, rfl, _⟩ := h
    rfl
  · obtain ⟨m, q, n, rs, rfl, W, qq⟩ := h
    obtain ⟨dx, fs, hm, fo⟩ := W.ob
    obtain ⟨kvs, hq, rw⟩ := W.se
    refine ⟨_, pss_one (ps_ret (pe_compI (te := tTup (tCons (tVar 0) (tCons (tOp (rIxT K) (tVar 1) (tC (.int 0))) (tCons (tOp (rIxT K) (tVar 1) (tC (.int 1))) tNil)))) rfl (pe_bm0 PySem.F.plainAttrs_dict PySem.F.slot_dict_items PySem.F.type_dict_items mt_items (pe_fld (pv 0) rfl)) (closureFor_none (by decide +kernel)) (by rfl) (fun C s₂ H₂ fp => (pe_tup (pa_cons (pv 0) (pa_cons (pe_ix ix_tup (pv 1) pe_int (fun _ _ => rfl)) (pa_cons (pe_ix ix_tup (pv 1) pe_int (fun _ _ => rfl)) pa_nil))))) ndSTo (hdot := dotSTo))), ?_⟩
    refine ⟨_, rfl, m, C, dx, fs, _, rfl, hm, S.cl, S.ns, fo.seats, .inr (.inr (.inl ⟨rfl, .inl ⟨kvs, hq⟩⟩)), q, kvs, rfl, rfl, hq, fun v hv => ?_⟩
    have nv : ∀ b o, H b = some o → b ≠ v := fun b o e => ne_of_none e hv
    refine ⟨v, q, kvs, rfl, upd_same, (by rw [upd_ne (nv _ _ hq)]; exact hq), fun ob D hD => ?_⟩
    have hDv : D ≠ v := fun z => by rw [z, upd_same] at hD; cases hD
    rw [upd_ne hDv] at hD
    have nD : ∀ b o, H b = some o → b ≠ D := fun b o e => ne_of_none e hD
    refine ⟨fun i ys H' => H' q = some (.frz ob (.dK kvs)) ∧ H' D = some (.lst ys) ∧ But q H H' ∧ Trs H' ys (rs.take i) ∧ i ≤ rs.length, ⟨?_, upd_same, fun b o hb e => ?_, ?_, Nat.zero_le _⟩, ?_⟩
    · rw [upd_ne (nD _ _ hq), upd_same]
    · rw [upd_ne (nD _ _ e), upd_ne hb, upd_ne (nv _ _ e)]
      exact e
    · rw [List.take_zero]
      exact .nil
    · rintro i ys H' ⟨hqf, hDl, bt, tr, hi⟩
      have hlen : ys.length = i := by rw [tr.len, List.length_take]; omega
      refine ⟨hDl, hqf, fun hie => ?_, fun k z t hkz ht => ?_, hlen⟩
      · refine qq D _ (fun b o e => ?_) hD ⟨ys, ?_, ?_⟩
        · by_cases hb : b = q
          · subst hb
            rw [upd_same, ← e, hq]
          · rw [upd_ne hb]
            exact bt b o hb e
        · rw [upd_ne (nD _ _ hq).symm]
          exact hDl
        · rw [hie, rw.len, List.take_length] at tr
          exact tr.imp fun t xs e => by rw [upd_ne (fun y => by rw [y, hqf] at e; cases e)]; exact e
      · obtain ⟨x, tt, hx, rfl, rfl, htt⟩ := rw.get i k z hkz
        have nqt : tt ≠ q := fun y => W.qt _ (y ▸ htt)
        have htt' := bt tt _ nqt htt
        have s1 := same_new (o := .tup [kV (Sum.inl x.1), V.ref tt]) ht
        have h2 := SqT.of (K := K) (s1 _ _ htt')
        refine ⟨_, rfl, _, rfl, tt, _, _, _, rfl, rfl, h2, rfl, _, rfl, tt, _, _, _, rfl, rfl, h2, rfl, (by show 3 ≤ sizeLine; decide), fun t2 ht2 => ?_⟩
        have s2 := s1.trans (same_new (o := .tup [kV (Sum.inl x.1), .int x.2.1, .int x.2.2]) ht2)
        have hD3 := s2 _ _ hDl
        have hq3 := s2 _ _ hqf
        have ht3 : (upd (upd H' t (.tup [kV (Sum.inl x.1), V.ref tt])) t2 (.tup [kV (Sum.inl x.1), .int x.2.1, .int x.2.2])) t2 = some (.tup [V.int x.1, .int x.2.1, .int x.2.2]) := upd_same
        have hlt : i < rs.length := (List.getElem?_eq_some_iff.mp hx).1
        generalize (upd (upd H' t (.tup [kV (Sum.inl x.1), V.ref tt])) t2 (.tup [kV (Sum.inl x.1), .int x.2.1, .int x.2.2])) = H3 at *
        refine ⟨hD3, ?_, upd_same, fun b o hb e => ?_, ?_, hlt⟩
        · rw [upd_ne (ne_of hq3 hD3 (by intro y; cases y))]
          exact hq3
        · rw [upd_ne (nD _ _ e)]
          exact s2 _ _ (bt b o hb e)
        · rw [List.take_succ, hx]
          have up : ∀ t xs, H3 t = some (.tup xs) → upd H3 D (.lst (ys ++ [V.ref t2])) t = some (.tup xs) := fun t xs e => by rw [upd_ne (ne_of e hD3 (by intro y; cases y))]; exact e
          exact (tr.imp fun t xs e => up t xs (s2 _ _ e)).app (up _ _ ht3)
end
end K25
end
section
namespace K25
open PySem L2
abbrev sPInit : Stmt := inClass (top 49) 0
abbrev sPSize : Stmt := inClass (top 49) 1
abbrev sPHas : Stmt := inClass (top 49) 2
abbrev sPWordAt : Stmt := inClass (top 49) 3
abbrev sWInit : Stmt := inClass (top 48) 0
abbrev sShelf : Stmt := inClass (top 48) 17
abbrev sRoot : Stmt := inClass (top 48) 12
abbrev sWPages : Stmt := inClass (top 48) 18
abbrev sWords : Stmt := inClass (top 29) 6
structure Wf (fs : List (Str × V)) (m r aw : Addr) (b : Int) : Prop where
  mem : fs.lookup ("memory" : Str) = some (.ref m)
  bas : fs.lookup ("base" : Str) = some (.int b)
  rck : fs.lookup ("rack" : Str) = some (.ref r)
  ans : fs.lookup ("answers" : Str) = some (.ref aw)
  no : ∀ n : Str, ¬ n = "memory" → ¬ n = "base" → ¬ n = "rack" → ¬ n = "answers" → fs.lookup n = none
  len : fs.length ≤ 8
structure Plc (K : PySem.W.Frag) (PL : Addr) : Prop where
  cl : Cls K PL
  nm : NoAttr K PL "memory"
  nb : NoAttr K PL "base"
  nr : NoAttr K PL "rack"
  na : NoAttr K PL "answers"
structure Way (C SC PL : Addr) (H : Hp) (a m h r q aw : Addr) (ps : Pgs) (n : Int) (rs : Rs) (bs : List Bool) (b : Int) : Prop where
  ob : ∃ dx fs, H a = some (.ins PL dx fs) ∧ Wf fs m r aw b
  M : Mem C H m h ps
  S : Sh SC H r q n rs
  an : H aw = some (.lst (bs.map V.bl))
  nd : ¬ At h ps aw
theorem Way.same {C SC PL : Addr} {H H' : Hp} {a m h r q aw : Addr} {ps : Pgs} {n : Int} {rs : Rs} {bs : List Bool} {b : Int} (w : Way C SC PL H a m h r q aw ps n rs bs b) (s : Same H H') : Way C SC PL H' a m h r q aw ps n rs bs b := by
  obtain ⟨dx, fs, e, f⟩ := w.ob
  exact ⟨⟨dx, fs, s _ _ e, f⟩, w.M.same s, w.S.same s, s _ _ w.an, w.nd⟩
theorem list8_of {ws : List Int} (h : ws.length = 8) : [ws.getD 0 0, ws.getD 1 0, ws.getD 2 0, ws.getD 3 0, ws.getD 4 0, ws.getD 5 0, ws.getD 6 0, ws.getD 7 0] = ws := by
  match ws, h with
  | [_, _, _, _, _, _, _, _], _ => rfl
def spPSize (C SC PL : Addr) : Sp := fun vs H Q _ => ∃ (a m h r q aw : Addr) (ps : Pgs) (n : Int) (rs : Rs) (bs : List Bool) (b : Int), vs = [.ref a] ∧ Way C SC PL H a m h r q aw ps n rs bs b ∧ Q (.int ps.length) H
def spPHas (C SC PL : Addr) : Sp := fun vs H Q _ => ∃ (a m h r q aw : Addr) (ps : Pgs) (n : Int) (rs : Rs) (bs : List Bool) (b : Int) (x : V), vs = [.ref a, x] ∧ Way C SC PL H a m h r q aw ps n rs bs b ∧ Th H x ∧ Q (.bl (hasP ps x)) H
def spPWordAt (C SC PL : Addr) : Sp := fun vs H Q _ => ∃ (a m h r q aw : Addr) (ps : Pgs) (n : Int) (rs : Rs) (bs : List Bool) (b : Int) (i j : Nat) (p : Addr) (ws : List Int), vs = [.ref a, .int i, .int j] ∧ Way C SC PL H a m h r q aw ps n rs bs b ∧ ps[i]? = some (some (p, ws)) ∧ j < 8 ∧ Q (.int (ws.getD j 0)) H
def spRoot (C SC PL : Addr) : Sp := fun vs H Q _ => ∃ (a m h r q aw : Addr) (ps : Pgs) (n : Int) (rs : Rs) (bs : List Bool) (b : Int), vs = [.ref a] ∧ Way C SC PL H a m h r q aw ps n rs bs b ∧ Q (.int b) H
def spShelf (C SC PL : Addr) : Sp := fun vs H Q _ => ∃ (a m h r q aw : Addr) (ps : Pgs) (n : Int) (rs : Rs) (bs : List Bool) (b : Int), vs = [.ref a] ∧ Way C SC PL H a m h r q aw ps n rs bs b ∧ ∀ (l : Addr) (H' : Hp), Same H H' → H l = none → TL H' l rs → Q (.ref l) H'
def spWords (C SC PL : Addr) : Sp := fun vs H Q _ => ∃ (a m h r q aw : Addr) (ps : Pgs) (n : Int) (rs : Rs) (bs : List Bool) (b : Int) (i : Nat) (p : Addr) (ws : List Int), vs = [.ref a, .int i] ∧ Way C SC PL H a m h r q aw ps n rs bs b ∧ ps[i]? = some (some (p, ws)) ∧ ∀ l H', Same H H' → H l = none → H' l = some (.lst (ws.map V.int)) → Q (.ref l) H'
def spWPages (C SC PL : Addr) : Sp := fun vs H Q _ => ∃ (a m h r q aw : Addr) (ps : Pgs) (n : Int) (rs : Rs) (bs : List Bool) (b : Int), vs = [.ref a] ∧ Way C SC PL H a m h r q aw ps n rs bs b ∧ ∀ D H' qs, Same H H' → Pg H' D qs → cont qs = cont ps → (∀ b, At D qs b → H b = none) → Q (.ref D) H'
def spWInit (SC PL : Addr) : Sp := fun vs H Q _ => ∃ (a dx : Addr) (fs : List (Str × V)) (n : Int), vs = [.ref a, .int n] ∧ H a = some (.ins PL dx fs) ∧ fs.length < 900 ∧ 1 ≤ n ∧ n ≤ 12 ∧ ∀ (r q : Addr) (H' : Hp), But a H H' → H r = none → H q = none → H' a = some (.ins PL dx (putF "rack" (.ref r) (putF "base" (.int 0) fs))) → Sh SC H' r q n [] → Q .non H'
def spPInit (C SC PL : Addr) : Sp := fun vs H Q _ => ∃ (a dx p l : Addr) (ps : Pgs) (n : Int) (bs : List Bool), vs = [.ref a, .ref p, .int n, .ref l] ∧ H a = some (.ins PL dx []) ∧ Pg H p ps ∧ Good ps ∧ 1 ≤ ps.length ∧ ps.length ≤ 24 ∧ 1 ≤ n ∧ n ≤ 12 ∧ H l = some (.lst (bs.map V.bl)) ∧
  ∀ (m h r q aw : Addr) (H' : Hp) (qs : Pgs), But a H H' → Way C SC PL H' a m h r q aw qs n [] bs 0 → cont qs = cont ps → (∀ b, (b = m ∨ b = r ∨ b = q ∨ b = aw ∨ At h qs b) → H b = none) → Q .non H'
section
variable {P : Program} {w : World} {K : PySem.W.Frag} {mg : Str → Option Value} {base : Heap} {C NP NL NW NI SC PL WC : Addr}
theorem scpsz : FnScope ["self"] ["self"] (defScope sPSize) := ⟨rfl, rfl, rfl, by decide +kernel, rfl, by decide +kernel, by decide +kernel⟩
theorem ok_psz {f f1 : Addr} {fd fd1 : FuncData} (F : Fun K "size" "Plain.size" sPSize f fd) (M1 : Me K C "size" "Memory.size" sSize ["self"] f1 fd1) (GM1 : FnOk P w K mg base CX0 1 f1 fd1 ["self"] (spSize C)) (S0 : Sto K mg C NP NL NW NI) (PC : Plc K PL) : FnOk P w K mg base CX0 2 f fd ["self"] (spPSize C SC PL) := by
  refine F.ok scpsz (fun vs H Q E h' => ?_) (fun cdv A outer s H vs Q E hr h' => ?_)
  · obtain ⟨a, m, h, r, q, aw, ps, n, rs, bs, b, rfl, _⟩ := h'
    rfl
  · obtain ⟨a, m, h, r, q, aw, ps, n, rs, bs, b, rfl, W, q⟩ := h'
    refine ⟨_, (pss_one (ps_ret (pe_meth0 (pe_fld (pv 0) rfl) S0.cl M1.m GM1 hr M1.b .nil pass0))), ?_⟩
    obtain ⟨dx, fs, ha, wf⟩ := W.ob
    obtain ⟨dm, hm⟩ := W.M.ob
    exact ⟨_, rfl, a, PL, dx, fs, _, rfl, ha, PC.cl, PC.nm, wf.mem, m, dm, flds h, rfl, hm, flds_no h (by decide +kernel), m, h, ps, rfl, W.M, q⟩
theorem scphas : FnScope ["self", "page"] ["self", "page"] (defScope sPHas) := ⟨rfl, rfl, rfl, by decide +kernel, rfl, by decide +kernel, by decide +kernel⟩
theorem ok_phas {f f1 : Addr} {fd fd1 : FuncData} (F : Fun K "has" "Plain.has" sPHas f fd) (M1 : Me K C "has" "Memory.has" sHas ["self", "page"] f1 fd1) (GM1 : FnOk P w K mg base CX0 3 f1 fd1 ["self", "page"] (spHas C)) (S0 : Sto K mg C NP NL NW NI) (PC : Plc K PL) : FnOk P w K mg base CX0 4 f fd ["self", "page"] (spPHas C SC PL) := by
  refine F.ok scphas (fun vs H Q E h' => ?_) (fun cdv A outer s H vs Q E hr h' => ?_)
  · obtain ⟨a, m, h, r, q, aw, ps, n, rs, bs, b, x, rfl, _⟩ := h'
    rfl
  · obtain ⟨a, m, h, r, q, aw, ps, n, rs, bs, b, x, rfl, W, th, q⟩ := h'
    refine ⟨_, (pss_one (ps_ret (pe_meth (pe_fld (pv 0) rfl) S0.cl M1.m GM1 hr M1.b .nil pass0 (pa_cons (pv 1) pa_nil)))), ?_⟩
    obtain ⟨dx, fs, ha, wf⟩ := W.ob
    obtain ⟨dm, hm⟩ := W.M.ob
    exact ⟨_, rfl, a, PL, dx, fs, _, rfl, ha, PC.cl, PC.nm, wf.mem, m, dm, flds h, rfl, hm, flds_no h (by decide +kernel), _, rfl, m, h, ps, x, rfl, W.M, th, q⟩
theorem scpwat : FnScope ["self", "page", "cell"] ["self", "page", "cell"] (defScope sPWordAt) := ⟨rfl, rfl, rfl, by decide +kernel, rfl, by decide +kernel, by decide +kernel⟩
theorem ok_pwat {f f1 : Addr} {fd fd1 : FuncData} (F : Fun K "word_at" "Plain.word_at" sPWordAt f fd) (M1 : Me K C "word_at" "Memory.word_at" sWordAt ["self", "page", "cell"] f1 fd1) (GM1 : FnOk P w K mg base CX0 1 f1 fd1 ["self", "page", "cell"] (spWordAt C)) (S0 : Sto K mg C NP NL NW NI) (PC : Plc K PL) : FnOk P w K mg base CX0 2 f fd ["self", "page", "cell"] (spPWordAt C SC PL) := by
  refine F.ok scpwat (fun vs H Q E h' => ?_) (fun cdv A outer s H vs Q E hr h' => ?_)
  · obtain ⟨a, m, h, r, q, aw, ps, n, rs, bs, b, i, j, p, ws, rfl, _⟩ := h'
    rfl
  · obtain ⟨a, m, h, r, q, aw, ps, n, rs, bs, b, i, j, p, ws, rfl, W, e, hj, q⟩ := h'
    refine ⟨_, (pss_one (ps_ret (pe_meth (pe_fld (pv 0) rfl) S0.cl M1.m GM1 hr M1.b .nil pass0 (pa_cons (pv 1) (pa_cons (pv 2) pa_nil))))), ?_⟩
    obtain ⟨dx, fs, ha, wf⟩ := W.ob
    obtain ⟨dm, hm⟩ := W.M.ob
    exact ⟨_, rfl, a, PL, dx, fs, _, rfl, ha, PC.cl, PC.nm, wf.mem, m, dm, flds h, rfl, hm, flds_no h (by decide +kernel), _, rfl, _, rfl, m, h, ps, i, j, p, ws, rfl, W.M, e, hj, q⟩
theorem scroot : FnScope ["self"] ["self"] (defScope sRoot) := ⟨rfl, rfl, rfl, by decide +kernel, rfl, by decide +kernel, by decide +kernel⟩
theorem ok_root {f : Addr} {fd : FuncData} (F : Fun K "root" "Ways.root" sRoot f fd) (PC : Plc K PL) : FnOk P w K mg base CX0 1 f fd ["self"] (spRoot C SC PL) := by
  refine F.ok scroot (fun vs H Q E h' => ?_) (fun cdv A outer s H vs Q E hr h' => ?_)
  · obtain ⟨a, m, h, r, q, aw, ps, n, rs, bs, b, rfl, _⟩ := h'
    rfl
  · obtain ⟨a, m, h, r, q, aw, ps, n, rs, bs, b, rfl, W, q⟩ := h'
    refine ⟨_, (pss_one (ps_ret (pe_fld (pv 0) rfl))), ?_⟩
    obtain ⟨dx, fs, ha, wf⟩ := W.ob
    exact ⟨_, rfl, a, PL, dx, fs, _, rfl, ha, PC.cl, PC.nb, wf.bas, q⟩
theorem scshelf : FnScope ["self"] ["self"] (defScope sShelf) := ⟨rfl, rfl, rfl, by decide +kernel, rfl, by decide +kernel, by decide +kernel⟩
theorem ok_shelf {f f1 : Addr} {fd fd1 : FuncData} (F : Fun K "shelf" "Ways.shelf" sShelf f fd) (M1 : Me K SC "told" "Shelf.told" sSTold ["self"] f1 fd1) (GM1 : FnOk P w K mg base CX0 1 f1 fd1 ["self"] (spSTold SC)) (PC : Plc K PL) (SS : Shf K mg SC) : FnOk P w K mg base CX0 2 f fd ["self"] (spShelf C SC PL) := by
  refine F.ok scshelf (fun vs H Q E h' => ?_) (fun cdv A outer s H vs Q E hr h' => ?_)
  · obtain ⟨a, m, h, r, q, aw, ps, n, rs, bs, b, rfl, _⟩ := h'
    rfl
  · obtain ⟨a, m, h, r, q, aw, ps, n, rs, bs, b, rfl, W, q⟩ := h'
    refine ⟨_, (pss_one (ps_ret (pe_meth0 (pe_fld (pv 0) rfl) SS.cl M1.m GM1 hr M1.b .nil pass0))), ?_⟩
    obtain ⟨dx, fs, ha, wf⟩ := W.ob
    obtain ⟨dr, fr, hr0, fo⟩ := W.S.ob
    exact ⟨_, rfl, a, PL, dx, fs, _, rfl, ha, PC.cl, PC.nr, wf.rck, r, dr, fr, rfl, hr0, fo.no _ (by decide +kernel) (by decide +kernel), r, _, n, rs, rfl, W.S, q⟩
theorem ndWo : (compN "cell" ["self", "page"]).Nodup := by decide +kernel
theorem dotWo : (".0" : Str) ∉ (["self", "page"] : List Str) := by decide +kernel
theorem scWo2 : FnScope ["self", "page"] ["self", "page"] (defScope sWords) := ⟨rfl, rfl, rfl, by decide +kernel, rfl, by decide +kernel, by decide +kernel⟩
theorem ok_words {f f1 : Addr} {fd fd1 : FuncData} (F : Fun K "words_of" "Store.words_of" sWords f fd) (M1 : Me K PL "word_at" "Plain.word_at" sPWordAt ["self", "page", "cell"] f1 fd1) (GM1 : FnOk P w K mg base CX0 2 f1 fd1 ["self", "page", "cell"] (spPWordAt C SC PL)) (S0 : Sto K mg C NP NL NW NI) (PC : Plc K PL) (T : Txt K mg) : FnOk P w K mg base CX0 3 f fd ["self", "page"] (spWords C SC PL) := by
  obtain ⟨t2, m2⟩ := S0.cells
  refine F.ok scWo2 (fun vs H Q E h' => ?_) (fun cdv A outer s H vs Q E hr h' => ?_)
  · obtain ⟨a, m, h, r, q, aw, ps, n, rs, bs, b, i, p, ws, rfl, _⟩ := h'
    rfl
  · obtain ⟨a, m, h, r, q, aw, ps, n, rs, bs, b, i, p, ws, rfl, W, e, q0⟩ := h'
    refine ⟨_, (pss_one (ps_ret (pe_comp (cl := [("self", s.heap.objs.size + 1), ("page", s.heap.objs.size + 1 + 1)]) (tc := tYes) (te := tMeth PL "word_at" (spPWordAt C SC PL) [] E0 (tVar 1) (tCons (tVar 2) (tCons (tVar 0) tNil))) rfl (pi_range1 (by rfl) T.rng (pa_cons (pe_glob (by rfl) m2 (show RelV (.int 8) (.int 8 t2) from ⟨_, rfl⟩)) pa_nil)) rfl (by repeat' (first | exact trivial | refine ⟨.inl ⟨.inr rfl, rfl⟩, ?_⟩ | refine ⟨.inl ⟨.inl rfl, rfl⟩, ?_⟩ | refine ⟨.inr (.inl ⟨by decide, by decide, by decide⟩), ?_⟩ | refine ⟨.inr (.inr ⟨rfl, by decide +kernel, by decide +kernel, rfl, rfl⟩), ?_⟩)) (show ClOk _ _ from ⟨rfl, rfl, trivial⟩) (fun C s₂ H₂ fp => .nil) (fun C s₂ H₂ fp => (pe_meth (pv 1) PC.cl M1.m GM1 hr M1.b .nil pass0 (pa_cons (pv 2) (pa_cons (pv 0) pa_nil)))) ndWo (hdot := dotWo)))), ?_⟩
    have w8 : ws.length = 8 := (W.M.good i p ws e).1
    refine ⟨8, rfl, by decide, by decide, comp_range (lo := 0) (n := 8) (fun D j ys H' => H D = none ∧ Same H H' ∧ ys = (List.range j).map (fun k => V.int (ws.getD k 0)) ∧ H' D = some (.lst ys)) ?_ ?_ ?_ ?_⟩
    · exact fun D hD => ⟨hD, same_new hD, rfl, upd_same⟩
    · rintro D j ys H' _ ⟨_, _, _, e⟩
      exact e
    · rintro D j ys H' hj ⟨hD, ss, rfl, e2⟩
      have ei : (0 : Int) + (j : Int) = (j : Int) := by omega
      rw [ei]
      have W2 := W.same ss
      obtain ⟨dx, fs, ha, wf⟩ := W2.ob
      refine iteT ⟨_, rfl, a, dx, fs, rfl, ha, wf.no _ (by decide +kernel) (by decide +kernel) (by decide +kernel) (by decide +kernel), _, rfl, _, rfl, a, m, h, r, q, aw, ps, n, rs, bs, b, i, j, p, ws, rfl, W2, e, hj, e2, (by rw [List.length_map, List.length_range]; exact Nat.lt_of_lt_of_le hj (by decide)), hD, ss.set hD, ?_, upd_same⟩
      rw [List.range_succ, List.map_append]
      rfl
    · rintro D ys H' ⟨hD, ss, rfl, e2⟩
      refine q0 D H' ss hD ?_
      rw [e2]
      have : (List.range 8).map (fun k => V.int (ws.getD k 0)) = ([ws.getD 0 0, ws.getD 1 0, ws.getD 2 0, ws.getD 3 0, ws.getD 4 0, ws.getD 5 0, ws.getD 6 0, ws.getD 7 0] : List Int).map V.int := rfl
      rw [this, list8_of w8]
theorem ndWp : (compN "page" ["self"]).Nodup := by decide +kernel
theorem dotWp : (".0" : Str) ∉ (["self"] : List Str) := by decide +kernel
theorem scwpages : FnScope ["self"] ["self"] (defScope sWPages) := ⟨rfl, rfl, rfl, by decide +kernel, rfl, by decide +kernel, by decide +kernel⟩
theorem ok_wpages {f f1 f2 f3 : Addr} {fd fd1 fd2 fd3 : FuncData} (F : Fun K "pages" "Ways.pages" sWPages f fd) (M1 : Me K PL "size" "Plain.size" sPSize ["self"] f1 fd1) (GM1 : FnOk P w K mg base CX0 2 f1 fd1 ["self"] (spPSize C SC PL)) (M2 : Me K PL "has" "Plain.has" sPHas ["self", "page"] f2 fd2) (GM2 : FnOk P w K mg base CX0 4 f2 fd2 ["self", "page"] (spPHas C SC PL)) (M3 : Me K PL "words_of" "Store.words_of" sWords ["self", "page"] f3 fd3) (GM3 : FnOk P w K mg base CX0 3 f3 fd3 ["self", "page"] (spWords C SC PL)) (PC : Plc K PL) (T : Txt K mg) : FnOk P w K mg base CX0 5 f fd ["self"] (spWPages C SC PL) := by
  refine F.ok scwpages (fun vs H Q E h' => ?_) (fun cdv A outer s H vs Q E hr h' => ?_)
  · obtain ⟨a, m, h, r, q, aw, ps, n, rs, bs, b, rfl, _⟩ := h'
    rfl
  · obtain ⟨a, m, h, r, q, aw, ps, n, rs, bs, b, rfl, W, q0⟩ := h'
    have hr3 : Room 3 _ := hr.mono (by decide)
    have hr2 : Room 2 _ := hr.mono (by decide)
    refine ⟨_, (pss_one (ps_ret (pe_comp (cl := [("self", s.heap.objs.size + 1)]) (tc := tYes) (te := tIf (tB (tMeth PL "has" (spPHas C SC PL) [] E0 (tVar 1) (tCons (tVar 0) tNil))) (tMeth PL "words_of" (spWords C SC PL) [] E0 (tVar 1) (tCons (tVar 0) tNil)) (tC .non)) rfl (pi_range1 (by rfl) T.rng (pa_cons (pe_meth0 (pv 0) PC.cl M1.m GM1 hr2 M1.b .nil pass0) pa_nil)) rfl (by repeat' (first | exact trivial | refine ⟨.inl ⟨.inr rfl, rfl⟩, ?_⟩ | refine ⟨.inl ⟨.inl rfl, rfl⟩, ?_⟩ | refine ⟨.inr (.inl ⟨by decide, by decide, by decide⟩), ?_⟩ | refine ⟨.inr (.inr ⟨rfl, by decide +kernel, by decide +kernel, rfl, rfl⟩), ?_⟩)) (show ClOk _ _ from ⟨rfl, trivial⟩) (fun C s₂ H₂ fp => .nil) (fun C s₂ H₂ fp => (pe_ifExp (pt_val (pe_meth (pv 1) PC.cl M2.m GM2 hr M2.b .nil pass0 (pa_cons (pv 0) pa_nil))) (pe_meth (pv 1) PC.cl M3.m GM3 hr3 M3.b .nil pass0 (pa_cons (pv 0) pa_nil)) pe_non)) ndWp (hdot := dotWp)))), ?_⟩
    obtain ⟨dx, fs, ha, wf⟩ := W.ob
    have hl := W.M.len
    refine ⟨_, rfl, a, dx, fs, rfl, ha, wf.no _ (by decide +kernel) (by decide +kernel) (by decide +kernel) (by decide +kernel), a, m, h, r, q, aw, ps, n, rs, bs, b, rfl, W, (ps.length : Int), rfl, by omega, by omega, ?_⟩
    rw [Int.toNat_natCast]
    refine comp_range (lo := 0) (n := ps.length) (fun D i ys H' => ∃ qs : Pgs, H D = none ∧ Same H H' ∧ Pg H' D qs ∧ ys = qs.map pgV ∧ qs.length = i ∧ cont qs = (cont ps).take i ∧ (∀ b, At D qs b → H b = none)) ?_ ?_ ?_ ?_
    · intro D hD
      refine ⟨[], hD, same_new hD, ⟨upd_same, fun i p ws e => by simp at e, fun i j p ws ws' e => by simp at e⟩, rfl, rfl, rfl, fun b hb => ?_⟩
      rcases hb with rfl | ⟨i, ws, e⟩
      · exact hD
      · simp at e
    · rintro D i ys H' _ ⟨qs, _, ss, g, rfl, _⟩
      exact g.top
    · rintro D i ys H' hi ⟨qs, hD, ss, gq, rfl, hql, hc, hf⟩
      have ei : (0 : Int) + (i : Int) = (i : Int) := by omega
      rw [ei]
      have W2 := W.same ss
      obtain ⟨dx, fs, ha, wf⟩ := W2.ob
      have eo : ps[i]? = some ps[i] := List.getElem?_eq_getElem hi
      have sl : i < sizeLine := Nat.lt_of_lt_of_le (show i < 1001 by omega) (by decide)
      have tk : (cont ps).take (i + 1) = (cont ps).take i ++ [(ps[i]).map (·.2)] := by
        have : (cont ps)[i]? = some ((ps[i]).map (·.2)) := by unfold cont; rw [List.getElem?_map, eo]; rfl
        rw [List.take_add_one, this]
        rfl
      refine iteT ⟨_, rfl, a, dx, fs, rfl, ha, wf.no _ (by decide +kernel) (by decide +kernel) (by decide +kernel) (by decide +kernel), _, rfl, a, m, h, r, q, aw, ps, n, rs, bs, b, _, rfl, W2, .int _, _, rfl, ?_⟩
      cases ep : ps[i] with
      | none =>
        rw [ep] at eo tk
        refine iteFS (by show hasP ps (.int (i : Int)) = false; simp [hasP, eo, isThere]) ⟨gq.top, (by rw [List.length_map, hql]; exact sl), qs ++ [none], hD, ss.set hD, gq.app (o := none) (Same.refl _) (fun q ws e => by cases e), by rw [List.map_append]; rfl, by rw [List.length_append, hql]; rfl, by rw [tk, ← hc]; unfold cont; rw [List.map_append]; rfl, fun b hb => ?_⟩
        rcases hb.app with z | ⟨ws, z⟩
        · exact hf b z
        · cases z
      | some t =>
        obtain ⟨pt, wt⟩ := t
        rw [ep] at eo tk
        refine iteTS (hasP_of eo) ⟨_, rfl, a, dx, fs, rfl, ha, wf.no _ (by decide +kernel) (by decide +kernel) (by decide +kernel) (by decide +kernel), _, rfl, a, m, h, r, q, aw, ps, n, rs, bs, b, i, pt, wt, rfl, W2, eo, fun l H2 s2 fl hl2 => ?_⟩
        have hn : ∀ (q : Addr) (ws : List Int), some (l, wt) = some (q, ws) → H2 q = some (.lst (ws.map V.int)) ∧ H' q = none := fun q ws e => by
          cases e
          exact ⟨hl2, fl⟩
        refine ⟨s2 _ _ gq.top, (by rw [List.length_map, hql]; exact sl), qs ++ [some (l, wt)], hD, (ss.trans s2).set hD, gq.app s2 hn, by rw [List.map_append]; rfl, by rw [List.length_append, hql]; rfl, ?_, fun b hb => ?_⟩
        · rw [tk, ← hc]
          unfold cont
          rw [List.map_append]
          rfl
        · rcases hb.app with z | ⟨ws, z⟩
          · exact hf b z
          · cases z
            exact ss.free fl
    · rintro D ys H' ⟨qs, hD, ss, gq, rfl, hql, hc, hf⟩
      refine q0 D H' qs ss gq ?_ hf
      rw [hc, List.take_of_length_le]
      unfold cont
      rw [List.length_map]
      exact Nat.le_refl _
theorem scwinit : FnScope ["self", "most"] ["self", "most"] (defScope sWInit) := ⟨rfl, rfl, rfl, by decide +kernel, rfl, by decide +kernel, by decide +kernel⟩
theorem ok_winit {f f1 : Addr} {fd fd1 : FuncData} (F : Fun K "__init__" "Ways.__init__" sWInit f fd) (MK : Mk K SC f1) (mS : mg "Shelf" = some (.ref SC)) (BI : Binds K fd1 ["self", "most"] []) (GI : FnOk P w K mg base CX0 2 f1 fd1 ["self", "most"] (spSInit SC)) (PC : Plc K PL) : FnOk P w K mg base CX0 4 f fd ["self", "most"] (spWInit SC PL) := by
  refine F.ok scwinit (fun vs H Q E h' => ?_) (fun cdv A outer s H vs Q E hr h' => ?_)
  · obtain ⟨a, dx, fs, n, rfl, _⟩ := h'
    rfl
  · obtain ⟨a, dx, fs, n, rfl, ha, hl, n1, n2, q0⟩ := h'
    refine ⟨_, (pss_cons (ps_fld (pv 0) pe_int rfl) (pss_one (ps_fld (pv 0) (pe_make MK GI hr (by rfl) mS BI .nil pass0 (pa_cons (pv 1) pa_nil)) rfl))), ?_⟩
    refine ⟨_, rfl, a, PL, dx, fs, rfl, ha, PC.cl, PC.nb, (by omega), ?_⟩
    have za : upd H a (.ins PL dx (putF "base" (.int 0) fs)) a = some (.ins PL dx (putF "base" (.int 0) fs)) := upd_same
    have ka : ∀ b o, H b = some o → b ≠ a → upd H a (.ins PL dx (putF "base" (.int 0) fs)) b = some o := fun b o e z => by rw [upd_ne z]; exact e
    have fa : ∀ b, upd H a (.ins PL dx (putF "base" (.int 0) fs)) b = none → b ≠ a ∧ H b = none := fun b e => by
      have z : b ≠ a := fun z => by rw [z, upd_same] at e; cases e
      rw [upd_ne z] at e
      exact ⟨z, e⟩
    generalize upd H a (.ins PL dx (putF "base" (.int 0) fs)) = H1 at *
    refine ⟨_, rfl, fun r dr hr0 hdr ner => ?_⟩
    have s0 : Same H1 (upd (upd H1 dr (.own r)) r (.ins SC dr [])) := (same_new hdr).trans (same_new (by rw [upd_ne ner.symm]; exact hr0))
    refine ⟨r, dr, n, rfl, upd_same, n1, n2, fun q H2 b2 fq sh2 => ⟨rfl, ?_⟩⟩
    obtain ⟨ra, fr⟩ := fa r hr0
    obtain ⟨qa, fq⟩ := fa q (s0.free fq)
    have ha2 := b2 a _ ra.symm (s0 _ _ za)
    refine ⟨_, rfl, a, PL, dx, _, rfl, ha2, PC.cl, PC.nr, (by have := length_putF "base" (.int 0) fs; omega), ?_⟩
    exact q0 r q _ (fun b o z e => by rw [upd_ne z]; exact b2 b o (ne_of_none e fr) (s0 _ _ (ka b o e z))) fr fq upd_same (sh2.but But.upd ra qa fun xs z => by rw [ha2] at z; cases z)
theorem scPl2 : FnScope ["self", "pages", "most", "words"] ["self", "pages", "most", "words"] (defScope sPInit) := ⟨rfl, rfl, rfl, by decide +kernel, rfl, by decide +kernel, by decide +kernel⟩
theorem ok_plinit {f f1 f2 : Addr} {fd fd1 fd2 : FuncData} (F : Fun K "__init__" "Plain.__init__" sPInit f fd) (MK : Mk K C f1) (mM : mg "Memory" = some (.ref C)) (BI : Binds K fd1 ["self", "pages"] []) (GI : FnOk P w K mg base (CXr P w) 6 f1 fd1 ["self", "pages"] (spInit C)) (CM : CMeth K WC "__init__" f2) (mW : mg "Ways" = some (.ref WC)) (BW : Binds K fd2 ["self", "most"] []) (GW : FnOk P w K mg base CX0 4 f2 fd2 ["self", "most"] (spWInit SC PL)) (PC : Plc K PL) (T : Txt K mg) : FnOk P w K mg base CX0 8 f fd ["self", "pages", "most", "words"] (spPInit C SC PL) := by
  refine F.ok scPl2 (fun vs H Q E h' => ?_) (fun cdv A outer s H vs Q E hr h' => ?_)
  · obtain ⟨a, dx, p, l, ps, n, bs, rfl, _⟩ := h'
    rfl
  · obtain ⟨a, dx, p, l, ps, n, bs, rfl, ha, gp, hg, l1, l2, n1, n2, hl, q0⟩ := h'
    have hr4 : Room 4 _ := hr.mono (by decide)
    refine ⟨_, (pss_cons (ps_fld (pv 0) (pe_make MK GI hr (by rfl) mM BI .nil passX0 (pa_cons (pv 1) pa_nil)) rfl) (pss_cons (ps_expr (pe_cmeth GW hr4 (by rfl) mW CM BW .nil pass0 (pa_cons (pv 0) (pa_cons (pv 2) pa_nil)))) (pss_one (ps_fld (pv 0) (pe_callTy call_list_of (by rfl) T.lst PyProof.Rows.boot_list (pa_cons (pv 3) pa_nil)) rfl)))), ?_⟩
    refine ⟨_, rfl, fun m dm hm0 hdm nem => ?_⟩
    have s0 : Same H (upd (upd H dm (.own m)) m (.ins C dm [])) := (same_new hdm).trans (same_new (by rw [upd_ne nem.symm]; exact hm0))
    refine ⟨m, dm, p, ps, rfl, upd_same, gp.same s0, hg, l1, l2, fun h H2 qs b2 M2 hc hf => ⟨rfl, ?_⟩⟩
    have k2 : ∀ b o, H b = some o → H2 b = some o := fun b o e => b2 b o (ne_of_none e hm0) (s0 _ _ e)
    have f2 : ∀ b, H2 b = none → H b = none := fun b e => by
      cases hb : H b with
      | none => rfl
      | some o => rw [k2 b o hb] at e; cases e
    have am : m ≠ a := (ne_of_none ha hm0).symm
    have ah : ¬ At h qs a := fun z => by have := s0.free (hf a z); rw [ha] at this; cases this
    refine ⟨_, rfl, a, PL, dx, _, rfl, k2 _ _ ha, PC.cl, PC.nm, (by show 0 < 1000; decide), ?_⟩
    have za : upd H2 a (.ins PL dx (putF "memory" (.ref m) [])) a = some (.ins PL dx (putF "memory" (.ref m) [])) := upd_same
    have ka : ∀ b o, H2 b = some o → b ≠ a → upd H2 a (.ins PL dx (putF "memory" (.ref m) [])) b = some o := fun b o e z => by rw [upd_ne z]; exact e
    have fa : ∀ b, upd H2 a (.ins PL dx (putF "memory" (.ref m) [])) b = none → b ≠ a ∧ H2 b = none := fun b e => by
      have z : b ≠ a := fun z => by rw [z, upd_same] at e; cases e
      rw [upd_ne z] at e
      exact ⟨z, e⟩
    generalize upd H2 a (.ins PL dx (putF "memory" (.ref m) [])) = H3 at *
    have f1l : (putF "memory" (.ref m) ([] : List (Str × V))).length ≤ 1 := length_putF _ _ _
    refine ⟨_, rfl, _, rfl, a, dx, _, n, rfl, za, (by omega), n1, n2, fun r q H4 b4 fr fq ha4 sh4 => ?_⟩
    obtain ⟨ra, fr2⟩ := fa r fr
    obtain ⟨qa, fq2⟩ := fa q fq
    have k4 : ∀ b o, H2 b = some o → b ≠ a → H4 b = some o := fun b o e z => b4 b o z (ka b o e z)
    have la : l ≠ a := ne_of hl ha nofun
    refine ⟨_, rfl, l, _, rfl, .inl (SqL.of (k4 l _ (k2 _ _ hl) la)), fun aw haw => ?_⟩
    have s5 := same_new (o := .lst (bs.map V.bl)) haw
    have z5 : upd H4 aw (.lst (bs.map V.bl)) aw = some (.lst (bs.map V.bl)) := upd_same
    generalize upd H4 aw (.lst (bs.map V.bl)) = H5 at *
    have aaw : aw ≠ a := (ne_of_none ha4 haw).symm
    have faw : H aw = none := by
      cases hb : H aw with
      | none => rfl
      | some o => rw [k4 aw o (k2 _ _ hb) aaw] at haw; cases haw
    have f2l := length_putF "base" (.int 0) (putF "memory" (.ref m) ([] : List (Str × V)))
    have f3l := length_putF "rack" (.ref r) (putF "base" (.int 0) (putF "memory" (.ref m) ([] : List (Str × V))))
    refine ⟨_, rfl, a, PL, dx, _, rfl, s5 _ _ ha4, PC.cl, PC.na, (by omega), ?_⟩
    have kM : ∀ b o, H2 b = some o → b ≠ a → upd H5 a (.ins PL dx (putF "answers" (.ref aw) (putF "rack" (.ref r) (putF "base" (.int 0) (putF "memory" (.ref m) []))))) b = some o := fun b o e z => by rw [upd_ne z]; exact s5 _ _ (k4 b o e z)
    obtain ⟨dm2, em2⟩ := M2.ob
    refine q0 m h r q aw _ qs (fun b o z e => kM b o (k2 _ _ e) z) ⟨⟨dx, _, upd_same, ⟨?_, ?_, ?_, ?_, fun g z1 z2 z3 z4 => ?_, ?_⟩⟩, ⟨⟨dm2, kM m _ em2 am⟩, M2.pg.keep fun b hb => ?_, M2.good, M2.len⟩, (sh4.same s5).but But.upd ra qa (fun xs z => by rw [s5 _ _ ha4] at z; cases z), by rw [upd_ne aaw]; exact z5, fun z => ?_⟩ hc fun b hb => ?_
    · rw [lookup_putF, if_neg (by decide +kernel), lookup_putF, if_neg (by decide +kernel), lookup_putF, if_neg (by decide +kernel), lookup_putF, if_pos rfl]
    · rw [lookup_putF, if_neg (by decide +kernel), lookup_putF, if_neg (by decide +kernel), lookup_putF, if_pos rfl]
    · rw [lookup_putF, if_neg (by decide +kernel), lookup_putF, if_pos rfl]
    · rw [lookup_putF, if_pos rfl]
    · rw [lookup_putF, if_neg z4, lookup_putF, if_neg z3, lookup_putF, if_neg z2, lookup_putF, if_neg z1]
      rfl
    · have f4l := length_putF "answers" (.ref aw) (putF "rack" (.ref r) (putF "base" (.int 0) (putF "memory" (.ref m) ([] : List (Str × V)))))
      omega
    · obtain ⟨u, y⟩ := M2.pg.at hb
      rw [y]
      exact kM b u y fun z => ah (z ▸ hb)
    · obtain ⟨u, y⟩ := M2.pg.at z
      rw [k4 aw u y aaw] at haw
      cases haw
    · rcases hb with rfl | rfl | rfl | rfl | hb
      · exact hm0
      · exact f2 _ fr2
      · exact f2 _ fq2
      · exact faw
      · exact s0.free (hf b hb)
end
end K25
end
section
namespace K25
open PySem L2
abbrev sPPut : Stmt := inClass (top 49) 4
abbrev sFI : Stmt := inClass (top 15) 0
theorem Way.setW {C SC PL : Addr} {H : Hp} {a m h r q aw : Addr} {ps : Pgs} {n : Int} {rs : Rs} {bs : List Bool} {b : Int} {i j : Nat} {v : Int} {p : Addr} {ws : List Int} (w : Way C SC PL H a m h r q aw ps n rs bs b) (e : ps[i]? = some (some (p, ws))) (w0 : 0 ≤ v) (w1 : v < 281474976710656) :
    Way C SC PL (upd H p (.lst ((ws.map V.int).set j (.int v)))) a m h r q aw (setW ps i j v) n rs bs b := by
  obtain ⟨dx, fs, ea, f⟩ := w.ob
  obtain ⟨dr, fr, er, _⟩ := w.S.ob
  obtain ⟨kvs, eq, _⟩ := w.S.se
  have ep := (w.M.pg.each i p ws e).1
  have na : aw ≠ p := fun z => w.nd (z ▸ .inr ⟨i, ws, e⟩)
  exact ⟨⟨dx, fs, by rw [upd_ne (ne_of ea ep nofun)]; exact ea, f⟩, w.M.setW e w0 w1, w.S.but But.upd (ne_of er ep nofun) (ne_of eq ep nofun) (fun xs z => by rw [ep] at z; cases z), by rw [upd_ne na]; exact w.an, fun z => w.nd z.setW⟩
def spPPut (C SC PL : Addr) : Sp := fun vs H Q _ => ∃ (a m h r q aw : Addr) (ps : Pgs) (n : Int) (rs : Rs) (bs : List Bool) (b : Int) (i j : Nat) (v : Int) (p : Addr) (ws : List Int), vs = [.ref a, .int i, .int j, .int v] ∧ Way C SC PL H a m h r q aw ps n rs bs b ∧ ps[i]? = some (some (p, ws)) ∧ j < 8 ∧ Q .non (upd H p (.lst ((ws.map V.int).set j (.int v))))
def spWCPage (C SC PL NP : Addr) : Sp := fun vs H Q E => ∃ (a m h r q aw : Addr) (ps : Pgs) (n : Int) (rs : Rs) (bs : List Bool) (b : Int) (x : V), vs = [.ref a, x] ∧ Way C SC PL H a m h r q aw ps n rs bs b ∧ Th H x ∧ (hasP ps x = true → Q .non H) ∧ (hasP ps x = false → E (.ref NP) none H)
def spWSpot (C SC PL NP NL : Addr) : Sp := fun vs H Q E => ∃ (a m h r q aw : Addr) (ps : Pgs) (n : Int) (rs : Rs) (bs : List Bool) (b : Int) (x y : V), vs = [.ref a, x, y] ∧ Way C SC PL H a m h r q aw ps n rs bs b ∧ Th H x ∧ Th H y ∧ (hasP ps x = true → below y 8 = true → Q .non H) ∧ (hasP ps x = false → E (.ref NP) none H) ∧ (hasP ps x = true → below y 8 = false → E (.ref NL) none H)
def spWRead (C SC PL NP NL : Addr) : Sp := fun vs H Q E => ∃ (a m h r q aw : Addr) (ps : Pgs) (n : Int) (rs : Rs) (bs : List Bool) (b : Int) (x y : V), vs = [.ref a, x, y] ∧ Way C SC PL H a m h r q aw ps n rs bs b ∧ Th H x ∧ Th H y ∧
  (∀ (i j : Nat) (p : Addr) (ws : List Int), x = .int i → y = .int j → ps[i]? = some (some (p, ws)) → j < 8 → Q (.int (ws.getD j 0)) H) ∧ (hasP ps x = false → E (.ref NP) none H) ∧ (hasP ps x = true → below y 8 = false → E (.ref NL) none H)
def spWWrite (C SC PL NP NL NW : Addr) : Sp := fun vs H Q E => ∃ (a m h r q aw : Addr) (ps : Pgs) (n : Int) (rs : Rs) (bs : List Bool) (b : Int) (x y z : V), vs = [.ref a, x, y, z] ∧ Way C SC PL H a m h r q aw ps n rs bs b ∧ Th H x ∧ Th H y ∧ Th H z ∧
  (∀ (i j : Nat) (v : Int) (p : Addr) (ws : List Int), x = .int i → y = .int j → z = .int v → ps[i]? = some (some (p, ws)) → j < 8 → 0 ≤ v → v < 281474976710656 → Q .non (upd H p (.lst ((ws.map V.int).set j (.int v))))) ∧
  (hasP ps x = false → E (.ref NP) none H) ∧ (hasP ps x = true → below y 8 = false → E (.ref NL) none H) ∧ (hasP ps x = true → below y 8 = true → below z 281474976710656 = false → E (.ref NW) none H)
structure Flt (K : PySem.W.Frag) (mg : Str → Option Value) (FA fI : Addr) : Prop where
  x : XCls K FA
  nk : NoAttr K FA "kind"
  np : NoAttr K FA "place"
  nl : NoAttr K FA "level"
  ex : excInI K FA fI = true
  fn : PySem.W.isFn K (.ref fI) = true
  m : mg "Fault" = some (.ref FA)
def ffF : List V → List (Str × V)
  | [x, y, z] => putF "level" z (putF "place" y [("kind", x)])
  | _ => []
theorem ffF_kind (x y z : V) : (ffF [x, y, z]).lookup ("kind" : Str) = some x := by
  unfold ffF
  rw [lookup_putF, if_neg (by decide +kernel), lookup_putF, if_neg (by decide +kernel)]
  rfl
theorem ffF_place (x y z : V) : (ffF [x, y, z]).lookup ("place" : Str) = some y := by
  unfold ffF
  rw [lookup_putF, if_neg (by decide +kernel), lookup_putF, if_pos rfl]
theorem ffF_level (x y z : V) : (ffF [x, y, z]).lookup ("level" : Str) = some z := by
  unfold ffF
  rw [lookup_putF, if_pos rfl]
def ExF (FA : Addr) (E : XK) (H : Hp) (k : Str) (pl lv : Int) : Prop := ∀ d, H d = none → E (.ref FA) (some d) (upd H d (xdo d (ffF [.str k, .int pl, .int lv])))
section
variable {P : Program} {w : World} {K : PySem.W.Frag} {mg : Str → Option Value} {base : Heap} {C NP NL NW NI SC PL WC FA : Addr}
theorem sc_pput : FnScope ["self", "page", "cell", "word"] ["self", "page", "cell", "word"] (defScope sPPut) := ⟨rfl, rfl, rfl, by decide +kernel, rfl, by decide +kernel, by decide +kernel⟩
theorem ok_pput {f f1 : Addr} {fd fd1 : FuncData} (F : Fun K "put_word" "Plain.put_word" sPPut f fd) (M1 : Me K C "put_word" "Memory.put_word" sPutWord ["self", "page", "cell", "word"] f1 fd1) (GM1 : FnOk P w K mg base CX0 1 f1 fd1 ["self", "page", "cell", "word"] (spPutWord C)) (S0 : Sto K mg C NP NL NW NI) (PC : Plc K PL) : FnOk P w K mg base CX0 2 f fd ["self", "page", "cell", "word"] (spPPut C SC PL) := by
  refine F.ok sc_pput (fun vs H Q E h' => ?_) (fun cdv A outer s H vs Q E hr h' => ?_)
  · obtain ⟨a, m, h, r, q, aw, ps, n, rs, bs, b, i, j, v, p, ws, rfl, _⟩ := h'
    rfl
  · obtain ⟨a, m, h, r, q, aw, ps, n, rs, bs, b, i, j, v, p, ws, rfl, W, e, hj, q⟩ := h'
    refine ⟨_, (pss_one (ps_expr (pe_meth (pe_fld (pv 0) rfl) S0.cl M1.m GM1 hr M1.b .nil pass0 (pa_cons (pv 1) (pa_cons (pv 2) (pa_cons (pv 3) pa_nil)))))), ?_⟩
    obtain ⟨dx, fs, ha, wf⟩ := W.ob
    obtain ⟨dm, hm⟩ := W.M.ob
    exact ⟨_, rfl, a, PL, dx, fs, _, rfl, ha, PC.cl, PC.nm, wf.mem, m, dm, flds h, rfl, hm, flds_no h (by decide +kernel), _, rfl, _, rfl, _, rfl, m, h, ps, i, j, v, p, ws, rfl, W.M, e, hj, q⟩
theorem sc_wcpage : FnScope ["self", "page"] ["self", "page"] (defScope sCPage) := ⟨rfl, rfl, rfl, by decide +kernel, rfl, by decide +kernel, by decide +kernel⟩
theorem ok_wcpage {f f1 : Addr} {fd fd1 : FuncData} (F : Fun K "check_page" "Store.check_page" sCPage f fd) (M1 : Me K PL "has" "Plain.has" sPHas ["self", "page"] f1 fd1) (GM1 : FnOk P w K mg base CX0 4 f1 fd1 ["self", "page"] (spPHas C SC PL)) (S0 : Sto K mg C NP NL NW NI) (PC : Plc K PL) : FnOk P w K mg base (CXr P w) 5 f fd ["self", "page"] (spWCPage C SC PL NP) := by
  refine F.okR sc_wcpage (fun vs H Q E h' => ?_) (fun cdv A outer s H vs Q E hr h' => ?_)
  · obtain ⟨a, m, h, r, q, aw, ps, n, rs, bs, b, x, rfl, _⟩ := h'
    rfl
  · obtain ⟨a, m, h, r, q, aw, ps, n, rs, bs, b, x, rfl, W, th, q0, e⟩ := h'
    refine ⟨_, (pss_one (ps_if (pt_not (pt_val (pe_meth (pv 0) PC.cl M1.m GM1 hr M1.b .nil pass0 (pa_cons (pv 1) pa_nil)))) (pss_one (ps_raise S0.xp S0.np raisesR rfl (pa_cons pe_str pa_nil))) pss_nil)), ?_⟩
    obtain ⟨dx, fs, ha, wf⟩ := W.ob
    refine ⟨_, rfl, a, dx, fs, rfl, ha, wf.no _ (by decide +kernel) (by decide +kernel) (by decide +kernel) (by decide +kernel), _, rfl, a, m, h, r, q, aw, ps, n, rs, bs, b, x, rfl, W, th, _, rfl, ?_⟩
    cases hb : hasP ps x with
    | false => exact iteT ⟨by decide, e hb⟩
    | true => exact iteF (q0 hb)
theorem sc_wspot : FnScope ["self", "page", "cell"] ["self", "page", "cell"] (defScope sSpot) := ⟨rfl, rfl, rfl, by decide +kernel, rfl, by decide +kernel, by decide +kernel⟩
theorem ok_wspot {f f1 f2 : Addr} {fd fd1 fd2 : FuncData} (F : Fun K "check_spot" "Store.check_spot" sSpot f fd) (B : Dn K mg "is_below" sBelow ["thing", "bound"] f1 fd1) (GB : FnOk P w K mg base CX0 2 f1 fd1 ["thing", "bound"] spBelow) (M1 : Me K PL "check_page" "Store.check_page" sCPage ["self", "page"] f2 fd2) (GM1 : FnOk P w K mg base (CXr P w) 5 f2 fd2 ["self", "page"] (spWCPage C SC PL NP)) (S0 : Sto K mg C NP NL NW NI) (PC : Plc K PL) : FnOk P w K mg base (CXr P w) 6 f fd ["self", "page", "cell"] (spWSpot C SC PL NP NL) := by
  obtain ⟨t2, m2⟩ := S0.cells
  refine F.okR sc_wspot (fun vs H Q E h' => ?_) (fun cdv A outer s H vs Q E hr h' => ?_)
  · obtain ⟨a, m, h, r, q, aw, ps, n, rs, bs, b, x, y, rfl, _⟩ := h'
    rfl
  · obtain ⟨a, m, h, r, q, aw, ps, n, rs, bs, b, x, y, rfl, W, th, ty, q0, e1, e2⟩ := h'
    have hr2 : Room 2 _ := hr.mono (by decide)
    refine ⟨_, (pss_cons (ps_expr (pe_meth (pv 0) PC.cl M1.m GM1 hr M1.b .nil passR (pa_cons (pv 1) pa_nil))) (pss_one (ps_if (pt_not (pt_val (pe_call GB hr2 (by rfl) B.m B.F.kp B.b .nil pass0 (pa_cons (pv 2) (pa_cons (pe_glob (by rfl) m2 (show RelV (.int 8) (.int 8 t2) from ⟨_, rfl⟩)) pa_nil))))) (pss_one (ps_raise S0.xl S0.nl raisesR rfl (pa_cons pe_str pa_nil))) pss_nil))), ?_⟩
    obtain ⟨dx, fs, ha, wf⟩ := W.ob
    refine ⟨_, rfl, a, dx, fs, rfl, ha, wf.no _ (by decide +kernel) (by decide +kernel) (by decide +kernel) (by decide +kernel), _, rfl, a, m, h, r, q, aw, ps, n, rs, bs, b, x, rfl, W, th, fun hb => ?_, e1⟩
    refine ⟨_, rfl, y, _, rfl, ty, _, rfl, ?_⟩
    cases hc : below y 8 with
    | false => exact iteT ⟨by decide, e2 hb hc⟩
    | true => exact iteF (q0 hb hc)
theorem sc_wread : FnScope ["self", "page", "cell"] ["self", "page", "cell"] (defScope sRead) := ⟨rfl, rfl, rfl, by decide +kernel, rfl, by decide +kernel, by decide +kernel⟩
theorem ok_wread {f f1 f2 : Addr} {fd fd1 fd2 : FuncData} (F : Fun K "read" "Store.read" sRead f fd) (M1 : Me K PL "check_spot" "Store.check_spot" sSpot ["self", "page", "cell"] f1 fd1) (GM1 : FnOk P w K mg base (CXr P w) 6 f1 fd1 ["self", "page", "cell"] (spWSpot C SC PL NP NL)) (M2 : Me K PL "word_at" "Plain.word_at" sPWordAt ["self", "page", "cell"] f2 fd2) (GM2 : FnOk P w K mg base CX0 2 f2 fd2 ["self", "page", "cell"] (spPWordAt C SC PL)) (PC : Plc K PL) : FnOk P w K mg base (CXr P w) 7 f fd ["self", "page", "cell"] (spWRead C SC PL NP NL) := by
  refine F.okR sc_wread (fun vs H Q E h' => ?_) (fun cdv A outer s H vs Q E hr h' => ?_)
  · obtain ⟨a, m, h, r, q, aw, ps, n, rs, bs, b, x, y, rfl, _⟩ := h'
    rfl
  · obtain ⟨a, m, h, r, q, aw, ps, n, rs, bs, b, x, y, rfl, W, th, ty, q0, e1, e2⟩ := h'
    have hr2 : Room 2 _ := hr.mono (by decide)
    refine ⟨_, (pss_cons (ps_expr (pe_meth (pv 0) PC.cl M1.m GM1 hr M1.b .nil passR (pa_cons (pv 1) (pa_cons (pv 2) pa_nil)))) (pss_one (ps_ret (pe_meth (pv 0) PC.cl M2.m GM2 hr2 M2.b .nil pass0 (pa_cons (pv 1) (pa_cons (pv 2) pa_nil)))))), ?_⟩
    obtain ⟨dx, fs, ha, wf⟩ := W.ob
    refine ⟨_, rfl, a, dx, fs, rfl, ha, wf.no _ (by decide +kernel) (by decide +kernel) (by decide +kernel) (by decide +kernel), _, rfl, _, rfl, a, m, h, r, q, aw, ps, n, rs, bs, b, x, y, rfl, W, th, ty, fun hb hc => ?_, e1, e2⟩
    obtain ⟨i, p, ws, rfl, e⟩ := hasP_int hb
    obtain ⟨j, rfl, j0, j1⟩ := below_int hc
    obtain ⟨n1, rfl⟩ : ∃ n : Nat, j = (n : Int) := ⟨j.toNat, by omega⟩
    exact ⟨_, rfl, a, dx, fs, rfl, ha, wf.no _ (by decide +kernel) (by decide +kernel) (by decide +kernel) (by decide +kernel), _, rfl, _, rfl, a, m, h, r, q, aw, ps, n, rs, bs, b, i, n1, p, ws, rfl, W, e, (by omega), q0 i n1 p ws rfl rfl e (by omega)⟩
theorem sc_wwrite : FnScope ["self", "page", "cell", "word"] ["self", "page", "cell", "word"] (defScope sWrite) := ⟨rfl, rfl, rfl, by decide +kernel, rfl, by decide +kernel, by decide +kernel⟩
theorem ok_wwrite {f f1 f2 f3 : Addr} {fd fd1 fd2 fd3 : FuncData} (F : Fun K "write" "Store.write" sWrite f fd) (M1 : Me K PL "check_spot" "Store.check_spot" sSpot ["self", "page", "cell"] f1 fd1) (GM1 : FnOk P w K mg base (CXr P w) 6 f1 fd1 ["self", "page", "cell"] (spWSpot C SC PL NP NL)) (B : Dn K mg "check_word" sCWord ["word"] f3 fd3) (GB : FnOk P w K mg base (CXr P w) 4 f3 fd3 ["word"] (spCWord NW)) (M2 : Me K PL "put_word" "Plain.put_word" sPPut ["self", "page", "cell", "word"] f2 fd2) (GM2 : FnOk P w K mg base CX0 2 f2 fd2 ["self", "page", "cell", "word"] (spPPut C SC PL)) (PC : Plc K PL) : FnOk P w K mg base (CXr P w) 7 f fd ["self", "page", "cell", "word"] (spWWrite C SC PL NP NL NW) := by
  refine F.okR sc_wwrite (fun vs H Q E h' => ?_) (fun cdv A outer s H vs Q E hr h' => ?_)
  · obtain ⟨a, m, h, r, q, aw, ps, n, rs, bs, b, x, y, z, rfl, _⟩ := h'
    rfl
  · obtain ⟨a, m, h, r, q, aw, ps, n, rs, bs, b, x, y, z, rfl, W, th, ty, tz, q0, e1, e2, e3⟩ := h'
    have hr4 : Room 4 _ := hr.mono (by decide)
    have hr2 : Room 2 _ := hr.mono (by decide)
    refine ⟨_, (pss_cons (ps_expr (pe_meth (pv 0) PC.cl M1.m GM1 hr M1.b .nil passR (pa_cons (pv 1) (pa_cons (pv 2) pa_nil)))) (pss_cons (ps_expr (pe_call GB hr4 (by rfl) B.m B.F.kp B.b .nil passR (pa_cons (pv 3) pa_nil))) (pss_one (ps_expr (pe_meth (pv 0) PC.cl M2.m GM2 hr2 M2.b .nil pass0 (pa_cons (pv 1) (pa_cons (pv 2) (pa_cons (pv 3) pa_nil)))))))), ?_⟩
    obtain ⟨dx, fs, ha, wf⟩ := W.ob
    refine ⟨_, rfl, a, dx, fs, rfl, ha, wf.no _ (by decide +kernel) (by decide +kernel) (by decide +kernel) (by decide +kernel), _, rfl, _, rfl, a, m, h, r, q, aw, ps, n, rs, bs, b, x, y, rfl, W, th, ty, fun hb hc => ?_, e1, e2⟩
    refine ⟨_, rfl, z, rfl, tz, fun hd => ?_, fun hd => e3 hb hc hd⟩
    obtain ⟨i, p, ws, rfl, e⟩ := hasP_int hb
    obtain ⟨j, rfl, j0, j1⟩ := below_int hc
    obtain ⟨n1, rfl⟩ : ∃ n : Nat, j = (n : Int) := ⟨j.toNat, by omega⟩
    obtain ⟨v, rfl, v0, v1⟩ := below_int hd
    exact ⟨_, rfl, a, dx, fs, rfl, ha, wf.no _ (by decide +kernel) (by decide +kernel) (by decide +kernel) (by decide +kernel), _, rfl, _, rfl, _, rfl, a, m, h, r, q, aw, ps, n, rs, bs, b, i, n1, v, p, ws, rfl, W, e, (by omega), q0 i n1 v p ws rfl rfl rfl e (by omega) v0 v1⟩
theorem sc_fi : FnScope ["self", "kind", "place", "level"] ["self", "kind", "place", "level"] (defScope sFI) := ⟨rfl, rfl, rfl, by decide +kernel, rfl, by decide +kernel, by decide +kernel⟩
theorem ok_finit {f fI : Addr} {fd : FuncData} (F : Fun K "__init__" "Fault.__init__" sFI f fd) (FL : Flt K mg FA fI) : FnOk P w K mg base CX0 1 f fd ["self", "kind", "place", "level"] (spXI FA 3 ffF) := by
  refine F.ok sc_fi (fun vs H Q E h' => ?_) (fun cdv A outer s H vs Q E hr h' => ?_)
  · obtain ⟨e, t, xs, rfl, hl, _⟩ := h'
    simp [hl]
  · obtain ⟨e, t, xs, rfl, hl, he, q⟩ := h'
    match xs, hl, q with
    | [x, y, z], _, q =>
    refine ⟨_, pss_cons (ps_xf0 (pv 0) (pv 1) rfl) (pss_cons (ps_xf (pv 0) (pv 2) rfl) (pss_one (ps_xf (pv 0) (pv 3) rfl))), ?_⟩
    refine ⟨_, rfl, _, rfl, e, FA, t, rfl, he, FL.x, FL.nk, fun d H' d1 d2 d3 d4 d5 => ?_⟩
    have l1 := length_putF "place" y [(("kind" : Str), x)]
    refine ⟨_, rfl, _, rfl, e, FA, t, d, _, rfl, d3, d4, FL.x, FL.np, (by show 1 < 1000; decide), ?_⟩
    refine ⟨_, rfl, _, rfl, e, FA, t, d, _, rfl, by rw [upd_ne d2.symm]; exact d3, upd_same, FL.x, FL.nl, (by rw [List.length_cons, List.length_nil] at l1; omega), ?_⟩
    refine q d _ d1 d2 (by rw [upd_ne d2.symm, upd_ne d2.symm]; exact d3) (by rw [upd_same]; rfl) fun b b1 b2 => ?_
    rw [upd_ne b2, upd_ne b2]
    exact d5 b b1 b2
end
end K25
end
section
namespace K25
open PySem L2
abbrev sPgOf : Stmt := top 37
abbrev sRHas : Stmt := top 38
abbrev sRPut : Stmt := top 39
abbrev sRig : Stmt := top 43
abbrev sLets : Stmt := top 46
abbrev sNum : Stmt := top 22
abbrev sParts : Stmt := top 21
abbrev sCRow : Stmt := top 42
abbrev sLook : Stmt := top 41
theorem or_eq (r m : Nat) : Builtin.bitOr (r : Int) (m : Int) = ((r ||| m : Nat) : Int) := by
  unfold Builtin.bitOr
  rw [PyProof.Rows.bitAnd_nn (by unfold Builtin.bitNot; omega) (by unfold Builtin.bitNot; omega)]
  unfold Builtin.bitNot
  have e1 : (-(-(r : Int) - 1) - 1).toNat = r := by omega
  have e2 : (-(-(m : Int) - 1) - 1).toNat = m := by omega
  first
    | (rw [e1, e2]; omega)
    | (simp only [e1, e2]; omega)
theorem and_eq (r m : Nat) : Builtin.bitAnd (r : Int) (m : Int) = ((r &&& m : Nat) : Int) := by
  rw [PyProof.Rows.bitAnd_pp (by omega) (by omega), Int.toNat_natCast, Int.toNat_natCast]
structure Rws0 (K : PySem.W.Frag) (mg : Str → Option Value) : Prop where
  mm : ∃ t, mg "MARKS" = some (.int 256 t)
  pa : ∃ t, mg "PARTS" = some (.int 8 t)
  pl : ∃ t, mg "PLACES" = some (.int 512 t)
  pr : ∃ t, mg "PRESENT" = some (.int 1 t)
  wr : ∃ t, mg "WRITABLE" = some (.int 2 t)
  ke : ∃ t, mg "KERNEL" = some (.int 4 t)
  to : ∃ t, mg "TOUCHED" = some (.int 8 t)
  so : ∃ t, mg "SOILED" = some (.int 16 t)
def hasN (w m : Nat) : Bool := decide (w &&& m = m)
def rigN (t l : Nat) : Nat := (t &&& l &&& 2) ||| ((t ||| l) &&& 4) ||| (l &&& 16)
def letN (r : Nat) (wr k : Bool) : Bool := !(hasN r 4 && !k) && (!wr || hasN r 18)
def wordN (ps : Pgs) (i j : Nat) : Nat := ((((ps[i]?).getD none).map fun (q : Addr × List Int) => q.2).getD []).getD j 0 |>.toNat
def lackN (ps : Pgs) (w : Nat) (wr k : Bool) : Option Str :=
  if hasN w 1 = false then some "absent" else if hasP ps (.int ((w / 256 : Nat) : Int)) = false then some "beyond" else if (hasN w 4 && !k) = true then some "kernel" else if (wr && !hasN w 2) = true then some "fixed" else none
theorem wordN_of {ps : Pgs} {i j : Nat} {p : Addr} {ws : List Int} (e : ps[i]? = some (some (p, ws))) (h0 : 0 ≤ ws.getD j 0) : ws.getD j 0 = ((wordN ps i j : Nat) : Int) := by
  unfold wordN
  rw [e]
  show ws.getD j 0 = (((ws.getD j 0).toNat : Nat) : Int)
  omega
def spPgOf : Sp := fun vs H Q _ => ∃ w : Nat, vs = [.int w] ∧ Q (.int ((w / 256 : Nat) : Int)) H
def spRHas : Sp := fun vs H Q _ => ∃ w m : Nat, vs = [.int w, .int m] ∧ Q (.bl (hasN w m)) H
def spRPut : Sp := fun vs H Q _ => ∃ w m : Nat, vs = [.int w, .int m] ∧ Q (.int ((w ||| m : Nat) : Int)) H
def spRig : Sp := fun vs H Q _ => ∃ t l : Nat, vs = [.int t, .int l] ∧ Q (.int ((rigN t l : Nat) : Int)) H
def spLets : Sp := fun vs H Q _ => ∃ (r : Nat) (wr k : Bool), vs = [.int r, .bl wr, .bl k] ∧ Q (.bl (letN r wr k)) H
def spNum : Sp := fun vs H Q _ => ∃ p : Nat, vs = [.int p] ∧ p < 512 ∧ Q (.int ((p / 8 : Nat) : Int)) H
def spParts : Sp := fun vs H Q _ => ∃ p : Nat, vs = [.int p] ∧ p < 512 ∧ ∀ t, H t = none → Q (.ref t) (upd H t (.tup [.int ((p / 8 / 8 : Nat) : Int), .int ((p / 8 % 8 : Nat) : Int), .int ((p % 8 : Nat) : Int)]))
def spCRow (C SC PL FA : Addr) : Sp := fun vs H Q E => ∃ (a m h r q aw : Addr) (ps : Pgs) (n : Int) (rs : Rs) (bs : List Bool) (b : Int) (w : Nat) (wr k : Bool) (pl lv : Int), vs = [.ref a, .int w, .bl wr, .bl k, .int pl, .int lv] ∧ Way C SC PL H a m h r q aw ps n rs bs b ∧ (lackN ps w wr k = none → Q .non H) ∧ ∀ z, lackN ps w wr k = some z → ExF FA E H z pl lv
section
variable {P : Program} {w : World} {K : PySem.W.Frag} {mg : Str → Option Value} {base : Heap} {C NP NL NW NI SC PL WC FA : Addr}
theorem sc_pgof : FnScope ["row"] ["row"] (defScope sPgOf) := ⟨rfl, rfl, rfl, by decide +kernel, rfl, by decide +kernel, by decide +kernel⟩
theorem ok_pgof {f : Addr} {fd : FuncData} (F : Fun K "page_of" "page_of" sPgOf f fd) (R : Rws0 K mg) : FnOk P w K mg base CX0 1 f fd ["row"] spPgOf := by
  obtain ⟨t_mm, c_mm⟩ := R.mm
  refine F.ok sc_pgof (fun vs H Q E h' => ?_) (fun cdv A outer s H vs Q E hr h' => ?_)
  · obtain ⟨w, rfl, _⟩ := h'
    rfl
  · obtain ⟨w, rfl, q⟩ := h'
    refine ⟨_, (pss_one (ps_ret (pe_op op_fdiv (pv 0) (pe_glob (by rfl) c_mm (show RelV (.int 256) (.int 256 t_mm) from ⟨_, rfl⟩))))), ?_⟩
    exact ⟨_, rfl, (w : Int), 256, rfl, rfl, ⟨by decide, by decide⟩, q⟩
theorem sc_rhas : FnScope ["row", "marks"] ["row", "marks"] (defScope sRHas) := ⟨rfl, rfl, rfl, by decide +kernel, rfl, by decide +kernel, by decide +kernel⟩
theorem ok_rhas {f : Addr} {fd : FuncData} (F : Fun K "has" "has" sRHas f fd) (R : Rws0 K mg) : FnOk P w K mg base CX0 1 f fd ["row", "marks"] spRHas := by
  refine F.ok sc_rhas (fun vs H Q E h' => ?_) (fun cdv A outer s H vs Q E hr h' => ?_)
  · obtain ⟨w, m, rfl, _⟩ := h'
    rfl
  · obtain ⟨w, m, rfl, q⟩ := h'
    refine ⟨_, (pss_one (ps_ret (pe_cmpR op_eq (pe_op op_and (pv 0) (pv 1)) (pv 1) (nomark _)))), ?_⟩
    refine ⟨_, rfl, _, rfl, (w : Int), (m : Int), rfl, rfl, _, rfl, rfl, ?_⟩
    have e : ∀ i : Decidable (V.int (Builtin.bitAnd (w : Int) (m : Int)) = V.int (m : Int)), @decide _ i = hasN w m := fun i => by
      unfold hasN
      rcases i with h | h
      · exact (decide_eq_false fun z => h (by rw [and_eq, z])).symm
      · refine (decide_eq_true ?_).symm
        have z := V.int.inj h
        rw [and_eq] at z
        omega
    dsimp only
    rw [e]
    exact q
theorem sc_rput : FnScope ["row", "marks"] ["row", "marks"] (defScope sRPut) := ⟨rfl, rfl, rfl, by decide +kernel, rfl, by decide +kernel, by decide +kernel⟩
theorem ok_rput {f : Addr} {fd : FuncData} (F : Fun K "put" "put" sRPut f fd) (R : Rws0 K mg) : FnOk P w K mg base CX0 1 f fd ["row", "marks"] spRPut := by
  refine F.ok sc_rput (fun vs H Q E h' => ?_) (fun cdv A outer s H vs Q E hr h' => ?_)
  · obtain ⟨w, m, rfl, _⟩ := h'
    rfl
  · obtain ⟨w, m, rfl, q⟩ := h'
    refine ⟨_, (pss_one (ps_ret (pe_op op_or (pv 0) (pv 1)))), ?_⟩
    refine ⟨_, rfl, _, rfl, (w : Int), (m : Int), rfl, rfl, ?_⟩
    dsimp only
    rw [or_eq]
    exact q
theorem sc_rig : FnScope ["top_row", "low_row"] ["top_row", "low_row"] (defScope sRig) := ⟨rfl, rfl, rfl, by decide +kernel, rfl, by decide +kernel, by decide +kernel⟩
theorem ok_rig {f : Addr} {fd : FuncData} (F : Fun K "rights_of" "rights_of" sRig f fd) (R : Rws0 K mg) : FnOk P w K mg base CX0 1 f fd ["top_row", "low_row"] spRig := by
  obtain ⟨t_wr, c_wr⟩ := R.wr
  obtain ⟨t_ke, c_ke⟩ := R.ke
  obtain ⟨t_so, c_so⟩ := R.so
  refine F.ok sc_rig (fun vs H Q E h' => ?_) (fun cdv A outer s H vs Q E hr h' => ?_)
  · obtain ⟨t, l, rfl, _⟩ := h'
    rfl
  · obtain ⟨t, l, rfl, q⟩ := h'
    refine ⟨_, (pss_one (ps_ret (pe_op op_or (pe_op op_or (pe_op op_and (pe_op op_and (pv 0) (pv 1)) (pe_glob (by rfl) c_wr (show RelV (.int 2) (.int 2 t_wr) from ⟨_, rfl⟩))) (pe_op op_and (pe_op op_or (pv 0) (pv 1)) (pe_glob (by rfl) c_ke (show RelV (.int 4) (.int 4 t_ke) from ⟨_, rfl⟩)))) (pe_op op_and (pv 1) (pe_glob (by rfl) c_so (show RelV (.int 16) (.int 16 t_so) from ⟨_, rfl⟩)))))), ?_⟩
    refine ⟨_, rfl, _, rfl, (t : Int), (l : Int), rfl, rfl, _, 2, rfl, rfl, _, rfl, _, rfl, (t : Int), (l : Int), rfl, rfl, _, 4, rfl, rfl, _, _, rfl, rfl, _, rfl, (l : Int), 16, rfl, rfl, _, _, rfl, rfl, ?_⟩
    dsimp only
    rw [and_eq, or_eq, show (2 : Int) = ((2 : Nat) : Int) from rfl, show (4 : Int) = ((4 : Nat) : Int) from rfl, show (16 : Int) = ((16 : Nat) : Int) from rfl, and_eq, and_eq, and_eq, or_eq, or_eq]
    exact q
theorem sc_lets : FnScope ["rights", "write", "kernel"] ["rights", "write", "kernel"] (defScope sLets) := ⟨rfl, rfl, rfl, by decide +kernel, rfl, by decide +kernel, by decide +kernel⟩
theorem ok_lets {f f1 f2 : Addr} {fd fd1 fd2 : FuncData} (F : Fun K "lets" "lets" sLets f fd) (Ba : Dn K mg "has" sRHas ["row", "marks"] f1 fd1) (GBa : FnOk P w K mg base CX0 1 f1 fd1 ["row", "marks"] spRHas) (Bb : Dn K mg "put" sRPut ["row", "marks"] f2 fd2) (GBb : FnOk P w K mg base CX0 1 f2 fd2 ["row", "marks"] spRPut) (R : Rws0 K mg) : FnOk P w K mg base CX0 2 f fd ["rights", "write", "kernel"] spLets := by
  obtain ⟨t_ke, c_ke⟩ := R.ke
  obtain ⟨t_wr, c_wr⟩ := R.wr
  obtain ⟨t_so, c_so⟩ := R.so
  refine F.ok sc_lets (fun vs H Q E h' => ?_) (fun cdv A outer s H vs Q E hr h' => ?_)
  · obtain ⟨r, wr, k, rfl, _⟩ := h'
    rfl
  · obtain ⟨r, wr, k, rfl, q⟩ := h'
    refine ⟨_, (pss_cons (ps_if (PW.pt (pw_and (pt_val (pe_call GBa hr (by rfl) Ba.m Ba.F.kp Ba.b .nil pass0 (pa_cons (pv 0) (pa_cons (pe_glob (by rfl) c_ke (show RelV (.int 4) (.int 4 t_ke) from ⟨_, rfl⟩)) pa_nil)))) (pw_and1 (pt_not (pt_val (pv 2)))))) (pss_one (ps_ret pe_bl)) pss_nil) (pss_one (ps_ret (pe_or (pe_not (pv 1)) (pe_one (pe_call GBa hr (by rfl) Ba.m Ba.F.kp Ba.b .nil pass0 (pa_cons (pv 0) (pa_cons (pe_call GBb hr (by rfl) Bb.m Bb.F.kp Bb.b .nil pass0 (pa_cons (pe_glob (by rfl) c_wr (show RelV (.int 2) (.int 2 t_wr) from ⟨_, rfl⟩)) (pa_cons (pe_glob (by rfl) c_so (show RelV (.int 16) (.int 16 t_so) from ⟨_, rfl⟩)) pa_nil))) pa_nil)))))))), ?_⟩
    refine ⟨_, rfl, r, 4, rfl, _, rfl, ?_⟩
    unfold letN at q
    have e18 : ((2 ||| 16 : Nat)) = 18 := rfl
    have rest : ∀ {t : Prop}, t → t := fun z => z
    cases h4 : hasN r 4 with
    | false =>
      rw [h4] at q
      refine iteF ⟨_, rfl, _, rfl, _, rfl, ?_⟩
      cases wr with
      | false => exact iteT q
      | true => exact iteF ⟨_, rfl, 2, 16, rfl, r, 18, rfl, q⟩
    | true =>
      rw [h4] at q
      refine iteT ⟨_, rfl, _, rfl, ?_⟩
      cases k with
      | false => exact iteT q
      | true =>
        refine iteF ⟨_, rfl, _, rfl, _, rfl, ?_⟩
        cases wr with
        | false => exact iteT q
        | true => exact iteF ⟨_, rfl, 2, 16, rfl, r, 18, rfl, q⟩
theorem sc_num : FnScope ["place"] ["place"] (defScope sNum) := ⟨rfl, rfl, rfl, by decide +kernel, rfl, by decide +kernel, by decide +kernel⟩
theorem ok_num {f f1 : Addr} {fd fd1 : FuncData} (F : Fun K "number_of" "number_of" sNum f fd) (B : Dn K mg "is_below" sBelow ["thing", "bound"] f1 fd1) (GB : FnOk P w K mg base CX0 2 f1 fd1 ["thing", "bound"] spBelow) (R : Rws0 K mg) : FnOk P w K mg base CX0 3 f fd ["place"] spNum := by
  obtain ⟨t_pl, c_pl⟩ := R.pl
  obtain ⟨t_pa, c_pa⟩ := R.pa
  refine F.ok sc_num (fun vs H Q E h' => ?_) (fun cdv A outer s H vs Q E hr h' => ?_)
  · obtain ⟨p, rfl, _⟩ := h'
    rfl
  · obtain ⟨p, rfl, hp, q⟩ := h'
    refine ⟨_, (pss_cons (ps_if (pt_not (pt_val (pe_call GB hr (by rfl) B.m B.F.kp B.b .nil pass0 (pa_cons (pv 0) (pa_cons (pe_glob (by rfl) c_pl (show RelV (.int 512) (.int 512 t_pl) from ⟨_, rfl⟩)) pa_nil))))) (pss_one ps_never) pss_nil) (pss_one (ps_ret (pe_op op_fdiv (pv 0) (pe_glob (by rfl) c_pa (show RelV (.int 8) (.int 8 t_pa) from ⟨_, rfl⟩)))))), ?_⟩
    refine ⟨_, rfl, _, _, rfl, .int _, _, rfl, ?_⟩
    rw [below_of (by omega) (by omega)]
    exact iteF ⟨_, rfl, (p : Int), 8, rfl, rfl, ⟨by decide, by decide⟩, q⟩
theorem sc_parts : FnScope ["place", "number"] ["place"] (defScope sParts) := ⟨rfl, rfl, rfl, by decide +kernel, rfl, by decide +kernel, by decide +kernel⟩
theorem ok_parts {f f1 : Addr} {fd fd1 : FuncData} (F : Fun K "parts_of" "parts_of" sParts f fd) (B : Dn K mg "number_of" sNum ["place"] f1 fd1) (GB : FnOk P w K mg base CX0 3 f1 fd1 ["place"] spNum) (R : Rws0 K mg) : FnOk P w K mg base CX0 4 f fd ["place"] spParts := by
  obtain ⟨t_pa, c_pa⟩ := R.pa
  refine F.ok sc_parts (fun vs H Q E h' => ?_) (fun cdv A outer s H vs Q E hr h' => ?_)
  · obtain ⟨p, rfl, _⟩ := h'
    rfl
  · obtain ⟨p, rfl, hp, q⟩ := h'
    refine ⟨_, (pss_cons (ps_set (i := 1) sc_parts.nd rfl (Or.inl rfl) (pe_call GB hr (by rfl) B.m B.F.kp B.b .nil pass0 (pa_cons (pv 0) pa_nil))) (pss_one (ps_ret (pe_tup (pa_cons (pe_op op_fdiv (pv 1) (pe_glob (by rfl) c_pa (show RelV (.int 8) (.int 8 t_pa) from ⟨_, rfl⟩))) (pa_cons (pe_op op_mod (pv 1) (pe_glob (by rfl) c_pa (show RelV (.int 8) (.int 8 t_pa) from ⟨_, rfl⟩))) (pa_cons (pe_op op_mod (pv 0) (pe_glob (by rfl) c_pa (show RelV (.int 8) (.int 8 t_pa) from ⟨_, rfl⟩))) pa_nil))))))), ?_⟩
    refine ⟨_, rfl, p, rfl, hp, ?_⟩
    refine ⟨_, rfl, ((p / 8 : Nat) : Int), 8, rfl, rfl, ⟨by decide, by decide⟩, _, rfl, ((p / 8 : Nat) : Int), 8, rfl, rfl, (by show (0 : Int) < 8; decide), _, rfl, (p : Int), 8, rfl, rfl, (by show (0 : Int) < 8; decide), by show 3 ≤ sizeLine; decide, fun t ht => ?_⟩
    exact q t ht
end
end K25
end
section
namespace K25
open PySem L2
theorem pa_consK {X : Cx} {e : Expr} {es : List Expr} {te : TE} {t : TA} (h1 : PE X e te) (h2 : PA X es t) (hs : ∀ (l : List Expr) (env : Env), starEach (e :: l) env = (false, eval e env) :: starEach l env := by intro _ _; rfl) : PA X (e :: es) (tCons te t) := pa_cons h1 h2 (hs es X.env)
inductive Lk
  | fault (z : Str) (lv : Nat)
  | trail (p1 pg t l : Nat)
def lookN (ps : Pgs) (rt pl : Nat) (wr k : Bool) : Lk :=
  if 512 ≤ pl then .fault "far" 0 else if hasP ps (.int (rt : Int)) = false then .fault "beyond" 0 else
  match lackN ps (wordN ps rt (pl / 8 / 8)) wr k with
  | some z => .fault z 1
  | none => match lackN ps (wordN ps (wordN ps rt (pl / 8 / 8) / 256) (pl / 8 % 8)) wr k with
    | some z => .fault z 2
    | none => .trail (wordN ps rt (pl / 8 / 8) / 256) (wordN ps (wordN ps rt (pl / 8 / 8) / 256) (pl / 8 % 8) / 256) (wordN ps rt (pl / 8 / 8)) (wordN ps (wordN ps rt (pl / 8 / 8) / 256) (pl / 8 % 8))
def spLook (C SC PL FA : Addr) : Sp := fun vs H Q E => ∃ (a m h r q aw : Addr) (ps : Pgs) (n : Int) (rs : Rs) (bs : List Bool) (b : Int) (rt pl : Nat) (wr k : Bool), vs = [.ref a, .int rt, .int pl, .bl wr, .bl k] ∧ Way C SC PL H a m h r q aw ps n rs bs b ∧
  (∀ z lv, lookN ps rt pl wr k = .fault z lv → ∀ H', Same H H' → ExF FA E H' z pl lv) ∧
  ∀ p1 pg t l, lookN ps rt pl wr k = .trail p1 pg t l → ∀ (tt t1 t2 : Addr) (H' : Hp), Same H H' → H' tt = some (.tup [.ref t1, .ref t2, .int (pg : Int), .int ((rigN t l : Nat) : Int)]) → H' t1 = some (.tup [.int (rt : Int), .int ((pl / 8 / 8 : Nat) : Int)]) → H' t2 = some (.tup [.int (p1 : Int), .int ((pl / 8 % 8 : Nat) : Int)]) → Q (.ref tt) H'
theorem lack_has {ps : Pgs} {w : Nat} {wr k : Bool} (h : lackN ps w wr k = none) : hasP ps (.int ((w / 256 : Nat) : Int)) = true := by
  unfold lackN at h
  split at h
  · cases h
  · split at h
    · cases h
    · rename_i z
      cases hb : hasP ps (.int ((w / 256 : Nat) : Int)) with
      | true => rfl
      | false => exact absurd hb z
section
variable {P : Program} {w : World} {K : PySem.W.Frag} {mg : Str → Option Value} {base : Heap} {C NP NL NW NI SC PL WC FA : Addr}
theorem sc_crow : FnScope ["store", "row", "write", "kernel", "place", "level"] ["store", "row", "write", "kernel", "place", "level"] (defScope sCRow) := ⟨rfl, rfl, rfl, by decide +kernel, rfl, by decide +kernel, by decide +kernel⟩
theorem ok_crow {f f1 f2 f3 fI : Addr} {fd fd1 fd2 fd3 fdI : FuncData} (F : Fun K "check_row" "check_row" sCRow f fd) (Ba : Dn K mg "has" sRHas ["row", "marks"] f1 fd1) (GBa : FnOk P w K mg base CX0 1 f1 fd1 ["row", "marks"] spRHas) (Bp : Dn K mg "page_of" sPgOf ["row"] f2 fd2) (GBp : FnOk P w K mg base CX0 1 f2 fd2 ["row"] spPgOf) (M1 : Me K PL "has" "Plain.has" sPHas ["self", "page"] f3 fd3) (GM1 : FnOk P w K mg base CX0 4 f3 fd3 ["self", "page"] (spPHas C SC PL)) (FL : Flt K mg FA fI) (GF : FnOk P w K mg base CX0 1 fI fdI ["self", "kind", "place", "level"] (spXI FA 3 ffF)) (BF : Binds K fdI ["self", "kind", "place", "level"] []) (PC : Plc K PL) (R : Rws0 K mg) : FnOk P w K mg base (CXr P w) 5 f fd ["store", "row", "write", "kernel", "place", "level"] (spCRow C SC PL FA) := by
  obtain ⟨t_pr, c_pr⟩ := R.pr
  obtain ⟨t_ke, c_ke⟩ := R.ke
  obtain ⟨t_wr, c_wr⟩ := R.wr
  refine F.okR sc_crow (fun vs H Q E h' => ?_) (fun cdv A outer s H vs Q E hr h' => ?_)
  · obtain ⟨a, m, h, r, q, aw, ps, n, rs, bs, b, w0, wr, k, pl, lv, rfl, _⟩ := h'
    rfl
  · obtain ⟨a, m, h, r, q, aw, ps, n, rs, bs, b, w0, wr, k, pl, lv, rfl, W, q0, e⟩ := h'
    have hr2 : Room 2 _ := hr.mono (by decide)
    have hr1 : Room 1 _ := hr.mono (by decide)
    refine ⟨_, (pss_cons (ps_if (pt_not (pt_val (pe_call GBa hr1 (by rfl) Ba.m Ba.F.kp Ba.b .nil pass0 (pa_cons (pv 1) (pa_cons (pe_glob (by rfl) c_pr (show RelV (.int 1) (.int 1 t_pr) from ⟨_, rfl⟩)) pa_nil))))) (pss_one (ps_raiseI FL.ex FL.fn FL.m raisesGR rfl GF hr2 BF (by decide) (pa_cons pe_str (pa_cons (pv 4) (pa_cons (pv 5) pa_nil))))) pss_nil) (pss_cons (ps_if (pt_not (pt_val (pe_meth (pv 0) PC.cl M1.m GM1 hr M1.b .nil pass0 (pa_cons (pe_call GBp hr1 (by rfl) Bp.m Bp.F.kp Bp.b .nil pass0 (pa_cons (pv 1) pa_nil)) pa_nil)))) (pss_one (ps_raiseI FL.ex FL.fn FL.m raisesGR rfl GF hr2 BF (by decide) (pa_cons pe_str (pa_cons (pv 4) (pa_cons (pv 5) pa_nil))))) pss_nil) (pss_cons (ps_if (PW.pt (pw_and (pt_val (pe_call GBa hr1 (by rfl) Ba.m Ba.F.kp Ba.b .nil pass0 (pa_cons (pv 1) (pa_cons (pe_glob (by rfl) c_ke (show RelV (.int 4) (.int 4 t_ke) from ⟨_, rfl⟩)) pa_nil)))) (pw_and1 (pt_not (pt_val (pv 3)))))) (pss_one (ps_raiseI FL.ex FL.fn FL.m raisesGR rfl GF hr2 BF (by decide) (pa_cons pe_str (pa_cons (pv 4) (pa_cons (pv 5) pa_nil))))) pss_nil) (pss_one (ps_if (PW.pt (pw_and (pt_val (pv 2)) (pw_and1 (pt_not (pt_val (pe_call GBa hr1 (by rfl) Ba.m Ba.F.kp Ba.b .nil pass0 (pa_cons (pv 1) (pa_cons (pe_glob (by rfl) c_wr (show RelV (.int 2) (.int 2 t_wr) from ⟨_, rfl⟩)) pa_nil)))))))) (pss_one (ps_raiseI FL.ex FL.fn FL.m raisesGR rfl GF hr2 BF (by decide) (pa_cons pe_str (pa_cons (pv 4) (pa_cons (pv 5) pa_nil))))) pss_nil))))), ?_⟩
    obtain ⟨dx, fs, ha, wf⟩ := W.ob
    have L : lackN ps w0 wr k = (if hasN w0 1 = false then some ("absent" : Str) else if hasP ps (.int ((w0 / 256 : Nat) : Int)) = false then some ("beyond" : Str) else if (hasN w0 4 && !k) = true then some ("kernel" : Str) else if (wr && !hasN w0 2) = true then some ("fixed" : Str) else none) := rfl
    refine ⟨_, rfl, w0, 1, rfl, _, rfl, ?_⟩
    cases h1 : hasN w0 1 with
    | false => exact iteT ⟨_, rfl, _, rfl, rfl, fun d hd => e "absent" (by rw [L, h1]; rfl) d hd⟩
    | true =>
      refine iteF ⟨_, rfl, a, dx, fs, rfl, ha, wf.no _ (by decide +kernel) (by decide +kernel) (by decide +kernel) (by decide +kernel), _, rfl, w0, rfl, a, m, h, r, q, aw, ps, n, rs, bs, b, _, rfl, W, .int _, _, rfl, ?_⟩
      cases h2 : hasP ps (.int ((w0 / 256 : Nat) : Int)) with
      | false => exact iteT ⟨_, rfl, _, rfl, rfl, fun d hd => e "beyond" (by rw [L, h1, h2]; rfl) d hd⟩
      | true =>
        refine iteF ⟨_, rfl, w0, 4, rfl, _, rfl, ?_⟩
        cases h4 : hasN w0 4 with
        | true =>
          refine iteT ⟨_, rfl, _, rfl, ?_⟩
          cases k with
          | false => exact iteT ⟨_, rfl, _, rfl, rfl, fun d hd => e "kernel" (by rw [L, h1, h2, h4]; rfl) d hd⟩
          | true =>
            refine iteF ⟨_, rfl, _, rfl, ?_⟩
            cases wr with
            | false => exact iteF (q0 (by rw [L, h1, h2, h4]; rfl))
            | true =>
              refine iteT ⟨_, rfl, w0, 2, rfl, _, rfl, ?_⟩
              cases h5 : hasN w0 2 with
              | false => exact iteT ⟨_, rfl, _, rfl, rfl, fun d hd => e "fixed" (by rw [L, h1, h2, h4, h5]; rfl) d hd⟩
              | true => exact iteF (q0 (by rw [L, h1, h2, h4, h5]; rfl))
        | false =>
          refine iteF ⟨_, rfl, _, rfl, ?_⟩
          cases wr with
          | false => exact iteF (q0 (by rw [L, h1, h2, h4]; rfl))
          | true =>
            refine iteT ⟨_, rfl, w0, 2, rfl, _, rfl, ?_⟩
            cases h5 : hasN w0 2 with
            | false => exact iteT ⟨_, rfl, _, rfl, rfl, fun d hd => e "fixed" (by rw [L, h1, h2, h4, h5]; rfl) d hd⟩
            | true => exact iteF (q0 (by rw [L, h1, h2, h4, h5]; rfl))
theorem sc_look : FnScope ["store", "root", "place", "write", "kernel", "parts", "top", "top_row", "low", "low_row"] ["store", "root", "place", "write", "kernel"] (defScope sLook) := ⟨rfl, rfl, rfl, by decide +kernel, rfl, by decide +kernel, by decide +kernel⟩
theorem ok_look {f f1 f2 f3 f4 f5 f6 fI : Addr} {fd fd1 fd2 fd3 fd4 fd5 fd6 fdI : FuncData} (F : Fun K "look" "look" sLook f fd) (Bq : Dn K mg "parts_of" sParts ["place"] f1 fd1) (GBq : FnOk P w K mg base CX0 4 f1 fd1 ["place"] spParts) (Bp : Dn K mg "page_of" sPgOf ["row"] f2 fd2) (GBp : FnOk P w K mg base CX0 1 f2 fd2 ["row"] spPgOf) (Br : Dn K mg "rights_of" sRig ["top_row", "low_row"] f3 fd3) (GBr : FnOk P w K mg base CX0 1 f3 fd3 ["top_row", "low_row"] spRig) (M1 : Me K PL "has" "Plain.has" sPHas ["self", "page"] f4 fd4) (GM1 : FnOk P w K mg base CX0 4 f4 fd4 ["self", "page"] (spPHas C SC PL)) (M2 : Me K PL "read" "Store.read" sRead ["self", "page", "cell"] f5 fd5) (GM2 : FnOk P w K mg base (CXr P w) 7 f5 fd5 ["self", "page", "cell"] (spWRead C SC PL NP NL)) (Bc : Dn K mg "check_row" sCRow ["store", "row", "write", "kernel", "place", "level"] f6 fd6) (GBc : FnOk P w K mg base (CXr P w) 5 f6 fd6 ["store", "row", "write", "kernel", "place", "level"] (spCRow C SC PL FA)) (FL : Flt K mg FA fI) (GF : FnOk P w K mg base CX0 1 fI fdI ["self", "kind", "place", "level"] (spXI FA 3 ffF)) (BF : Binds K fdI ["self", "kind", "place", "level"] []) (PC : Plc K PL) (R : Rws0 K mg) : FnOk P w K mg base (CXr P w) 8 f fd ["store", "root", "place", "write", "kernel"] (spLook C SC PL FA) := by
  obtain ⟨t_pl, c_pl⟩ := R.pl
  refine F.okR sc_look (fun vs H Q E h' => ?_) (fun cdv A outer s H vs Q E hr h' => ?_)
  · obtain ⟨a, m, h, r, q, aw, ps, n, rs, bs, b, rt, pl, wr, k, rfl, _⟩ := h'
    rfl
  · obtain ⟨a, m, h, r, q, aw, ps, n, rs, bs, b, rt, pl, wr, k, rfl, W, e, q0⟩ := h'
    have hr5 : Room 5 _ := hr.mono (by decide)
    have hr4 : Room 4 _ := hr.mono (by decide)
    have hr2 : Room 2 _ := hr.mono (by decide)
    have hr1 : Room 1 _ := hr.mono (by decide)
    refine ⟨_, (pss_cons (ps_if (pt_cmpR op_ge (pv 2) (pe_glob (by rfl) c_pl (show RelV (.int 512) (.int 512 t_pl) from ⟨_, rfl⟩)) (nomark _)) (pss_one (ps_raiseI FL.ex FL.fn FL.m raisesGR rfl GF hr2 BF (by decide) (pa_cons pe_str (pa_cons (pv 2) (pa_cons pe_int pa_nil))))) pss_nil) (pss_cons (ps_if (pt_not (pt_val (pe_meth (pv 0) PC.cl M1.m GM1 hr4 M1.b .nil pass0 (pa_cons (pv 1) pa_nil)))) (pss_one (ps_raiseI FL.ex FL.fn FL.m raisesGR rfl GF hr2 BF (by decide) (pa_cons pe_str (pa_cons (pv 2) (pa_cons pe_int pa_nil))))) pss_nil) (pss_cons (ps_set (i := 5) sc_look.nd rfl (Or.inl rfl) (pe_call GBq hr4 (by rfl) Bq.m Bq.F.kp Bq.b .nil pass0 (pa_cons (pv 2) pa_nil))) (pss_cons (ps_set (i := 6) sc_look.nd rfl (Or.inl rfl) (pe_tup (pa_cons (pv 1) (pa_cons (pe_ix ix_tup (pv 5) pe_int (fun _ _ => rfl)) pa_nil)))) (pss_cons (ps_set (i := 7) sc_look.nd rfl (Or.inl rfl) (pe_meth (pv 0) PC.cl M2.m GM2 hr M2.b .nil passR (pa_cons (pe_ix ix_tup (pv 6) pe_int (fun _ _ => rfl)) (pa_cons (pe_ix ix_tup (pv 6) pe_int (fun _ _ => rfl)) pa_nil)))) (pss_cons (ps_expr (pe_call GBc hr5 (by rfl) Bc.m Bc.F.kp Bc.b .nil passR (pa_cons (pv 0) (pa_cons (pv 7) (pa_cons (pv 3) (pa_cons (pv 4) (pa_cons (pv 2) (pa_cons pe_int pa_nil)))))))) (pss_cons (ps_set (i := 8) sc_look.nd rfl (Or.inl rfl) (pe_tup (pa_cons (pe_call GBp hr1 (by rfl) Bp.m Bp.F.kp Bp.b .nil pass0 (pa_cons (pv 7) pa_nil)) (pa_cons (pe_ix ix_tup (pv 5) pe_int (fun _ _ => rfl)) pa_nil)))) (pss_cons (ps_set (i := 9) sc_look.nd rfl (Or.inl rfl) (pe_meth (pv 0) PC.cl M2.m GM2 hr M2.b .nil passR (pa_cons (pe_ix ix_tup (pv 8) pe_int (fun _ _ => rfl)) (pa_cons (pe_ix ix_tup (pv 8) pe_int (fun _ _ => rfl)) pa_nil)))) (pss_cons (ps_expr (pe_call GBc hr5 (by rfl) Bc.m Bc.F.kp Bc.b .nil passR (pa_cons (pv 0) (pa_cons (pv 9) (pa_cons (pv 3) (pa_cons (pv 4) (pa_cons (pv 2) (pa_cons pe_int pa_nil)))))))) (pss_one (ps_ret (pe_tup (pa_consK (pv 6) (pa_consK (pv 8) (pa_consK (pe_call GBp hr1 (by rfl) Bp.m Bp.F.kp Bp.b .nil pass0 (pa_cons (pv 9) pa_nil)) (pa_consK (pe_call GBr hr1 (by rfl) Br.m Br.F.kp Br.b .nil pass0 (pa_cons (pv 7) (pa_cons (pv 9) pa_nil))) pa_nil)))))))))))))))), ?_⟩
    obtain ⟨dx, fs, ha, wf⟩ := W.ob
    have L : lookN ps rt pl wr k = (if 512 ≤ pl then .fault "far" 0 else if hasP ps (.int (rt : Int)) = false then .fault "beyond" 0 else match lackN ps (wordN ps rt (pl / 8 / 8)) wr k with | some z => .fault z 1 | none => match lackN ps (wordN ps (wordN ps rt (pl / 8 / 8) / 256) (pl / 8 % 8)) wr k with | some z => .fault z 2 | none => .trail (wordN ps rt (pl / 8 / 8) / 256) (wordN ps (wordN ps rt (pl / 8 / 8) / 256) (pl / 8 % 8) / 256) (wordN ps rt (pl / 8 / 8)) (wordN ps (wordN ps rt (pl / 8 / 8) / 256) (pl / 8 % 8))) := rfl
    refine ⟨_, rfl, (pl : Int), 512, rfl, rfl, _, rfl, ite2 (fun z => ?_) (fun z => ?_)⟩
    · have z' : (pl : Int) ≥ 512 := of_decide_eq_true z
      exact ⟨_, rfl, rfl, fun d hd => e "far" 0 (by rw [L, if_pos (by omega)]) H (Same.refl _) d hd⟩
    have hp : pl < 512 := by
      have : ¬ ((pl : Int) ≥ 512) := fun y => z (decide_eq_true y)
      omega
    refine ⟨_, rfl, a, dx, fs, rfl, ha, wf.no _ (by decide +kernel) (by decide +kernel) (by decide +kernel) (by decide +kernel), _, rfl, a, m, h, r, q, aw, ps, n, rs, bs, b, _, rfl, W, .int _, _, rfl, ?_⟩
    cases hr0 : hasP ps (.int (rt : Int)) with
    | false => exact iteT ⟨_, rfl, rfl, fun d hd => e "beyond" 0 (by rw [L, if_neg (by omega), if_pos hr0]) H (Same.refl _) d hd⟩
    | true =>
    refine iteF ⟨_, rfl, pl, rfl, hp, fun t0 ht0 => ?_⟩
    have L2 := L
    rw [if_neg (by omega), if_neg (by rw [hr0]; decide)] at L2
    have s0 := same_new (o := .tup [.int ((pl / 8 / 8 : Nat) : Int), .int ((pl / 8 % 8 : Nat) : Int), .int ((pl % 8 : Nat) : Int)]) ht0
    have z0 : upd H t0 (.tup [.int ((pl / 8 / 8 : Nat) : Int), .int ((pl / 8 % 8 : Nat) : Int), .int ((pl % 8 : Nat) : Int)]) t0 = some (.tup [.int ((pl / 8 / 8 : Nat) : Int), .int ((pl / 8 % 8 : Nat) : Int), .int ((pl % 8 : Nat) : Int)]) := upd_same
    generalize upd H t0 (.tup [.int ((pl / 8 / 8 : Nat) : Int), .int ((pl / 8 % 8 : Nat) : Int), .int ((pl % 8 : Nat) : Int)]) = H0 at *
    refine ⟨_, rfl, _, rfl, t0, _, _, _, rfl, rfl, SqT.of z0, rfl, by show 2 ≤ sizeLine; decide, fun t1 ht1 => ?_⟩
    have s1 := s0.trans (same_new (o := .tup [.int (rt : Int), .int ((pl / 8 / 8 : Nat) : Int)]) ht1)
    have z1 : upd H0 t1 (.tup [.int (rt : Int), .int ((pl / 8 / 8 : Nat) : Int)]) t1 = some (.tup [.int (rt : Int), .int ((pl / 8 / 8 : Nat) : Int)]) := upd_same
    have z01 : upd H0 t1 (.tup [.int (rt : Int), .int ((pl / 8 / 8 : Nat) : Int)]) t0 = some (.tup [.int ((pl / 8 / 8 : Nat) : Int), .int ((pl / 8 % 8 : Nat) : Int), .int ((pl % 8 : Nat) : Int)]) := same_new ht1 _ _ z0
    generalize upd H0 t1 (.tup [.int (rt : Int), .int ((pl / 8 / 8 : Nat) : Int)]) = H1 at *
    have W1 := W.same s1
    obtain ⟨dx, fs, ha, wf⟩ := W1.ob
    refine ⟨_, rfl, a, dx, fs, rfl, ha, wf.no _ (by decide +kernel) (by decide +kernel) (by decide +kernel) (by decide +kernel), _, rfl, t1, _, _, _, rfl, rfl, SqT.of z1, rfl, _, rfl, t1, _, _, _, rfl, rfl, SqT.of z1, rfl, a, m, h, r, q, aw, ps, n, rs, bs, b, _, _, rfl, W1, .int _, .int _, fun i j p ws e1 e2 e3 hj => ?_, fun y => absurd (hr0.symm.trans y) (by decide), fun _ y => absurd ((below_of (by omega) (by omega)).symm.trans y) (by decide)⟩
    obtain rfl : rt = i := by have := V.int.inj e1; omega
    obtain rfl : pl / 8 / 8 = j := by have := V.int.inj e2; omega
    have wp := W.M.good _ _ _ e3
    have w0n : 0 ≤ ws.getD (pl / 8 / 8) 0 := (wp.2 _ (by rw [List.getD_eq_getElem?_getD, List.getElem?_eq_getElem (by omega)]; exact List.getElem_mem _)).1
    rw [wordN_of e3 w0n]
    generalize hT : wordN ps rt (pl / 8 / 8) = T0 at *
    refine ⟨_, rfl, _, rfl, _, rfl, _, rfl, _, rfl, a, m, h, r, q, aw, ps, n, rs, bs, b, T0, wr, k, pl, 1, rfl, W1, fun hn => ?_, fun zz hz d hd => e zz 1 (by rw [L2, hz]) H1 s1 d hd⟩
    rw [hn] at L2
    refine ⟨_, rfl, T0, rfl, _, rfl, t0, _, _, _, rfl, rfl, SqT.of z01, rfl, by show 2 ≤ sizeLine; decide, fun t2 ht2 => ?_⟩
    have s2' := same_new (o := .tup [.int ((T0 / 256 : Nat) : Int), .int ((pl / 8 % 8 : Nat) : Int)]) ht2
    have s2 := s1.trans s2'
    have z2 : upd H1 t2 (.tup [.int ((T0 / 256 : Nat) : Int), .int ((pl / 8 % 8 : Nat) : Int)]) t2 = some (.tup [.int ((T0 / 256 : Nat) : Int), .int ((pl / 8 % 8 : Nat) : Int)]) := upd_same
    have z12 := s2' _ _ z1
    generalize upd H1 t2 (.tup [.int ((T0 / 256 : Nat) : Int), .int ((pl / 8 % 8 : Nat) : Int)]) = H2 at *
    have W2 := W.same s2
    obtain ⟨dx, fs, ha, wf⟩ := W2.ob
    have hh := lack_has hn
    refine ⟨_, rfl, a, dx, fs, rfl, ha, wf.no _ (by decide +kernel) (by decide +kernel) (by decide +kernel) (by decide +kernel), _, rfl, t2, _, _, _, rfl, rfl, SqT.of z2, rfl, _, rfl, t2, _, _, _, rfl, rfl, SqT.of z2, rfl, a, m, h, r, q, aw, ps, n, rs, bs, b, _, _, rfl, W2, .int _, .int _, fun i j p2 ws2 e1 e2 e4 hj2 => ?_, fun y => absurd (hh.symm.trans y) (by decide), fun _ y => absurd ((below_of (by omega) (by omega)).symm.trans y) (by decide)⟩
    obtain rfl : T0 / 256 = i := by have := V.int.inj e1; omega
    obtain rfl : pl / 8 % 8 = j := by have := V.int.inj e2; omega
    have wp2 := W.M.good _ _ _ e4
    have w2n : 0 ≤ ws2.getD (pl / 8 % 8) 0 := (wp2.2 _ (by rw [List.getD_eq_getElem?_getD, List.getElem?_eq_getElem (by omega)]; exact List.getElem_mem _)).1
    rw [wordN_of e4 w2n]
    generalize hL : wordN ps (T0 / 256) (pl / 8 % 8) = L0 at *
    refine ⟨_, rfl, _, rfl, _, rfl, _, rfl, _, rfl, a, m, h, r, q, aw, ps, n, rs, bs, b, L0, wr, k, pl, 2, rfl, W2, fun hn2 => ?_, fun zz hz d hd => e zz 2 (by rw [L2, hz]) H2 s2 d hd⟩
    rw [hn2] at L2
    refine ⟨_, rfl, _, rfl, _, rfl, L0, rfl, _, rfl, _, rfl, T0, L0, rfl, by show 4 ≤ sizeLine; decide, fun tt htt => ?_⟩
    have s3 := same_new (o := .tup [.ref t1, .ref t2, .int ((L0 / 256 : Nat) : Int), .int ((rigN T0 L0 : Nat) : Int)]) htt
    exact q0 _ _ _ _ L2 tt t1 t2 _ (s2.trans s3) upd_same (s3 _ _ z12) (s3 _ _ z2)
end
end K25
end
section
namespace K25
open PySem L2
abbrev sPutM : Stmt := top 45
abbrev sMark : Stmt := top 44
theorem or_of_and {w m : Nat} (h : w &&& m = m) : w ||| m = w := by
  refine Nat.eq_of_testBit_eq fun k => ?_
  have z := congrArg (fun x => x.testBit k) h
  simp only [Nat.testBit_and] at z
  rw [Nat.testBit_or]
  cases hw : w.testBit k <;> cases hm : m.testBit k <;> simp_all
def Kpt (h : Addr) (ps : Pgs) (H H' : Hp) : Prop := ∀ b o, ¬ At h ps b → H b = some o → H' b = some o
theorem Kpt.trans {h : Addr} {ps ps1 : Pgs} {H H1 H2 : Hp} (x : Kpt h ps H H1) (y : Kpt h ps1 H1 H2) (e : ∀ b, At h ps1 b → At h ps b) : Kpt h ps H H2 := fun b o n z => y b o (fun w => n (e b w)) (x b o n z)
theorem setW_self {ps : Pgs} {i j : Nat} {p : Addr} {ws : List Int} (e : ps[i]? = some (some (p, ws))) (hj : j < ws.length) : setW ps i j (ws.getD j 0) = ps := by
  rw [setW_at e]
  have e2 : ws.set j (ws.getD j 0) = ws := by
    refine List.ext_getElem? fun k => ?_
    by_cases hk : j = k
    · subst hk
      rw [List.getElem?_set_self hj, List.getD_eq_getElem?_getD, List.getElem?_eq_getElem hj]
      rfl
    · rw [List.getElem?_set_ne hk]
  rw [e2]
  refine List.ext_getElem? fun k => ?_
  by_cases hk : i = k
  · subst hk
    rw [List.getElem?_set_self (List.getElem?_eq_some_iff.mp e).1, e]
  · rw [List.getElem?_set_ne hk]
theorem or_lt {w m : Nat} (h : w < 281474976710656) (hm : m < 256) : w ||| m < 281474976710656 := by
  have : w ||| m < 2 ^ 48 := Nat.or_lt_two_pow (by omega) (by omega)
  omega
def mkN (ps : Pgs) (i j m : Nat) : Pgs := setW ps i j ((wordN ps i j ||| m : Nat) : Int)
def spPutM (C SC PL : Addr) : Sp := fun vs H Q _ => ∃ (a m h r q aw : Addr) (ps : Pgs) (n : Int) (rs : Rs) (bs : List Bool) (b : Int) (t : Addr) (i j mk : Nat), vs = [.ref a, .ref t, .int mk] ∧ Way C SC PL H a m h r q aw ps n rs bs b ∧ H t = some (.tup [.int (i : Int), .int (j : Int)]) ∧ hasP ps (.int (i : Int)) = true ∧ j < 8 ∧ mk < 256 ∧ ∀ H', Way C SC PL H' a m h r q aw (mkN ps i j mk) n rs bs b → Kpt h ps H H' → Q .non H'
def spMark (C SC PL : Addr) : Sp := fun vs H Q _ => ∃ (a m h r q aw : Addr) (ps : Pgs) (n : Int) (rs : Rs) (bs : List Bool) (b : Int) (tt t1 t2 : Addr) (i j i1 j1 pg rg : Nat) (wr : Bool), vs = [.ref a, .ref tt, .bl wr] ∧ Way C SC PL H a m h r q aw ps n rs bs b ∧ H tt = some (.tup [.ref t1, .ref t2, .int (pg : Int), .int (rg : Int)]) ∧ H t1 = some (.tup [.int (i : Int), .int (j : Int)]) ∧ H t2 = some (.tup [.int (i1 : Int), .int (j1 : Int)]) ∧ hasP ps (.int (i : Int)) = true ∧ hasP ps (.int (i1 : Int)) = true ∧ j < 8 ∧ j1 < 8 ∧
  ∀ H', Way C SC PL H' a m h r q aw (mkN (mkN ps i j 8) i1 j1 (if wr then 24 else 8)) n rs bs b → Kpt h ps H H' → Q (.int (((if wr then rg ||| 16 else rg : Nat)) : Int)) H'
theorem hasP_mkN {ps : Pgs} {i j m : Nat} (x : Nat) : hasP (mkN ps i j m) (.int (x : Int)) = hasP ps (.int (x : Int)) := by
  unfold mkN
  simp only [hasP, setW_len]
  congr 1
  exact there_setW _
section
variable {P : Program} {w : World} {K : PySem.W.Frag} {mg : Str → Option Value} {base : Heap} {C NP NL NW NI SC PL WC FA : Addr}
theorem sc_putm : FnScope ["store", "spot", "marks", "row"] ["store", "spot", "marks"] (defScope sPutM) := ⟨rfl, rfl, rfl, by decide +kernel, rfl, by decide +kernel, by decide +kernel⟩
theorem ok_putm {f f1 f2 f3 f4 : Addr} {fd fd1 fd2 fd3 fd4 : FuncData} (F : Fun K "put_marks" "put_marks" sPutM f fd) (Ba : Dn K mg "has" sRHas ["row", "marks"] f1 fd1) (GBa : FnOk P w K mg base CX0 1 f1 fd1 ["row", "marks"] spRHas) (Bb : Dn K mg "put" sRPut ["row", "marks"] f2 fd2) (GBb : FnOk P w K mg base CX0 1 f2 fd2 ["row", "marks"] spRPut) (M1 : Me K PL "read" "Store.read" sRead ["self", "page", "cell"] f3 fd3) (GM1 : FnOk P w K mg base (CXr P w) 7 f3 fd3 ["self", "page", "cell"] (spWRead C SC PL NP NL)) (M2 : Me K PL "write" "Store.write" sWrite ["self", "page", "cell", "word"] f4 fd4) (GM2 : FnOk P w K mg base (CXr P w) 7 f4 fd4 ["self", "page", "cell", "word"] (spWWrite C SC PL NP NL NW)) (PC : Plc K PL) (R : Rws0 K mg) : FnOk P w K mg base CX0 8 f fd ["store", "spot", "marks"] (spPutM C SC PL) := by
  refine F.ok sc_putm (fun vs H Q E h' => ?_) (fun cdv A outer s H vs Q E hr h' => ?_)
  · obtain ⟨a, m, h, r, q, aw, ps, n, rs, bs, b, t, i, j, mk, rfl, _⟩ := h'
    rfl
  · obtain ⟨a, m, h, r, q, aw, ps, n, rs, bs, b, t, i, j, mk, rfl, W, zt, hh, hj, hmk, q0⟩ := h'
    have hr1 : Room 1 _ := hr.mono (by decide)
    refine ⟨_, (pss_cons (ps_set (i := 3) sc_putm.nd rfl (Or.inl rfl) (pe_meth (pv 0) PC.cl M1.m GM1 hr M1.b .nil passX0 (pa_cons (pe_ix ix_tup (pv 1) pe_int (fun _ _ => rfl)) (pa_cons (pe_ix ix_tup (pv 1) pe_int (fun _ _ => rfl)) pa_nil)))) (pss_one (ps_if (pt_not (pt_val (pe_call GBa hr1 (by rfl) Ba.m Ba.F.kp Ba.b .nil pass0 (pa_cons (pv 3) (pa_cons (pv 2) pa_nil))))) (pss_one (ps_expr (pe_meth (pv 0) PC.cl M2.m GM2 hr M2.b .nil passX0 (pa_cons (pe_ix ix_tup (pv 1) pe_int (fun _ _ => rfl)) (pa_cons (pe_ix ix_tup (pv 1) pe_int (fun _ _ => rfl)) (pa_cons (pe_call GBb hr1 (by rfl) Bb.m Bb.F.kp Bb.b .nil pass0 (pa_cons (pv 3) (pa_cons (pv 2) pa_nil))) pa_nil)))))) pss_nil))), ?_⟩
    obtain ⟨dx, fs, ha, wf⟩ := W.ob
    obtain ⟨i', p, ws, ei, ep⟩ := hasP_int hh
    obtain rfl : i = i' := by have := V.int.inj ei; omega
    have good := W.M.good _ _ _ ep
    have hjl : j < ws.length := by omega
    have hmem : ws.getD j 0 ∈ ws := by rw [List.getD_eq_getElem?_getD, List.getElem?_eq_getElem hjl]; exact List.getElem_mem _
    have wb := good.2 _ hmem
    have ew := wordN_of (j := j) ep wb.1
    have wlt : wordN ps i j < 281474976710656 := by have := wb.2; rw [ew] at this; omega
    refine ⟨_, rfl, a, dx, fs, rfl, ha, wf.no _ (by decide +kernel) (by decide +kernel) (by decide +kernel) (by decide +kernel), _, rfl, t, _, _, _, rfl, rfl, SqT.of zt, rfl, _, rfl, t, _, _, _, rfl, rfl, SqT.of zt, rfl, a, m, h, r, q, aw, ps, n, rs, bs, b, _, _, rfl, W, .int _, .int _, fun i2 j2 p2 ws2 e1 e2 e3 hj2 => ?_, fun y => absurd (hh.symm.trans y) (by decide), fun _ y => absurd ((below_of (by omega) (by omega)).symm.trans y) (by decide)⟩
    obtain rfl : i = i2 := by have := V.int.inj e1; omega
    obtain rfl : j = j2 := by have := V.int.inj e2; omega
    obtain ⟨rfl, rfl⟩ : p = p2 ∧ ws = ws2 := by have := Option.some.inj (ep.symm.trans e3); cases this; exact ⟨rfl, rfl⟩
    rw [ew]
    refine ⟨_, rfl, _, rfl, wordN ps i j, mk, rfl, _, rfl, ?_⟩
    cases hm : hasN (wordN ps i j) mk with
    | true =>
      refine iteF (q0 H ?_ fun b o _ z => z)
      have eq : mkN ps i j mk = ps := by
        unfold mkN
        rw [or_of_and (of_decide_eq_true hm), ← ew]
        exact setW_self ep hjl
      rw [eq]
      exact W
    | false =>
      refine iteT ⟨_, rfl, a, dx, fs, rfl, ha, wf.no _ (by decide +kernel) (by decide +kernel) (by decide +kernel) (by decide +kernel), _, rfl, t, _, _, _, rfl, rfl, SqT.of zt, rfl, _, rfl, t, _, _, _, rfl, rfl, SqT.of zt, rfl, _, rfl, _, rfl, wordN ps i j, mk, rfl, a, m, h, r, q, aw, ps, n, rs, bs, b, _, _, _, rfl, W, .int _, .int _, .int _, fun i2 j2 v2 p2 ws2 e1 e2 e4 e3 hj2 v0 v1 => ?_, fun y => absurd (hh.symm.trans y) (by decide), fun _ y => absurd ((below_of (by omega) (by omega)).symm.trans y) (by decide), fun _ _ y => absurd ((below_of (by omega) (by have := or_lt wlt hmk; omega)).symm.trans y) (by decide)⟩
      obtain rfl : i = i2 := by have := V.int.inj e1; omega
      obtain rfl : j = j2 := by have := V.int.inj e2; omega
      obtain ⟨rfl, rfl⟩ : p = p2 ∧ ws = ws2 := by have := Option.some.inj (ep.symm.trans e3); cases this; exact ⟨rfl, rfl⟩
      cases e4
      exact q0 _ (W.setW ep v0 v1) fun b o nb z => by rw [upd_ne (show b ≠ p from fun y => nb (y ▸ .inr ⟨i, ws, ep⟩))]; exact z
theorem sc_mark : FnScope ["store", "trail", "write"] ["store", "trail", "write"] (defScope sMark) := ⟨rfl, rfl, rfl, by decide +kernel, rfl, by decide +kernel, by decide +kernel⟩
theorem ok_mark {f f1 f2 : Addr} {fd fd1 fd2 : FuncData} (F : Fun K "mark" "mark" sMark f fd) (Bm : Dn K mg "put_marks" sPutM ["store", "spot", "marks"] f1 fd1) (GBm : FnOk P w K mg base CX0 8 f1 fd1 ["store", "spot", "marks"] (spPutM C SC PL)) (Bb : Dn K mg "put" sRPut ["row", "marks"] f2 fd2) (GBb : FnOk P w K mg base CX0 1 f2 fd2 ["row", "marks"] spRPut) (R : Rws0 K mg) : FnOk P w K mg base CX0 9 f fd ["store", "trail", "write"] (spMark C SC PL) := by
  obtain ⟨t_to, c_to⟩ := R.to
  obtain ⟨t_so, c_so⟩ := R.so
  refine F.ok sc_mark (fun vs H Q E h' => ?_) (fun cdv A outer s H vs Q E hr h' => ?_)
  · obtain ⟨a, m, h, r, q, aw, ps, n, rs, bs, b, tt, t1, t2, i, j, i1, j1, pg, rg, wr, rfl, _⟩ := h'
    rfl
  · obtain ⟨a, m, h, r, q, aw, ps, n, rs, bs, b, tt, t1, t2, i, j, i1, j1, pg, rg, wr, rfl, W, zt, z1, z2, hh, hh1, hj, hj1, q0⟩ := h'
    have hr1 : Room 1 _ := hr.mono (by decide)
    refine ⟨_, (pss_cons (ps_expr (pe_call GBm hr (by rfl) Bm.m Bm.F.kp Bm.b .nil pass0 (pa_cons (pv 0) (pa_cons (pe_ix ix_tup (pv 1) pe_int (fun _ _ => rfl)) (pa_cons (pe_glob (by rfl) c_to (show RelV (.int 8) (.int 8 t_to) from ⟨_, rfl⟩)) pa_nil))))) (pss_cons (ps_expr (pe_call GBm hr (by rfl) Bm.m Bm.F.kp Bm.b .nil pass0 (pa_cons (pv 0) (pa_cons (pe_ix ix_tup (pv 1) pe_int (fun _ _ => rfl)) (pa_cons (pe_ifExp (pt_val (pv 2)) (pe_call GBb hr1 (by rfl) Bb.m Bb.F.kp Bb.b .nil pass0 (pa_cons (pe_glob (by rfl) c_to (show RelV (.int 8) (.int 8 t_to) from ⟨_, rfl⟩)) (pa_cons (pe_glob (by rfl) c_so (show RelV (.int 16) (.int 16 t_so) from ⟨_, rfl⟩)) pa_nil))) (pe_glob (by rfl) c_to (show RelV (.int 8) (.int 8 t_to) from ⟨_, rfl⟩))) pa_nil))))) (pss_one (ps_ret (pe_ifExp (pt_val (pv 2)) (pe_call GBb hr1 (by rfl) Bb.m Bb.F.kp Bb.b .nil pass0 (pa_cons (pe_ix ix_tup (pv 1) pe_int (fun _ _ => rfl)) (pa_cons (pe_glob (by rfl) c_so (show RelV (.int 16) (.int 16 t_so) from ⟨_, rfl⟩)) pa_nil))) (pe_ix ix_tup (pv 1) pe_int (fun _ _ => rfl))))))), ?_⟩
    obtain ⟨dx, fs, ha, wf⟩ := W.ob
    refine ⟨_, rfl, _, rfl, tt, _, _, _, rfl, rfl, SqT.of zt, rfl, a, m, h, r, q, aw, ps, n, rs, bs, b, t1, i, j, 8, rfl, W, z1, hh, hj, by decide, fun H1 W1 k1 => ?_⟩
    have e1 : ∀ b, At h (mkN ps i j 8) b → At h ps b := fun b y => y.setW
    have nt : ∀ t xs, H t = some (.tup xs) → ¬ At h ps t := fun t xs y z => by
      rcases z with z | ⟨k, ws, z⟩
      · have := W.M.pg.top; rw [← z, y] at this; cases this
      · have := (W.M.pg.each k t ws z).1; rw [y] at this; cases this
    have y0 := k1 _ _ (nt _ _ zt) zt
    have y2 := k1 _ _ (nt _ _ z2) z2
    have hh2 : hasP (mkN ps i j 8) (.int (i1 : Int)) = true := by rw [hasP_mkN]; exact hh1
    have fin : ∀ (mk : Nat) (H2 : Hp), Way C SC PL H2 a m h r q aw (mkN (mkN ps i j 8) i1 j1 mk) n rs bs b → Kpt h (mkN ps i j 8) H1 H2 → H2 tt = some (.tup [.ref t1, .ref t2, .int (pg : Int), .int (rg : Int)]) ∧ Kpt h ps H H2 := fun mk H2 W2 k2 => ⟨k2 _ _ (fun z => nt _ _ zt (e1 _ z)) y0, k1.trans k2 e1⟩
    cases wr with
    | true =>
      refine ⟨_, rfl, _, rfl, tt, _, _, _, rfl, rfl, SqT.of y0, rfl, _, rfl, _, rfl, iteT ⟨8, 16, rfl, a, m, h, r, q, aw, mkN ps i j 8, n, rs, bs, b, t2, i1, j1, 24, rfl, W1, y2, hh2, hj1, by decide, fun H2 W2 k2 => ?_⟩⟩
      obtain ⟨y3, k3⟩ := fin 24 H2 W2 k2
      exact ⟨_, rfl, _, rfl, iteT ⟨_, rfl, tt, _, _, _, rfl, rfl, SqT.of y3, rfl, rg, 16, rfl, q0 H2 W2 k3⟩⟩
    | false =>
      refine ⟨_, rfl, _, rfl, tt, _, _, _, rfl, rfl, SqT.of y0, rfl, _, rfl, _, rfl, iteF ⟨a, m, h, r, q, aw, mkN ps i j 8, n, rs, bs, b, t2, i1, j1, 8, rfl, W1, y2, hh2, hj1, by decide, fun H2 W2 k2 => ?_⟩⟩
      obtain ⟨y3, k3⟩ := fin 8 H2 W2 k2
      exact ⟨_, rfl, _, rfl, iteF ⟨_, rfl, tt, _, _, _, rfl, rfl, SqT.of y3, rfl, q0 H2 W2 k3⟩⟩
end
end K25
end
section
namespace K25
open PySem L2
abbrev sSeek : Stmt := inClass (top 24) 1
abbrev sKeep : Stmt := inClass (top 24) 2
abbrev sSDrop : Stmt := inClass (top 24) 3
abbrev sEmpty : Stmt := inClass (top 24) 4
def spSeek (C : Addr) : Sp := fun vs H Q _ => ∃ (m q : Addr) (n : Int) (rs : Rs) (k : Int), vs = [.ref m, .int k] ∧ Sh C H m q n rs ∧ (lookR rs k = none → Q .non H) ∧ ∀ (p r : Int) (t : Addr), lookR rs k = some (p, r) → H t = some (.tup [.int p, .int r]) → Q (.ref t) H
def spSDrop (C : Addr) : Sp := fun vs H Q _ => ∃ (m q : Addr) (n : Int) (rs : Rs) (k : Int), vs = [.ref m, .int k] ∧ Sh C H m q n rs ∧ ∀ H', But q H H' → Sh C H' m q n (delR rs k) → Q (.bl (lookR rs k).isSome) H'
def spKeep (C : Addr) : Sp := fun vs H Q _ => ∃ (m q : Addr) (n : Int) (rs : Rs) (k p r : Int), vs = [.ref m, .int k, .int p, .int r] ∧ Sh C H m q n rs ∧ rs.length ≤ 12 ∧ ∀ H', But q H H' → Sh C H' m q n (keepR n rs (k, p, r)).1 → Q (oV (keepR n rs (k, p, r)).2) H'
def spEmpty (C : Addr) : Sp := fun vs H Q _ => ∃ (m q : Addr) (n : Int) (rs : Rs), vs = [.ref m] ∧ Sh C H m q n rs ∧ ∀ (q' : Addr) (H' : Hp), But m H H' → H q' = none → Sh C H' m q' n [] → Q .non H'
section
variable {P : Program} {w : World} {K : PySem.W.Frag} {mg : Str → Option Value} {base : Heap} {C : Addr}
theorem scSe : FnScope ["self", "number"] ["self", "number"] (defScope sSeek) := ⟨rfl, rfl, rfl, by decide +kernel, rfl, by decide +kernel, by decide +kernel⟩
theorem ok_seek {f : Addr} {fd : FuncData} (F : Fun K "seek" "Shelf.seek" sSeek f fd) (S : Shf K mg C) : FnOk P w K mg base CX0 1 f fd ["self", "number"] (spSeek C) := by
  refine F.ok scSe (fun vs H Q E h => ?_) (fun cdv A outer s H vs Q E hr h => ?_)
  · obtain ⟨m, q, n, rs, k, rfl, _⟩ := h
    rfl
  · obtain ⟨m, q, n, rs, k, rfl, W, q0, q1⟩ := h
    obtain ⟨dx, fs, hm, fo⟩ := W.ob
    obtain ⟨kvs, hq, rw⟩ := W.se
    refine ⟨_, pss_one (ps_ret (pe_dget1 (hu_of hr) (pe_fld (pv 0) rfl) (pv 1) ⟨rfl, rfl, rfl, rfl⟩)), ?_⟩
    refine ⟨_, rfl, m, C, dx, fs, _, rfl, hm, S.cl, S.ns, fo.seats, q, rfl, .inl ⟨kvs, .of hq⟩, _, rfl, _, DGet.k (k := Sum.inl k) hq, ?_⟩
    rcases rw.look k with ⟨e1, e2⟩ | ⟨p, r, t, e1, e2, e3⟩
    · rw [e2]
      exact q0 e1
    · rw [e2]
      exact q1 p r t e1 e3
theorem scDr : FnScope ["self", "number"] ["self", "number"] (defScope sSDrop) := ⟨rfl, rfl, rfl, by decide +kernel, rfl, by decide +kernel, by decide +kernel⟩
theorem ok_sdrop {f : Addr} {fd : FuncData} (F : Fun K "drop" "Shelf.drop" sSDrop f fd) (S : Shf K mg C) : FnOk P w K mg base CX0 1 f fd ["self", "number"] (spSDrop C) := by
  refine F.ok scDr (fun vs H Q E h => ?_) (fun cdv A outer s H vs Q E hr h => ?_)
  · obtain ⟨m, q, n, rs, k, rfl, _⟩ := h
    rfl
  · obtain ⟨m, q, n, rs, k, rfl, W, qq⟩ := h
    obtain ⟨dx, fs, hm, fo⟩ := W.ob
    obtain ⟨kvs, hq, rw⟩ := W.se
    refine ⟨_, pss_cons (ps_if (pt_cmp (pc_dnotin (hu_of hr) (pv 1) (pe_fld (pv 0) rfl))) (pss_one (ps_ret pe_bl)) pss_nil) (pss_cons (ps_expr (pe_dpop1 (pe_fld (pv 0) rfl) (pv 1) ⟨rfl, rfl, rfl, rfl⟩)) (pss_one (ps_ret pe_bl))), ?_⟩
    refine ⟨_, rfl, _, rfl, m, C, dx, fs, _, rfl, hm, S.cl, S.ns, fo.seats, q, _, rfl, DGet.k (k := Sum.inl k) hq, _, rfl, ?_⟩
    rcases rw.look k with ⟨e1, e2⟩ | ⟨p, r, t, e1, e2, e3⟩
    · rw [e2]
      refine iteT ?_
      have z := qq H (fun b o _ e => e) (by rw [delR_no e1]; exact W)
      rw [e1] at z
      exact z
    · rw [e2]
      refine iteF ?_
      refine ⟨_, rfl, m, C, dx, fs, _, rfl, hm, S.cl, S.ns, fo.seats, q, rfl, .inl ⟨kvs, .of hq⟩, _, rfl, kvs, Sum.inl k, _, hq, rfl, e2, ?_⟩
      have z := qq _ But.upd (W.seat (rw.del k) (delR_nd W.nd) (Nat.le_trans (delR_len rs k) W.ln))
      rw [e1] at z
      exact z
theorem scKe : FnScope ["self", "number", "page", "rights", "oldest"] ["self", "number", "page", "rights"] (defScope sKeep) := ⟨rfl, rfl, rfl, by decide +kernel, rfl, by decide +kernel, by decide +kernel⟩
theorem ok_keep {f f1 : Addr} {fd fd1 : FuncData} (F : Fun K "keep" "Shelf.keep" sKeep f fd) (M1 : Me K C "drop" "Shelf.drop" sSDrop ["self", "number"] f1 fd1) (G1 : FnOk P w K mg base CX0 1 f1 fd1 ["self", "number"] (spSDrop C)) (S : Shf K mg C) (T : Txt K mg) : FnOk P w K mg base CX0 2 f fd ["self", "number", "page", "rights"] (spKeep C) := by
  refine F.ok scKe (fun vs H Q E h => ?_) (fun cdv A outer s H vs Q E hr h => ?_)
  · obtain ⟨m, q, n, rs, k, p, r, rfl, _⟩ := h
    rfl
  · obtain ⟨m, q, n, rs, k, p, r, rfl, W, l12, qq⟩ := h
    obtain ⟨dx, fs, hm, fo⟩ := W.ob
    obtain ⟨kvs, hq, rw⟩ := W.se
    have hl := rw.len
    refine ⟨_, pss_cons (ps_dput (hu_of hr) (pe_fld (pv 0) rfl) (pv 1) (pe_tup (pa_cons (pv 2) (pa_cons (pv 3) pa_nil))) rfl) (pss_cons (ps_if (pt_cmpR op_le (pe_callB call_lenD (by rfl) T.len PySem.boot_len (pa_cons (pe_fld (pv 0) rfl) pa_nil)) (pe_fld (pv 0) rfl) (nomark _)) (pss_one (ps_ret pe_non)) pss_nil) (pss_cons (ps_set (i := 4) scKe.nd rfl (Or.inl rfl) (pe_ix ix_list (pe_callTy (call_list_dict rfl) (by rfl) T.lst PyProof.Rows.boot_list (pa_cons (pe_fld (pv 0) rfl) pa_nil)) pe_int (fun _ _ => rfl))) (pss_cons (ps_expr (pe_meth (pv 0) S.cl M1.m G1 hr M1.b .nil pass0 (pa_cons (pv 4) pa_nil))) (pss_one (ps_ret (pv 4)))))), ?_⟩
    refine ⟨_, rfl, _, rfl, (by show 2 ≤ sizeLine; decide), fun t ht => ?_⟩
    have s1 := same_new (o := .tup [V.int p, V.int r]) ht
    refine ⟨_, rfl, m, C, dx, fs, _, rfl, s1 _ _ hm, S.cl, S.ns, fo.seats, _, rfl, q, _, rfl, DPut.k (k := Sum.inl k) (s1 _ _ hq) (Nat.lt_of_lt_of_le (by omega : kvs.length < 14) (by decide)), ?_⟩
    have W2 : Sh C _ m q n (putR rs (k, p, r)) := (W.same s1).seat ((rw.imp fun t xs z => s1 _ _ z).put (k := k) (p := p) (r := r) W.nd upd_same) (putR_nd W.nd) (Nat.le_trans putR_len.1 (by omega))
    have b2 : But q H _ := (But.of s1).trans (But.upd (H := upd H t (.tup [V.int p, V.int r])) (o := .dK (putK kvs (Sum.inl k) (.ref t))))
    generalize upd (upd H t (.tup [V.int p, V.int r])) q (.dK (putK kvs (Sum.inl k) (.ref t))) = H2 at *
    obtain ⟨dx2, fs2, hm2, fo2⟩ := W2.ob
    obtain ⟨kvs2, hq2, rw2⟩ := W2.se
    refine ⟨_, rfl, m, C, dx2, fs2, _, rfl, hm2, S.cl, S.ns, fo2.seats, q, kvs2, rfl, hq2, _, rfl, m, C, dx2, fs2, _, rfl, hm2, S.cl, S.nm, fo2.most, _, _, rfl, rfl, _, rfl, ite2 (fun z => ?_) (fun z => ?_)⟩
    · have z' := of_decide_eq_true z
      rw [rw2.len] at z'
      have e : keepR n rs (k, p, r) = (putR rs (k, p, r), none) := by unfold keepR; rw [if_pos z']
      have y := qq H2 b2 (by rw [e]; exact W2)
      rw [e] at y
      exact y
    · have z' : ¬ ((kvs2.length : Int) ≤ n) := fun y => z (decide_eq_true y)
      rw [rw2.len] at z'
      have e : keepR n rs (k, p, r) = ((putR rs (k, p, r)).tail, (putR rs (k, p, r)).head?.map (·.1)) := by unfold keepR; rw [if_neg z']
      cases hp : putR rs (k, p, r) with
      | nil =>
        have := (putR_len (rs := rs) (x := (k, p, r))).2
        rw [hp] at this
        exact absurd this (by decide)
      | cons y ys =>
        rw [hp] at W2 rw2 e
        refine ⟨_, rfl, m, C, dx2, fs2, _, rfl, hm2, S.cl, S.ns, fo2.seats, q, kvs2, rfl, hq2, fun l hl2 => ?_⟩
        have s3 := same_new (o := .lst (kvs2.map fun kv => kV kv.1)) hl2
        have at0 : atI (kvs2.map fun kv => kV kv.1) ((0 : Nat) : Int) = some (.int y.1) := by
          rw [rw2.keys]
          exact atI_nat rfl
        refine ⟨l, _, _, _, rfl, rfl, SqL.of upd_same, at0, ?_⟩
        have W3 := W2.same s3
        have b3 : But q H _ := b2.trans (But.of s3)
        generalize upd H2 l (.lst (kvs2.map fun kv => kV kv.1)) = H3 at *
        obtain ⟨dx3, fs3, hm3, fo3⟩ := W3.ob
        refine ⟨_, rfl, m, dx3, fs3, rfl, hm3, fo3.no _ (by decide +kernel) (by decide +kernel), _, rfl, m, q, n, _, y.1, rfl, W3, fun H4 b4 W4 => ?_⟩
        rw [delR_head W2.nd] at W4
        have z5 := qq H4 (b3.trans b4) (by rw [e]; exact W4)
        rw [e] at z5
        exact ⟨_, rfl, z5⟩
theorem scEm : FnScope ["self"] ["self"] (defScope sEmpty) := ⟨rfl, rfl, rfl, by decide +kernel, rfl, by decide +kernel, by decide +kernel⟩
theorem ok_empty {f : Addr} {fd : FuncData} (F : Fun K "empty" "Shelf.empty" sEmpty f fd) (S : Shf K mg C) : FnOk P w K mg base CX0 1 f fd ["self"] (spEmpty C) := by
  refine F.ok scEm (fun vs H Q E h => ?_) (fun cdv A outer s H vs Q E hr h => ?_)
  · obtain ⟨m, q, n, rs, rfl, _⟩ := h
    rfl
  · obtain ⟨m, q, n, rs, rfl, W, qq⟩ := h
    obtain ⟨dx, fs, hm, fo⟩ := W.ob
    refine ⟨_, pss_one (ps_fld (pv 0) pe_dnewK rfl), ?_⟩
    intro p hp
    have np : m ≠ p := ne_of_none hm hp
    refine ⟨_, rfl, m, C, dx, fs, rfl, (by rw [upd_ne np]; exact hm), S.cl, S.ns, Nat.lt_of_le_of_lt fo.few (by decide), ?_⟩
    refine qq p _ (fun b o hb e => ?_) hp ⟨⟨dx, _, upd_same, ⟨?_, ?_, fun g z1 z2 => ?_, ?_⟩⟩, ⟨[], ?_, .nil⟩, List.nodup_nil, by decide, W.n1, W.n2⟩
    · rw [upd_ne hb, upd_ne (ne_of_none e hp)]
      exact e
    · rw [lookup_putF, if_neg (by decide +kernel)]
      exact fo.most
    · rw [lookup_putF, if_pos rfl]
    · rw [lookup_putF, if_neg z2]
      exact fo.no g z1 z2
    · rw [length_putF_of _ _ (by rw [fo.seats]; rfl)]
      exact fo.few
    · rw [upd_ne np.symm]
      exact upd_same
end
theorem Way.seats {C SC PL : Addr} {H H' : Hp} {a m h r q aw : Addr} {ps : Pgs} {n : Int} {rs rs' : Rs} {bs : List Bool} {b : Int} (w : Way C SC PL H a m h r q aw ps n rs bs b) (e : But q H H') (S : Sh SC H' r q n rs') : Way C SC PL H' a m h r q aw ps n rs' bs b := by
  obtain ⟨dx, fs, ea, f⟩ := w.ob
  obtain ⟨dm, em⟩ := w.M.ob
  obtain ⟨kvs, eq, _⟩ := w.S.se
  have pg : Pg H' h ps := ⟨e _ _ (ne_of w.M.pg.top eq nofun) w.M.pg.top, fun i p ws z => ⟨e _ _ (ne_of (w.M.pg.each i p ws z).1 eq nofun) (w.M.pg.each i p ws z).1, (w.M.pg.each i p ws z).2⟩, w.M.pg.nd⟩
  exact ⟨⟨dx, fs, e _ _ (ne_of ea eq nofun) ea, f⟩, ⟨⟨dm, e _ _ (ne_of em eq nofun) em⟩, pg, w.M.good, w.M.len⟩, S, e _ _ (ne_of w.an eq nofun) w.an, w.nd⟩
theorem Way.cleared {C SC PL : Addr} {H H' : Hp} {a m h r q q' aw : Addr} {ps : Pgs} {n : Int} {rs rs' : Rs} {bs : List Bool} {b : Int} (w : Way C SC PL H a m h r q aw ps n rs bs b) (e : But r H H') (S : Sh SC H' r q' n rs') : Way C SC PL H' a m h r q' aw ps n rs' bs b := by
  obtain ⟨dx, fs, ea, f⟩ := w.ob
  obtain ⟨dm, em⟩ := w.M.ob
  obtain ⟨dr, fr, er, fo⟩ := w.S.ob
  have na : a ≠ r := fun z => by
    rw [z, er] at ea
    cases ea
    have := f.mem
    rw [fo.no _ (by decide +kernel) (by decide +kernel)] at this
    cases this
  have nm : m ≠ r := fun z => by
    rw [z, er] at em
    cases em
    have := flds_held h
    rw [fo.no _ (by decide +kernel) (by decide +kernel)] at this
    cases this
  have pg : Pg H' h ps := ⟨e _ _ (ne_of w.M.pg.top er nofun) w.M.pg.top, fun i p ws z => ⟨e _ _ (ne_of (w.M.pg.each i p ws z).1 er nofun) (w.M.pg.each i p ws z).1, (w.M.pg.each i p ws z).2⟩, w.M.pg.nd⟩
  exact ⟨⟨dx, fs, e _ _ na ea, f⟩, ⟨⟨dm, e _ _ nm em⟩, pg, w.M.good, w.M.len⟩, S, e _ _ (ne_of w.an er nofun) w.an, w.nd⟩
end K25
end
section
namespace K25
open PySem L2
abbrev sRem : Stmt := inClass (top 48) 7
abbrev sWalk : Stmt := inClass (top 48) 8
abbrev sReach : Stmt := inClass (top 48) 6
def RsN (rs : Rs) : Prop := ∀ k p r, lookR rs k = some (p, r) → 0 ≤ p ∧ 0 ≤ r
def remN (ps : Pgs) (rs : Rs) (pl : Nat) (wr k : Bool) : Option Nat :=
  if pl < 512 then (match lookR rs ((pl / 8 : Nat) : Int) with
    | none => none
    | some (p, r) => if (hasP ps (.int p) && letN r.toNat wr k) = true then some p.toNat else none) else none
def oN : Option Nat → V
  | none => .non
  | some p => .int (p : Int)
def Kpw (h q : Addr) (ps : Pgs) (H H' : Hp) : Prop := ∀ b o, ¬ At h ps b → b ≠ q → H b = some o → H' b = some o
theorem look_trail {ps : Pgs} {rt pl : Nat} {wr k : Bool} {p1 pg t l : Nat} (e : lookN ps rt pl wr k = .trail p1 pg t l) : pl < 512 ∧ hasP ps (.int (rt : Int)) = true ∧ hasP ps (.int (p1 : Int)) = true ∧ hasP ps (.int (pg : Int)) = true ∧ t = wordN ps rt (pl / 8 / 8) ∧ p1 = t / 256 ∧ l = wordN ps p1 (pl / 8 % 8) ∧ pg = l / 256 ∧ lackN ps t wr k = none ∧ lackN ps l wr k = none := by
  unfold lookN at e
  split at e
  · cases e
  rename_i h1
  split at e
  · cases e
  rename_i h2
  cases h3 : lackN ps (wordN ps rt (pl / 8 / 8)) wr k with
  | some z => rw [h3] at e; cases e
  | none =>
  rw [h3] at e
  cases h4 : lackN ps (wordN ps (wordN ps rt (pl / 8 / 8) / 256) (pl / 8 % 8)) wr k with
  | some z => rw [h4] at e; cases e
  | none =>
  rw [h4] at e
  cases e
  refine ⟨by omega, ?_, lack_has h3, lack_has h4, rfl, rfl, rfl, rfl, h3, h4⟩
  cases hb : hasP ps (.int (rt : Int)) with
  | true => rfl
  | false => exact absurd hb h2
def spRem (C SC PL : Addr) : Sp := fun vs H Q _ => ∃ (a m h r q aw : Addr) (ps : Pgs) (n : Int) (rs : Rs) (bs : List Bool) (b : Int) (pl : Nat) (wr k : Bool), vs = [.ref a, .int pl, .bl wr, .bl k] ∧ Way C SC PL H a m h r q aw ps n rs bs b ∧ RsN rs ∧ Q (oN (remN ps rs pl wr k)) H
def Wkd (C SC PL FA : Addr) (H : Hp) (Q : VK) (E : XK) (a m h r q aw : Addr) (ps : Pgs) (n : Int) (rs : Rs) (bs : List Bool) (rt pl : Nat) (wr k : Bool) : Prop :=
  (∀ z lv, lookN ps rt pl wr k = .fault z lv → ∀ H', Same H H' → ExF FA E H' z pl lv) ∧
  ∀ p1 pg t l, lookN ps rt pl wr k = .trail p1 pg t l → ∀ H', Way C SC PL H' a m h r q aw (mkN (mkN ps rt (pl / 8 / 8) 8) p1 (pl / 8 % 8) (if wr then 24 else 8)) n (keepR n rs (((pl / 8 : Nat) : Int), (pg : Int), ((if wr then rigN t l ||| 16 else rigN t l : Nat) : Int))).1 bs (rt : Int) → Kpw h q ps H H' → Q (.int (pg : Int)) H'
def spWalk (C SC PL FA : Addr) : Sp := fun vs H Q E => ∃ (a m h r q aw : Addr) (ps : Pgs) (n : Int) (rs : Rs) (bs : List Bool) (rt pl : Nat) (wr k : Bool), vs = [.ref a, .int pl, .bl wr, .bl k] ∧ Way C SC PL H a m h r q aw ps n rs bs (rt : Int) ∧ rs.length ≤ 12 ∧ Wkd C SC PL FA H Q E a m h r q aw ps n rs bs rt pl wr k
def spReach (C SC PL FA : Addr) : Sp := fun vs H Q E => ∃ (a m h r q aw : Addr) (ps : Pgs) (n : Int) (rs : Rs) (bs : List Bool) (rt pl : Nat) (wr k : Bool), vs = [.ref a, .int pl, .bl wr, .bl k] ∧ Way C SC PL H a m h r q aw ps n rs bs (rt : Int) ∧ rs.length ≤ 12 ∧ RsN rs ∧ (∀ p, remN ps rs pl wr k = some p → Q (.int (p : Int)) H) ∧ (remN ps rs pl wr k = none → Wkd C SC PL FA H Q E a m h r q aw ps n rs bs rt pl wr k)
section
variable {P : Program} {w : World} {K : PySem.W.Frag} {mg : Str → Option Value} {base : Heap} {C NP NL NW NI SC PL WC FA : Addr}
theorem sc_rem : FnScope ["self", "place", "write", "kernel", "row"] ["self", "place", "write", "kernel"] (defScope sRem) := ⟨rfl, rfl, rfl, by decide +kernel, rfl, by decide +kernel, by decide +kernel⟩
theorem ok_rem {f f1 f2 f3 f4 f5 : Addr} {fd fd1 fd2 fd3 fd4 fd5 : FuncData} (F : Fun K "remembered" "Ways.remembered" sRem f fd) (B : Dn K mg "is_below" sBelow ["thing", "bound"] f1 fd1) (GB : FnOk P w K mg base CX0 2 f1 fd1 ["thing", "bound"] spBelow) (Bn : Dn K mg "number_of" sNum ["place"] f2 fd2) (GBn : FnOk P w K mg base CX0 3 f2 fd2 ["place"] spNum) (M1 : Me K SC "seek" "Shelf.seek" sSeek ["self", "number"] f3 fd3) (GM1 : FnOk P w K mg base CX0 1 f3 fd3 ["self", "number"] (spSeek SC)) (M2 : Me K PL "has" "Plain.has" sPHas ["self", "page"] f4 fd4) (GM2 : FnOk P w K mg base CX0 4 f4 fd4 ["self", "page"] (spPHas C SC PL)) (Bl : Dn K mg "lets" sLets ["rights", "write", "kernel"] f5 fd5) (GBl : FnOk P w K mg base CX0 2 f5 fd5 ["rights", "write", "kernel"] spLets) (PC : Plc K PL) (SS : Shf K mg SC) (R : Rws0 K mg) : FnOk P w K mg base CX0 5 f fd ["self", "place", "write", "kernel"] (spRem C SC PL) := by
  obtain ⟨t_pl, c_pl⟩ := R.pl
  refine F.ok sc_rem (fun vs H Q E h' => ?_) (fun cdv A outer s H vs Q E hr h' => ?_)
  · obtain ⟨a, m, h, r, q, aw, ps, n, rs, bs, b, pl, wr, k, rfl, _⟩ := h'
    rfl
  · obtain ⟨a, m, h, r, q, aw, ps, n, rs, bs, b, pl, wr, k, rfl, W, rn, q0⟩ := h'
    have hr3 : Room 3 _ := hr.mono (by decide)
    have hr2 : Room 2 _ := hr.mono (by decide)
    have hr1 : Room 1 _ := hr.mono (by decide)
    refine ⟨_, (pss_cons (ps_if (pt_not (pt_val (pe_call GB hr2 (by rfl) B.m B.F.kp B.b .nil pass0 (pa_cons (pv 1) (pa_cons (pe_glob (by rfl) c_pl (show RelV (.int 512) (.int 512 t_pl) from ⟨_, rfl⟩)) pa_nil))))) (pss_one (ps_ret pe_non)) pss_nil) (pss_cons (ps_set (i := 4) sc_rem.nd rfl (Or.inl rfl) (pe_meth (pe_fld (pv 0) rfl) SS.cl M1.m GM1 hr1 M1.b .nil pass0 (pa_cons (pe_call GBn hr3 (by rfl) Bn.m Bn.F.kp Bn.b .nil pass0 (pa_cons (pv 1) pa_nil)) pa_nil))) (pss_cons (ps_if (PW.pt (pw_or (pt_cmpR op_isN (pv 4) pe_non (nomark _)) (pw_or (pt_not (pt_val (pe_meth (pv 0) PC.cl M2.m GM2 hr M2.b .nil pass0 (pa_cons (pe_ix ix_tup (pv 4) pe_int (fun _ _ => rfl)) pa_nil)))) (pw_or1 (pt_not (pt_val (pe_call GBl hr2 (by rfl) Bl.m Bl.F.kp Bl.b .nil pass0 (pa_cons (pe_ix ix_tup (pv 4) pe_int (fun _ _ => rfl)) (pa_cons (pv 2) (pa_cons (pv 3) pa_nil)))))))))) (pss_one (ps_ret pe_non)) pss_nil) (pss_one (ps_ret (pe_ix ix_tup (pv 4) pe_int (fun _ _ => rfl))))))), ?_⟩
    obtain ⟨dx, fs, ha, wf⟩ := W.ob
    obtain ⟨dr, fr, hr0, fo⟩ := W.S.ob
    have Rm : remN ps rs pl wr k = (if pl < 512 then (match lookR rs ((pl / 8 : Nat) : Int) with | none => none | some (p, r) => if (hasP ps (.int p) && letN r.toNat wr k) = true then some p.toNat else none) else none) := rfl
    refine ⟨_, rfl, _, _, rfl, .int _, _, rfl, ?_⟩
    by_cases hp : pl < 512
    · rw [below_of (by omega) (by omega)]
      rw [if_pos hp] at Rm
      refine iteF ⟨_, rfl, a, PL, dx, fs, _, rfl, ha, PC.cl, PC.nr, wf.rck, r, dr, fr, rfl, hr0, fo.no _ (by decide +kernel) (by decide +kernel), _, rfl, pl, rfl, hp, r, _, n, rs, _, rfl, W.S, fun hn => ?_, fun p rg t hs ht => ?_⟩
      · rw [hn] at Rm
        rw [Rm] at q0
        exact ⟨_, rfl, rfl, _, rfl, iteTS rfl q0⟩
      · rw [hs] at Rm
        obtain ⟨p0, r0⟩ := rn _ _ _ hs
        obtain ⟨rN, rfl⟩ : ∃ rN : Nat, rg = (rN : Int) := ⟨rg.toNat, by omega⟩
        obtain ⟨pN, rfl⟩ : ∃ pN : Nat, p = (pN : Int) := ⟨p.toNat, by omega⟩
        dsimp only at Rm
        rw [Int.toNat_natCast, Int.toNat_natCast] at Rm
        refine ⟨_, rfl, rfl, _, rfl, iteFS (decide_eq_false nofun) ⟨_, rfl, a, dx, fs, rfl, ha, wf.no _ (by decide +kernel) (by decide +kernel) (by decide +kernel) (by decide +kernel), _, rfl, t, _, _, _, rfl, rfl, SqT.of ht, rfl, a, m, h, r, q, aw, ps, n, rs, bs, b, _, rfl, W, .int _, _, rfl, ?_⟩⟩
        cases hb : hasP ps (.int (pN : Int)) with
        | false =>
          rw [hb] at Rm
          rw [Rm] at q0
          exact iteT q0
        | true =>
          rw [hb] at Rm
          refine iteF ⟨_, rfl, t, _, _, _, rfl, rfl, SqT.of ht, rfl, _, rfl, _, rfl, rN, wr, k, rfl, _, rfl, ?_⟩
          cases hl : letN rN wr k with
          | false =>
            rw [hl] at Rm
            rw [Rm] at q0
            exact iteT q0
          | true =>
            rw [hl] at Rm
            rw [Rm] at q0
            exact iteF ⟨_, rfl, t, _, _, _, rfl, rfl, SqT.of ht, rfl, q0⟩
    · rw [below_far (by omega)]
      rw [if_neg hp] at Rm
      rw [Rm] at q0
      exact iteT q0
theorem sc_walk : FnScope ["self", "place", "write", "kernel", "trail", "rights"] ["self", "place", "write", "kernel"] (defScope sWalk) := ⟨rfl, rfl, rfl, by decide +kernel, rfl, by decide +kernel, by decide +kernel⟩
theorem ok_walk {f f1 f2 f3 f4 : Addr} {fd fd1 fd2 fd3 fd4 : FuncData} (F : Fun K "walked" "Ways.walked" sWalk f fd) (Bk : Dn K mg "look" sLook ["store", "root", "place", "write", "kernel"] f1 fd1) (GBk : FnOk P w K mg base (CXr P w) 8 f1 fd1 ["store", "root", "place", "write", "kernel"] (spLook C SC PL FA)) (Bm : Dn K mg "mark" sMark ["store", "trail", "write"] f2 fd2) (GBm : FnOk P w K mg base CX0 9 f2 fd2 ["store", "trail", "write"] (spMark C SC PL)) (Bn : Dn K mg "number_of" sNum ["place"] f3 fd3) (GBn : FnOk P w K mg base CX0 3 f3 fd3 ["place"] spNum) (M1 : Me K SC "keep" "Shelf.keep" sKeep ["self", "number", "page", "rights"] f4 fd4) (GM1 : FnOk P w K mg base CX0 2 f4 fd4 ["self", "number", "page", "rights"] (spKeep SC)) (PC : Plc K PL) (SS : Shf K mg SC) : FnOk P w K mg base (CXr P w) 10 f fd ["self", "place", "write", "kernel"] (spWalk C SC PL FA) := by
  refine F.okR sc_walk (fun vs H Q E h' => ?_) (fun cdv A outer s H vs Q E hr h' => ?_)
  · obtain ⟨a, m, h, r, q, aw, ps, n, rs, bs, rt, pl, wr, k, rfl, _⟩ := h'
    rfl
  · obtain ⟨a, m, h, r, q, aw, ps, n, rs, bs, rt, pl, wr, k, rfl, W, hl, kk⟩ := h'
    have hr8 : Room 8 _ := hr.mono (by decide)
    have hr3 : Room 3 _ := hr.mono (by decide)
    have hr2 : Room 2 _ := hr.mono (by decide)
    refine ⟨_, (pss_cons (ps_set (i := 4) sc_walk.nd rfl (Or.inl rfl) (pe_call GBk hr8 (by rfl) Bk.m Bk.F.kp Bk.b .nil passR (pa_cons (pv 0) (pa_cons (pe_fld (pv 0) rfl) (pa_cons (pv 1) (pa_cons (pv 2) (pa_cons (pv 3) pa_nil))))))) (pss_cons (ps_set (i := 5) sc_walk.nd rfl (Or.inl rfl) (pe_call GBm hr (by rfl) Bm.m Bm.F.kp Bm.b .nil pass0 (pa_cons (pv 0) (pa_cons (pv 4) (pa_cons (pv 2) pa_nil))))) (pss_cons (ps_expr (pe_meth (pe_fld (pv 0) rfl) SS.cl M1.m GM1 hr2 M1.b .nil pass0 (pa_cons (pe_call GBn hr3 (by rfl) Bn.m Bn.F.kp Bn.b .nil pass0 (pa_cons (pv 1) pa_nil)) (pa_cons (pe_ix ix_tup (pv 4) pe_int (fun _ _ => rfl)) (pa_cons (pv 5) pa_nil))))) (pss_one (ps_ret (pe_ix ix_tup (pv 4) pe_int (fun _ _ => rfl))))))), ?_⟩
    obtain ⟨dx, fs, ha, wf⟩ := W.ob
    obtain ⟨kf, kt⟩ := kk
    refine ⟨_, rfl, _, rfl, a, PL, dx, fs, _, rfl, ha, PC.cl, PC.nb, wf.bas, _, rfl, _, rfl, _, rfl, a, m, h, r, q, aw, ps, n, rs, bs, (rt : Int), rt, pl, wr, k, rfl, W, kf, fun p1 pg t l ht tt t1 t2 H1 s1 z z1 z2 => ?_⟩
    obtain ⟨hp, h1, h2, _⟩ := look_trail ht
    refine ⟨_, rfl, _, rfl, _, rfl, a, m, h, r, q, aw, ps, n, rs, bs, (rt : Int), tt, t1, t2, rt, pl / 8 / 8, p1, pl / 8 % 8, pg, rigN t l, wr, rfl, W.same s1, z, z1, z2, h1, h2, by omega, by omega, fun H2 W2 k2 => ?_⟩
    have nt : ¬ At h ps tt := fun y => by
      rcases y with y | ⟨i, ws, y⟩
      · have e := (W.same s1).M.pg.top; rw [← y, z] at e; cases e
      · have e := ((W.same s1).M.pg.each i tt ws y).1; rw [z] at e; cases e
    have zt := k2 _ _ nt z
    obtain ⟨dx, fs, ha, wf⟩ := W2.ob
    obtain ⟨dr, fr, hr0, fo⟩ := W2.S.ob
    obtain ⟨kvs, eq, _⟩ := W2.S.se
    refine ⟨_, rfl, a, PL, dx, fs, _, rfl, ha, PC.cl, PC.nr, wf.rck, r, dr, fr, rfl, hr0, fo.no _ (by decide +kernel) (by decide +kernel), _, rfl, pl, rfl, hp, _, rfl, tt, _, _, _, rfl, rfl, SqT.of zt, rfl, _, rfl, r, q, n, rs, _, _, _, rfl, W2.S, hl, fun H3 b3 S3 => ?_⟩
    have zt3 := b3 _ _ (ne_of zt eq nofun) zt
    exact ⟨_, rfl, tt, _, _, _, rfl, rfl, SqT.of zt3, rfl, kt _ _ _ _ ht H3 (W2.seats b3 S3) fun b o nb nq y => b3 b o nq (k2 b o nb (s1 _ _ y))⟩
theorem sc_reach : FnScope ["self", "place", "write", "kernel", "page"] ["self", "place", "write", "kernel"] (defScope sReach) := ⟨rfl, rfl, rfl, by decide +kernel, rfl, by decide +kernel, by decide +kernel⟩
theorem ok_reach {f f1 f2 : Addr} {fd fd1 fd2 : FuncData} (F : Fun K "reach" "Ways.reach" sReach f fd) (M1 : Me K PL "remembered" "Ways.remembered" sRem ["self", "place", "write", "kernel"] f1 fd1) (GM1 : FnOk P w K mg base CX0 5 f1 fd1 ["self", "place", "write", "kernel"] (spRem C SC PL)) (M2 : Me K PL "walked" "Ways.walked" sWalk ["self", "place", "write", "kernel"] f2 fd2) (GM2 : FnOk P w K mg base (CXr P w) 10 f2 fd2 ["self", "place", "write", "kernel"] (spWalk C SC PL FA)) (PC : Plc K PL) : FnOk P w K mg base (CXr P w) 11 f fd ["self", "place", "write", "kernel"] (spReach C SC PL FA) := by
  refine F.okR sc_reach (fun vs H Q E h' => ?_) (fun cdv A outer s H vs Q E hr h' => ?_)
  · obtain ⟨a, m, h, r, q, aw, ps, n, rs, bs, rt, pl, wr, k, rfl, _⟩ := h'
    rfl
  · obtain ⟨a, m, h, r, q, aw, ps, n, rs, bs, rt, pl, wr, k, rfl, W, hl, rn, q1, q2⟩ := h'
    have hr5 : Room 5 _ := hr.mono (by decide)
    refine ⟨_, (pss_cons (ps_set (i := 4) sc_reach.nd rfl (Or.inl rfl) (pe_meth (pv 0) PC.cl M1.m GM1 hr5 M1.b .nil pass0 (pa_cons (pv 1) (pa_cons (pv 2) (pa_cons (pv 3) pa_nil))))) (pss_cons (ps_if (pt_cmpR op_isN (pv 4) pe_non (nomark _)) (pss_one (ps_set (i := 4) sc_reach.nd rfl (Or.inl rfl) (pe_meth (pv 0) PC.cl M2.m GM2 hr M2.b .nil passR (pa_cons (pv 1) (pa_cons (pv 2) (pa_cons (pv 3) pa_nil)))))) pss_nil) (pss_one (ps_ret (pv 4))))), ?_⟩
    obtain ⟨dx, fs, ha, wf⟩ := W.ob
    refine ⟨_, rfl, a, dx, fs, rfl, ha, wf.no _ (by decide +kernel) (by decide +kernel) (by decide +kernel) (by decide +kernel), _, rfl, _, rfl, _, rfl, a, m, h, r, q, aw, ps, n, rs, bs, (rt : Int), pl, wr, k, rfl, W, rn, ?_⟩
    cases hm : remN ps rs pl wr k with
    | some p => exact ⟨_, rfl, rfl, _, rfl, iteFS (decide_eq_false nofun) ⟨_, rfl, q1 p hm⟩⟩
    | none =>
      refine ⟨_, rfl, rfl, _, rfl, iteTS rfl ⟨_, rfl, a, dx, fs, rfl, ha, wf.no _ (by decide +kernel) (by decide +kernel) (by decide +kernel) (by decide +kernel), _, rfl, _, rfl, _, rfl, a, m, h, r, q, aw, ps, n, rs, bs, rt, pl, wr, k, rfl, W, hl, (q2 hm).1, fun p1 pg t l ht H1 W1 k1 => ⟨_, rfl, (q2 hm).2 p1 pg t l ht H1 W1 k1⟩⟩⟩
end
end K25
end
section
namespace K25
open PySem L2
abbrev sLoad : Stmt := inClass (top 48) 4
abbrev sSave : Stmt := inClass (top 48) 5
abbrev sTurn : Stmt := inClass (top 48) 13
def Rchd (C SC PL FA : Addr) (H : Hp) (K1 : Nat → Pgs → Rs → Hp → Prop) (E : XK) (a m h r q aw : Addr) (ps : Pgs) (n : Int) (rs : Rs) (bs : List Bool) (rt pl : Nat) (wr k : Bool) : Prop :=
  (∀ p, remN ps rs pl wr k = some p → K1 p ps rs H) ∧ (remN ps rs pl wr k = none → (∀ z lv, lookN ps rt pl wr k = .fault z lv → ∀ H', Same H H' → ExF FA E H' z pl lv) ∧
    ∀ p1 pg t l, lookN ps rt pl wr k = .trail p1 pg t l → ∀ H', Way C SC PL H' a m h r q aw (mkN (mkN ps rt (pl / 8 / 8) 8) p1 (pl / 8 % 8) (if wr then 24 else 8)) n (keepR n rs (((pl / 8 : Nat) : Int), (pg : Int), ((if wr then rigN t l ||| 16 else rigN t l : Nat) : Int))).1 bs (rt : Int) → Kpw h q ps H H' →
      K1 pg (mkN (mkN ps rt (pl / 8 / 8) 8) p1 (pl / 8 % 8) (if wr then 24 else 8)) (keepR n rs (((pl / 8 : Nat) : Int), (pg : Int), ((if wr then rigN t l ||| 16 else rigN t l : Nat) : Int))).1 H')
def spLoad (C SC PL FA : Addr) : Sp := fun vs H Q E => ∃ (a m h r q aw : Addr) (ps : Pgs) (n : Int) (rs : Rs) (bs : List Bool) (rt pl : Nat) (k : Bool), vs = [.ref a, .int pl, .bl k] ∧ Way C SC PL H a m h r q aw ps n rs bs (rt : Int) ∧ rs.length ≤ 12 ∧ RsN rs ∧
  Rchd C SC PL FA H (fun p ps' rs' H1 => ∀ H', Same H1 H' → Q (.int ((wordN ps' p (pl % 8) : Nat) : Int)) H') E a m h r q aw ps n rs bs rt pl false k
def spSave (C SC PL FA : Addr) : Sp := fun vs H Q E => ∃ (a m h r q aw : Addr) (ps : Pgs) (n : Int) (rs : Rs) (bs : List Bool) (rt pl : Nat) (v : Int) (k : Bool), vs = [.ref a, .int pl, .int v, .bl k] ∧ Way C SC PL H a m h r q aw ps n rs bs (rt : Int) ∧ rs.length ≤ 12 ∧ RsN rs ∧ 0 ≤ v ∧ v < 281474976710656 ∧
  Rchd C SC PL FA H (fun p ps' rs' H1 => ∀ H', Way C SC PL H' a m h r q aw (setW ps' p (pl % 8) v) n rs' bs (rt : Int) → Kpw h q ps' H1 H' → Q .non H') E a m h r q aw ps n rs bs rt pl true k
def spTurn (C SC PL : Addr) : Sp := fun vs H Q _ => ∃ (a m h r q aw : Addr) (ps : Pgs) (n : Int) (rs : Rs) (bs : List Bool) (b x : Int), vs = [.ref a, .int x] ∧ Way C SC PL H a m h r q aw ps n rs bs b ∧ ∀ H' q', Way C SC PL H' a m h r q' aw ps n [] bs x → (∀ b o, b ≠ a → b ≠ r → H b = some o → H' b = some o) → H q' = none → Q .non H'
theorem rem_has {ps : Pgs} {rs : Rs} {pl : Nat} {wr k : Bool} {p : Nat} (rn : RsN rs) (h : remN ps rs pl wr k = some p) : pl < 512 ∧ hasP ps (.int (p : Int)) = true := by
  unfold remN at h
  split at h
  · rename_i hp
    refine ⟨hp, ?_⟩
    cases hl : lookR rs ((pl / 8 : Nat) : Int) with
    | none => rw [hl] at h; cases h
    | some y =>
      obtain ⟨p2, r2⟩ := y
      rw [hl] at h
      dsimp only at h
      split at h
      · rename_i hb
        cases h
        have := (rn _ _ _ hl).1
        rw [Bool.and_eq_true] at hb
        rw [Int.toNat_of_nonneg this]
        exact hb.1
      · cases h
  · cases h
theorem Way.base {C SC PL : Addr} {H : Hp} {a m h r q aw : Addr} {ps : Pgs} {n : Int} {rs : Rs} {bs : List Bool} {b x : Int} {dx : Addr} {fs : List (Str × V)} (w : Way C SC PL H a m h r q aw ps n rs bs b) (ha : H a = some (.ins PL dx fs)) (wf : Wf fs m r aw b) : Way C SC PL (upd H a (.ins PL dx (putF "base" (.int x) fs))) a m h r q aw ps n rs bs x := by
  obtain ⟨dm, em⟩ := w.M.ob
  obtain ⟨dr, fr, er, fo⟩ := w.S.ob
  obtain ⟨kvs, eq, _⟩ := w.S.se
  have nr : r ≠ a := fun z => by
    rw [z, ha] at er
    cases er
    have := wf.mem
    rw [fo.no _ (by decide +kernel) (by decide +kernel)] at this
    cases this
  have nm : m ≠ a := fun z => by
    rw [z, ha] at em
    cases em
    have := wf.mem
    rw [flds_no h (by decide +kernel)] at this
    cases this
  refine ⟨⟨dx, _, upd_same, ⟨?_, ?_, ?_, ?_, fun g z1 z2 z3 z4 => ?_, ?_⟩⟩, ⟨⟨dm, by rw [upd_ne nm]; exact em⟩, w.M.pg.keep fun b hb => upd_ne (fun z => ?_), w.M.good, w.M.len⟩, w.S.but But.upd nr (ne_of eq ha nofun) (fun xs z => by rw [ha] at z; cases z), by rw [upd_ne (ne_of w.an ha nofun)]; exact w.an, w.nd⟩
  · rw [lookup_putF, if_neg (by decide +kernel)]; exact wf.mem
  · rw [lookup_putF, if_pos rfl]
  · rw [lookup_putF, if_neg (by decide +kernel)]; exact wf.rck
  · rw [lookup_putF, if_neg (by decide +kernel)]; exact wf.ans
  · rw [lookup_putF, if_neg z2]; exact wf.no g z1 z2 z3 z4
  · rw [length_putF_of _ _ (by rw [wf.bas]; rfl)]; exact wf.len
  · rcases hb with hb | ⟨i, ws, hb⟩
    · have y := w.M.pg.top; rw [← hb, z, ha] at y; cases y
    · have y := (w.M.pg.each i b ws hb).1; rw [z, ha] at y; cases y
section
variable {P : Program} {w : World} {K : PySem.W.Frag} {mg : Str → Option Value} {base : Heap} {C NP NL NW NI SC PL WC FA : Addr}
theorem sc_load : FnScope ["self", "place", "kernel", "page"] ["self", "place", "kernel"] (defScope sLoad) := ⟨rfl, rfl, rfl, by decide +kernel, rfl, by decide +kernel, by decide +kernel⟩
theorem ok_load {f f1 f2 f3 : Addr} {fd fd1 fd2 fd3 : FuncData} (F : Fun K "load" "Ways.load" sLoad f fd) (M1 : Me K PL "reach" "Ways.reach" sReach ["self", "place", "write", "kernel"] f1 fd1) (GM1 : FnOk P w K mg base (CXr P w) 11 f1 fd1 ["self", "place", "write", "kernel"] (spReach C SC PL FA)) (M2 : Me K PL "read" "Store.read" sRead ["self", "page", "cell"] f2 fd2) (GM2 : FnOk P w K mg base (CXr P w) 7 f2 fd2 ["self", "page", "cell"] (spWRead C SC PL NP NL)) (Bq : Dn K mg "parts_of" sParts ["place"] f3 fd3) (GBq : FnOk P w K mg base CX0 4 f3 fd3 ["place"] spParts) (PC : Plc K PL) : FnOk P w K mg base (CXr P w) 12 f fd ["self", "place", "kernel"] (spLoad C SC PL FA) := by
  refine F.okR sc_load (fun vs H Q E h' => ?_) (fun cdv A outer s H vs Q E hr h' => ?_)
  · obtain ⟨a, m, h, r, q, aw, ps, n, rs, bs, rt, pl, k, rfl, _⟩ := h'
    rfl
  · obtain ⟨a, m, h, r, q, aw, ps, n, rs, bs, rt, pl, k, rfl, W, hl, rn, kk⟩ := h'
    have hr7 : Room 7 _ := hr.mono (by decide)
    have hr4 : Room 4 _ := hr.mono (by decide)
    refine ⟨_, (pss_cons (ps_set (i := 3) sc_load.nd rfl (Or.inl rfl) (pe_meth (pv 0) PC.cl M1.m GM1 hr M1.b .nil passR (pa_cons (pv 1) (pa_cons pe_bl (pa_cons (pv 2) pa_nil))))) (pss_one (ps_ret (pe_meth (pv 0) PC.cl M2.m GM2 hr7 M2.b .nil passR (pa_cons (pv 3) (pa_cons (pe_ix ix_tup (pe_call GBq hr4 (by rfl) Bq.m Bq.F.kp Bq.b .nil pass0 (pa_cons (pv 1) pa_nil)) pe_int (fun _ _ => rfl)) pa_nil)))))), ?_⟩
    obtain ⟨dx, fs, ha, wf⟩ := W.ob
    refine ⟨_, rfl, a, dx, fs, rfl, ha, wf.no _ (by decide +kernel) (by decide +kernel) (by decide +kernel) (by decide +kernel), _, rfl, _, rfl, a, m, h, r, q, aw, ps, n, rs, bs, rt, pl, false, k, rfl, W, hl, rn, fun p hm => ?_, fun hm => ⟨(kk.2 hm).1, fun p1 pg t0 l ht H1 W1 k1 => ?_⟩⟩
    · obtain ⟨hp, hh⟩ := rem_has rn hm
      have q1 := kk.1 p hm
      have W1 := W
      obtain ⟨dx, fs, ha, wf⟩ := W1.ob
      refine ⟨_, rfl, a, dx, fs, rfl, ha, wf.no _ (by decide +kernel) (by decide +kernel) (by decide +kernel) (by decide +kernel), _, rfl, _, rfl, pl, rfl, hp, fun t ht => ?_⟩
      have s1 := same_new (o := .tup [.int ((pl / 8 / 8 : Nat) : Int), .int ((pl / 8 % 8 : Nat) : Int), .int ((pl % 8 : Nat) : Int)]) ht
      refine ⟨t, _, _, _, rfl, rfl, SqT.of upd_same, rfl, a, m, h, r, q, aw, ps, n, rs, bs, (rt : Int), _, _, rfl, W1.same s1, .int _, .int _, fun i j p3 ws e1 e2 e3 hj => ?_, fun y => absurd (hh.symm.trans y) (by decide), fun _ y => absurd ((below_of (by omega) (by omega)).symm.trans y) (by decide)⟩
      obtain rfl : p = i := by have := V.int.inj e1; omega
      obtain rfl : pl % 8 = j := by have := V.int.inj e2; omega
      have good := W1.M.good _ _ _ e3
      have w0 : 0 ≤ ws.getD (pl % 8) 0 := (good.2 _ (by rw [List.getD_eq_getElem?_getD, List.getElem?_eq_getElem (by omega)]; exact List.getElem_mem _)).1
      rw [wordN_of e3 w0]
      exact q1 _ s1
    · obtain ⟨hp, _, _, hh0, _⟩ := look_trail ht
      have q1 := (kk.2 hm).2 p1 pg t0 l ht H1 W1 k1
      have hh : hasP (mkN (mkN ps rt (pl / 8 / 8) 8) p1 (pl / 8 % 8) (if false = true then 24 else 8)) (.int (pg : Int)) = true := by rw [hasP_mkN, hasP_mkN]; exact hh0
      obtain ⟨dx, fs, ha, wf⟩ := W1.ob
      refine ⟨_, rfl, a, dx, fs, rfl, ha, wf.no _ (by decide +kernel) (by decide +kernel) (by decide +kernel) (by decide +kernel), _, rfl, _, rfl, pl, rfl, hp, fun t ht => ?_⟩
      have s1 := same_new (o := .tup [.int ((pl / 8 / 8 : Nat) : Int), .int ((pl / 8 % 8 : Nat) : Int), .int ((pl % 8 : Nat) : Int)]) ht
      refine ⟨t, _, _, _, rfl, rfl, SqT.of upd_same, rfl, a, m, h, r, q, aw, (mkN (mkN ps rt (pl / 8 / 8) 8) p1 (pl / 8 % 8) (if false = true then 24 else 8)), n, (keepR n rs (((pl / 8 : Nat) : Int), (pg : Int), ((if false = true then rigN t0 l ||| 16 else rigN t0 l : Nat) : Int))).1, bs, (rt : Int), _, _, rfl, W1.same s1, .int _, .int _, fun i j p3 ws e1 e2 e3 hj => ?_, fun y => absurd (hh.symm.trans y) (by decide), fun _ y => absurd ((below_of (by omega) (by omega)).symm.trans y) (by decide)⟩
      obtain rfl : pg = i := by have := V.int.inj e1; omega
      obtain rfl : pl % 8 = j := by have := V.int.inj e2; omega
      have good := W1.M.good _ _ _ e3
      have w0 : 0 ≤ ws.getD (pl % 8) 0 := (good.2 _ (by rw [List.getD_eq_getElem?_getD, List.getElem?_eq_getElem (by omega)]; exact List.getElem_mem _)).1
      rw [wordN_of e3 w0]
      exact q1 _ s1
theorem sc_turn : FnScope ["self", "root"] ["self", "root"] (defScope sTurn) := ⟨rfl, rfl, rfl, by decide +kernel, rfl, by decide +kernel, by decide +kernel⟩
theorem ok_turn {f f1 : Addr} {fd fd1 : FuncData} (F : Fun K "turn_root" "Ways.turn_root" sTurn f fd) (M1 : Me K SC "empty" "Shelf.empty" sEmpty ["self"] f1 fd1) (GM1 : FnOk P w K mg base CX0 1 f1 fd1 ["self"] (spEmpty SC)) (PC : Plc K PL) (SS : Shf K mg SC) : FnOk P w K mg base CX0 2 f fd ["self", "root"] (spTurn C SC PL) := by
  refine F.ok sc_turn (fun vs H Q E h' => ?_) (fun cdv A outer s H vs Q E hr h' => ?_)
  · obtain ⟨a, m, h, r, q, aw, ps, n, rs, bs, b, x, rfl, _⟩ := h'
    rfl
  · obtain ⟨a, m, h, r, q, aw, ps, n, rs, bs, b, x, rfl, W, k0⟩ := h'
    refine ⟨_, (pss_cons (ps_fld (pv 0) (pv 1) rfl) (pss_one (ps_expr (pe_meth0 (pe_fld (pv 0) rfl) SS.cl M1.m GM1 hr M1.b .nil pass0)))), ?_⟩
    obtain ⟨dx, fs, ha, wf⟩ := W.ob
    refine ⟨_, rfl, _, rfl, a, PL, dx, fs, rfl, ha, PC.cl, PC.nb, (by have := wf.len; omega), ?_⟩
    have W1 := W.base (x := x) ha wf
    have b1 : But a H (upd H a (.ins PL dx (putF "base" (.int x) fs))) := But.upd
    have f1 : ∀ b, upd H a (.ins PL dx (putF "base" (.int x) fs)) b = none → H b = none := fun b e => by
      by_cases z : b = a
      · rw [z, upd_same] at e; cases e
      · rw [upd_ne z] at e; exact e
    generalize upd H a (.ins PL dx (putF "base" (.int x) fs)) = H1 at *
    obtain ⟨dr, fr, hr0, fo⟩ := W1.S.ob
    obtain ⟨dx, fs, ha, wf⟩ := W1.ob
    exact ⟨_, rfl, a, PL, dx, fs, _, rfl, ha, PC.cl, PC.nr, wf.rck, r, dr, fr, rfl, hr0, fo.no _ (by decide +kernel) (by decide +kernel), r, _, n, rs, rfl, W1.S, fun q2 H2 b2 hq S2 => k0 H2 q2 (W1.cleared b2 S2) (fun b o na nr y => b2 b o nr (b1 b o na y)) (f1 _ hq)⟩
theorem sc_save : FnScope ["self", "place", "word", "kernel", "page"] ["self", "place", "word", "kernel"] (defScope sSave) := ⟨rfl, rfl, rfl, by decide +kernel, rfl, by decide +kernel, by decide +kernel⟩
theorem ok_save {f f1 f2 f3 f4 : Addr} {fd fd1 fd2 fd3 fd4 : FuncData} (F : Fun K "save" "Ways.save" sSave f fd) (B : Dn K mg "check_word" sCWord ["word"] f4 fd4) (GB : FnOk P w K mg base (CXr P w) 4 f4 fd4 ["word"] (spCWord NW)) (M1 : Me K PL "reach" "Ways.reach" sReach ["self", "place", "write", "kernel"] f1 fd1) (GM1 : FnOk P w K mg base (CXr P w) 11 f1 fd1 ["self", "place", "write", "kernel"] (spReach C SC PL FA)) (M2 : Me K PL "write" "Store.write" sWrite ["self", "page", "cell", "word"] f2 fd2) (GM2 : FnOk P w K mg base (CXr P w) 7 f2 fd2 ["self", "page", "cell", "word"] (spWWrite C SC PL NP NL NW)) (Bq : Dn K mg "parts_of" sParts ["place"] f3 fd3) (GBq : FnOk P w K mg base CX0 4 f3 fd3 ["place"] spParts) (PC : Plc K PL) : FnOk P w K mg base (CXr P w) 12 f fd ["self", "place", "word", "kernel"] (spSave C SC PL FA) := by
  refine F.okR sc_save (fun vs H Q E h' => ?_) (fun cdv A outer s H vs Q E hr h' => ?_)
  · obtain ⟨a, m, h, r, q, aw, ps, n, rs, bs, rt, pl, v, k, rfl, _⟩ := h'
    rfl
  · obtain ⟨a, m, h, r, q, aw, ps, n, rs, bs, rt, pl, v, k, rfl, W, hl, rn, v0, v1, kk⟩ := h'
    have hr7 : Room 7 _ := hr.mono (by decide)
    have hr4 : Room 4 _ := hr.mono (by decide)
    refine ⟨_, (pss_cons (ps_expr (pe_call GB hr4 (by rfl) B.m B.F.kp B.b .nil passR (pa_cons (pv 2) pa_nil))) (pss_cons (ps_set (i := 4) sc_save.nd rfl (Or.inl rfl) (pe_meth (pv 0) PC.cl M1.m GM1 hr M1.b .nil passR (pa_cons (pv 1) (pa_cons pe_bl (pa_cons (pv 3) pa_nil))))) (pss_one (ps_expr (pe_meth (pv 0) PC.cl M2.m GM2 hr7 M2.b .nil passR (pa_cons (pv 4) (pa_cons (pe_ix ix_tup (pe_call GBq hr4 (by rfl) Bq.m Bq.F.kp Bq.b .nil pass0 (pa_cons (pv 1) pa_nil)) pe_int (fun _ _ => rfl)) (pa_cons (pv 2) pa_nil)))))))), ?_⟩
    obtain ⟨dx, fs, ha, wf⟩ := W.ob
    refine ⟨_, rfl, _, rfl, .int _, fun _ => ?_, fun y => absurd ((below_of v0 v1).symm.trans y) (by decide)⟩
    refine ⟨_, rfl, a, dx, fs, rfl, ha, wf.no _ (by decide +kernel) (by decide +kernel) (by decide +kernel) (by decide +kernel), _, rfl, _, rfl, a, m, h, r, q, aw, ps, n, rs, bs, rt, pl, true, k, rfl, W, hl, rn, fun p hm => ?_, fun hm => ⟨(kk.2 hm).1, fun p1 pg t0 l ht H1 W1 k1 => ?_⟩⟩
    · obtain ⟨hp, hh⟩ := rem_has rn hm
      have q1 := kk.1 p hm
      have W1 := W
      obtain ⟨dx, fs, ha, wf⟩ := W1.ob
      refine ⟨_, rfl, a, dx, fs, rfl, ha, wf.no _ (by decide +kernel) (by decide +kernel) (by decide +kernel) (by decide +kernel), _, rfl, _, rfl, pl, rfl, hp, fun t ht => ?_⟩
      have s1 := same_new (o := .tup [.int ((pl / 8 / 8 : Nat) : Int), .int ((pl / 8 % 8 : Nat) : Int), .int ((pl % 8 : Nat) : Int)]) ht
      refine ⟨t, _, _, _, rfl, rfl, SqT.of upd_same, rfl, _, rfl, a, m, h, r, q, aw, ps, n, rs, bs, (rt : Int), _, _, _, rfl, W1.same s1, .int _, .int _, .int _, fun i j v2 p3 ws e1 e2 e4 e3 hj y0 y1 => ?_, fun y => absurd (hh.symm.trans y) (by decide), fun _ y => absurd ((below_of (by omega) (by omega)).symm.trans y) (by decide), fun _ _ y => absurd ((below_of v0 v1).symm.trans y) (by decide)⟩
      obtain rfl : p = i := by have := V.int.inj e1; omega
      obtain rfl : pl % 8 = j := by have := V.int.inj e2; omega
      cases e4
      exact q1 _ ((W1.same s1).setW e3 v0 v1) fun b o nb _ z => by rw [upd_ne (show b ≠ p3 from fun y => nb (y ▸ .inr ⟨_, ws, e3⟩))]; exact s1 _ _ z
    · obtain ⟨hp, _, _, hh0, _⟩ := look_trail ht
      have q1 := (kk.2 hm).2 p1 pg t0 l ht H1 W1 k1
      have hh : hasP (mkN (mkN ps rt (pl / 8 / 8) 8) p1 (pl / 8 % 8) (if true = true then 24 else 8)) (.int (pg : Int)) = true := by rw [hasP_mkN, hasP_mkN]; exact hh0
      obtain ⟨dx, fs, ha, wf⟩ := W1.ob
      refine ⟨_, rfl, a, dx, fs, rfl, ha, wf.no _ (by decide +kernel) (by decide +kernel) (by decide +kernel) (by decide +kernel), _, rfl, _, rfl, pl, rfl, hp, fun t ht => ?_⟩
      have s1 := same_new (o := .tup [.int ((pl / 8 / 8 : Nat) : Int), .int ((pl / 8 % 8 : Nat) : Int), .int ((pl % 8 : Nat) : Int)]) ht
      refine ⟨t, _, _, _, rfl, rfl, SqT.of upd_same, rfl, _, rfl, a, m, h, r, q, aw, (mkN (mkN ps rt (pl / 8 / 8) 8) p1 (pl / 8 % 8) (if true = true then 24 else 8)), n, (keepR n rs (((pl / 8 : Nat) : Int), (pg : Int), ((if true = true then rigN t0 l ||| 16 else rigN t0 l : Nat) : Int))).1, bs, (rt : Int), _, _, _, rfl, W1.same s1, .int _, .int _, .int _, fun i j v2 p3 ws e1 e2 e4 e3 hj y0 y1 => ?_, fun y => absurd (hh.symm.trans y) (by decide), fun _ y => absurd ((below_of (by omega) (by omega)).symm.trans y) (by decide), fun _ _ y => absurd ((below_of v0 v1).symm.trans y) (by decide)⟩
      obtain rfl : pg = i := by have := V.int.inj e1; omega
      obtain rfl : pl % 8 = j := by have := V.int.inj e2; omega
      cases e4
      exact q1 _ ((W1.same s1).setW e3 v0 v1) fun b o nb _ z => by rw [upd_ne (show b ≠ p3 from fun y => nb (y ▸ .inr ⟨_, ws, e3⟩))]; exact s1 _ _ z
end
end K25
end
section
namespace K25
open PySem L2
abbrev sCell : Stmt := top 51
abbrev sLWhole : Stmt := top 52
abbrev sRow : Stmt := top 53
abbrev sPgs : Stmt := top 54
abbrev sCopy : Stmt := top 55
abbrev sIsI : Stmt := top 57
abbrev sThere : Stmt := top 59
def spCell (K : PySem.W.Frag) : Sp := fun vs H Q _ => ∃ (a : Addr) (ns : List Int) (k : Nat), vs = [.ref a, .int k] ∧ SqL K H a (ns.map V.int) ∧ Q (.int (ns.getD k 0)) H
def spRow : Sp := fun vs H Q _ => ∃ (x : Int) (n : Nat), vs = [.int x, .int n] ∧ 0 ≤ x ∧ x < 2147483648 ∧ n ≤ 24 ∧ ∀ (r : Int) (H' : Hp), Same H H' → 0 ≤ r → r < 281474976710656 → Q (.int r) H'
def spThere : Sp := fun vs H Q _ => ∃ (D : Addr) (ps : Pgs) (i : Nat), vs = [.ref D, .int i] ∧ Pg H D ps ∧ Q (.bl (isThere ps[i]?)) H
def spCopy : Sp := fun vs H Q _ => ∃ (p : Addr) (ps : Pgs), vs = [.ref p] ∧ Pg H p ps ∧ ps.length ≤ 1000 ∧ ∀ D H' qs, Same H H' → Pg H' D qs → cont qs = cont ps → (∀ b, At D qs b → H b = none) → Q (.ref D) H'
def spIsI : Sp := fun vs H Q _ => ∃ (p r : Addr) (ps qs : Pgs), vs = [.ref p, .ref r] ∧ Pg H p ps ∧ Pg H r qs ∧ Good ps ∧ cont ps = cont qs ∧ ps.length ≤ 24 ∧ Q (.bl true) H
theorem marks_at {k : Nat} (h : k < 16) : ∃ c : Int, atI ([3, 3, 3, 1, 7, 3, 19, 3, 11, 27, 31, 5, 2, 3, 0, 227].map V.int) (k : Int) = some (.int c) ∧ 0 ≤ c ∧ c < 256 := by
  rcases (show k = 0 ∨ k = 1 ∨ k = 2 ∨ k = 3 ∨ k = 4 ∨ k = 5 ∨ k = 6 ∨ k = 7 ∨ k = 8 ∨ k = 9 ∨ k = 10 ∨ k = 11 ∨ k = 12 ∨ k = 13 ∨ k = 14 ∨ k = 15 by omega) with rfl | rfl | rfl | rfl | rfl | rfl | rfl | rfl | rfl | rfl | rfl | rfl | rfl | rfl | rfl | rfl <;> exact ⟨_, rfl, by decide, by decide⟩
def spPgs (K : PySem.W.Frag) : Sp := fun vs H Q _ => ∃ (a : Addr) (ns : List Int), vs = [.ref a] ∧ SqL K H a (ns.map V.int) ∧ ∀ (D : Addr) (H' : Hp) (qs : Pgs), Same H H' → Pg H' D qs → Good qs → 1 ≤ qs.length → qs.length ≤ 24 → (∃ p ws, qs[0]? = some (some (p, ws))) → (∀ b, At D qs b → H b = none) → Q (.ref D) H'
section
variable {P : Program} {w : World} {K : PySem.W.Frag} {mg : Str → Option Value} {base : Heap} {C NP NL NW NI SC PL : Addr}
theorem scCe : FnScope ["_law_script", "_law_k"] ["_law_script", "_law_k"] (defScope sCell) := ⟨rfl, rfl, rfl, by decide +kernel, rfl, by decide +kernel, by decide +kernel⟩
theorem ok_cell {f : Addr} {fd : FuncData} (F : Fun K "_law_cell_at" "_law_cell_at" sCell f fd) (T : Txt K mg) : FnOk P w K mg base CX0 1 f fd ["_law_script", "_law_k"] (spCell K) := by
  refine F.ok scCe (fun vs H Q E h => ?_) (fun cdv A outer s H vs Q E hr h => ?_)
  · obtain ⟨x, ns, k, rfl, _⟩ := h
    rfl
  · obtain ⟨x, ns, k, rfl, hS, q⟩ := h
    refine ⟨_, (pss_cons (ps_if (pt_cmpR op_lt (pv 1) (pe_callB call_len_seq (by rfl) T.len PySem.boot_len (pa_cons (pv 0) pa_nil)) (nomark _)) (pss_one (ps_ret (pe_ix ix_list (pv 0) (pv 1) (fun _ _ => rfl)))) pss_nil) (pss_one (ps_ret pe_int))), ?_⟩
    refine ⟨_, rfl, _, rfl, x, _, rfl, .inl hS, _, _, rfl, rfl, _, rfl, ite2 (fun z => ?_) (fun z => ?_)⟩
    · have z' := of_decide_eq_true z
      rw [List.length_map] at z'
      exact ⟨_, rfl, _, rfl, x, _, _, _, rfl, rfl, hS, atI_word (by omega), q⟩
    · have z' : ¬ ((k : Int) < ((ns.map V.int).length : Int)) := fun y => z (decide_eq_true y)
      rw [List.length_map] at z'
      rw [List.getD_eq_getElem?_getD, List.getElem?_eq_none (by omega)] at q
      exact q
theorem scLW : FnScope ["_law_found"] ["_law_found"] (defScope sLWhole) := ⟨rfl, rfl, rfl, by decide +kernel, rfl, by decide +kernel, by decide +kernel⟩
theorem ok_lwhole {f : Addr} {fd : FuncData} (F : Fun K "_law_whole" "_law_whole" sLWhole f fd) (T : Txt K mg) : FnOk P w K mg base CX0 1 f fd ["_law_found"] spWhole := by
  refine F.ok scLW (fun vs H Q E h => ?_) (fun cdv A outer s H vs Q E hr h => ?_)
  · obtain ⟨x, rfl, _⟩ := h
    rfl
  · obtain ⟨x, rfl, th, q⟩ := h
    refine ⟨_, (pss_one (ps_ret (pe_and (pe_callB call_isint (by rfl) T.isi PyProof.Rows.boot_isinstance (pa_cons (pv 0) (pa_cons (pe_bltn (by rfl) T.int PyProof.Rows.boot_int (show RelV (.ty "int") (.type "int") from rfl)) pa_nil))) (pe_one (pe_not (pe_callB call_isbool (by rfl) T.isi PyProof.Rows.boot_isinstance (pa_cons (pv 0) (pa_cons (pe_bltn (by rfl) T.boo PyProof.Rows.boot_bool (show RelV (.ty "bool") (.type "bool") from rfl)) pa_nil)))))))), ?_⟩
    refine ⟨x, rfl, x, rfl, th, _, rfl, ?_⟩
    cases th with
    | non => exact iteF q
    | bl b => exact iteT ⟨_, rfl, _, rfl, .bl b, _, rfl, q⟩
    | int i => exact iteT ⟨_, rfl, _, rfl, .int i, _, rfl, q⟩
    | str z => exact iteF q
    | lst e => exact iteF q
    | frz e => exact iteF q
    | tup e => exact iteF q
    | dic e => exact iteF q
theorem scRo : FnScope ["_law_mixed", "_law_many", "_law_marks", "_law_page"] ["_law_mixed", "_law_many"] (defScope sRow) := ⟨rfl, rfl, rfl, by decide +kernel, rfl, by decide +kernel, by decide +kernel⟩
theorem ok_row {f : Addr} {fd : FuncData} (F : Fun K "_law_row_by" "_law_row_by" sRow f fd) : FnOk P w K mg base CX0 1 f fd ["_law_mixed", "_law_many"] spRow := by
  refine F.ok scRo (fun vs H Q E h => ?_) (fun cdv A outer s H vs Q E hr h => ?_)
  · obtain ⟨x, n, rfl, _⟩ := h
    rfl
  · obtain ⟨x, n, rfl, x0, x1, hn, q⟩ := h
    have e48 : (2 : Int) ^ (48 : Int).toNat = 281474976710656 := by decide
    have e40 : (2 : Int) ^ (40 : Int).toNat = 1099511627776 := by decide
    obtain ⟨t3, R3, hR3⟩ : ∃ tr, PSs (cxOf CX0 P w K mg base ["_law_mixed", "_law_many", "_law_marks", "_law_page"] "_law_row_by" (defScope sRow) f cdv A outer s H E).nox ((defBody sRow).drop 3) tr ∧ ∀ (H1 : Hp) (c y : Int), Same H H1 → 0 ≤ c → c < 256 → 0 ≤ y → y < 1099511627776 → tr { nx := fun _ H' => Q .non H', rt := Q } [some (.int x), some (.int n), some (.int c), some (.int y)] H1 := by
      refine ⟨_, (pss_cons (ps_if (pt_cmpR op_eq (pe_op op_mod (pv 0) pe_int) pe_int (nomark _)) (pss_one (ps_ret (pe_op op_mod (pe_op op_mul (pv 0) (pv 0)) (pe_op op_pow pe_int pe_int)))) pss_nil) (pss_one (ps_ret (pe_op op_add (pe_op op_mul (pv 3) pe_int) (pv 2))))), fun H1 c y ss c0 c1 y0 y1 => ?_⟩
      refine ⟨_, rfl, x, 16, rfl, rfl, (by show (0 : Int) < 16; decide), rfl, _, rfl, ite2 (fun _ => ?_) (fun _ => ?_)⟩
      · refine ⟨_, rfl, _, rfl, x, x, rfl, rfl, .inl ⟨by omega, by omega⟩, 2, 48, rfl, rfl, ⟨by decide, by decide, by decide⟩, _, _, rfl, rfl, (by show (0 : Int) < 2 ^ (48 : Int).toNat; decide), ?_⟩
        refine q _ H1 ss ?_ ?_
        · exact Int.emod_nonneg _ (by decide)
        · rw [e48]; exact Int.emod_lt_of_pos _ (by decide)
      · exact ⟨_, rfl, y, 256, rfl, rfl, .inr ⟨by decide, by decide⟩, _, rfl, _, c, rfl, rfl, q _ H1 ss (by omega) (by omega)⟩
    have RT : PSsq (cxOf CX0 P w K mg base ["_law_mixed", "_law_many", "_law_marks", "_law_page"] "_law_row_by" (defScope sRow) f cdv A outer s H E).nox (defBody sRow) _ := pssq_cons (psq_setq (i := 2) scRo.nd rfl (Or.inl rfl) (peq_ix ix_list (peq_ints (.cons (.cons (.cons (.cons (.cons (.cons (.cons (.cons (.cons (.cons (.cons (.cons (.cons (.cons (.cons (.cons .nil))))))))))))))))) (peq_op op_mod (peq_op op_fdiv ⟨pv 0⟩ ⟨pe_int⟩) ⟨pe_int⟩) (fun _ _ => rfl))) (pssq_cons (psq_setq (i := 3) scRo.nd rfl (Or.inl rfl) (peq_op op_mod (peq_op op_fdiv ⟨pv 0⟩ ⟨pe_int⟩) (peq_op op_add ⟨pv 1⟩ ⟨pe_int⟩))) (pssq_cons (psq_if ⟨pt_cmpR op_eq (pe_op op_mod (pv 0) pe_int) pe_int (nomark _)⟩ (pssq_one (psq_setq (i := 3) scRo.nd rfl (Or.inl rfl) (peq_op op_sub (peq_op op_sub (peq_op op_pow ⟨pe_int⟩ ⟨pe_int⟩) ⟨pe_int⟩) ⟨pv 3⟩))) pssq_nil) ⟨R3⟩))
    refine PSsq.ex RT ?_
    refine ⟨by show 16 ≤ sizeLine; decide, fun p hp => ?_⟩
    have s1 := same_new (o := .lst ([3, 3, 3, 1, 7, 3, 19, 3, 11, 27, 31, 5, 2, 3, 0, 227].map V.int)) hp
    obtain ⟨k, hk⟩ : ∃ k : Nat, x / 16 % 16 = (k : Int) := ⟨(x / 16 % 16).toNat, by omega⟩
    obtain ⟨c, hc, c0, c1⟩ := marks_at (k := k) (by omega)
    refine ⟨_, rfl, x, 16, rfl, rfl, ⟨by decide, by decide⟩, _, 16, rfl, rfl, (by show (0 : Int) < 16; decide), p, _, _, _, rfl, rfl, SqL.of upd_same, (by rw [hk]; exact hc), ?_⟩
    refine ⟨_, rfl, x, 256, rfl, rfl, ⟨by decide, by decide⟩, _, rfl, _, 1, rfl, rfl, _, _, rfl, rfl, (by show (0 : Int) < (n : Int) + 1; omega), ?_⟩
    have y0 : 0 ≤ x / 256 % ((n : Int) + 1) := Int.emod_nonneg _ (by omega)
    have y1 : x / 256 % ((n : Int) + 1) < (n : Int) + 1 := Int.emod_lt_of_pos _ (by omega)
    dsimp only
    generalize x / 256 % ((n : Int) + 1) = y at y0 y1 ⊢
    refine ⟨_, rfl, x, 16, rfl, rfl, (by show (0 : Int) < 16; decide), rfl, _, rfl, ite2 (fun _ => ?_) (fun _ => ?_)⟩
    · refine ⟨2, 40, rfl, rfl, ⟨by decide, by decide, by decide⟩, _, 1, rfl, rfl, _, rfl, _, y, rfl, rfl, ?_⟩
      dsimp only
      rw [e40]
      exact hR3 _ c _ s1 c0 c1 (by omega) (by omega)
    · exact hR3 _ c y s1 c0 c1 y0 (by omega)
theorem scTh : FnScope ["_law_pages_here", "_law_page"] ["_law_pages_here", "_law_page"] (defScope sThere) := ⟨rfl, rfl, rfl, by decide +kernel, rfl, by decide +kernel, by decide +kernel⟩
theorem ok_there {f : Addr} {fd : FuncData} (F : Fun K "_law_there" "_law_there" sThere f fd) (T : Txt K mg) : FnOk P w K mg base CX0 1 f fd ["_law_pages_here", "_law_page"] spThere := by
  refine F.ok scTh (fun vs H Q E h => ?_) (fun cdv A outer s H vs Q E hr h => ?_)
  · obtain ⟨D, ps, i, rfl, _⟩ := h
    rfl
  · obtain ⟨D, ps, i, rfl, g, q⟩ := h
    refine ⟨_, (pss_one (ps_ret (pe_and (pe_cmpR op_lt (pv 1) (pe_callB call_len_seq (by rfl) T.len PySem.boot_len (pa_cons (pv 0) pa_nil)) (nomark _)) (pe_one (pe_cmpR op_notN (pe_ix ix_list (pv 0) (pv 1) (fun _ _ => rfl)) pe_non (nomark _)))))), ?_⟩
    refine ⟨_, rfl, _, rfl, D, _, rfl, .inl (SqL.of g.top), _, _, rfl, rfl, _, rfl, ite2 (fun z => ?_) (fun z => ?_)⟩
    · have z' := of_decide_eq_true z
      rw [List.length_map] at z'
      have hi : i < ps.length := by omega
      obtain ⟨o, ho, hat⟩ := atI_pg (ps := ps) (i := i) hi
      rw [ho] at q
      refine ⟨_, rfl, _, rfl, D, _, _, _, rfl, rfl, SqL.of g.top, hat, rfl, ?_⟩
      cases o with
      | none => exact q
      | some y => exact q
    · have z' : ¬ ((i : Int) < ((ps.map pgV).length : Int)) := fun y => z (decide_eq_true y)
      rw [List.length_map] at z'
      rw [List.getElem?_eq_none (by omega)] at q
      exact q
theorem scCo : FnScope ["_law_pages_here", "_law_found", "_law_words"] ["_law_pages_here"] (defScope sCopy) := ⟨rfl, rfl, rfl, by decide +kernel, rfl, by decide +kernel, by decide +kernel⟩
theorem ok_copy {f : Addr} {fd : FuncData} (F : Fun K "_law_copy" "_law_copy" sCopy f fd) (T : Txt K mg) : FnOk P w K mg base CX0 1 f fd ["_law_pages_here"] spCopy := by
  refine F.ok scCo (fun vs H Q E h => ?_) (fun cdv A outer s H vs Q E hr h => ?_)
  · obtain ⟨p, ps, rfl, _⟩ := h
    rfl
  · obtain ⟨p, ps, rfl, g, hl, q⟩ := h
    refine ⟨_, (pss_cons (ps_set (i := 1) scCo.nd rfl (Or.inl rfl) (pe_lst pa_nil)) (pss_cons (ps_for PassesOwn.never rfl (pi_list (pv 0)) (pg_name (i := 2) scCo.nd rfl (Or.inl rfl)) (pss_one (ps_if (pt_cmpR op_isN (pv 2) pe_non (nomark _)) (pss_one (ps_expr (pe_bm PySem.F.plainAttrs_list PySem.F.slot_list_append PySem.F.type_list_append mt_append (pv 1) (pa_cons pe_non pa_nil)))) (pss_one (ps_expr (pe_bm PySem.F.plainAttrs_list PySem.F.slot_list_append PySem.F.type_list_append mt_append (pv 1) (pa_cons (pe_callTy call_list_of (by rfl) T.lst PyProof.Rows.boot_list (pa_cons (pv 2) pa_nil)) pa_nil))))))) (pss_one (ps_ret (pv 1))))), ?_⟩
    refine ⟨by show 0 ≤ sizeLine; decide, fun D hD => ?_⟩
    have s1 := same_new (o := .lst []) hD
    refine ⟨_, rfl, p, rfl, ⟨_, SqL.of (s1 _ _ g.top)⟩, for_list (K := K) (a := p) (xs := ps.map pgV) (fun i σ H' => (∃ v, σ = [some (.ref p), some (.ref D), v]) ∧ ∃ qs : Pgs, Same H H' ∧ Pg H' D qs ∧ qs.length = i ∧ cont qs = (cont ps).take i ∧ (∀ b, At D qs b → H b = none)) ?_ ?_ ?_ ?_⟩
    · refine ⟨⟨_, rfl⟩, [], s1, ⟨upd_same, fun i p ws e => by simp at e, fun i j p ws ws' e => by simp at e⟩, rfl, rfl, fun b hb => ?_⟩
      rcases hb with rfl | ⟨i, ws, e⟩
      · exact hD
      · simp at e
    · rintro i σ H' _ ⟨_, qs, ss, _⟩
      exact SqL.of (ss _ _ g.top)
    · rintro i x σ H' hi ⟨⟨v, rfl⟩, qs, ss, gq, hql, hc, hf⟩
      rw [List.getElem?_map] at hi
      cases eo : ps[i]? with
      | none => rw [eo] at hi; cases hi
      | some o =>
      rw [eo] at hi
      have hi' : pgV o = x := Option.some.inj hi
      subst hi'
      have hil : i < ps.length := (List.getElem?_eq_some_iff.mp eo).1
      have sl : i < sizeLine := Nat.lt_of_lt_of_le (show i < 1001 by omega) (by decide)
      have sz : (qs.map pgV).length < sizeLine := by rw [List.length_map, hql]; exact sl
      have tk : (cont ps).take (i + 1) = (cont ps).take i ++ [o.map (·.2)] := by
        have : (cont ps)[i]? = some (o.map (·.2)) := by unfold cont; rw [List.getElem?_map, eo]; rfl
        rw [List.take_add_one, this]
        rfl
      cases o with
      | none =>
        refine ⟨_, rfl, rfl, _, rfl, iteTS rfl ⟨_, rfl, .inl ⟨rfl, _, SqL.of gq.top⟩, D, _, _, rfl, rfl, gq.top, sz, ⟨_, rfl⟩, qs ++ [none], ss.set hD, gq.app (o := none) (Same.refl _) (fun q ws e => by cases e), by rw [List.length_append, hql]; rfl, by rw [tk, ← hc]; unfold cont; rw [List.map_append]; rfl, fun b hb => ?_⟩⟩
        rcases hb.app with z | ⟨ws, z⟩
        · exact hf b z
        · cases z
      | some t =>
        obtain ⟨pt, wt⟩ := t
        have hp := ss _ _ (g.each i pt wt eo).1
        refine ⟨_, rfl, rfl, _, rfl, iteFS (decide_eq_false nofun) ⟨_, rfl, .inl ⟨rfl, _, SqL.of gq.top⟩, _, rfl, pt, _, rfl, .inl (SqL.of hp), fun l hl0 => ?_⟩⟩
        have s2 := same_new (o := .lst (wt.map V.int)) hl0
        have hn : ∀ (q : Addr) (ws : List Int), some (l, wt) = some (q, ws) → upd H' l (.lst (wt.map V.int)) q = some (.lst (ws.map V.int)) ∧ H' q = none := fun q ws e => by
          cases e
          exact ⟨upd_same, hl0⟩
        refine ⟨D, _, _, rfl, rfl, s2 _ _ gq.top, sz, ⟨_, rfl⟩, qs ++ [some (l, wt)], (ss.trans s2).set hD, gq.app s2 hn, by rw [List.length_append, hql]; rfl, ?_, fun b hb => ?_⟩
        · rw [tk, ← hc]
          unfold cont
          rw [List.map_append]
          rfl
        · rcases hb.app with z | ⟨ws, z⟩
          · exact hf b z
          · cases z
            exact ss.free hl0
    · rintro σ H' ⟨⟨v, rfl⟩, qs, ss, gq, hql, hc, hf⟩
      refine ⟨_, rfl, q D H' qs ss gq ?_ hf⟩
      rw [hc, List.take_of_length_le]
      unfold cont
      rw [List.length_map, List.length_map]
      exact Nat.le_refl _
theorem scIs : FnScope ["_law_found", "_law_due", "_law_words", "_law_word"] ["_law_found", "_law_due"] (defScope sIsI) := ⟨rfl, rfl, rfl, by decide +kernel, rfl, by decide +kernel, by decide +kernel⟩
theorem ok_isi {f f1 : Addr} {fd fd1 : FuncData} (F : Fun K "_law_is_image" "_law_is_image" sIsI f fd) (D1 : Dn K mg "_law_whole" sLWhole ["_law_found"] f1 fd1) (G1 : FnOk P w K mg base CX0 1 f1 fd1 ["_law_found"] spWhole) (T : Txt K mg) : FnOk P w K mg base CX0 2 f fd ["_law_found", "_law_due"] spIsI := by
  refine F.ok scIs (fun vs H Q E h => ?_) (fun cdv A outer s H vs Q E hr h => ?_)
  · obtain ⟨p, r, ps, qs, rfl, _⟩ := h
    rfl
  · obtain ⟨p, r, ps, qs, rfl, g, g', gd, hc, hl, q⟩ := h
    have hlen := cont_len hc
    refine ⟨_, (pss_cons (ps_if (PW.pt (pw_or (pt_not (pt_val (pe_callB call_islist (by rfl) T.isi PyProof.Rows.boot_isinstance (pa_cons (pv 0) (pa_cons (pe_bltn (by rfl) T.lst PyProof.Rows.boot_list (show RelV (.ty "list") (.type "list") from rfl)) pa_nil))))) (pw_or1 (pt_cmpR op_ne (pe_callB call_len_seq (by rfl) T.len PySem.boot_len (pa_cons (pv 0) pa_nil)) (pe_callB call_len_seq (by rfl) T.len PySem.boot_len (pa_cons (pv 1) pa_nil)) (nomark _))))) (pss_one (ps_ret pe_bl)) pss_nil) (pss_cons (ps_for PassesOwn.never rfl (pi_list (pv 0)) (pg_name (i := 2) scIs.nd rfl (Or.inl rfl)) (pss_one (ps_if (pt_cmpR op_notN (pv 2) pe_non (nomark _)) (pss_cons (ps_if (PW.pt (pw_or (pt_not (pt_val (pe_callB call_islist (by rfl) T.isi PyProof.Rows.boot_isinstance (pa_cons (pv 2) (pa_cons (pe_bltn (by rfl) T.lst PyProof.Rows.boot_list (show RelV (.ty "list") (.type "list") from rfl)) pa_nil))))) (pw_or1 (pt_cmpR op_ne (pe_callB call_len_seq (by rfl) T.len PySem.boot_len (pa_cons (pv 2) pa_nil)) pe_int (nomark _))))) (pss_one (ps_ret pe_bl)) pss_nil) (pss_one (ps_for PassesOwn.never rfl (pi_list (pv 2)) (pg_name (i := 3) scIs.nd rfl (Or.inl rfl)) (pss_one (ps_if (pt_not (pt_val (pe_call G1 hr (by rfl) D1.m D1.F.kp D1.b .nil pass0 (pa_cons (pv 3) pa_nil)))) (pss_one (ps_ret pe_bl)) pss_nil))))) pss_nil))) (pss_one (ps_ret (pe_cmpR (op_eqD hr.units) (pv 0) (pv 1) (nomark _)))))), ?_⟩
    refine ⟨_, rfl, _, rfl, .lst g.top, _, rfl, iteFS (by show (!isLst H (.ref p)) = false; rw [isLst_of g.top]; rfl) ?_⟩
    refine ⟨_, rfl, p, _, rfl, .inl (SqL.of g.top), _, rfl, r, _, rfl, .inl (SqL.of g'.top), rfl, _, rfl, iteFS (by show (!decide (V.int ((ps.map pgV).length : Int) = V.int ((qs.map pgV).length : Int))) = false; rw [List.length_map, List.length_map, hlen, decide_eq_true rfl]; rfl) ?_⟩
    refine ⟨_, rfl, p, rfl, ⟨_, SqL.of g.top⟩, for_list (K := K) (a := p) (xs := ps.map pgV) (fun i σ H' => H' = H ∧ ∃ v1 v2, σ = [some (.ref p), some (.ref r), v1, v2]) ?_ ?_ ?_ ?_⟩
    · exact ⟨rfl, _, _, rfl⟩
    · rintro i σ H' _ ⟨rfl, _⟩
      exact SqL.of g.top
    · rintro i x σ H' hi ⟨rfl, v1, v2, rfl⟩
      rw [List.getElem?_map] at hi
      cases eo : ps[i]? with
      | none => rw [eo] at hi; cases hi
      | some o =>
      rw [eo] at hi
      have hi' : pgV o = x := Option.some.inj hi
      subst hi'
      cases o with
      | none => exact ⟨_, rfl, rfl, _, rfl, iteFS rfl ⟨rfl, _, _, rfl⟩⟩
      | some t =>
        obtain ⟨pt, wt⟩ := t
        have hp := (g.each i pt wt eo).1
        have w8 := (gd i pt wt eo).1
        refine ⟨_, rfl, rfl, _, rfl, iteTS (by show (!decide (V.ref pt = V.non)) = true; rw [decide_eq_false nofun]; rfl) ?_⟩
        refine ⟨_, rfl, _, rfl, .lst hp, _, rfl, iteFS (by show (!isLst H' (.ref pt)) = false; rw [isLst_of hp]; rfl) ?_⟩
        refine ⟨_, rfl, pt, _, rfl, .inl (SqL.of hp), rfl, _, rfl, iteFS (by show (!decide (V.int ((wt.map V.int).length : Int) = V.int 8)) = false; rw [List.length_map, w8]; rfl) ?_⟩
        refine ⟨_, rfl, pt, rfl, ⟨_, SqL.of hp⟩, for_list (K := K) (a := pt) (xs := wt.map V.int) (fun i2 σ H2 => H2 = H' ∧ ∃ v2, σ = [some (.ref p), some (.ref r), some (.ref pt), v2]) ?_ ?_ ?_ ?_⟩
        · exact ⟨rfl, _, rfl⟩
        · rintro i2 σ H2 _ ⟨rfl, _⟩
          exact SqL.of hp
        · rintro i2 y σ H2 hi2 ⟨rfl, v2, rfl⟩
          rw [List.getElem?_map] at hi2
          cases ew : wt[i2]? with
          | none => rw [ew] at hi2; cases hi2
          | some z =>
            rw [ew] at hi2
            have hi2' : V.int z = y := Option.some.inj hi2
            subst hi2'
            exact ⟨_, rfl, _, rfl, .int z, _, rfl, iteF ⟨rfl, _, rfl⟩⟩
        · rintro σ H2 ⟨rfl, v2, rfl⟩
          exact ⟨rfl, _, _, rfl⟩
    · rintro σ H' ⟨rfl, v1, v2, rfl⟩
      refine ⟨_, rfl, _, rfl, _, _, datPg g, datPg g', shapedC _, shapedC _, ?_⟩
      rw [hc, eqvC]
      exact q
theorem scPg : FnScope ["_law_script", "_law_cell", "_law_many", "_law_mixed", "_law_pages_here", "_law_page", "_law_words", "_law_k"] ["_law_script"] (defScope sPgs) := ⟨rfl, rfl, rfl, by decide +kernel, rfl, by decide +kernel, by decide +kernel⟩
theorem ok_pages {f f1 f2 : Addr} {fd fd1 fd2 : FuncData} (F : Fun K "_law_pages" "_law_pages" sPgs f fd) (D1 : Dn K mg "_law_cell_at" sCell ["_law_script", "_law_k"] f1 fd1) (G1 : FnOk P w K mg base CX0 1 f1 fd1 ["_law_script", "_law_k"] (spCell K))
    (D2 : Dn K mg "_law_row_by" sRow ["_law_mixed", "_law_many"] f2 fd2) (G2 : FnOk P w K mg base CX0 1 f2 fd2 ["_law_mixed", "_law_many"] spRow) (T : Txt K mg) : FnOk P w K mg base CX0 2 f fd ["_law_script"] (spPgs K) := by
  refine F.ok scPg (fun vs H Q E h => ?_) (fun cdv A outer s H vs Q E hr h => ?_)
  · obtain ⟨x, ns, rfl, _⟩ := h
    rfl
  · obtain ⟨x, ns, rfl, hS, q⟩ := h
    obtain ⟨t3, R3, hR3⟩ : ∃ tr, PSs (cxOf CX0 P w K mg base ["_law_script", "_law_cell", "_law_many", "_law_mixed", "_law_pages_here", "_law_page", "_law_words", "_law_k"] "_law_pages" (defScope sPgs) f cdv A outer s H E).nox ((defBody sPgs).drop 3) tr ∧ ∀ (c m : Int), 1 ≤ m → m ≤ 24 → tr { nx := fun _ H' => Q .non H', rt := Q } [some (.ref x), some (.int c), some (.int m), none, none, none, none, none] H := by
      refine ⟨_, (pss_cons (ps_set (i := 3) scPg.nd rfl (Or.inl rfl) (pe_op op_add pe_int (pe_op op_mod (pe_op op_mul (pe_call G1 hr (by rfl) D1.m D1.F.kp D1.b .nil pass0 (pa_cons (pv 0) (pa_cons pe_int pa_nil))) pe_int) pe_int))) (pss_cons (ps_set (i := 4) scPg.nd rfl (Or.inl rfl) (pe_lst pa_nil)) (pss_cons (ps_for PassesOwn.never rfl (pi_range1 (by rfl) T.rng (pa_cons (pv 2) pa_nil)) (pg_name (i := 5) scPg.nd rfl (Or.inl rfl)) (pss_cons (ps_set (i := 6) scPg.nd rfl (Or.inl rfl) (pe_lst pa_nil)) (pss_cons (ps_for PassesOwn.never rfl (pi_range1 (by rfl) T.rng (pa_cons pe_int pa_nil)) (pg_name (i := 7) scPg.nd rfl (Or.inl rfl)) (pss_cons (ps_set (i := 3) scPg.nd rfl (Or.inl rfl) (pe_op op_mod (pe_op op_add (pe_op op_mul (pv 3) pe_int) (pe_call G1 hr (by rfl) D1.m D1.F.kp D1.b .nil pass0 (pa_cons (pv 0) (pa_cons (pe_op op_add pe_int (pe_op op_mod (pe_op op_add (pe_op op_mul (pv 5) pe_int) (pv 7)) pe_int)) pa_nil)))) pe_int)) (pss_one (ps_expr (pe_bm PySem.F.plainAttrs_list PySem.F.slot_list_append PySem.F.type_list_append mt_append (pv 6) (pa_cons (pe_call G2 hr (by rfl) D2.m D2.F.kp D2.b .nil pass0 (pa_cons (pv 3) (pa_cons (pv 2) pa_nil))) pa_nil)))))) (pss_cons (ps_if (PW.pt (pw_and (pt_cmpR op_gt (pv 5) pe_int (nomark _)) (pw_and1 (pt_cmpR op_eq (pe_op op_mod (pv 3) pe_int) pe_int (nomark _))))) (pss_one (ps_set (i := 6) scPg.nd rfl (Or.inl rfl) pe_non)) pss_nil) (pss_one (ps_expr (pe_bm PySem.F.plainAttrs_list PySem.F.slot_list_append PySem.F.type_list_append mt_append (pv 4) (pa_cons (pv 6) pa_nil)))))))) (pss_one (ps_ret (pv 4)))))), fun c m m1 m2 => ?_⟩
      obtain ⟨n, rfl⟩ : ∃ n : Nat, m = (n : Int) := ⟨m.toNat, by omega⟩
      refine ⟨_, rfl, x, ns, 1, rfl, hS, _, 1226874159, rfl, rfl, .inr ⟨by decide, by decide⟩, _, 2147483647, rfl, rfl, (by show (0 : Int) < 2147483647; decide), 1, _, rfl, rfl, ?_⟩
      have b0 : 0 ≤ ns.getD 1 0 * 1226874159 % 2147483647 := Int.emod_nonneg _ (by decide)
      have b1 : ns.getD 1 0 * 1226874159 % 2147483647 < 2147483647 := Int.emod_lt_of_pos _ (by decide)
      dsimp only
      generalize ns.getD 1 0 * 1226874159 % 2147483647 = mx0 at b0 b1 ⊢
      refine ⟨by show 0 ≤ sizeLine; decide, fun D hD => ?_⟩
      refine ⟨_, rfl, (n : Int), rfl, by omega, by omega, ?_⟩
      rw [Int.toNat_natCast]
      refine for_range (lo := 0) (n := n) (fun i σ H' => ∃ (mx : Int) (v1 v2 v3 : Option V), σ = [some (.ref x), some (.int c), some (.int n), some (.int mx), some (.ref D), v1, v2, v3] ∧ 0 ≤ mx ∧ mx ≤ 2147483647 ∧ ∃ qs : Pgs, Same H H' ∧ Pg H' D qs ∧ Good qs ∧ qs.length = i ∧ (0 < i → ∃ p ws, qs[0]? = some (some (p, ws))) ∧ (∀ b, At D qs b → H b = none)) ?_ ?_ ?_
      · refine ⟨_, _, _, _, rfl, by omega, by omega, [], same_new hD, ⟨upd_same, fun i p ws e => by simp at e, fun i j p ws ws' e => by simp at e⟩, fun i p ws e => by simp at e, rfl, (fun z => absurd z (by decide)), fun b hb => ?_⟩
        rcases hb with rfl | ⟨i, ws, e⟩
        · exact hD
        · simp at e
      · rintro i σ H' hi ⟨mx, v1, v2, v3, rfl, x0, x1, qs, ss, gq, hg, hql, h00, hf⟩
        have ei : (0 : Int) + (i : Int) = (i : Int) := by omega
        rw [ei]
        have sl : i < sizeLine := Nat.lt_of_lt_of_le (show i < 25 by omega) (by decide)
        have sz : (qs.map pgV).length < sizeLine := by rw [List.length_map, hql]; exact sl
        refine ⟨by show 0 ≤ sizeLine; decide, fun l hl => ?_⟩
        refine ⟨8, rfl, by decide, by decide, for_range (lo := 0) (n := 8) (fun j σ H2 => ∃ (my : Int) (v3 : Option V), σ = [some (.ref x), some (.int c), some (.int n), some (.int my), some (.ref D), some (.int i), some (.ref l), v3] ∧ 0 ≤ my ∧ my ≤ 2147483647 ∧ ∃ ws : List Int, Same H' H2 ∧ H2 l = some (.lst (ws.map V.int)) ∧ ws.length = j ∧ ∀ w ∈ ws, 0 ≤ w ∧ w < 281474976710656) ?_ ?_ ?_⟩
        · exact ⟨_, _, rfl, x0, x1, [], same_new hl, upd_same, rfl, fun w hw => by cases hw⟩
        · rintro j σ H2 hj ⟨my, v3, rfl, y0, y1, ws, s2, el, wl, wb⟩
          have ej : (0 : Int) + (j : Int) = (j : Int) := by omega
          rw [ej]
          refine ⟨_, rfl, my, 48271, rfl, rfl, .inr ⟨by decide, by decide⟩, _, rfl, _, rfl, (i : Int), 8, rfl, rfl, .inr ⟨by decide, by decide⟩, _, rfl, _, (j : Int), rfl, rfl, _, 60, rfl, rfl, (by show (0 : Int) < 60; decide), 2, _, rfl, rfl, x, ns, 2 + (i * 8 + j) % 60, congrArg (fun z => [V.ref x, V.int z]) (show (2 : Int) + ((i : Int) * 8 + (j : Int)) % 60 = ((2 + (i * 8 + j) % 60 : Nat) : Int) by omega), (ss.trans s2).seq hS, _, _, rfl, rfl, _, 2147483647, rfl, rfl, (by show (0 : Int) < 2147483647; decide), ?_⟩
          generalize ns.getD (2 + (i * 8 + j) % 60) 0 = d
          have z0 : 0 ≤ (my * 48271 + d) % 2147483647 := Int.emod_nonneg _ (by decide)
          have z1 : (my * 48271 + d) % 2147483647 < 2147483647 := Int.emod_lt_of_pos _ (by decide)
          dsimp only
          generalize (my * 48271 + d) % 2147483647 = mz at z0 z1 ⊢
          refine ⟨_, rfl, .inl ⟨rfl, _, SqL.of el⟩, _, rfl, _, rfl, mz, n, rfl, z0, by omega, by omega, fun r H3 s3 r0 r1 => ⟨l, _, _, rfl, rfl, s3 _ _ el, ?_, mz, _, rfl, z0, by omega, ws ++ [r], (s2.trans s3).set hl, ?_, by rw [List.length_append, wl]; rfl, fun w hw => ?_⟩⟩
          · rw [List.length_map, wl]; exact Nat.lt_of_lt_of_le (show j < 9 by omega) (by decide)
          · rw [upd_same, List.map_append]; rfl
          · rcases List.mem_append.mp hw with z | z
            · exact wb w z
            · rw [List.mem_singleton.mp z]
              exact ⟨r0, r1⟩
        · rintro σ H2 ⟨my, v3, rfl, y0, y1, ws, s2, el, wl, wb⟩
          have hn : ∀ (q : Addr) (vs : List Int), some (l, ws) = some (q, vs) → H2 q = some (.lst (vs.map V.int)) ∧ H' q = none := fun q vs e => by
            cases e
            exact ⟨el, hl⟩
          have hzero : ∃ p vs, (qs ++ [some (l, ws)])[0]? = some (some (p, vs)) := by
            by_cases h0 : 0 < i
            · obtain ⟨p0, w0, e0⟩ := h00 h0
              exact ⟨p0, w0, by rw [List.getElem?_append_left (List.getElem?_eq_some_iff.mp e0).1]; exact e0⟩
            · have z : qs = [] := List.length_eq_zero_iff.mp (by omega)
              subst z
              exact ⟨l, ws, rfl⟩
          have fin : ∀ b, At D (qs ++ [some (l, ws)]) b → H b = none := fun b hb => by
            rcases hb.app with z | ⟨ws, z⟩
            · exact hf b z
            · cases z
              exact ss.free hl
          refine ⟨_, rfl, _, 0, rfl, rfl, _, rfl, ite2 (fun zi => ⟨_, rfl, my, 7, rfl, rfl, (by show (0 : Int) < 7; decide), rfl, _, rfl, ite2 (fun _ => ⟨_, rfl, .inl ⟨rfl, _, SqL.of (s2 _ _ gq.top)⟩, _, rfl, D, _, _, rfl, rfl, s2 _ _ gq.top, sz, my, _, _, _, rfl, y0, y1, qs ++ [none], (ss.trans s2).set hD, gq.app (o := none) s2 (fun q ws e => by cases e), hg.app (o := none) (fun q ws e => by cases e), by rw [List.length_append, hql]; rfl, (fun _ => by obtain ⟨p0, w0, e0⟩ := h00 (by have := of_decide_eq_true zi; omega); exact ⟨p0, w0, by rw [List.getElem?_append_left (List.getElem?_eq_some_iff.mp e0).1]; exact e0⟩), fun b hb => ?_⟩) (fun _ => ?_)⟩) (fun _ => ?_)⟩
          · rcases hb.app with z | ⟨ws, z⟩
            · exact hf b z
            · cases z
          all_goals
            refine ⟨_, rfl, .inl ⟨rfl, _, SqL.of (s2 _ _ gq.top)⟩, _, rfl, D, _, _, rfl, rfl, s2 _ _ gq.top, sz, my, _, _, _, rfl, y0, y1, qs ++ [some (l, ws)], (ss.trans s2).set hD, gq.app s2 hn, hg.app fun q vs e => ?_, by rw [List.length_append, hql]; rfl, (fun _ => hzero), fin⟩
            cases e
            exact ⟨wl, wb⟩
      · rintro σ H' ⟨mx, v1, v2, v3, rfl, x0, x1, qs, ss, gq, hg, hql, h00, hf⟩
        exact ⟨_, rfl, q D H' qs ss gq hg (by omega) (by omega) (h00 (by omega)) hf⟩
    refine ⟨_, pss_cons (ps_set (i := 1) scPg.nd rfl (Or.inl rfl) (pe_call G1 hr (by rfl) D1.m D1.F.kp D1.b .nil pass0 (pa_cons (pv 0) (pa_cons pe_int pa_nil)))) (pss_cons (ps_set (i := 2) scPg.nd rfl (Or.inl rfl) (pe_op op_add pe_int (pe_op op_mod (pe_op op_mod (pe_op op_mul (pv 1) pe_int) pe_int) pe_int))) (pss_cons (ps_if (pt_cmpR op_eq (pe_op op_mod (pv 1) pe_int) pe_int (nomark _)) (pss_one (ps_set (i := 2) scPg.nd rfl (Or.inl rfl) (pe_op op_add pe_int (pe_op op_mod (pe_op op_mod (pe_op op_mul (pv 1) pe_int) pe_int) pe_int)))) pss_nil) R3)), ?_⟩
    refine ⟨_, rfl, x, ns, 0, rfl, hS, ?_⟩
    generalize ns.getD 0 0 = c
    refine ⟨_, rfl, c, 950706376, rfl, rfl, .inr ⟨by decide, by decide⟩, _, 2147483647, rfl, rfl, (by show (0 : Int) < 2147483647; decide), _, 5, rfl, rfl, (by show (0 : Int) < 5; decide), 2, _, rfl, rfl, ?_⟩
    refine ⟨_, rfl, c, 8, rfl, rfl, (by show (0 : Int) < 8; decide), rfl, _, rfl, ite2 (fun _ => ?_) (fun _ => ?_)⟩
    · refine ⟨_, rfl, c, 742938285, rfl, rfl, .inr ⟨by decide, by decide⟩, _, 2147483647, rfl, rfl, (by show (0 : Int) < 2147483647; decide), _, 24, rfl, rfl, (by show (0 : Int) < 24; decide), 1, _, rfl, rfl, ?_⟩
      exact hR3 c _ (by omega) (by omega)
    · exact hR3 c _ (by omega) (by omega)
end
end K25
end
section
namespace K25
open PySem L2
theorem and_mod (a b : Nat) : (a &&& b) % 2 = a % 2 * (b % 2) := by
  have h := Nat.testBit_and a b 0
  simp only [Nat.testBit_zero] at h
  have ha : a % 2 = 0 ∨ a % 2 = 1 := by omega
  have hb : b % 2 = 0 ∨ b % 2 = 1 := by omega
  have hc : (a &&& b) % 2 = 0 ∨ (a &&& b) % 2 = 1 := by omega
  rcases ha with ha | ha <;> rcases hb with hb | hb <;> rcases hc with hc | hc <;> simp_all
theorem or_mod (a b : Nat) : (a ||| b) % 2 + a % 2 * (b % 2) = a % 2 + b % 2 := by
  have h := Nat.testBit_or a b 0
  simp only [Nat.testBit_zero] at h
  have ha : a % 2 = 0 ∨ a % 2 = 1 := by omega
  have hb : b % 2 = 0 ∨ b % 2 = 1 := by omega
  have hc : (a ||| b) % 2 = 0 ∨ (a ||| b) % 2 = 1 := by omega
  rcases ha with ha | ha <;> rcases hb with hb | hb <;> rcases hc with hc | hc <;> simp_all
theorem or_and : ∀ (n a b : Nat), a < n → (a ||| b) + (a &&& b) = a + b
  | 0, _, _, h => absurd h (Nat.not_lt_zero _)
  | n + 1, a, b, h => by
    by_cases z : a = 0
    · subst z; simp
    · have ih := or_and n (a / 2) (b / 2) (by omega)
      rw [← Nat.or_div_two, ← Nat.and_div_two] at ih
      have m1 := or_mod a b
      have m2 := and_mod a b
      rw [← m2] at m1
      omega
theorem and_pow (w k : Nat) : w &&& 2 ^ k = 2 ^ k * (w / 2 ^ k % 2) := by
  have hw : w.testBit k = decide (w / 2 ^ k % 2 = 1) := Nat.testBit_eq_decide_div_mod_eq
  have h2 : w / 2 ^ k % 2 = 0 ∨ w / 2 ^ k % 2 = 1 := by omega
  apply Nat.eq_of_testBit_eq
  intro i
  rw [Nat.testBit_and, Nat.testBit_two_pow]
  rcases h2 with e | e
  · rw [e, Nat.mul_zero, Nat.zero_testBit]
    by_cases hi : k = i
    · subst hi
      rw [hw, e]
      rfl
    · rw [decide_eq_false hi, Bool.and_false]
  · rw [e, Nat.mul_one, Nat.testBit_two_pow]
    by_cases hi : k = i
    · subst hi
      rw [hw, e]
      rfl
    · rw [decide_eq_false hi, Bool.and_false]
theorem and8 (w : Nat) : w &&& 8 = 8 * (w / 8 % 2) := and_pow w 3
theorem and16 (w : Nat) : w &&& 16 = 16 * (w / 16 % 2) := and_pow w 4
theorem or8 (w : Nat) : w ||| 8 = if w / 8 % 2 = 0 then w + 8 else w := by
  have h := or_and (w + 1) w 8 (Nat.lt_succ_self _)
  rw [and8] at h
  split <;> omega
theorem or16 (w : Nat) : w ||| 16 = if w / 16 % 2 = 0 then w + 16 else w := by
  have h := or_and (w + 1) w 16 (Nat.lt_succ_self _)
  rw [and16] at h
  split <;> omega
theorem or24 (w : Nat) : w ||| 24 = (w ||| 8) ||| 16 := by
  rw [Nat.or_assoc, show (8 ||| 16 : Nat) = 24 from by decide]
theorem hasN_pow (w i : Nat) : hasN w (2 ^ i) = decide (w / 2 ^ i % 2 = 1) := by
  unfold hasN
  rw [and_pow]
  have : 0 < 2 ^ i := Nat.two_pow_pos i
  rcases Nat.mod_two_eq_zero_or_one (w / 2 ^ i) with h | h <;> rw [h]
  · simp; omega
  · simp
theorem hasN_1 (w : Nat) : hasN w 1 = decide (w % 2 = 1) := by have := hasN_pow w 0; simpa using this
theorem hasN_2 (w : Nat) : hasN w 2 = decide (w / 2 % 2 = 1) := hasN_pow w 1
theorem hasN_4 (w : Nat) : hasN w 4 = decide (w / 4 % 2 = 1) := hasN_pow w 2
theorem rigN_eq (t l : Nat) : rigN t l = 2 * ((t / 2 % 2) * (l / 2 % 2)) + 4 * (if t / 4 % 2 = 1 ∨ l / 4 % 2 = 1 then 1 else 0) + 16 * (l / 16 % 2) := by
  have a1 : t &&& l &&& 2 = 2 * ((t &&& l).testBit 1).toNat := by rw [Nat.toNat_testBit]; exact and_pow _ 1
  have a2 : (t ||| l) &&& 4 = 4 * ((t ||| l).testBit 2).toNat := by rw [Nat.toNat_testBit]; exact and_pow _ 2
  have a3 : l &&& 16 = 16 * (l.testBit 4).toNat := by rw [Nat.toNat_testBit]; exact and_pow _ 4
  have b1 : t / 2 % 2 = (t.testBit 1).toNat := (Nat.toNat_testBit t 1).symm
  have b2 : l / 2 % 2 = (l.testBit 1).toNat := (Nat.toNat_testBit l 1).symm
  have b3 : t / 4 % 2 = (t.testBit 2).toNat := (Nat.toNat_testBit t 2).symm
  have b4 : l / 4 % 2 = (l.testBit 2).toNat := (Nat.toNat_testBit l 2).symm
  have b5 : l / 16 % 2 = (l.testBit 4).toNat := (Nat.toNat_testBit l 4).symm
  unfold rigN
  rw [a1, a2, a3, b1, b2, b3, b4, b5, Nat.testBit_and, Nat.testBit_or]
  cases t.testBit 1 <;> cases l.testBit 1 <;> cases t.testBit 2 <;> cases l.testBit 2 <;> cases l.testBit 4 <;> decide
def stepI (r w : Int) : Int := if w / 4 % 2 = 1 ∧ (if w / 2 % 2 = 0 then r / 4 * 4 else r) % 8 < 4 then (if w / 2 % 2 = 0 then r / 4 * 4 else r) + 4 else (if w / 2 % 2 = 0 then r / 4 * 4 else r)
theorem rig_walk (t l : Nat) : ((rigN t l : Nat) : Int) = stepI (stepI 2 (t : Int)) (l : Int) + (if (l : Int) / 16 % 2 = 1 then 16 else 0) := by
  rw [rigN_eq]
  have c1 : (t : Int) / 2 % 2 = ((t / 2 % 2 : Nat) : Int) := by omega
  have c2 : (l : Int) / 2 % 2 = ((l / 2 % 2 : Nat) : Int) := by omega
  have c3 : (t : Int) / 4 % 2 = ((t / 4 % 2 : Nat) : Int) := by omega
  have c4 : (l : Int) / 4 % 2 = ((l / 4 % 2 : Nat) : Int) := by omega
  have c5 : (l : Int) / 16 % 2 = ((l / 16 % 2 : Nat) : Int) := by omega
  unfold stepI
  rw [c1, c2, c3, c4, c5]
  rcases Nat.mod_two_eq_zero_or_one (t / 2) with h1 | h1 <;> rcases Nat.mod_two_eq_zero_or_one (l / 2) with h2 | h2 <;> rcases Nat.mod_two_eq_zero_or_one (t / 4) with h3 | h3 <;> rcases Nat.mod_two_eq_zero_or_one (l / 4) with h4 | h4 <;> rcases Nat.mod_two_eq_zero_or_one (l / 16) with h5 | h5 <;> rw [h1, h2, h3, h4, h5] <;> decide
theorem rig_16 (t l : Nat) : rigN t l ||| 16 = if rigN t l < 16 then rigN t l + 16 else rigN t l := by
  rw [or16, rigN_eq]
  rcases Nat.mod_two_eq_zero_or_one (t / 2) with h1 | h1 <;> rcases Nat.mod_two_eq_zero_or_one (l / 2) with h2 | h2 <;> rcases Nat.mod_two_eq_zero_or_one (t / 4) with h3 | h3 <;> rcases Nat.mod_two_eq_zero_or_one (l / 4) with h4 | h4 <;> rcases Nat.mod_two_eq_zero_or_one (l / 16) with h5 | h5 <;> rw [h1, h2, h3, h4, h5] <;> decide
end K25
end
section
namespace K25
open PySem L2
abbrev sPlace : Stmt := top 56
abbrev sIsS : Stmt := top 58
abbrev sAlike : Stmt := top 62
abbrev sWalkL : Stmt := top 60
abbrev sMkd : Stmt := top 61
theorem eqvT (ns : List Int) : PyData.eqv (.tuple (ns.map PyData.int)) (.tuple (ns.map PyData.int)) = true := eqvI ns
def dT (x : Int × Int × Int) : PyData := .tuple [.int x.1, .int x.2.1, .int x.2.2]
theorem dT_all : ∀ rs : Rs, PyData.canLayAll0 (rs.map dT) = true ∧ PyData.depthAll (rs.map dT) ≤ 1 ∧ PyData.eqvAll (rs.map dT) (rs.map dT) = true
  | [] => ⟨rfl, Nat.zero_le _, rfl⟩
  | x :: r => by
    obtain ⟨h1, h2, h3⟩ := dT_all r
    obtain ⟨a, b, c⟩ := x
    have e := eqvT [a, b, c]
    refine ⟨?_, ?_, ?_⟩
    · simp only [List.map_cons, dT, PyData.canLayAll0, PyData.canLay0, h1]
      rfl
    · simp only [List.map_cons, dT, PyData.depthAll, PyData.depth]
      omega
    · show (PyData.eqv (dT (a, b, c)) (dT (a, b, c)) && PyData.eqvAll (r.map dT) (r.map dT)) = true
      rw [h3, show PyData.eqv (dT (a, b, c)) (dT (a, b, c)) = true from e]
      rfl
theorem shapedR (rs : Rs) : SeqAt.shaped (.list (rs.map dT)) = true := by
  obtain ⟨h1, h2, _⟩ := dT_all rs
  simp only [SeqAt.shaped, PyData.canLay0, PyData.depth, h1, Bool.true_and]
  exact decide_eq_true (by omega)
theorem Trs.dat {K : PySem.W.Frag} {H : Hp} {ys : List V} {rs : Rs} (h : Trs H ys rs) : DatsR K H ys (rs.map dT) := by
  induction h with
  | nil => exact .nil
  | cons e _ ih => exact .cons (.tup (SqT.of e) (.cons (.int _) (.cons (.int _) (.cons (.int _) .nil)))) ih
def spPlace : Sp := fun vs H Q _ => ∃ c : Int, vs = [.int c] ∧ ∀ (pl : Nat) (H' : Hp), Same H H' → Q (.int (pl : Int)) H'
def spIsS : Sp := fun vs H Q _ => ∃ (p r : Addr) (rs : Rs), vs = [.ref p, .ref r] ∧ TL H p rs ∧ TL H r rs ∧ rs.length ≤ 13 ∧ Q (.bl true) H
inductive Alk (H : Hp) : V → V → Prop
  | non : Alk H .non .non
  | int (i : Int) : Alk H (.int i) (.int i)
  | bl (b : Bool) : Alk H (.bl b) (.bl b)
  | flt {a b : Addr} {z : Str} {pl lv : Int} : PyData.strOk z = true → H a = some (.tup [.str "fault", .str z, .int pl, .int lv]) → H b = some (.tup [.str "fault", .str z, .int pl, .int lv]) → Alk H (.ref a) (.ref b)
theorem shF {z : Str} (hz : PyData.strOk z = true) (pl lv : Int) : SeqAt.shaped (.tuple [.str "fault", .str z, .int pl, .int lv]) = true := by
  simp [SeqAt.shaped, PyData.canLay0, PyData.canLayAll0, PyData.depth, PyData.depthAll, hz]
  decide +kernel
def spAlike : Sp := fun vs H Q _ => ∃ x y, vs = [x, y] ∧ Alk H x y ∧ Q (.bl true) H
def celN (pl : Nat) : Nat → Nat
  | 0 => pl / 8 / 8
  | _ => pl / 8 % 8
def pagN (qs : Pgs) (rt pl : Nat) : Nat → Nat
  | 0 => rt
  | i + 1 => wordN qs (pagN qs rt pl i) (celN pl i) / 256
def rwN (qs : Pgs) (rt pl i : Nat) : Nat := wordN qs (pagN qs rt pl i) (celN pl i)
def rgN (qs : Pgs) (rt pl : Nat) : Nat → Int
  | 0 => 2
  | i + 1 => stepI (rgN qs rt pl i) (rwN qs rt pl i : Nat) + (if i = 1 ∧ ((rwN qs rt pl i : Nat) : Int) / 16 % 2 = 1 then 16 else 0)
theorem has_there {qs : Pgs} (i : Nat) : hasP qs (.int (i : Int)) = isThere qs[i]? := by
  simp only [hasP, Int.toNat_natCast]
  by_cases h : i < qs.length
  · have h1 : (0 : Int) ≤ i := by omega
    have h2 : (i : Int) < qs.length := by omega
    simp [h1, h2]
  · rw [List.getElem?_eq_none (by omega)]
    simp [isThere]
theorem lack_eq (qs : Pgs) (w : Nat) (wr k : Bool) : lackN qs w wr k = if w % 2 = 0 then some ("absent" : Str) else if hasP qs (.int ((w / 256 : Nat) : Int)) = false then some ("beyond" : Str) else if w / 4 % 2 = 1 ∧ k = false then some ("kernel" : Str) else if wr = true ∧ w / 2 % 2 = 0 then some ("fixed" : Str) else none := by
  unfold lackN
  rw [hasN_1, hasN_2, hasN_4]
  generalize hasP qs (.int ((w / 256 : Nat) : Int)) = hp
  rcases Nat.mod_two_eq_zero_or_one w with h1 | h1 <;> rcases Nat.mod_two_eq_zero_or_one (w / 2) with h2 | h2 <;> rcases Nat.mod_two_eq_zero_or_one (w / 4) with h4 | h4 <;> cases wr <;> cases k <;> cases hp <;> simp [h1, h2, h4]
theorem look_far {qs : Pgs} {rt pl : Nat} {wr k : Bool} (h : 511 < pl) : lookN qs rt pl wr k = .fault "far" 0 := by unfold lookN; rw [if_pos (by omega)]
theorem look_root {qs : Pgs} {rt pl : Nat} {wr k : Bool} (h : ¬ 511 < pl) (h2 : hasP qs (.int (rt : Int)) = false) : lookN qs rt pl wr k = .fault "beyond" 0 := by unfold lookN; rw [if_neg (by omega), if_pos h2]
theorem lack_ok {qs : Pgs} {w : Nat} {wr k : Bool} {z : Str} (h : lackN qs w wr k = some z) : PyData.strOk z = true := by
  rw [lack_eq] at h
  repeat' split at h
  all_goals first | (cases h; decide +kernel) | cases h
theorem look_ok {qs : Pgs} {rt pl lv : Nat} {wr k : Bool} {z : Str} (h : lookN qs rt pl wr k = .fault z lv) : PyData.strOk z = true := by
  unfold lookN at h
  split at h
  · cases h; decide +kernel
  · split at h
    · cases h; decide +kernel
    · split at h
      · rename_i e; cases h; exact lack_ok e
      · split at h
        · rename_i e; cases h; exact lack_ok e
        · cases h
theorem look_lack {qs : Pgs} {rt pl : Nat} {wr k : Bool} {i : Nat} {z : Str} (h : ¬ 511 < pl) (h2 : hasP qs (.int (rt : Int)) = true) (hi : i < 2) (hl : ∀ j, j < i → lackN qs (rwN qs rt pl j) wr k = none) (hz : lackN qs (rwN qs rt pl i) wr k = some z) : lookN qs rt pl wr k = .fault z (i + 1) := by
  have h2' : ¬ hasP qs (.int (rt : Int)) = false := by rw [h2]; decide
  unfold lookN
  rw [if_neg (by omega), if_neg h2']
  match i, hi with
  | 0, _ =>
    have : lackN qs (wordN qs rt (pl / 8 / 8)) wr k = some z := hz
    rw [this]
  | 1, _ =>
    have e0 : lackN qs (wordN qs rt (pl / 8 / 8)) wr k = none := hl 0 (by omega)
    have : lackN qs (wordN qs (wordN qs rt (pl / 8 / 8) / 256) (pl / 8 % 8)) wr k = some z := hz
    rw [e0]
    dsimp only
    rw [this]
theorem look_all {qs : Pgs} {rt pl : Nat} {wr k : Bool} (h : ¬ 511 < pl) (h2 : hasP qs (.int (rt : Int)) = true) (hl : ∀ j, j < 2 → lackN qs (rwN qs rt pl j) wr k = none) : lookN qs rt pl wr k = .trail (pagN qs rt pl 1) (pagN qs rt pl 2) (rwN qs rt pl 0) (rwN qs rt pl 1) ∧ rgN qs rt pl 2 = ((rigN (rwN qs rt pl 0) (rwN qs rt pl 1) : Nat) : Int) := by
  have h2' : ¬ hasP qs (.int (rt : Int)) = false := by rw [h2]; decide
  constructor
  · unfold lookN
    rw [if_neg (by omega), if_neg h2']
    have e0 : lackN qs (wordN qs rt (pl / 8 / 8)) wr k = none := hl 0 (by omega)
    have e1 : lackN qs (wordN qs (wordN qs rt (pl / 8 / 8) / 256) (pl / 8 % 8)) wr k = none := hl 1 (by omega)
    rw [e0]
    dsimp only
    rw [e1]
    rfl
  · rw [rig_walk]
    show stepI (stepI 2 _ + (if (0 : Nat) = 1 ∧ _ then 16 else 0)) _ + (if (1 : Nat) = 1 ∧ _ then 16 else 0) = _
    rw [if_neg (by simp), Int.add_zero]
    simp only [true_and]
def spWalkL : Sp := fun vs H Q _ => ∃ (D : Addr) (qs : Pgs) (rt pl : Nat) (wr k : Bool), vs = [.int (rt : Int), .ref D, .int (pl : Int), .bl wr, .bl k] ∧ Pg H D qs ∧ Good qs ∧
  (∀ z lv, lookN qs rt pl wr k = .fault z lv → ∀ t H', Same H H' → H t = none → H' t = some (.tup [.str "fault", .str z, .int (pl : Int), .int (lv : Int)]) → Q (.ref t) H') ∧
  ∀ p1 pg t l, lookN qs rt pl wr k = .trail p1 pg t l → ∀ tt t1 t2 H', Same H H' → H' tt = some (.tup [.ref t1, .ref t2, .int (pg : Int), .int ((rigN t l : Nat) : Int)]) → H' t1 = some (.tup [.int (rt : Int), .int ((pl / 8 / 8 : Nat) : Int)]) → H' t2 = some (.tup [.int (p1 : Int), .int ((pl / 8 % 8 : Nat) : Int)]) → Q (.ref tt) H'
def spMkd : Sp := fun vs H Q _ => ∃ (D tt t1 t2 : Addr) (qs : Pgs) (i j i1 j1 pg t l : Nat) (wr : Bool), vs = [.ref D, .ref tt, .bl wr] ∧ Pg H D qs ∧ Good qs ∧ H tt = some (.tup [.ref t1, .ref t2, .int (pg : Int), .int ((rigN t l : Nat) : Int)]) ∧ H t1 = some (.tup [.int (i : Int), .int (j : Int)]) ∧ H t2 = some (.tup [.int (i1 : Int), .int (j1 : Int)]) ∧ hasP qs (.int (i : Int)) = true ∧ hasP qs (.int (i1 : Int)) = true ∧ j < 8 ∧ j1 < 8 ∧
  ∀ H', Pg H' D (mkN (mkN qs i j 8) i1 j1 (if wr then 24 else 8)) → Kpt D qs H H' → Q (.int ((if wr then rigN t l ||| 16 else rigN t l : Nat) : Int)) H'
section
variable {P : Program} {w : World} {K : PySem.W.Frag} {mg : Str → Option Value} {base : Heap} {C NP NL NW NI SC PL WC FA : Addr}
theorem scPlc : FnScope ["_law_cell", "_law_pick"] ["_law_cell"] (defScope sPlace) := ⟨rfl, rfl, rfl, by decide +kernel, rfl, by decide +kernel, by decide +kernel⟩
theorem ok_place {f : Addr} {fd : FuncData} (F : Fun K "_law_place" "_law_place" sPlace f fd) (T : Txt K mg) : FnOk P w K mg base CX0 1 f fd ["_law_cell"] spPlace := by
  refine F.ok scPlc (fun vs H Q E h => ?_) (fun cdv A outer s H vs Q E hr h => ?_)
  · obtain ⟨c, rfl, _⟩ := h
    rfl
  · obtain ⟨c, rfl, q⟩ := h
    refine ⟨_, (pss_cons (ps_set (i := 1) scPlc.nd rfl (Or.inl rfl) (pe_op op_mod (pe_op op_mul (pv 0) pe_int) pe_int)) (pss_cons (ps_if (pt_cmpR op_eq (pe_op op_mod (pv 1) pe_int) pe_int (nomark _)) (pss_one (ps_ret (pe_op op_mod (pe_op op_fdiv (pv 1) pe_int) pe_int))) pss_nil) (pss_cons (ps_if (pt_cmpR op_eq (pe_op op_mod (pv 1) pe_int) pe_int (nomark _)) (pss_one (ps_ret (pe_ix ix_list (pe_lst (pa_consK pe_int (pa_consK (pe_op op_sub (pe_op op_pow pe_int pe_int) pe_int) (pa_consK pe_int (pa_consK pe_int pa_nil))))) (pe_op op_mod (pe_op op_fdiv (pv 1) pe_int) pe_int) (fun _ _ => rfl)))) pss_nil) (pss_cons (ps_if (pt_cmpR op_lt (pe_op op_mod (pv 1) pe_int) pe_int (nomark _)) (pss_one (ps_ret (pe_op op_mod (pe_op op_fdiv (pv 1) pe_int) pe_int))) pss_nil) (pss_one (ps_ret (pe_op op_add (pe_op op_mul (pe_op op_mod (pe_op op_fdiv (pv 1) pe_int) pe_int) pe_int) (pe_op op_mod (pe_op op_fdiv (pv 1) pe_int) pe_int)))))))), ?_⟩
    refine ⟨_, rfl, c, 742938285, rfl, rfl, .inr ⟨by decide, by decide⟩, _, 2147483647, rfl, rfl, (by show (0 : Int) < 2147483647; decide), ?_⟩
    have r0 : 0 ≤ c * 742938285 % 2147483647 := Int.emod_nonneg _ (by decide)
    have s1 : Same H H := Same.refl _
    dsimp only
    generalize c * 742938285 % 2147483647 = r at r0 ⊢
    have e48 : (2 : Int) ^ (48 : Int).toNat = 281474976710656 := by decide
    have fin : ∀ (v : Int) (H' : Hp), 0 ≤ v → Same H H' → Q (.int v) H' := fun v H' v0 s2 => by
      obtain ⟨n, rfl⟩ : ∃ n : Nat, v = (n : Int) := ⟨v.toNat, by omega⟩
      exact q n H' (s1.trans s2)
    refine ⟨_, rfl, r, 8, rfl, rfl, (by show (0 : Int) < 8; decide), rfl, _, rfl, ite2 (fun _ => ?_) (fun _ => ⟨_, rfl, r, 8, rfl, rfl, (by show (0 : Int) < 8; decide), rfl, _, rfl, ite2 (fun _ => ?_) (fun _ => ⟨_, rfl, r, 8, rfl, rfl, (by show (0 : Int) < 8; decide), _, _, rfl, rfl, _, rfl, ite2 (fun _ => ?_) (fun _ => ?_)⟩)⟩)⟩
    · exact ⟨_, rfl, r, 8, rfl, rfl, ⟨by decide, by decide⟩, _, 512, rfl, rfl, (by show (0 : Int) < 512; decide), fin _ _ (Int.emod_nonneg _ (by decide)) (Same.refl _)⟩
    · refine ⟨2, 48, rfl, rfl, ⟨by decide, by decide, by decide⟩, _, 1, rfl, rfl, (by show 4 ≤ sizeLine; decide), fun p hp => ?_⟩
      refine ⟨_, rfl, r, 8, rfl, rfl, ⟨by decide, by decide⟩, _, 4, rfl, rfl, (by show (0 : Int) < 4; decide), ?_⟩
      dsimp only
      obtain ⟨k, hk, hk4⟩ : ∃ k : Nat, r / 8 % 4 = (k : Int) ∧ k < 4 := ⟨(r / 8 % 4).toNat, by omega, by omega⟩
      rw [hk, e48]
      have h4 : k = 0 ∨ k = 1 ∨ k = 2 ∨ k = 3 := by omega
      rcases h4 with rfl | rfl | rfl | rfl
      · exact ⟨p, _, _, .int 512, rfl, rfl, SqL.of upd_same, rfl, fin _ _ (by decide) (same_new hp)⟩
      · exact ⟨p, _, _, .int (281474976710656 - 1), rfl, rfl, SqL.of upd_same, rfl, fin _ _ (by decide) (same_new hp)⟩
      · exact ⟨p, _, _, .int 511, rfl, rfl, SqL.of upd_same, rfl, fin _ _ (by decide) (same_new hp)⟩
      · exact ⟨p, _, _, .int 1000000, rfl, rfl, SqL.of upd_same, rfl, fin _ _ (by decide) (same_new hp)⟩
    · exact ⟨_, rfl, r, 8, rfl, rfl, ⟨by decide, by decide⟩, _, 24, rfl, rfl, (by show (0 : Int) < 24; decide), fin _ _ (Int.emod_nonneg _ (by decide)) (Same.refl _)⟩
    · refine ⟨_, rfl, r, 8, rfl, rfl, ⟨by decide, by decide⟩, _, 4, rfl, rfl, (by show (0 : Int) < 4; decide), _, 64, rfl, rfl, .inr ⟨by decide, by decide⟩, _, rfl, r, 32, rfl, rfl, ⟨by decide, by decide⟩, _, 16, rfl, rfl, (by show (0 : Int) < 16; decide), _, _, rfl, rfl, fin _ _ ?_ (Same.refl _)⟩
      show 0 ≤ r / 8 % 4 * 64 + r / 32 % 16
      omega
theorem scIS : FnScope ["_law_found", "_law_due", "_law_row", "_law_part"] ["_law_found", "_law_due"] (defScope sIsS) := ⟨rfl, rfl, rfl, by decide +kernel, rfl, by decide +kernel, by decide +kernel⟩
theorem ok_iss {f f1 : Addr} {fd fd1 : FuncData} (F : Fun K "_law_is_shelf" "_law_is_shelf" sIsS f fd) (D1 : Dn K mg "_law_whole" sLWhole ["_law_found"] f1 fd1) (G1 : FnOk P w K mg base CX0 1 f1 fd1 ["_law_found"] spWhole) (T : Txt K mg) (TU : mg "tuple" = none) : FnOk P w K mg base CX0 2 f fd ["_law_found", "_law_due"] spIsS := by
  refine F.ok scIS (fun vs H Q E h => ?_) (fun cdv A outer s H vs Q E hr h => ?_)
  · obtain ⟨p, r, rs, rfl, _⟩ := h
    rfl
  · obtain ⟨p, r, rs, rfl, tp, tr, hl, q⟩ := h
    obtain ⟨ys, ep, ty⟩ := tp.ls
    obtain ⟨zs, er, tz⟩ := tr.ls
    have ly := ty.len
    have lz := tz.len
    refine ⟨_, (pss_cons (ps_if (PW.pt (pw_or (pt_not (pt_val (pe_callB call_islist (by rfl) T.isi PyProof.Rows.boot_isinstance (pa_cons (pv 0) (pa_cons (pe_bltn (by rfl) T.lst PyProof.Rows.boot_list (show RelV (.ty "list") (.type "list") from rfl)) pa_nil))))) (pw_or1 (pt_cmpR op_ne (pe_callB call_len_seq (by rfl) T.len PySem.boot_len (pa_cons (pv 0) pa_nil)) (pe_callB call_len_seq (by rfl) T.len PySem.boot_len (pa_cons (pv 1) pa_nil)) (nomark _))))) (pss_one (ps_ret pe_bl)) pss_nil) (pss_cons (ps_for PassesOwn.never rfl (pi_list (pv 0)) (pg_name (i := 2) scIS.nd rfl (Or.inl rfl)) (pss_cons (ps_if (PW.pt (pw_or (pt_not (pt_val (pe_callB call_istupT (by rfl) T.isi PyProof.Rows.boot_isinstance (pa_cons (pv 2) (pa_cons (pe_bltn (by rfl) TU PyProof.Rows.boot_tuple (show RelV (.ty "tuple") (.type "tuple") from rfl)) pa_nil))))) (pw_or1 (pt_cmpR op_ne (pe_callB call_len_seq (by rfl) T.len PySem.boot_len (pa_cons (pv 2) pa_nil)) pe_int (nomark _))))) (pss_one (ps_ret pe_bl)) pss_nil) (pss_one (ps_for PassesOwn.never rfl (pi_tup (pv 2)) (pg_name (i := 3) scIS.nd rfl (Or.inl rfl)) (pss_one (ps_if (pt_not (pt_val (pe_call G1 hr (by rfl) D1.m D1.F.kp D1.b .nil pass0 (pa_cons (pv 3) pa_nil)))) (pss_one (ps_ret pe_bl)) pss_nil)))))) (pss_one (ps_ret (pe_cmpR (op_eqD hr.units) (pv 0) (pv 1) (nomark _)))))), ?_⟩
    refine ⟨_, rfl, _, rfl, .lst ep, _, rfl, iteFS (by show (!isLst H (.ref p)) = false; rw [isLst_of ep]; rfl) ?_⟩
    refine ⟨_, rfl, p, _, rfl, .inl (SqL.of ep), _, rfl, r, _, rfl, .inl (SqL.of er), rfl, _, rfl, iteFS (by show (!decide (V.int (ys.length : Int) = V.int (zs.length : Int))) = false; rw [ly, lz, decide_eq_true rfl]; rfl) ?_⟩
    refine ⟨_, rfl, p, rfl, ⟨_, SqL.of ep⟩, for_list (K := K) (a := p) (xs := ys) (fun i σ H' => H' = H ∧ ∃ v1 v2, σ = [some (.ref p), some (.ref r), v1, v2]) ?_ ?_ ?_ ?_⟩
    · exact ⟨rfl, _, _, rfl⟩
    · rintro i σ H' _ ⟨rfl, _⟩
      exact SqL.of ep
    · rintro i x σ H' hi ⟨rfl, v1, v2, rfl⟩
      have hil : i < rs.length := by rw [← ly]; exact (List.getElem?_eq_some_iff.mp hi).1
      obtain ⟨t, e1, e2⟩ := ty.get i rs[i] (List.getElem?_eq_getElem hil)
      rw [hi] at e1
      cases e1
      refine ⟨_, rfl, _, rfl, .tup e2, _, rfl, iteFS (by show (!isTup H' (.ref t)) = false; simp only [isTup, e2]; rfl) ?_⟩
      refine ⟨_, rfl, t, _, rfl, .inr (SqT.of e2), rfl, _, rfl, iteFS rfl ?_⟩
      refine ⟨_, rfl, t, rfl, ⟨_, SqT.of e2⟩, for_tup (K := K) (a := t) (xs := [.int rs[i].1, .int rs[i].2.1, .int rs[i].2.2]) (fun i2 σ H2 => H2 = H' ∧ ∃ v2, σ = [some (.ref p), some (.ref r), some (.ref t), v2]) ?_ ?_ ?_ ?_⟩
      · exact ⟨rfl, _, rfl⟩
      · rintro i2 σ H2 _ ⟨rfl, _⟩
        exact SqT.of e2
      · rintro i2 y σ H2 hi2 ⟨rfl, v2, rfl⟩
        obtain ⟨z, rfl⟩ : ∃ z : Int, y = .int z := by
          match i2, hi2 with
          | 0, h => exact ⟨_, (Option.some.inj h).symm⟩
          | 1, h => exact ⟨_, (Option.some.inj h).symm⟩
          | 2, h => exact ⟨_, (Option.some.inj h).symm⟩
          | n + 3, h => simp at h
        exact ⟨_, rfl, _, rfl, .int z, _, rfl, iteF ⟨rfl, _, rfl⟩⟩
      · rintro σ H2 ⟨rfl, v2, rfl⟩
        exact ⟨rfl, _, _, rfl⟩
    · rintro σ H' ⟨rfl, v1, v2, rfl⟩
      refine ⟨_, rfl, _, rfl, _, _, .lst (SqL.of ep) ty.dat, .lst (SqL.of er) tz.dat, shapedR _, shapedR _, ?_⟩
      rw [show PyData.eqv (.list (rs.map dT)) (.list (rs.map dT)) = true from (dT_all _).2.2]
      exact q
theorem scAl : FnScope ["_law_found", "_law_due"] ["_law_found", "_law_due"] (defScope sAlike) := ⟨rfl, rfl, rfl, by decide +kernel, rfl, by decide +kernel, by decide +kernel⟩
theorem ok_alike {f f1 : Addr} {fd fd1 : FuncData} (F : Fun K "_law_alike" "_law_alike" sAlike f fd) (D1 : Dn K mg "_law_whole" sLWhole ["_law_found"] f1 fd1) (G1 : FnOk P w K mg base CX0 1 f1 fd1 ["_law_found"] spWhole) (T : Txt K mg) (TU : mg "tuple" = none) : FnOk P w K mg base CX0 2 f fd ["_law_found", "_law_due"] spAlike := by
  refine F.ok scAl (fun vs H Q E h => ?_) (fun cdv A outer s H vs Q E hr h => ?_)
  · obtain ⟨x, y, rfl, _⟩ := h
    rfl
  · obtain ⟨x, y, rfl, al, q⟩ := h
    refine ⟨_, (pss_cons (ps_if (pt_cmpR op_isN (pv 1) pe_non (nomark _)) (pss_one (ps_ret (pe_cmpR op_isN (pv 0) pe_non (nomark _)))) pss_nil) (pss_cons (ps_if (pt_val (pe_callB call_isbool (by rfl) T.isi PyProof.Rows.boot_isinstance (pa_cons (pv 1) (pa_cons (pe_bltn (by rfl) T.boo PyProof.Rows.boot_bool (show RelV (.ty "bool") (.type "bool") from rfl)) pa_nil)))) (pss_one (ps_ret (pe_and (pe_callB call_isbool (by rfl) T.isi PyProof.Rows.boot_isinstance (pa_cons (pv 0) (pa_cons (pe_bltn (by rfl) T.boo PyProof.Rows.boot_bool (show RelV (.ty "bool") (.type "bool") from rfl)) pa_nil))) (pe_one (pe_cmpR op_eq (pv 0) (pv 1) (nomark _)))))) pss_nil) (pss_cons (ps_if (pt_val (pe_callB call_istupT (by rfl) T.isi PyProof.Rows.boot_isinstance (pa_cons (pv 1) (pa_cons (pe_bltn (by rfl) TU PyProof.Rows.boot_tuple (show RelV (.ty "tuple") (.type "tuple") from rfl)) pa_nil)))) (pss_one (ps_ret (pe_and (pe_callB call_istupT (by rfl) T.isi PyProof.Rows.boot_isinstance (pa_cons (pv 0) (pa_cons (pe_bltn (by rfl) TU PyProof.Rows.boot_tuple (show RelV (.ty "tuple") (.type "tuple") from rfl)) pa_nil))) (pe_and (pe_call G1 hr (by rfl) D1.m D1.F.kp D1.b .nil pass0 (pa_cons (pe_ix ix_tup (pv 0) pe_int (fun _ _ => rfl)) pa_nil)) (pe_and (pe_call G1 hr (by rfl) D1.m D1.F.kp D1.b .nil pass0 (pa_cons (pe_ix ix_tup (pv 0) pe_int (fun _ _ => rfl)) pa_nil)) (pe_one (pe_cmpR (op_eqD hr.units) (pv 0) (pv 1) (nomark _)))))))) pss_nil) (pss_one (ps_ret (pe_and (pe_call G1 hr (by rfl) D1.m D1.F.kp D1.b .nil pass0 (pa_cons (pv 0) pa_nil)) (pe_one (pe_cmpR op_eq (pv 0) (pv 1) (nomark _))))))))), ?_⟩
    cases al with
    | non => exact ⟨_, rfl, rfl, _, rfl, iteTS rfl ⟨_, rfl, rfl, q⟩⟩
    | int i =>
      refine ⟨_, rfl, rfl, _, rfl, iteFS rfl ⟨_, rfl, _, rfl, .int i, _, rfl, iteFS rfl ⟨_, rfl, _, rfl, .int i, _, rfl, iteFS rfl ⟨_, rfl, _, rfl, .int i, _, rfl, iteT ⟨_, rfl, _, rfl, rfl, ?_⟩⟩⟩⟩⟩
      rw [decide_eq_true rfl]
      exact q
    | bl b =>
      refine ⟨_, rfl, rfl, _, rfl, iteFS rfl ⟨_, rfl, _, rfl, .bl b, _, rfl, iteTS rfl ⟨_, rfl, _, rfl, .bl b, _, rfl, iteT ⟨_, rfl, _, rfl, rfl, ?_⟩⟩⟩⟩
      rw [decide_eq_true rfl]
      exact q
    | @flt a b z pl lv zk ea eb =>
      refine ⟨_, rfl, rfl, _, rfl, iteFS (by show decide (V.ref b = V.non) = false; exact decide_eq_false nofun) ⟨_, rfl, _, rfl, .tup eb, _, rfl, iteFS rfl ⟨_, rfl, _, rfl, .tup eb, _, rfl, iteTS (by show isTup H (.ref b) = true; simp only [isTup, eb]) ?_⟩⟩⟩
      refine ⟨_, rfl, _, rfl, .tup ea, _, rfl, ?_⟩
      rw [show isTup H (.ref a) = true by simp only [isTup, ea]]
      refine iteT ⟨_, rfl, a, _, _, .int pl, rfl, rfl, SqT.of ea, rfl, _, rfl, .int _, _, rfl, iteT ⟨_, rfl, a, _, _, .int lv, rfl, rfl, SqT.of ea, rfl, _, rfl, .int _, _, rfl, iteT ⟨_, rfl, _, rfl, _, _, .tup (SqT.of ea) (.cons (.str _) (.cons (.str _) (.cons (.int _) (.cons (.int _) .nil)))), .tup (SqT.of eb) (.cons (.str _) (.cons (.str _) (.cons (.int _) (.cons (.int _) .nil)))), shF zk pl lv, shF zk pl lv, ?_⟩⟩⟩
      rw [show PyData.eqv (.tuple [.str "fault", .str z, .int pl, .int lv]) (.tuple [.str "fault", .str z, .int pl, .int lv]) = true by simp [PyData.eqv, PyData.eqvAll]]
      exact q
end
end K25
end
section
namespace K25
open PySem L2
theorem mkN_get {qs : Pgs} {i j m : Nat} {p : Addr} {ws : List Int} (e : qs[i]? = some (some (p, ws))) (hj : j < ws.length) : (mkN qs i j m)[i]? = some (some (p, ws.set j ((wordN qs i j ||| m : Nat) : Int))) ∧ wordN (mkN qs i j m) i j = wordN qs i j ||| m := by
  have hi : i < qs.length := (List.getElem?_eq_some_iff.mp e).1
  have e1 : (mkN qs i j m)[i]? = some (some (p, ws.set j ((wordN qs i j ||| m : Nat) : Int))) := by
    unfold mkN
    rw [setW_at e, List.getElem?_set_self hi]
  refine ⟨e1, ?_⟩
  generalize wordN qs i j ||| m = v at *
  unfold wordN
  rw [e1]
  simp [hj]
theorem mkN_two {qs : Pgs} {i j : Nat} {p : Addr} {ws : List Int} (e : qs[i]? = some (some (p, ws))) (hj : j < ws.length) : mkN (mkN qs i j 8) i j 16 = mkN qs i j 24 := by
  obtain ⟨e1, e2⟩ := mkN_get (m := 8) e hj
  have hi : i < qs.length := (List.getElem?_eq_some_iff.mp e).1
  show setW (mkN qs i j 8) i j ((wordN (mkN qs i j 8) i j ||| 16 : Nat) : Int) = _
  rw [setW_at e1, e2, ← or24]
  unfold mkN
  rw [setW_at e, setW_at e]
  simp
theorem mkN_self {qs : Pgs} {i j m : Nat} {p : Addr} {ws : List Int} (e : qs[i]? = some (some (p, ws))) (hj : j < ws.length) (h0 : 0 ≤ ws.getD j 0) (h : wordN qs i j ||| m = wordN qs i j) : mkN qs i j m = qs := by
  have hi : i < qs.length := (List.getElem?_eq_some_iff.mp e).1
  unfold mkN
  rw [h, ← wordN_of e h0, setW_at e]
  have e3 : ws.getD j 0 = ws[j] := by rw [List.getD_eq_getElem?_getD, List.getElem?_eq_getElem hj]; rfl
  rw [e3, List.set_getElem_self]
  have e2 : qs[i] = some (p, ws) := by
    rw [List.getElem?_eq_getElem hi] at e
    exact Option.some.inj e
  rw [← e2, List.set_getElem_self]
theorem or_lt48 {w m : Nat} (h : w < 281474976710656) (hm : m < 256) : w ||| m < 281474976710656 := Nat.or_lt_two_pow (n := 48) h (by omega)
theorem Good.word {qs : Pgs} (g : Good qs) {i j : Nat} {p : Addr} {ws : List Int} (e : qs[i]? = some (some (p, ws))) (hj : j < 8) : 0 ≤ ws.getD j 0 ∧ ws.getD j 0 < 281474976710656 ∧ ws.length = 8 := by
  obtain ⟨l, b⟩ := g i p ws e
  have := b (ws.getD j 0) (by rw [List.getD_eq_getElem?_getD, List.getElem?_eq_getElem (by omega)]; exact List.getElem_mem _)
  exact ⟨this.1, this.2, l⟩
theorem Good.mkN {qs : Pgs} (g : Good qs) {i j m : Nat} {p : Addr} {ws : List Int} (e : qs[i]? = some (some (p, ws))) (hj : j < 8) (hm : m < 256) : Good (mkN qs i j m) := by
  obtain ⟨a, b, c⟩ := Good.word g e hj
  have := wordN_of e a
  exact L2.Good.setW g e (by omega) (by have := or_lt48 (w := wordN qs i j) (m := m) (by omega) hm; omega)
theorem and3 {c : Prop} [Decidable c] {d : Bool} {F G U : Prop} (mk : (if d = true then F else G) → U) (hf : c → d = true → F) (hg : ¬ (c ∧ d = true) → G) : if c then U else (if false = true then F else G) := by
  by_cases h : c
  · rw [if_pos h]
    refine mk ?_
    by_cases h2 : d = true
    · rw [if_pos h2]; exact hf h h2
    · rw [if_neg h2]; exact hg fun z => h2 z.2
  · rw [if_neg h]
    exact iteF (hg fun z => h z.1)
section
variable {P : Program} {w : World} {K : PySem.W.Frag} {mg : Str → Option Value} {base : Heap} {C NP NL NW NI SC PL WC FA : Addr}
theorem scWl : FnScope ["_law_root", "_law_pages_here", "_law_place_here", "_law_write", "_law_kernel", "_law_spots", "_law_page", "_law_rights", "_law_level", "_law_cell", "_law_row"] ["_law_root", "_law_pages_here", "_law_place_here", "_law_write", "_law_kernel"] (defScope sWalkL) := ⟨rfl, rfl, rfl, by decide +kernel, rfl, by decide +kernel, by decide +kernel⟩
theorem ok_walkl {f f1 : Addr} {fd fd1 : FuncData} (F : Fun K "_law_walk" "_law_walk" sWalkL f fd) (D1 : Dn K mg "_law_there" sThere ["_law_pages_here", "_law_page"] f1 fd1) (G1 : FnOk P w K mg base CX0 1 f1 fd1 ["_law_pages_here", "_law_page"] spThere) (T : Txt K mg) : FnOk P w K mg base CX0 2 f fd ["_law_root", "_law_pages_here", "_law_place_here", "_law_write", "_law_kernel"] spWalkL := by
  refine F.ok scWl (fun vs H Q E h => ?_) (fun cdv A outer s H vs Q E hr h => ?_)
  · obtain ⟨D, qs, rt, pl, wr, k, rfl, _⟩ := h
    rfl
  · obtain ⟨D, qs, rt, pl, wr, k, rfl, g, gd, kf, kt⟩ := h
    refine ⟨_, (pss_cons (ps_if (pt_cmpR op_gt (pv 2) pe_int (nomark _)) (pss_one (ps_ret (pe_tup (pa_consK pe_str (pa_consK pe_str (pa_consK (pv 2) (pa_consK pe_int pa_nil))))))) pss_nil) (pss_cons (ps_if (pt_not (pt_val (pe_call G1 hr (by rfl) D1.m D1.F.kp D1.b .nil pass0 (pa_cons (pv 1) (pa_cons (pv 0) pa_nil))))) (pss_one (ps_ret (pe_tup (pa_consK pe_str (pa_consK pe_str (pa_consK (pv 2) (pa_consK pe_int pa_nil))))))) pss_nil) (pss_cons (ps_set (i := 5) scWl.nd rfl (Or.inl rfl) (pe_lst pa_nil)) (pss_cons (ps_set (i := 6) scWl.nd rfl (Or.inl rfl) (pv 0)) (pss_cons (ps_set (i := 7) scWl.nd rfl (Or.inl rfl) pe_int) (pss_cons (ps_for PassesOwn.never rfl (pi_list (pe_lst (pa_cons (pe_tup (pa_cons pe_int (pa_cons (pe_op op_fdiv (pv 2) pe_int) pa_nil))) (pa_cons (pe_tup (pa_cons pe_int (pa_cons (pe_op op_mod (pe_op op_fdiv (pv 2) pe_int) pe_int) pa_nil))) pa_nil)))) (pg_tup rfl (pgs_cons (pg_name (i := 8) scWl.nd rfl (Or.inl rfl)) (pgs_cons (pg_name (i := 9) scWl.nd rfl (Or.inl rfl)) pgs_nil))) (pss_cons (ps_set (i := 10) scWl.nd rfl (Or.inl rfl) (pe_ix ix_list (pe_ix ix_list (pv 1) (pv 6) (fun _ _ => rfl)) (pv 9) (fun _ _ => rfl))) (pss_cons (ps_expr (pe_bm PySem.F.plainAttrs_list PySem.F.slot_list_append PySem.F.type_list_append mt_append (pv 5) (pa_cons (pe_tup (pa_cons (pv 6) (pa_cons (pv 9) pa_nil))) pa_nil))) (pss_cons (ps_set (i := 6) scWl.nd rfl (Or.inl rfl) (pe_op op_fdiv (pv 10) pe_int)) (pss_cons (ps_if (pt_cmpR op_eq (pe_op op_mod (pv 10) pe_int) pe_int (nomark _)) (pss_one (ps_ret (pe_tup (pa_consK pe_str (pa_consK pe_str (pa_consK (pv 2) (pa_consK (pv 8) pa_nil))))))) pss_nil) (pss_cons (ps_if (pt_not (pt_val (pe_call G1 hr (by rfl) D1.m D1.F.kp D1.b .nil pass0 (pa_cons (pv 1) (pa_cons (pv 6) pa_nil))))) (pss_one (ps_ret (pe_tup (pa_consK pe_str (pa_consK pe_str (pa_consK (pv 2) (pa_consK (pv 8) pa_nil))))))) pss_nil) (pss_cons (ps_if (PW.pt (pw_and (pt_cmpR op_eq (pe_op op_mod (pe_op op_fdiv (pv 10) pe_int) pe_int) pe_int (nomark _)) (pw_and1 (pt_not (pt_val (pv 4)))))) (pss_one (ps_ret (pe_tup (pa_consK pe_str (pa_consK pe_str (pa_consK (pv 2) (pa_consK (pv 8) pa_nil))))))) pss_nil) (pss_cons (ps_if (PW.pt (pw_and (pt_val (pv 3)) (pw_and1 (pt_cmpR op_eq (pe_op op_mod (pe_op op_fdiv (pv 10) pe_int) pe_int) pe_int (nomark _))))) (pss_one (ps_ret (pe_tup (pa_consK pe_str (pa_consK pe_str (pa_consK (pv 2) (pa_consK (pv 8) pa_nil))))))) pss_nil) (pss_cons (ps_if (pt_cmpR op_eq (pe_op op_mod (pe_op op_fdiv (pv 10) pe_int) pe_int) pe_int (nomark _)) (pss_one (ps_set (i := 7) scWl.nd rfl (Or.inl rfl) (pe_op op_mul (pe_op op_fdiv (pv 7) pe_int) pe_int))) pss_nil) (pss_cons (ps_if (PW.pt (pw_and (pt_cmpR op_eq (pe_op op_mod (pe_op op_fdiv (pv 10) pe_int) pe_int) pe_int (nomark _)) (pw_and1 (pt_cmpR op_lt (pe_op op_mod (pv 7) pe_int) pe_int (nomark _))))) (pss_one (ps_set (i := 7) scWl.nd rfl (Or.inl rfl) (pe_op op_add (pv 7) pe_int))) pss_nil) (pss_one (ps_if (PW.pt (pw_and (pt_cmpR op_eq (pv 8) pe_int (nomark _)) (pw_and1 (pt_cmpR op_eq (pe_op op_mod (pe_op op_fdiv (pv 10) pe_int) pe_int) pe_int (nomark _))))) (pss_one (ps_set (i := 7) scWl.nd rfl (Or.inl rfl) (pe_op op_add (pv 7) pe_int))) pss_nil)))))))))))) (pss_one (ps_ret (pe_tup (pa_consK (pe_ix ix_list (pv 5) pe_int (fun _ _ => rfl)) (pa_consK (pe_ix ix_list (pv 5) pe_int (fun _ _ => rfl)) (pa_consK (pv 6) (pa_consK (pv 7) pa_nil))))))))))))), ?_⟩
    refine ⟨_, rfl, _, 511, rfl, rfl, _, rfl, ite2 (fun c => ?_) (fun c => ?_)⟩
    · have c : 511 < pl := by have := of_decide_eq_true c; omega
      exact ⟨_, rfl, by show 4 ≤ sizeLine; decide, fun t ht => kf _ 0 (look_far c) t _ (same_new ht) ht upd_same⟩
    have c : ¬ 511 < pl := fun z => c (decide_eq_true (by omega))
    refine ⟨_, rfl, _, rfl, D, qs, rt, rfl, g, _, rfl, ?_⟩
    cases hrt : isThere qs[rt]? with
    | false => exact iteT ⟨_, rfl, by show 4 ≤ sizeLine; decide, fun t ht => kf _ 0 (look_root c (by rw [has_there]; exact hrt)) t _ (same_new ht) ht upd_same⟩
    | true =>
    have hrt' : hasP qs (.int (rt : Int)) = true := by rw [has_there]; exact hrt
    refine iteF ⟨by show 0 ≤ sizeLine; decide, fun S hS => ?_⟩
    have sS := same_new (o := .lst []) hS
    have zS : upd H S (.lst []) S = some (.lst []) := upd_same
    generalize upd H S (.lst []) = H1 at *
    refine ⟨_, rfl, _, rfl, _, 64, rfl, rfl, ⟨by decide, by decide⟩, by show 2 ≤ sizeLine; decide, fun ta hta => ?_⟩
    have sa := same_new (o := .tup [.int 1, .int ((pl : Int) / 64)]) hta
    have za : upd H1 ta (.tup [.int 1, .int ((pl : Int) / 64)]) ta = some (.tup [.int 1, .int ((pl : Int) / 64)]) := upd_same
    generalize upd H1 ta (.tup [.int 1, .int ((pl : Int) / 64)]) = H2 at *
    refine ⟨_, rfl, _, 8, rfl, rfl, ⟨by decide, by decide⟩, _, 8, rfl, rfl, (by show (0 : Int) < 8; decide), by show 2 ≤ sizeLine; decide, fun tb htb => ?_⟩
    have sb := same_new (o := .tup [.int 2, .int ((pl : Int) / 8 % 8)]) htb
    have zb : upd H2 tb (.tup [.int 2, .int ((pl : Int) / 8 % 8)]) tb = some (.tup [.int 2, .int ((pl : Int) / 8 % 8)]) := upd_same
    generalize upd H2 tb (.tup [.int 2, .int ((pl : Int) / 8 % 8)]) = H3 at *
    refine ⟨by show 2 ≤ sizeLine; decide, fun lo hlo => ?_⟩
    have sl := same_new (o := .lst [.ref ta, .ref tb]) hlo
    have zl : upd H3 lo (.lst [.ref ta, .ref tb]) lo = some (.lst [.ref ta, .ref tb]) := upd_same
    generalize upd H3 lo (.lst [.ref ta, .ref tb]) = H4 at *
    have s14 := (sa.trans sb).trans sl
    have sH4 := sS.trans s14
    have tis : ∀ i x, ([V.ref ta, V.ref tb])[i]? = some x → i < 2 ∧ ∃ ti, x = .ref ti ∧ H4 ti = some (.tup [.int ((i + 1 : Nat) : Int), .int ((celN pl i : Nat) : Int)]) := fun i x e => by
      match i, e with
      | 0, e => exact ⟨by omega, ta, (Option.some.inj e).symm, (by rw [sl _ _ (sb _ _ za)]; congr 3; simp [celN]; omega)⟩
      | 1, e => exact ⟨by omega, tb, (Option.some.inj e).symm, (by rw [sl _ _ zb]; congr 3)⟩
      | n + 2, e => simp at e
    have nlS : lo ≠ S := (ne_of_none ((sa.trans sb) _ _ zS) hlo).symm
    have nS : ∀ (b : Addr) (xs : List V), H4 b = some (.tup xs) → b ≠ S := fun b xs e => ne_of e (s14 _ _ zS) nofun
    refine ⟨lo, rfl, ⟨_, SqL.of zl⟩, for_list (K := K) (a := lo) (xs := [.ref ta, .ref tb]) (fun i σ H' => ∃ (v8 v9 v10 : Option V) (ss : List V), σ = [some (.int (rt : Int)), some (.ref D), some (.int (pl : Int)), some (.bl wr), some (.bl k), some (.ref S), some (.int (((pagN qs rt pl i : Nat) : Int))), some (.int (rgN qs rt pl i)), v8, v9, v10] ∧ Same H H' ∧ (∀ b o, b ≠ S → H4 b = some o → H' b = some o) ∧ H' S = some (.lst ss) ∧ ss.length = i ∧ (∀ j, j < i → ∃ s, ss[j]? = some (.ref s) ∧ H' s = some (.tup [.int ((pagN qs rt pl j : Nat) : Int), .int ((celN pl j : Nat) : Int)])) ∧ hasP qs (.int ((pagN qs rt pl i : Nat) : Int)) = true ∧ ∀ j, j < i → lackN qs (rwN qs rt pl j) wr k = none) ?_ ?_ ?_ ?_⟩
    · exact ⟨_, _, _, [], rfl, sH4, fun _ _ _ e => e, s14 _ _ zS, rfl, fun j hj => absurd hj (by omega), hrt', fun j hj => absurd hj (by omega)⟩
    · rintro i σ H' _ ⟨_, _, _, _, _, _, kp, _⟩
      exact SqL.of (kp _ _ nlS zl)
    · rintro i x σ H' hx ⟨v8, v9, v10, ss, rfl, ss1, kp, zS', sl', sp', hp, hlk⟩
      obtain ⟨hi, ti, rfl, eti⟩ := tis i x hx
      have g' := g.same ss1
      have eti' := kp _ _ (nS _ _ eti) eti
      have c8 : celN pl i < 8 := by
        match i with
        | 0 => show pl / 8 / 8 < 8; omega
        | n + 1 => show pl / 8 % 8 < 8; omega
      obtain ⟨n, p, ws, en, e1⟩ := hasP_int hp
      obtain rfl : n = pagN qs rt pl i := by have := V.int.inj en; omega
      obtain ⟨w0, _, w8⟩ := Good.word gd e1 c8
      have hw : ws.getD (celN pl i) 0 = ((rwN qs rt pl i : Nat) : Int) := wordN_of e1 w0
      refine ⟨ti, _, rfl, SqT.of eti', rfl, _, _, rfl, _, _, rfl, rfl, ?_⟩
      refine ⟨_, rfl, _, rfl, D, _, _, .ref p, rfl, rfl, SqL.of g'.top, atI_nat (by rw [List.getElem?_map, e1]; rfl), _, rfl, p, _, _, _, rfl, rfl, SqL.of (g'.each _ _ _ e1).1, atI_word (by omega), ?_⟩
      dsimp only
      rw [hw]
      have hpg : pagN qs rt pl (i + 1) = rwN qs rt pl i / 256 := rfl
      have hrg : rgN qs rt pl (i + 1) = stepI (rgN qs rt pl i) (rwN qs rt pl i : Nat) + (if i = 1 ∧ ((rwN qs rt pl i : Nat) : Int) / 16 % 2 = 1 then 16 else 0) := rfl
      have hlk1 := lack_eq qs (rwN qs rt pl i) wr k
      have kf1 : ∀ z, lackN qs (rwN qs rt pl i) wr k = some z → ∀ t H', Same H H' → H t = none → H' t = some (.tup [.str "fault", .str z, .int (pl : Int), .int ((i + 1 : Nat) : Int)]) → Q (.ref t) H' := fun z hz => kf z (i + 1) (look_lack c hrt' hi hlk hz)
      generalize hwd : rwN qs rt pl i = w at *
      refine ⟨_, rfl, .inl ⟨rfl, _, SqL.of zS'⟩, _, rfl, _, rfl, by show 2 ≤ sizeLine; decide, fun s hs => ?_⟩
      have ss2 := same_new (o := .tup [.int ((pagN qs rt pl i : Nat) : Int), .int ((celN pl i : Nat) : Int)]) hs
      have zs : upd H' s (.tup [.int ((pagN qs rt pl i : Nat) : Int), .int ((celN pl i : Nat) : Int)]) s = some (.tup [.int ((pagN qs rt pl i : Nat) : Int), .int ((celN pl i : Nat) : Int)]) := upd_same
      generalize upd H' s (.tup [.int ((pagN qs rt pl i : Nat) : Int), .int ((celN pl i : Nat) : Int)]) = H5 at *
      refine ⟨S, _, _, rfl, rfl, ss2 _ _ zS', by rw [sl']; exact Nat.lt_of_lt_of_le (show i < 3 by omega) (by decide), ?_⟩
      have ss3 : Same H (upd H5 S (.lst (ss ++ [.ref s]))) := (ss1.trans ss2).set hS
      have zS3 : upd H5 S (.lst (ss ++ [.ref s])) S = some (.lst (ss ++ [.ref s])) := upd_same
      have kp3 : ∀ b o, b ≠ S → H4 b = some o → upd H5 S (.lst (ss ++ [.ref s])) b = some o := fun b o nb e => by rw [upd_ne nb]; exact ss2 _ _ (kp b o nb e)
      have sp3 : ∀ j, j < i + 1 → ∃ s', (ss ++ [V.ref s])[j]? = some (.ref s') ∧ upd H5 S (.lst (ss ++ [.ref s])) s' = some (.tup [.int ((pagN qs rt pl j : Nat) : Int), .int ((celN pl j : Nat) : Int)]) := fun j hj => by
        have nn : ∀ (b : Addr) (xs : List V), H5 b = some (.tup xs) → b ≠ S := fun b xs e => ne_of e (ss2 _ _ zS') nofun
        by_cases hji : j < i
        · obtain ⟨s', e1, e2⟩ := sp' j hji
          have e3 := ss2 _ _ e2
          exact ⟨s', by rw [List.getElem?_append_left (by omega)]; exact e1, by rw [upd_ne (nn _ _ e3)]; exact e3⟩
        · obtain rfl : j = i := by omega
          exact ⟨s, by rw [List.getElem?_append_right (by omega), sl', Nat.sub_self]; rfl, by rw [upd_ne (nn _ _ zs)]; exact zs⟩
      have sl3 : (ss ++ [V.ref s]).length = i + 1 := by rw [List.length_append, sl']; rfl
      generalize upd H5 S (.lst (ss ++ [.ref s])) = H6 at *
      have g6 := g.same ss3
      have lv : (w : Int) / 256 = ((w / 256 : Nat) : Int) := rfl
      refine ⟨_, rfl, _, 256, rfl, rfl, ⟨by decide, by decide⟩, ?_⟩
      refine ⟨_, rfl, _, 2, rfl, rfl, (by show (0 : Int) < 2; decide), rfl, _, rfl, ite2 (fun c1 => ?_) (fun c1 => ?_)⟩
      · have c1 := V.int.inj (of_decide_eq_true c1)
        exact ⟨_, rfl, _, rfl, by show 4 ≤ sizeLine; decide, fun t ht => kf1 _ (by rw [hlk1, if_pos (by omega)]) t _ (ss3.trans (same_new ht)) (ss3.free ht) upd_same⟩
      have c1 : ¬ w % 2 = 0 := fun z => c1 (decide_eq_true (congrArg V.int (by omega)))
      refine ⟨_, rfl, _, rfl, D, qs, w / 256, rfl, g6, _, rfl, ?_⟩
      cases hth : isThere qs[w / 256]? with
      | false => exact iteT ⟨_, rfl, _, rfl, by show 4 ≤ sizeLine; decide, fun t ht => kf1 _ (by rw [hlk1, if_neg c1, if_pos (by rw [has_there]; exact hth)]) t _ (ss3.trans (same_new ht)) (ss3.free ht) upd_same⟩
      | true =>
      have hth' : hasP qs (.int ((w / 256 : Nat) : Int)) = true := by rw [has_there]; exact hth
      have hth2 : ¬ hasP qs (.int ((w / 256 : Nat) : Int)) = false := by rw [hth']; decide
      refine iteF ⟨_, rfl, _, 4, rfl, rfl, ⟨by decide, by decide⟩, _, 2, rfl, rfl, (by show (0 : Int) < 2; decide), rfl, _, rfl, and3 (d := !k) (fun z => ⟨_, rfl, _, rfl, z⟩) (fun c4 ck => ?_) (fun c4 => ?_)⟩
      · have c4 := V.int.inj (of_decide_eq_true c4)
        have ck : k = false := by simpa using ck
        exact ⟨_, rfl, _, rfl, by show 4 ≤ sizeLine; decide, fun t ht => kf1 _ (by rw [hlk1, if_neg c1, if_neg hth2, if_pos ⟨by omega, ck⟩]) t _ (ss3.trans (same_new ht)) (ss3.free ht) upd_same⟩
      have c4 : ¬ (w / 4 % 2 = 1 ∧ k = false) := fun z => c4 ⟨decide_eq_true (congrArg V.int (by omega)), by rw [z.2]; rfl⟩
      refine ⟨_, rfl, _, rfl, and3 (d := decide (V.int ((w : Int) / 2 % 2) = V.int 0)) (fun z => ⟨_, rfl, _, 2, rfl, rfl, ⟨by decide, by decide⟩, _, 2, rfl, rfl, (by show (0 : Int) < 2; decide), rfl, _, rfl, z⟩) (fun c2 cw => ?_) (fun c2 => ?_)⟩
      · have cw := V.int.inj (of_decide_eq_true cw)
        exact ⟨_, rfl, _, rfl, by show 4 ≤ sizeLine; decide, fun t ht => kf1 _ (by rw [hlk1, if_neg c1, if_neg hth2, if_neg c4, if_pos ⟨c2, by omega⟩]) t _ (ss3.trans (same_new ht)) (ss3.free ht) upd_same⟩
      have c2 : ¬ (wr = true ∧ w / 2 % 2 = 0) := fun z => c2 ⟨z.1, decide_eq_true (congrArg V.int (by omega))⟩
      have hnone : lackN qs w wr k = none := by rw [hlk1, if_neg c1, if_neg hth2, if_neg c4, if_neg c2]
      have hall : ∀ j, j < i + 1 → lackN qs (rwN qs rt pl j) wr k = none := fun j hj => by
        by_cases hji : j < i
        · exact hlk j hji
        · obtain rfl : j = i := by omega
          rw [hwd]; exact hnone
      have fin : ∀ (r : Int) (v8 v9 v10 : Option V), r = rgN qs rt pl (i + 1) → ∃ (v8' v9' v10' : Option V) (ss : List V), [some (.int (rt : Int)), some (.ref D), some (.int (pl : Int)), some (.bl wr), some (.bl k), some (.ref S), some (.int (((w / 256 : Nat) : Int))), some (.int (r)), v8, v9, v10] = [some (.int (rt : Int)), some (.ref D), some (.int (pl : Int)), some (.bl wr), some (.bl k), some (.ref S), some (.int (((pagN qs rt pl (i + 1) : Nat) : Int))), some (.int (rgN qs rt pl (i + 1))), v8', v9', v10'] ∧ Same H H6 ∧ (∀ b o, b ≠ S → H4 b = some o → H6 b = some o) ∧ H6 S = some (.lst ss) ∧ ss.length = i + 1 ∧ (∀ j, j < i + 1 → ∃ s, ss[j]? = some (.ref s) ∧ H6 s = some (.tup [.int ((pagN qs rt pl j : Nat) : Int), .int ((celN pl j : Nat) : Int)])) ∧ hasP qs (.int ((pagN qs rt pl (i + 1) : Nat) : Int)) = true ∧ ∀ j, j < i + 1 → lackN qs (rwN qs rt pl j) wr k = none := fun r v8 v9 v10 e => by
        subst e
        exact ⟨v8, v9, v10, _, by rw [hpg], ss3, kp3, zS3, sl3, sp3, by rw [hpg]; exact hth', hall⟩
      refine ⟨_, rfl, _, 2, rfl, rfl, ⟨by decide, by decide⟩, _, 2, rfl, rfl, (by show (0 : Int) < 2; decide), rfl, _, rfl, ite2 (fun d2 => ?_) (fun d2 => ?_)⟩
      · have d2 := V.int.inj (of_decide_eq_true d2)
        refine ⟨_, rfl, _, 4, rfl, rfl, ⟨by decide, by decide⟩, _, 4, rfl, rfl, .inr ⟨by decide, by decide⟩, ?_⟩
        refine ⟨_, rfl, _, 4, rfl, rfl, ⟨by decide, by decide⟩, _, 2, rfl, rfl, (by show (0 : Int) < 2; decide), rfl, _, rfl, and3 (d := decide ((rgN qs rt pl i / 4 * 4) % 8 < 4)) (fun z => ⟨_, rfl, _, 8, rfl, rfl, (by show (0 : Int) < 8; decide), _, 4, rfl, rfl, _, rfl, z⟩) (fun d4 d5 => ⟨_, rfl, _, _, rfl, rfl, ?_⟩) (fun d4 => ?_)⟩
        · have d4 := V.int.inj (of_decide_eq_true d4)
          have d5 := of_decide_eq_true d5
          refine ⟨_, rfl, rfl, _, rfl, and3 (d := decide (V.int ((w : Int) / 16 % 2) = V.int 1)) (fun z => ⟨_, rfl, _, 16, rfl, rfl, ⟨by decide, by decide⟩, _, 2, rfl, rfl, (by show (0 : Int) < 2; decide), rfl, _, rfl, z⟩) (fun d6 d7 => ⟨_, rfl, _, _, rfl, rfl, ?_⟩) (fun d6 => ?_)⟩
          · have d6 := V.int.inj (of_decide_eq_true d6)
            have d7 := V.int.inj (of_decide_eq_true d7)
            exact fin _ _ _ _ (by rw [hrg]; unfold stepI; rw [if_pos d2, if_pos ⟨d4, d5⟩, if_pos ⟨by omega, d7⟩])
          · have d6 : ¬ (i = 1 ∧ (w : Int) / 16 % 2 = 1) := fun z => d6 ⟨decide_eq_true (congrArg V.int (by omega)), decide_eq_true (congrArg V.int z.2)⟩
            exact fin _ _ _ _ (by rw [hrg]; unfold stepI; rw [if_pos d2, if_pos ⟨d4, d5⟩, if_neg d6, Int.add_zero])
        · have d4 : ¬ ((w : Int) / 4 % 2 = 1 ∧ (rgN qs rt pl i / 4 * 4) % 8 < 4) := fun z => d4 ⟨decide_eq_true (congrArg V.int z.1), decide_eq_true z.2⟩
          refine ⟨_, rfl, rfl, _, rfl, and3 (d := decide (V.int ((w : Int) / 16 % 2) = V.int 1)) (fun z => ⟨_, rfl, _, 16, rfl, rfl, ⟨by decide, by decide⟩, _, 2, rfl, rfl, (by show (0 : Int) < 2; decide), rfl, _, rfl, z⟩) (fun d6 d7 => ⟨_, rfl, _, _, rfl, rfl, ?_⟩) (fun d6 => ?_)⟩
          · have d6 := V.int.inj (of_decide_eq_true d6)
            have d7 := V.int.inj (of_decide_eq_true d7)
            exact fin _ _ _ _ (by rw [hrg]; unfold stepI; rw [if_pos d2, if_neg d4, if_pos ⟨by omega, d7⟩])
          · have d6 : ¬ (i = 1 ∧ (w : Int) / 16 % 2 = 1) := fun z => d6 ⟨decide_eq_true (congrArg V.int (by omega)), decide_eq_true (congrArg V.int z.2)⟩
            exact fin _ _ _ _ (by rw [hrg]; unfold stepI; rw [if_pos d2, if_neg d4, if_neg d6, Int.add_zero])
      · have d2 : ¬ (w : Int) / 2 % 2 = 0 := fun z => d2 (decide_eq_true (congrArg V.int z))
        refine ⟨_, rfl, _, 4, rfl, rfl, ⟨by decide, by decide⟩, _, 2, rfl, rfl, (by show (0 : Int) < 2; decide), rfl, _, rfl, and3 (d := decide ((rgN qs rt pl i) % 8 < 4)) (fun z => ⟨_, rfl, _, 8, rfl, rfl, (by show (0 : Int) < 8; decide), _, 4, rfl, rfl, _, rfl, z⟩) (fun d4 d5 => ⟨_, rfl, _, _, rfl, rfl, ?_⟩) (fun d4 => ?_)⟩
        · have d4 := V.int.inj (of_decide_eq_true d4)
          have d5 := of_decide_eq_true d5
          refine ⟨_, rfl, rfl, _, rfl, and3 (d := decide (V.int ((w : Int) / 16 % 2) = V.int 1)) (fun z => ⟨_, rfl, _, 16, rfl, rfl, ⟨by decide, by decide⟩, _, 2, rfl, rfl, (by show (0 : Int) < 2; decide), rfl, _, rfl, z⟩) (fun d6 d7 => ⟨_, rfl, _, _, rfl, rfl, ?_⟩) (fun d6 => ?_)⟩
          · have d6 := V.int.inj (of_decide_eq_true d6)
            have d7 := V.int.inj (of_decide_eq_true d7)
            exact fin _ _ _ _ (by rw [hrg]; unfold stepI; rw [if_neg d2, if_pos ⟨d4, d5⟩, if_pos ⟨by omega, d7⟩])
          · have d6 : ¬ (i = 1 ∧ (w : Int) / 16 % 2 = 1) := fun z => d6 ⟨decide_eq_true (congrArg V.int (by omega)), decide_eq_true (congrArg V.int z.2)⟩
            exact fin _ _ _ _ (by rw [hrg]; unfold stepI; rw [if_neg d2, if_pos ⟨d4, d5⟩, if_neg d6, Int.add_zero])
        · have d4 : ¬ ((w : Int) / 4 % 2 = 1 ∧ (rgN qs rt pl i) % 8 < 4) := fun z => d4 ⟨decide_eq_true (congrArg V.int z.1), decide_eq_true z.2⟩
          refine ⟨_, rfl, rfl, _, rfl, and3 (d := decide (V.int ((w : Int) / 16 % 2) = V.int 1)) (fun z => ⟨_, rfl, _, 16, rfl, rfl, ⟨by decide, by decide⟩, _, 2, rfl, rfl, (by show (0 : Int) < 2; decide), rfl, _, rfl, z⟩) (fun d6 d7 => ⟨_, rfl, _, _, rfl, rfl, ?_⟩) (fun d6 => ?_)⟩
          · have d6 := V.int.inj (of_decide_eq_true d6)
            have d7 := V.int.inj (of_decide_eq_true d7)
            exact fin _ _ _ _ (by rw [hrg]; unfold stepI; rw [if_neg d2, if_neg d4, if_pos ⟨by omega, d7⟩])
          · have d6 : ¬ (i = 1 ∧ (w : Int) / 16 % 2 = 1) := fun z => d6 ⟨decide_eq_true (congrArg V.int (by omega)), decide_eq_true (congrArg V.int z.2)⟩
            exact fin _ _ _ _ (by rw [hrg]; unfold stepI; rw [if_neg d2, if_neg d4, if_neg d6, Int.add_zero])
    · rintro σ H' ⟨v8, v9, v10, ss, rfl, ss1, kp, zS', sl', sp', hp, hlk⟩
      obtain ⟨s0, e0, z0⟩ := sp' 0 (show 0 < 2 by decide)
      obtain ⟨s1, e1, z1⟩ := sp' 1 (show 1 < 2 by decide)
      obtain ⟨look, rig⟩ := look_all c hrt' hlk
      refine ⟨_, rfl, S, _, _, .ref s0, rfl, rfl, SqL.of zS', atI_nat e0, _, rfl, S, _, _, .ref s1, rfl, rfl, SqL.of zS', atI_nat e1, _, rfl, _, rfl, by show 4 ≤ sizeLine; decide, fun tt htt => ?_⟩
      have st := same_new (o := .tup [.ref s0, .ref s1, .int ((pagN qs rt pl 2 : Nat) : Int), .int (rgN qs rt pl 2)]) htt
      refine kt _ _ _ _ look tt s0 s1 _ (ss1.trans st) ?_ (st _ _ z0) (st _ _ z1)
      rw [← rig]
      exact upd_same
theorem scMk : FnScope ["_law_pages_here", "_law_trail", "_law_write", "_law_spot", "_law_bits", "_law_bit"] ["_law_pages_here", "_law_trail", "_law_write"] (defScope sMkd) := ⟨rfl, rfl, rfl, by decide +kernel, rfl, by decide +kernel, by decide +kernel⟩
theorem ok_mkd {f : Addr} {fd : FuncData} (F : Fun K "_law_marked" "_law_marked" sMkd f fd) (T : Txt K mg) : FnOk P w K mg base CX0 1 f fd ["_law_pages_here", "_law_trail", "_law_write"] spMkd := by
  refine F.ok scMk (fun vs H Q E h => ?_) (fun cdv A outer s H vs Q E hr h => ?_)
  · obtain ⟨D, tt, t1, t2, qs, i, j, i1, j1, pg, t, l, wr, rfl, _⟩ := h
    rfl
  · obtain ⟨D, tt, t1, t2, qs, i, j, i1, j1, pg, t, l, wr, rfl, g, gd, ett, et1, et2, hp0, hp1, j8, j18, q⟩ := h
    refine ⟨_, (pss_cons (ps_for PassesOwn.never rfl (pi_list (pe_lst (pa_cons (pe_tup (pa_cons (pe_ix ix_tup (pv 1) pe_int (fun _ _ => rfl)) (pa_cons (pe_lst (pa_cons pe_int pa_nil)) pa_nil))) (pa_cons (pe_tup (pa_cons (pe_ix ix_tup (pv 1) pe_int (fun _ _ => rfl)) (pa_cons (pe_slice sl_list (pe_lst (pa_cons pe_int (pa_cons pe_int pa_nil))) po_none (po_some (pe_op op_add pe_int (pe_callTy call_int1 (by rfl) T.int PyProof.Rows.boot_int (pa_cons (pv 2) pa_nil))))) pa_nil))) pa_nil)))) (pg_tup rfl (pgs_cons (pg_name (i := 3) scMk.nd rfl (Or.inl rfl)) (pgs_cons (pg_name (i := 4) scMk.nd rfl (Or.inl rfl)) pgs_nil))) (pss_one (ps_for PassesOwn.never rfl (pi_list (pv 4)) (pg_name (i := 5) scMk.nd rfl (Or.inl rfl)) (pss_one (ps_if (pt_cmpR op_eq (pe_op op_mod (pe_op op_fdiv (pe_ix ix_list (pe_ix ix_list (pv 0) (pe_ix ix_tup (pv 3) pe_int (fun _ _ => rfl)) (fun _ _ => rfl)) (pe_ix ix_tup (pv 3) pe_int (fun _ _ => rfl)) (fun _ _ => rfl)) (pv 5)) pe_int) pe_int (nomark _)) (pss_one (ps_asg (pe_op op_add (pe_ix ix_list (pe_ix ix_list (pv 0) (pe_ix ix_tup (pv 3) pe_int (fun _ _ => rfl)) (fun _ _ => rfl)) (pe_ix ix_tup (pv 3) pe_int (fun _ _ => rfl)) (fun _ _ => rfl)) (pv 5)) (pg_sub (pe_ix ix_list (pv 0) (pe_ix ix_tup (pv 3) pe_int (fun _ _ => rfl)) (fun _ _ => rfl)) (pe_ix ix_tup (pv 3) pe_int (fun _ _ => rfl)) set_list))) pss_nil))))) (pss_cons (ps_if (PW.pt (pw_and (pt_val (pv 2)) (pw_and1 (pt_cmpR op_lt (pe_ix ix_tup (pv 1) pe_int (fun _ _ => rfl)) pe_int (nomark _))))) (pss_one (ps_ret (pe_op op_add (pe_ix ix_tup (pv 1) pe_int (fun _ _ => rfl)) pe_int))) pss_nil) (pss_one (ps_ret (pe_ix ix_tup (pv 1) pe_int (fun _ _ => rfl)))))), ?_⟩
    refine ⟨_, rfl, tt, _, _, .ref t1, rfl, rfl, SqT.of ett, rfl, by show 1 ≤ sizeLine; decide, fun b1 hb1 => ?_⟩
    have s1 := same_new (o := .lst [.int 8]) hb1
    have zb1 : upd H b1 (.lst [.int 8]) b1 = some (.lst [.int 8]) := upd_same
    generalize upd H b1 (.lst [.int 8]) = H1 at *
    refine ⟨by show 2 ≤ sizeLine; decide, fun u1 hu1 => ?_⟩
    have s2 := same_new (o := .tup [.ref t1, .ref b1]) hu1
    have zu1 : upd H1 u1 (.tup [.ref t1, .ref b1]) u1 = some (.tup [.ref t1, .ref b1]) := upd_same
    generalize upd H1 u1 (.tup [.ref t1, .ref b1]) = H2 at *
    refine ⟨_, rfl, tt, _, _, .ref t2, rfl, rfl, SqT.of (s2 _ _ (s1 _ _ ett)), rfl, by show 2 ≤ sizeLine; decide, fun b0 hb0 => ?_⟩
    have s3 := same_new (o := .lst [.int 8, .int 16]) hb0
    have zb0 : upd H2 b0 (.lst [.int 8, .int 16]) b0 = some (.lst [.int 8, .int 16]) := upd_same
    generalize upd H2 b0 (.lst [.int 8, .int 16]) = H3 at *
    refine ⟨_, rfl, .inr ⟨wr, rfl, _, _, rfl, rfl, _, rfl, b0, _, rfl, SqL.of zb0, fun b2 hb2 => ?_⟩⟩
    have hcut : cutV [V.int 8, V.int 16] none (some (1 + if wr = true then 1 else 0)) = (if wr then [8, 16] else [8] : List Nat).map (fun (z : Nat) => V.int (z : Int)) := by cases wr <;> rfl
    rw [hcut]
    have hbl : ∀ z ∈ (if wr then [8, 16] else [8] : List Nat), z = 8 ∨ z = 16 := by cases wr <;> decide
    have hbf : ∀ q : Pgs, ∀ (p : Addr) (ws : List Int), q[i1]? = some (some (p, ws)) → j1 < ws.length → (if wr then [8, 16] else [8] : List Nat).foldl (fun q b => mkN q i1 j1 b) q = mkN q i1 j1 (if wr then 24 else 8) := fun q p ws e hj => by
      cases wr
      · rfl
      · exact mkN_two e hj
    generalize (if wr then [8, 16] else [8] : List Nat) = bl at *
    have s4 := same_new (o := .lst (bl.map fun (z : Nat) => V.int (z : Int))) hb2
    have zb2 : upd H3 b2 (.lst (bl.map fun (z : Nat) => V.int (z : Int))) b2 = some (.lst (bl.map fun (z : Nat) => V.int (z : Int))) := upd_same
    generalize upd H3 b2 (.lst (bl.map fun (z : Nat) => V.int (z : Int))) = H4 at *
    refine ⟨by show 2 ≤ sizeLine; decide, fun u2 hu2 => ?_⟩
    have s5 := same_new (o := .tup [.ref t2, .ref b2]) hu2
    have zu2 : upd H4 u2 (.tup [.ref t2, .ref b2]) u2 = some (.tup [.ref t2, .ref b2]) := upd_same
    generalize upd H4 u2 (.tup [.ref t2, .ref b2]) = H5 at *
    refine ⟨by show 2 ≤ sizeLine; decide, fun lo hlo => ?_⟩
    have s6 := same_new (o := .lst [.ref u1, .ref u2]) hlo
    have zlo : upd H5 lo (.lst [.ref u1, .ref u2]) lo = some (.lst [.ref u1, .ref u2]) := upd_same
    generalize upd H5 lo (.lst [.ref u1, .ref u2]) = H6 at *
    have s16 := ((s1.trans s2).trans s3).trans ((s4.trans s5).trans s6)
    have nAt : ∀ b, H b = none → ¬ At D qs b := fun b hb z => by obtain ⟨o, e⟩ := g.at z; rw [hb] at e; cases e
    have nTu : ∀ (b : Addr) (xs : List V), H6 b = some (.tup xs) → ¬ At D qs b := fun b xs e z => by
      rcases z with z | ⟨n, ws, z⟩
      · have y := s16 _ _ g.top; rw [← z, e] at y; cases y
      · have y := s16 _ _ (g.each n b ws z).1; rw [e] at y; cases y
    have nlo : ¬ At D qs lo := nAt _ ((((s1.trans s2).trans s3).trans (s4.trans s5)).free hlo)
    let mq : Nat → Pgs := fun n => if n = 0 then qs else if n = 1 then mkN qs i j 8 else mkN (mkN qs i j 8) i1 j1 (if wr then 24 else 8)
    have tis : ∀ n v, ([V.ref u1, V.ref u2])[n]? = some v → ∃ (u ti bi : Addr) (x y : Nat) (bs : List Nat), v = .ref u ∧ H6 u = some (.tup [.ref ti, .ref bi]) ∧ H6 ti = some (.tup [.int (x : Int), .int (y : Int)]) ∧ H6 bi = some (.lst (bs.map fun (z : Nat) => V.int (z : Int))) ∧ ¬ At D qs bi ∧ hasP qs (.int (x : Int)) = true ∧ y < 8 ∧ (∀ z ∈ bs, z = 8 ∨ z = 16) ∧ ∀ (p : Addr) (ws : List Int), (mq n)[x]? = some (some (p, ws)) → y < ws.length → bs.foldl (fun q b => mkN q x y b) (mq n) = mq (n + 1) := fun n v e => by
      match n, e with
      | 0, e => exact ⟨u1, t1, b1, i, j, [8], (Option.some.inj e).symm, s6 _ _ (s5 _ _ (s4 _ _ (s3 _ _ zu1))), s16 _ _ et1, s6 _ _ (s5 _ _ (s4 _ _ (s3 _ _ (s2 _ _ zb1)))), nAt _ hb1, hp0, j8, fun z hz => .inl (List.mem_singleton.mp hz), fun p ws _ _ => rfl⟩
      | 1, e => exact ⟨u2, t2, b2, i1, j1, bl, (Option.some.inj e).symm, s6 _ _ zu2, s16 _ _ et2, s6 _ _ (s5 _ _ zb2), nAt _ (((s1.trans s2).trans s3).free hb2), hp1, j18, hbl, fun p ws e2 hy => hbf _ p ws e2 hy⟩
      | n + 2, e => simp at e
    have mqAt : ∀ n b, At D (mq n) b → At D qs b := fun n b z => by
      match n, z with
      | 0, z => exact z
      | 1, z => exact At.setW z
      | n + 2, z => exact At.setW (At.setW (show At D (mkN (mkN qs i j 8) i1 j1 (if wr then 24 else 8)) b from z))
    refine ⟨lo, rfl, ⟨_, SqL.of zlo⟩, for_list (K := K) (a := lo) (xs := [.ref u1, .ref u2]) (fun n σ H' => ∃ (v3 v4 v5 : Option V), σ = [some (.ref D), some (.ref tt), some (.bl wr), v3, v4, v5] ∧ Pg H' D (mq n) ∧ Good (mq n) ∧ (∀ x : Nat, hasP (mq n) (.int (x : Int)) = hasP qs (.int (x : Int))) ∧ Kpt D qs H6 H') ?_ ?_ ?_ ?_⟩
    · exact ⟨_, _, _, rfl, g.same s16, gd, fun _ => rfl, fun _ _ _ z => z⟩
    · rintro n σ H' _ ⟨_, _, _, _, _, _, _, kp⟩
      exact SqL.of (kp _ _ nlo zlo)
    · rintro n v σ H' hv ⟨v3, v4, v5, rfl, g', gd', hh, kp⟩
      obtain ⟨u, ti, bi, x, y, bs, rfl, eu, eti, ebi, nbi, hpx, y8, hb8, hfo⟩ := tis n v hv
      refine ⟨u, _, rfl, SqT.of (kp _ _ (nTu _ _ eu) eu), rfl, _, _, rfl, _, _, rfl, rfl, ?_⟩
      have mAt := mqAt n
      generalize mq n = q0 at *
      obtain ⟨n0, p0, w0, en, e0⟩ := hasP_int ((hh x).trans hpx)
      obtain rfl : n0 = x := by have := V.int.inj en; omega
      have hfin := hfo p0 w0 e0 (by have := (Good.word gd' e0 y8).2.2; omega)
      refine ⟨_, rfl, bi, rfl, ⟨_, SqL.of (kp _ _ nbi ebi)⟩, for_list (K := K) (a := bi) (xs := bs.map fun (z : Nat) => V.int (z : Int)) (fun m σ H2 => ∃ (v5 : Option V), σ = [some (.ref D), some (.ref tt), some (.bl wr), some (.ref ti), some (.ref bi), v5] ∧ Pg H2 D ((bs.take m).foldl (fun q b => mkN q n0 y b) q0) ∧ Good ((bs.take m).foldl (fun q b => mkN q n0 y b) q0) ∧ (∀ x : Nat, hasP ((bs.take m).foldl (fun q b => mkN q n0 y b) q0) (.int (x : Int)) = hasP qs (.int (x : Int))) ∧ (∀ b, At D ((bs.take m).foldl (fun q b => mkN q n0 y b) q0) b → At D qs b) ∧ Kpt D qs H6 H2) ?_ ?_ ?_ ?_⟩
      · exact ⟨_, rfl, g', gd', hh, mAt, kp⟩
      · rintro m σ H2 _ ⟨_, _, _, _, _, _, kp2⟩
        exact SqL.of (kp2 _ _ nbi ebi)
      · rintro m v σ H2 hv2 ⟨v5', rfl, g2, gd2, hh2, at2, kp2⟩
        rw [List.getElem?_map] at hv2
        cases eb : bs[m]? with
        | none => rw [eb] at hv2; cases hv2
        | some bt =>
        rw [eb] at hv2
        cases hv2
        have h816 := hb8 bt (List.mem_of_getElem? eb)
        have hst : (bs.take (m + 1)).foldl (fun q b => mkN q n0 y b) q0 = mkN ((bs.take m).foldl (fun q b => mkN q n0 y b) q0) n0 y bt := by
          rw [List.take_succ, eb, List.foldl_append]; rfl
        rw [hst]
        generalize (bs.take m).foldl (fun q b => mkN q n0 y b) q0 = q2 at *
        obtain ⟨n1, p, ws, en1, e1⟩ := hasP_int ((hh2 n0).trans hpx)
        obtain rfl : n1 = n0 := by have := V.int.inj en1; omega
        obtain ⟨w0', w1', w8⟩ := Good.word gd2 e1 y8
        have hw := wordN_of e1 w0'
        have eti2 := kp2 _ _ (nTu _ _ eti) eti
        refine ⟨_, rfl, _, rfl, ti, _, _, .int (n1 : Int), rfl, rfl, SqT.of eti2, rfl, D, _, _, .ref p, rfl, rfl, SqL.of g2.top, atI_nat (by rw [List.getElem?_map, e1]; rfl), _, rfl, ti, _, _, .int (y : Int), rfl, rfl, SqT.of eti2, rfl, p, _, _, _, rfl, rfl, SqL.of (g2.each _ _ _ e1).1, atI_word (by omega),  _, rfl, _, _, rfl, rfl, ⟨by omega, by omega⟩, _, 2, rfl, rfl, (by show (0 : Int) < 2; decide), rfl, _, rfl, ite2 (fun c => ?_) (fun c => ?_)⟩
        · have c := V.int.inj (of_decide_eq_true c)
          have hor : wordN q2 n1 y ||| bt = wordN q2 n1 y + bt := by
            rw [hw] at c
            rcases h816 with rfl | rfl
            · rw [or8, if_pos (by omega)]
            · rw [or16, if_pos (by omega)]
          refine ⟨_, rfl, _, rfl, ti, _, _, .int (n1 : Int), rfl, rfl, SqT.of eti2, rfl, D, _, _, .ref p, rfl, rfl, SqL.of g2.top, atI_nat (by rw [List.getElem?_map, e1]; rfl), _, rfl, ti, _, _, .int (y : Int), rfl, rfl, SqT.of eti2, rfl, p, _, _, _, rfl, rfl, SqL.of (g2.each _ _ _ e1).1, atI_word (by omega),  _, rfl, _, _, rfl, rfl, _, rfl, _, rfl, ti, _, _, .int (n1 : Int), rfl, rfl, SqT.of eti2, rfl, D, _, _, .ref p, rfl, rfl, SqL.of g2.top, atI_nat (by rw [List.getElem?_map, e1]; rfl), _, rfl, ti, _, _, .int (y : Int), rfl, rfl, SqT.of eti2, rfl,  p, _, _, y, rfl, rfl, (g2.each _ _ _ e1).1, ixN_nat (by rw [List.length_map]; omega), ?_⟩
          have em : mkN q2 n1 y bt = setW q2 n1 y (ws.getD y 0 + (bt : Int)) := by unfold mkN; rw [hor, hw]; rfl
          refine ⟨_, rfl, by rw [em]; exact g2.setW e1, Good.mkN gd2 e1 y8 (by omega), fun z => (hasP_mkN z).trans (hh2 z), fun b z => at2 b (At.setW z), fun b o nb z => ?_⟩
          show upd H2 p _ b = some o
          rw [upd_ne (show b ≠ p from fun y => nb (at2 b (by rw [y]; exact .inr ⟨_, ws, e1⟩)))]
          exact kp2 b o nb z
        · have c : ¬ ws.getD y 0 / (bt : Int) % 2 = 0 := fun z => c (decide_eq_true (congrArg V.int z))
          have hor : wordN q2 n1 y ||| bt = wordN q2 n1 y := by
            rw [hw] at c
            rcases h816 with rfl | rfl
            · rw [or8, if_neg (by omega)]
            · rw [or16, if_neg (by omega)]
          rw [mkN_self e1 (by omega) w0' hor]
          exact ⟨_, rfl, g2, gd2, hh2, at2, kp2⟩
      · rintro σ H2 ⟨v5', rfl, g2, gd2, hh2, at2, kp2⟩
        rw [List.length_map, List.take_length, hfin] at *
        exact ⟨_, _, _, rfl, g2, gd2, hh2, kp2⟩
    · rintro σ H' ⟨v3, v4, v5, rfl, g', gd', hh, kp⟩
      have kq : Kpt D qs H H' := fun b o nb e => kp b o nb (s16 _ _ e)
      have ett' := kp _ _ (nTu _ _ (s16 _ _ ett)) (s16 _ _ ett)
      have q := q H' g' kq
      refine ⟨_, rfl, _, rfl, and3 (d := decide (((rigN t l : Nat) : Int) < 16)) (fun z => ⟨_, rfl, tt, _, _, .int ((rigN t l : Nat) : Int), rfl, rfl, SqT.of ett', rfl, _, 16, rfl, rfl, _, rfl, z⟩) (fun cw c => ?_) (fun c => ?_)⟩
      · have c := of_decide_eq_true c
        refine ⟨_, rfl, tt, _, _, .int ((rigN t l : Nat) : Int), rfl, rfl, SqT.of ett', rfl, _, 16, rfl, rfl, ?_⟩
        rw [cw, if_pos rfl, rig_16, if_pos (by omega)] at q
        exact q
      · refine ⟨_, rfl, tt, _, _, .int ((rigN t l : Nat) : Int), rfl, rfl, SqT.of ett', rfl, ?_⟩
        cases wr with
        | false => exact q
        | true =>
          have c : ¬ rigN t l < 16 := fun z => c ⟨rfl, decide_eq_true (by omega)⟩
          rw [if_pos rfl, rig_16, if_neg c] at q
          exact q
end
end K25
end
section
namespace K25
open PySem L2
abbrev sRchL : Stmt := top 64
abbrev sDoL : Stmt := top 63
abbrev sLaw : Stmt := top 65
def spRchL (C SC PL : Addr) : Sp := fun vs H Q _ => ∃ (a m h r q aw : Addr) (ps : Pgs) (n : Int) (rs : Rs) (bs : List Bool) (rt pl : Nat) (wr k : Bool), vs = [.ref a, .int (pl : Int), .bl wr, .bl k] ∧ Way C SC PL H a m h r q aw ps n rs bs (rt : Int) ∧ rs.length ≤ 12 ∧ RsN rs ∧ (∀ p, remN ps rs pl wr k = some p → Q (.int (p : Int)) H) ∧ (remN ps rs pl wr k = none → (∀ z lv, lookN ps rt pl wr k = .fault z lv → ∀ t H', Same H H' → H' t = some (.tup [.str "fault", .str z, .int (pl : Int), .int (lv : Int)]) → Q (.ref t) H') ∧
    ∀ p1 pg t l, lookN ps rt pl wr k = .trail p1 pg t l → ∀ H', Way C SC PL H' a m h r q aw (mkN (mkN ps rt (pl / 8 / 8) 8) p1 (pl / 8 % 8) (if wr then 24 else 8)) n (keepR n rs (((pl / 8 : Nat) : Int), (pg : Int), ((if wr then rigN t l ||| 16 else rigN t l : Nat) : Int))).1 bs (rt : Int) → Kpw h q ps H H' → Q (.int (pg : Int)) H')
def spDoL (C SC PL : Addr) : Sp := fun vs H Q _ => ∃ (a m h r q aw : Addr) (ps : Pgs) (n : Int) (rs : Rs) (bs : List Bool) (rt pl : Nat) (v : Int) (wr k : Bool), vs = [.ref a, .int (pl : Int), .int v, .bl wr, .bl k] ∧ Way C SC PL H a m h r q aw ps n rs bs (rt : Int) ∧ rs.length ≤ 12 ∧ RsN rs ∧ 0 ≤ v ∧ v < 281474976710656 ∧ remN ps rs pl wr k = none ∧ (∀ z lv, lookN ps rt pl wr k = .fault z lv → ∀ t H', Same H H' → H' t = some (.tup [.str "fault", .str z, .int (pl : Int), .int (lv : Int)]) → Q (.ref t) H') ∧
    ∀ p1 pg t l, lookN ps rt pl wr k = .trail p1 pg t l → ∀ H1, Way C SC PL H1 a m h r q aw (mkN (mkN ps rt (pl / 8 / 8) 8) p1 (pl / 8 % 8) (if wr then 24 else 8)) n (keepR n rs (((pl / 8 : Nat) : Int), (pg : Int), ((if wr then rigN t l ||| 16 else rigN t l : Nat) : Int))).1 bs (rt : Int) → Kpw h q ps H H1 →
      (wr = false → ∀ H', Same H1 H' → Q (.int ((wordN (mkN (mkN ps rt (pl / 8 / 8) 8) p1 (pl / 8 % 8) 8) pg (pl % 8) : Nat) : Int)) H') ∧ (wr = true → ∀ H', Way C SC PL H' a m h r q aw (setW (mkN (mkN ps rt (pl / 8 / 8) 8) p1 (pl / 8 % 8) 24) pg (pl % 8) v) n (keepR n rs (((pl / 8 : Nat) : Int), (pg : Int), ((rigN t l ||| 16 : Nat) : Int))).1 bs (rt : Int) → Kpw h q (mkN (mkN ps rt (pl / 8 / 8) 8) p1 (pl / 8 % 8) 24) H1 H' → Q .non H')
section
variable {P : Program} {w : World} {K : PySem.W.Frag} {mg : Str → Option Value} {base : Heap} {C NP NL NW NI SC PL WC FA : Addr}
theorem scRl : FnScope ["_law_way", "_law_place_here", "_law_write", "_law_kernel", "_law_page", "_law_fault", "e"] ["_law_way", "_law_place_here", "_law_write", "_law_kernel"] (defScope sRchL) := ⟨rfl, rfl, rfl, by decide +kernel, rfl, by decide +kernel, by decide +kernel⟩
theorem ok_rchl {f f1 fI : Addr} {fd fd1 : FuncData} (F : Fun K "_law_reach" "_law_reach" sRchL f fd) (M1 : Me K PL "reach" "Ways.reach" sReach ["self", "place", "write", "kernel"] f1 fd1) (GM1 : FnOk P w K mg base (CXr P w) 11 f1 fd1 ["self", "place", "write", "kernel"] (spReach C SC PL FA)) (PC : Plc K PL) (FL : Flt K mg FA fI) (XF : PySem.W.exmOne K (.ref FA) (.ref FA) = some true) : FnOk P w K mg base CX0 12 f fd ["_law_way", "_law_place_here", "_law_write", "_law_kernel"] (spRchL C SC PL) := by
  refine F.ok scRl (fun vs H Q E h' => ?_) (fun cdv A outer s H vs Q E hr h' => ?_)
  · obtain ⟨a, m, h, r, q, aw, ps, n, rs, bs, rt, pl, wr, k, rfl, _⟩ := h'
    rfl
  · obtain ⟨a, m, h, r, q, aw, ps, n, rs, bs, rt, pl, wr, k, rfl, W, hl, rn, k0, k1⟩ := h'
    obtain ⟨dx, fs, ha, wf⟩ := W.ob
    refine ⟨_, (pss_cons (ps_set (i := 4) scRl.nd rfl (Or.inl rfl) pe_non) (pss_cons (ps_set (i := 5) scRl.nd rfl (Or.inl rfl) pe_non) (pss_cons (ps_try (i := 6) scRl.nd rfl rfl rfl rfl FL.m (psx_set (i := 4) scRl.nd rfl (Or.inl rfl) (pex_meth (pv 0) PC.cl M1.m GM1 hr M1.b .nil (pa_cons (pv 1) (pa_cons (pv 2) (pa_cons (pv 3) pa_nil))))) (fun e => (pss_one (ps_set (i := 5) scRl.nd rfl (Or.inl rfl) (pe_tup (pa_consK pe_str (pa_consK (pe_xfldK (K := K) rfl (pv 6) rfl) (pa_consK (pe_xfldK (K := K) rfl (pv 6) rfl) (pa_consK (pe_xfldK (K := K) rfl (pv 6) rfl) pa_nil))))))))) (pss_cons (ps_if (pt_cmpR op_notN (pv 5) pe_non (nomark _)) (pss_one (ps_ret (pv 5))) pss_nil) (pss_one (ps_ret (pv 4))))))), ?_⟩
    have hand : ∀ (H1 : Hp) (z : Str) (lv : Int), Same H H1 → ∀ d, H1 d = none → ∀ e, upd H1 d (xdo d (ffF [.str z, .int (pl : Int), .int lv])) e = none → upd (upd H1 d (xdo d (ffF [.str z, .int (pl : Int), .int lv]))) e (xob e (.ref FA) (some d)) e = some (xob e (.ref FA) (some d)) ∧ upd (upd H1 d (xdo d (ffF [.str z, .int (pl : Int), .int lv]))) e (xob e (.ref FA) (some d)) d = some (xdo d (ffF [.str z, .int (pl : Int), .int lv])) ∧ Same H (upd (upd H1 d (xdo d (ffF [.str z, .int (pl : Int), .int lv]))) e (xob e (.ref FA) (some d))) := fun H1 z lv s1 d hd e he => by
      refine ⟨upd_same, ?_, s1.trans ((same_new hd).trans (same_new he))⟩
      rw [upd_ne (ne_of_none upd_same he)]
      exact upd_same
    refine ⟨_, rfl, a, dx, fs, rfl, ha, wf.no _ (by decide +kernel) (by decide +kernel) (by decide +kernel) (by decide +kernel), _, rfl, _, rfl, _, rfl, a, m, h, r, q, aw, ps, n, rs, bs, rt, pl, wr, k, rfl, W, hl, rn, fun p hm => ⟨_, rfl, rfl, _, rfl, iteFS rfl ⟨_, rfl, k0 p hm⟩⟩, fun hm => ⟨fun z lv hz H1 s1 d hd => ⟨XF, fun e he => ?_⟩, fun p1 pg t l ht H1 W1 kp => ⟨_, rfl, rfl, _, rfl, iteFS rfl ⟨_, rfl, (k1 hm).2 p1 pg t l ht H1 W1 kp⟩⟩⟩⟩
    · obtain ⟨ze, zd, ss⟩ := hand H1 z lv s1 d hd e he
      exact ⟨_, rfl, e, FA, d, _, _, rfl, ze, zd, FL.x, FL.nk, ffF_kind _ _ _, _, rfl, e, FA, d, _, _, rfl, ze, zd, FL.x, FL.np, ffF_place _ _ _, _, rfl, e, FA, d, _, _, rfl, ze, zd, FL.x, FL.nl, ffF_level _ _ _,  by show 4 ≤ sizeLine; decide, fun t ht => ⟨_, rfl, rfl, _, rfl, iteTS (by show (!decide (V.ref t = V.non)) = true; rw [decide_eq_false nofun]; rfl) ⟨_, rfl, (k1 hm).1 z lv hz t _ (ss.trans (same_new ht)) upd_same⟩⟩⟩
theorem scDo : FnScope ["_law_way", "_law_place_here", "_law_word", "_law_write", "_law_kernel", "_law_told", "_law_fault", "e"] ["_law_way", "_law_place_here", "_law_word", "_law_write", "_law_kernel"] (defScope sDoL) := ⟨rfl, rfl, rfl, by decide +kernel, rfl, by decide +kernel, by decide +kernel⟩
theorem ok_dol {f f1 f2 fI : Addr} {fd fd1 fd2 : FuncData} (F : Fun K "_law_do" "_law_do" sDoL f fd) (M1 : Me K PL "load" "Ways.load" sLoad ["self", "place", "kernel"] f1 fd1) (GM1 : FnOk P w K mg base (CXr P w) 12 f1 fd1 ["self", "place", "kernel"] (spLoad C SC PL FA)) (M2 : Me K PL "save" "Ways.save" sSave ["self", "place", "word", "kernel"] f2 fd2) (GM2 : FnOk P w K mg base (CXr P w) 12 f2 fd2 ["self", "place", "word", "kernel"] (spSave C SC PL FA)) (PC : Plc K PL) (FL : Flt K mg FA fI) (XF : PySem.W.exmOne K (.ref FA) (.ref FA) = some true) : FnOk P w K mg base CX0 13 f fd ["_law_way", "_law_place_here", "_law_word", "_law_write", "_law_kernel"] (spDoL C SC PL) := by
  refine F.ok scDo (fun vs H Q E h' => ?_) (fun cdv A outer s H vs Q E hr h' => ?_)
  · obtain ⟨a, m, h, r, q, aw, ps, n, rs, bs, rt, pl, v, wr, k, rfl, _⟩ := h'
    rfl
  · obtain ⟨a, m, h, r, q, aw, ps, n, rs, bs, rt, pl, v, wr, k, rfl, W, hl, rn, v0, v1, hm, k0, k1⟩ := h'
    obtain ⟨dx, fs, ha, wf⟩ := W.ob
    refine ⟨_, (pss_cons (ps_set (i := 5) scDo.nd rfl (Or.inl rfl) pe_non) (pss_cons (ps_set (i := 6) scDo.nd rfl (Or.inl rfl) pe_non) (pss_cons (ps_try (i := 7) scDo.nd rfl rfl rfl rfl FL.m (psx_if (pt_val (pv 3)) (psx_set (i := 5) scDo.nd rfl (Or.inl rfl) (pex_meth (pv 0) PC.cl M2.m GM2 hr M2.b .nil (pa_cons (pv 1) (pa_cons (pv 2) (pa_cons (pv 4) pa_nil))))) (psx_set (i := 5) scDo.nd rfl (Or.inl rfl) (pex_meth (pv 0) PC.cl M1.m GM1 hr M1.b .nil (pa_cons (pv 1) (pa_cons (pv 4) pa_nil))))) (fun e => (pss_one (ps_set (i := 6) scDo.nd rfl (Or.inl rfl) (pe_tup (pa_consK pe_str (pa_consK (pe_xfldK (K := K) rfl (pv 7) rfl) (pa_consK (pe_xfldK (K := K) rfl (pv 7) rfl) (pa_consK (pe_xfldK (K := K) rfl (pv 7) rfl) pa_nil))))))))) (pss_cons (ps_if (pt_cmpR op_notN (pv 6) pe_non (nomark _)) (pss_one (ps_ret (pv 6))) pss_nil) (pss_one (ps_ret (pv 5))))))), ?_⟩
    have hand : ∀ (H1 : Hp) (z : Str) (lv : Int), Same H H1 → ∀ d, H1 d = none → ∀ e, upd H1 d (xdo d (ffF [.str z, .int (pl : Int), .int lv])) e = none → upd (upd H1 d (xdo d (ffF [.str z, .int (pl : Int), .int lv]))) e (xob e (.ref FA) (some d)) e = some (xob e (.ref FA) (some d)) ∧ upd (upd H1 d (xdo d (ffF [.str z, .int (pl : Int), .int lv]))) e (xob e (.ref FA) (some d)) d = some (xdo d (ffF [.str z, .int (pl : Int), .int lv])) ∧ Same H (upd (upd H1 d (xdo d (ffF [.str z, .int (pl : Int), .int lv]))) e (xob e (.ref FA) (some d))) := fun H1 z lv s1 d hd e he => by
      refine ⟨upd_same, ?_, s1.trans ((same_new hd).trans (same_new he))⟩
      rw [upd_ne (ne_of_none upd_same he)]
      exact upd_same
    refine ⟨_, rfl, _, rfl, ?_⟩
    cases wr with
    | true =>
      refine iteT ⟨_, rfl, a, dx, fs, rfl, ha, wf.no _ (by decide +kernel) (by decide +kernel) (by decide +kernel) (by decide +kernel), _, rfl, _, rfl, _, rfl, a, m, h, r, q, aw, ps, n, rs, bs, rt, pl, v, k, rfl, W, hl, rn, v0, v1, fun p hp => absurd (hm.symm.trans hp) nofun, fun _ => ⟨fun z lv hz H1 s1 d hd => ⟨XF, fun e he => ?_⟩, fun p1 pg t l ht H1 W1 kp H2 W2 kp2 => ⟨_, rfl, rfl, _, rfl, iteFS rfl ⟨_, rfl, (k1 p1 pg t l ht H1 W1 kp).2 rfl H2 W2 kp2⟩⟩⟩⟩
      obtain ⟨ze, zd, ss⟩ := hand H1 z lv s1 d hd e he
      exact ⟨_, rfl, e, FA, d, _, _, rfl, ze, zd, FL.x, FL.nk, ffF_kind _ _ _, _, rfl, e, FA, d, _, _, rfl, ze, zd, FL.x, FL.np, ffF_place _ _ _, _, rfl, e, FA, d, _, _, rfl, ze, zd, FL.x, FL.nl, ffF_level _ _ _,  by show 4 ≤ sizeLine; decide, fun t ht => ⟨_, rfl, rfl, _, rfl, iteTS (by show (!decide (V.ref t = V.non)) = true; rw [decide_eq_false nofun]; rfl) ⟨_, rfl, k0 z lv hz t _ (ss.trans (same_new ht)) upd_same⟩⟩⟩
    | false =>
      refine iteF ⟨_, rfl, a, dx, fs, rfl, ha, wf.no _ (by decide +kernel) (by decide +kernel) (by decide +kernel) (by decide +kernel), _, rfl, _, rfl, a, m, h, r, q, aw, ps, n, rs, bs, rt, pl, k, rfl, W, hl, rn, fun p hp => absurd (hm.symm.trans hp) nofun, fun _ => ⟨fun z lv hz H1 s1 d hd => ⟨XF, fun e he => ?_⟩, fun p1 pg t l ht H1 W1 kp H2 s2 => ⟨_, rfl, rfl, _, rfl, iteFS rfl ⟨_, rfl, (k1 p1 pg t l ht H1 W1 kp).1 rfl H2 s2⟩⟩⟩⟩
      obtain ⟨ze, zd, ss⟩ := hand H1 z lv s1 d hd e he
      exact ⟨_, rfl, e, FA, d, _, _, rfl, ze, zd, FL.x, FL.nk, ffF_kind _ _ _, _, rfl, e, FA, d, _, _, rfl, ze, zd, FL.x, FL.np, ffF_place _ _ _, _, rfl, e, FA, d, _, _, rfl, ze, zd, FL.x, FL.nl, ffF_level _ _ _,  by show 4 ≤ sizeLine; decide, fun t ht => ⟨_, rfl, rfl, _, rfl, iteTS (by show (!decide (V.ref t = V.non)) = true; rw [decide_eq_false nofun]; rfl) ⟨_, rfl, k0 z lv hz t _ (ss.trans (same_new ht)) upd_same⟩⟩⟩
end
end K25
end
section
namespace K25
open PySem L2
theorem wordN_cont {ps qs : Pgs} (h : cont ps = cont qs) (i j : Nat) : wordN ps i j = wordN qs i j := by
  have e := cont_at h i
  unfold wordN
  cases h1 : ps[i]? with
  | none =>
    cases h2 : qs[i]? with
    | none => rfl
    | some o => rw [h1, h2] at e; cases e
  | some o1 =>
    cases h2 : qs[i]? with
    | none => rw [h1, h2] at e; cases e
    | some o2 =>
      rw [h1, h2] at e
      have e' : Option.map (fun (q : Addr × List Int) => q.2) o1 = Option.map (fun (q : Addr × List Int) => q.2) o2 := Option.some.inj e
      show (((Option.map (fun (q : Addr × List Int) => q.2) o1).getD []).getD j 0).toNat = (((Option.map (fun (q : Addr × List Int) => q.2) o2).getD []).getD j 0).toNat
      rw [e']
theorem lackN_cont {ps qs : Pgs} (h : cont ps = cont qs) (w : Nat) (wr k : Bool) : lackN ps w wr k = lackN qs w wr k := by
  unfold lackN
  rw [hasP_cont h]
theorem lookN_cont {ps qs : Pgs} (h : cont ps = cont qs) (rt pl : Nat) (wr k : Bool) : lookN ps rt pl wr k = lookN qs rt pl wr k := by
  unfold lookN
  rw [hasP_cont h]
  simp only [wordN_cont h, lackN_cont h]
theorem cont_mkN {ps qs : Pgs} (h : cont ps = cont qs) (i j m : Nat) : cont (mkN ps i j m) = cont (mkN qs i j m) := by
  unfold mkN
  rw [wordN_cont h]
  exact cont_setW h i j _
theorem rem_nil {ps : Pgs} {pl : Nat} {wr k : Bool} : remN ps [] pl wr k = none := by
  unfold remN
  split <;> rfl
theorem keepR_nil {n : Int} {x : Int × Int × Int} (h : 1 ≤ n) : (keepR n [] x).1 = [x] := by
  unfold keepR
  have : (([x] : Rs).length : Int) ≤ n := h
  show (if (([x] : Rs).length : Int) ≤ n then (([x] : Rs), none) else _).1 = [x]
  rw [if_pos this]
theorem RsN.nil : RsN [] := fun _ _ _ e => by cases e
theorem Pg.kpw {H H' H0 : Hp} {D h q : Addr} {qs ps : Pgs} (g : Pg H D qs) (kp : Kpw h q ps H H') (f : ∀ b, At D qs b → H0 b = none) (o1 : ∀ b, At h ps b → ∃ o, H0 b = some o) (o2 : ∃ o, H0 q = some o) : Pg H' D qs := g.keep fun b hb => by
  obtain ⟨o, e⟩ := g.at hb
  rw [e]
  refine kp b o (fun z => ?_) (fun z => ?_) e
  · obtain ⟨u, y⟩ := o1 b z
    rw [f b hb] at y
    cases y
  · obtain ⟨u, y⟩ := o2
    rw [← z, f b hb] at y
    cases y
theorem Kpw.fresh {H H' H0 : Hp} {h q : Addr} {ps : Pgs} (kp : Kpw h q ps H H') (o1 : ∀ b, At h ps b → ∃ o, H0 b = some o) (o2 : ∃ o, H0 q = some o) : ∀ b o, H0 b = none → H b = some o → H' b = some o := fun b o hb e => by
  refine kp b o (fun z => ?_) (fun z => ?_) e
  · obtain ⟨u, y⟩ := o1 b z
    rw [hb] at y
    cases y
  · obtain ⟨u, y⟩ := o2
    rw [← z, hb] at y
    cases y
theorem Kpw.old {H H' H0 : Hp} {h q : Addr} {ps : Pgs} (kp : Kpw h q ps H H') (s : Same H0 H) (f : ∀ b, At h ps b ∨ b = q → H0 b = none) : Same H0 H' := fun b o e => kp b o (fun z => by rw [f b (.inl z)] at e; cases e) (fun z => by rw [f b (.inr z)] at e; cases e) (s b o e)
theorem Kpt.old {H H' H0 : Hp} {h : Addr} {ps : Pgs} (kp : Kpt h ps H H') (s : Same H0 H) (f : ∀ b, At h ps b → H0 b = none) : Same H0 H' := fun b o e => kp b o (fun z => by rw [f b z] at e; cases e) (s b o e)
theorem Way.is {C SC PL : Addr} {H : Hp} {a m h r q aw : Addr} {ps : Pgs} {n : Int} {rs : Rs} {bs : List Bool} {b : Int} (w : Way C SC PL H a m h r q aw ps n rs bs b) : (∀ b, At h ps b → ∃ o, H b = some o) ∧ ∃ o, H q = some o := by
  obtain ⟨kvs, e, _⟩ := w.S.se
  exact ⟨fun b z => w.M.pg.at z, _, e⟩
theorem TL.one {H : Hp} {l t : Addr} {k p r : Int} (e : H l = some (.lst [.ref t])) (z : H t = some (.tup [.int k, .int p, .int r])) : TL H l [(k, p, r)] := ⟨_, e, .cons z .nil⟩
theorem TL.zero {H : Hp} {l : Addr} (e : H l = some (.lst [])) : TL H l [] := ⟨_, e, .nil⟩
theorem Way.tup {C SC PL : Addr} {H : Hp} {a m h r q aw d : Addr} {ps : Pgs} {n : Int} {rs : Rs} {bs : List Bool} {b : Int} {xs : List V} (w : Way C SC PL H a m h r q aw ps n rs bs b) (ed : H d = some (.tup xs)) : ¬ At h ps d ∧ d ≠ q := by
  obtain ⟨kvs, e, _⟩ := w.S.se
  refine ⟨fun hb => ?_, ne_of ed e nofun⟩
  rcases hb with hb | ⟨i, ws, hb⟩
  · have y := w.M.pg.top; rw [← hb, ed] at y; cases y
  · have y := (w.M.pg.each i d ws hb).1; rw [ed] at y; cases y
end K25
end
section
namespace K25
open PySem L2
def spLaw (K : PySem.W.Frag) : Sp := fun vs H Q _ => ∃ (a : Addr) (ns : List Int), vs = [.ref a] ∧ SqL K H a (ns.map V.int) ∧ ns.length ≤ 63 ∧ ∀ H', Q (.bl true) H'
section
variable {P : Program} {w : World} {K : PySem.W.Frag} {mg : Str → Option Value} {base : Heap} {C NP NL NW NI SC PL WC FA : Addr}
theorem scLa : FnScope ["_law_script", "_law_pages_here", "_law_place_here", "_law_write", "_law_kernel", "_law_word", "_law_root", "_law_most", "_law_way", "_law_beside", "_law_due", "_law_rows", "_law_trail", "_law_told", "_law_page"] ["_law_script"] (defScope sLaw) := ⟨rfl, rfl, rfl, by decide +kernel, rfl, by decide +kernel, by decide +kernel⟩
theorem ok_law {f f0 f1 f2 f3 f4 f5 f6 f7 f8 f9 f10 f11 f12 f13 f14 f15 : Addr} {fd fd0 fd1 fd2 fd3 fd4 fd5 fd6 fd7 fd8 fd9 fd10 fd11 fd12 fd13 fd14 fd15 : FuncData} (F : Fun K "law" "law" sLaw f fd) (D1 : Dn K mg "_law_cell_at" sCell ["_law_script", "_law_k"] f1 fd1) (G1 : FnOk P w K mg base CX0 1 f1 fd1 ["_law_script", "_law_k"] (spCell K)) (D2 : Dn K mg "_law_pages" sPgs ["_law_script"] f2 fd2) (G2 : FnOk P w K mg base CX0 2 f2 fd2 ["_law_script"] (spPgs K)) (D3 : Dn K mg "_law_place" sPlace ["_law_cell"] f3 fd3) (G3 : FnOk P w K mg base CX0 1 f3 fd3 ["_law_cell"] spPlace) (D4 : Dn K mg "_law_copy" sCopy ["_law_pages_here"] f4 fd4) (G4 : FnOk P w K mg base CX0 1 f4 fd4 ["_law_pages_here"] spCopy) (D5 : Dn K mg "_law_walk" sWalkL ["_law_root", "_law_pages_here", "_law_place_here", "_law_write", "_law_kernel"] f5 fd5) (G5 : FnOk P w K mg base CX0 2 f5 fd5 ["_law_root", "_law_pages_here", "_law_place_here", "_law_write", "_law_kernel"] spWalkL) (D6 : Dn K mg "_law_marked" sMkd ["_law_pages_here", "_law_trail", "_law_write"] f6 fd6) (G6 : FnOk P w K mg base CX0 1 f6 fd6 ["_law_pages_here", "_law_trail", "_law_write"] spMkd) (D7 : Dn K mg "_law_alike" sAlike ["_law_found", "_law_due"] f7 fd7) (G7 : FnOk P w K mg base CX0 2 f7 fd7 ["_law_found", "_law_due"] spAlike) (D8 : Dn K mg "_law_reach" sRchL ["_law_way", "_law_place_here", "_law_write", "_law_kernel"] f8 fd8) (G8 : FnOk P w K mg base CX0 12 f8 fd8 ["_law_way", "_law_place_here", "_law_write", "_law_kernel"] (spRchL C SC PL)) (D9 : Dn K mg "_law_is_image" sIsI ["_law_found", "_law_due"] f9 fd9) (G9 : FnOk P w K mg base CX0 2 f9 fd9 ["_law_found", "_law_due"] spIsI) (D10 : Dn K mg "_law_is_shelf" sIsS ["_law_found", "_law_due"] f10 fd10) (G10 : FnOk P w K mg base CX0 2 f10 fd10 ["_law_found", "_law_due"] spIsS) (D11 : Dn K mg "_law_do" sDoL ["_law_way", "_law_place_here", "_law_word", "_law_write", "_law_kernel"] f11 fd11) (G11 : FnOk P w K mg base CX0 13 f11 fd11 ["_law_way", "_law_place_here", "_law_word", "_law_write", "_law_kernel"] (spDoL C SC PL)) (M1 : Me K PL "turn_root" "Ways.turn_root" sTurn ["self", "root"] f12 fd12) (GM1 : FnOk P w K mg base CX0 2 f12 fd12 ["self", "root"] (spTurn C SC PL)) (M2 : Me K PL "pages" "Ways.pages" sWPages ["self"] f13 fd13) (GM2 : FnOk P w K mg base CX0 5 f13 fd13 ["self"] (spWPages C SC PL)) (M3 : Me K PL "shelf" "Ways.shelf" sShelf ["self"] f14 fd14) (GM3 : FnOk P w K mg base CX0 2 f14 fd14 ["self"] (spShelf C SC PL)) (M4 : Me K PL "root" "Ways.root" sRoot ["self"] f15 fd15) (GM4 : FnOk P w K mg base CX0 1 f15 fd15 ["self"] (spRoot C SC PL)) (MK : Mk K PL f0) (mP : mg "Plain" = some (.ref PL)) (BI : Binds K fd0 ["self", "pages", "most", "words"] []) (GI : FnOk P w K mg base CX0 8 f0 fd0 ["self", "pages", "most", "words"] (spPInit C SC PL)) (PC : Plc K PL) (T : Txt K mg) : FnOk P w K mg base CX0 14 f fd ["_law_script"] (spLaw K) := by
  refine F.ok scLa (fun vs H Q E h => ?_) (fun cdv A1 outer s H vs Q E hr h => ?_)
  · obtain ⟨x, ns, rfl, _⟩ := h
    rfl
  · obtain ⟨x, ns, rfl, hS, _, q0⟩ := h
    have hr12 : Room 12 _ := hr.mono (by decide)
    have hr9 : Room 9 _ := hr.mono (by decide)
    have hr5 : Room 5 _ := hr.mono (by decide)
    have hr2 : Room 2 _ := hr.mono (by decide)
    have hr1 : Room 1 _ := hr.mono (by decide)
    have e48 : (2 : Int) ^ (48 : Int).toNat = 281474976710656 := by decide
    obtain ⟨t13, R13, hR13⟩ : ∃ tr, PSs (cxOf CX0 P w K mg base ["_law_script", "_law_pages_here", "_law_place_here", "_law_write", "_law_kernel", "_law_word", "_law_root", "_law_most", "_law_way", "_law_beside", "_law_due", "_law_rows", "_law_trail", "_law_told", "_law_page"] "law" (defScope sLaw) f cdv A1 outer s H E).nox ((defBody sLaw).drop 13) tr ∧ ∀ (H6 H9 H10 : Hp) (a m h r q aw a2 m2 h2 r2 q2 aw2 D2 : Addr) (ps ps2 qs2 : Pgs) (n v : Int) (pl rt : Nat) (wr k : Bool) (v1 : Option V), Way C SC PL H6 a m h r q aw ps n [] [] (rt : Int) → Same H6 H9 → Way C SC PL H9 a2 m2 h2 r2 q2 aw2 ps2 n [] [] (rt : Int) → (∀ b, At h2 ps2 b ∨ b = q2 → H6 b = none) → Same H9 H10 → Pg H10 D2 qs2 → (∀ b, At D2 qs2 b → H9 b = none) → cont ps = cont qs2 → cont ps2 = cont qs2 → 0 ≤ v → v < 281474976710656 → 1 ≤ n →
        tr { nx := fun _ H' => Q .non H', rt := Q } [some (.ref x), v1, some (.int (pl : Int)), some (.bl wr), some (.bl k), some (.int v), some (.int (rt : Int)), some (.int n), some (.ref a), some (.ref a2), some (.ref D2), none, none, none, none] H10 := by
      refine ⟨_, (pss_cons (ps_set (i := 11) scLa.nd rfl (Or.inl rfl) (pe_lst pa_nil)) (pss_cons (ps_set (i := 12) scLa.nd rfl (Or.inl rfl) (pe_call G5 hr2 (by rfl) D5.m D5.F.kp D5.b .nil pass0 (pa_cons (pv 6) (pa_cons (pv 10) (pa_cons (pv 2) (pa_cons (pv 3) (pa_cons (pv 4) pa_nil))))))) (pss_cons (ps_set (i := 13) scLa.nd rfl (Or.inl rfl) (pv 12)) (pss_cons (ps_set (i := 14) scLa.nd rfl (Or.inl rfl) (pv 12)) (pss_cons (ps_if (pt_cmpR (op_neD hr.units) (pe_ix ix_tup (pv 12) pe_int (fun _ _ => rfl)) pe_str (nomark _)) (pss_cons (ps_set (i := 14) scLa.nd rfl (Or.inl rfl) (pe_ix ix_tup (pv 12) pe_int (fun _ _ => rfl))) (pss_one (ps_set (i := 11) scLa.nd rfl (Or.inl rfl) (pe_lst (pa_cons (pe_tup (pa_cons (pe_op op_fdiv (pv 2) pe_int) (pa_cons (pv 14) (pa_cons (pe_call G6 hr1 (by rfl) D6.m D6.F.kp D6.b .nil pass0 (pa_cons (pv 10) (pa_cons (pv 12) (pa_cons (pv 3) pa_nil)))) pa_nil)))) pa_nil))))) pss_nil) (pss_cons (ps_if (pt_not (pt_val (pe_call G7 hr2 (by rfl) D7.m D7.F.kp D7.b .nil pass0 (pa_cons (pe_call G8 hr12 (by rfl) D8.m D8.F.kp D8.b .nil pass0 (pa_cons (pv 9) (pa_cons (pv 2) (pa_cons (pv 3) (pa_cons (pv 4) pa_nil))))) (pa_cons (pv 14) pa_nil))))) (pss_one (ps_ret pe_bl)) pss_nil) (pss_cons (ps_if (PW.pt (pw_or (pt_not (pt_val (pe_call G9 hr2 (by rfl) D9.m D9.F.kp D9.b .nil pass0 (pa_cons (pe_meth0 (pv 9) PC.cl M2.m GM2 hr5 M2.b .nil pass0) (pa_cons (pv 10) pa_nil))))) (pw_or1 (pt_not (pt_val (pe_call G10 hr2 (by rfl) D10.m D10.F.kp D10.b .nil pass0 (pa_cons (pe_meth0 (pv 9) PC.cl M3.m GM3 hr2 M3.b .nil pass0) (pa_cons (pv 11) pa_nil)))))))) (pss_one (ps_ret pe_bl)) pss_nil) (pss_cons (ps_if (pt_cmpR (op_neD hr.units) (pe_ix ix_tup (pv 12) pe_int (fun _ _ => rfl)) pe_str (nomark _)) (pss_cons (ps_set (i := 13) scLa.nd rfl (Or.inl rfl) pe_non) (pss_one (ps_if (pt_not (pt_val (pv 3))) (pss_one (ps_set (i := 13) scLa.nd rfl (Or.inl rfl) (pe_ix ix_list (pe_ix ix_list (pv 10) (pe_ix ix_tup (pv 12) pe_int (fun _ _ => rfl)) (fun _ _ => rfl)) (pe_op op_mod (pv 2) pe_int) (fun _ _ => rfl)))) (pss_one (ps_asg (pv 5) (pg_sub (pe_ix ix_list (pv 10) (pe_ix ix_tup (pv 12) pe_int (fun _ _ => rfl)) (fun _ _ => rfl)) (pe_op op_mod (pv 2) pe_int) set_list)))))) pss_nil) (pss_cons (ps_if (pt_not (pt_val (pe_call G7 hr2 (by rfl) D7.m D7.F.kp D7.b .nil pass0 (pa_cons (pe_call G11 hr (by rfl) D11.m D11.F.kp D11.b .nil pass0 (pa_cons (pv 8) (pa_cons (pv 2) (pa_cons (pv 5) (pa_cons (pv 3) (pa_cons (pv 4) pa_nil)))))) (pa_cons (pv 13) pa_nil))))) (pss_one (ps_ret pe_bl)) pss_nil) (pss_one (ps_ret (pe_and (pe_call G9 hr2 (by rfl) D9.m D9.F.kp D9.b .nil pass0 (pa_cons (pe_meth0 (pv 8) PC.cl M2.m GM2 hr5 M2.b .nil pass0) (pa_cons (pv 10) pa_nil))) (pe_and (pe_call G10 hr2 (by rfl) D10.m D10.F.kp D10.b .nil pass0 (pa_cons (pe_meth0 (pv 8) PC.cl M3.m GM3 hr2 M3.b .nil pass0) (pa_cons (pv 11) pa_nil))) (pe_one (pe_cmpR op_eq (pe_meth0 (pv 8) PC.cl M4.m GM4 hr1 M4.b .nil pass0) (pv 6) (nomark _)))))))))))))))), fun H6 H9 H10 a m h r q aw a2 m2 h2 r2 q2 aw2 D2 ps ps2 qs2 n v pl rt wr k v1 W6 s69 Wb fb s910 g2 f2 c1 c2 v0 v1' n1 => ?_⟩
      have gd2 : Good qs2 := good_cont c1.symm W6.M.good
      have l24 : ps.length ≤ 24 := W6.M.len.2
      have l24b : ps2.length ≤ 24 := Wb.M.len.2
      refine ⟨by show 0 ≤ sizeLine; decide, fun R hR => ?_⟩
      have sR := same_new (o := .lst []) hR
      have zR : upd H10 R (.lst []) R = some (.lst []) := upd_same
      generalize upd H10 R (.lst []) = H11 at *
      have s911 := s910.trans sR
      have g11 := g2.same sR
      have lk1 : lookN ps rt pl wr k = lookN qs2 rt pl wr k := lookN_cont c1 rt pl wr k
      have lk2 : lookN ps2 rt pl wr k = lookN qs2 rt pl wr k := lookN_cont c2 rt pl wr k
      refine ⟨_, rfl, _, rfl, _, rfl, _, rfl, _, rfl, D2, qs2, rt, pl, wr, k, rfl, g11, gd2, fun z lv hz t H12 s12 ht zt => ?_, fun p1 pg tw lw hz tt t1 t2 H12 s12 ztt zt1 zt2 => ?_⟩
      · -- a fault
        have zk := look_ok hz
        have s912 := s911.trans s12
        refine ⟨_, rfl, _, rfl, _, rfl, t, _, _, .str "fault", rfl, rfl, SqT.of zt, rfl, _, _, .str _, .str _, (by decide +kernel), (by decide +kernel), _, rfl, iteFS (by simp [PyData.eqv]) ?_⟩
        have Wb12 := Wb.same s912
        refine ⟨_, rfl, _, rfl, _, rfl, _, rfl, a2, m2, h2, r2, q2, aw2, ps2, n, [], [], rt, pl, wr, k, rfl, Wb12, by decide, RsN.nil, fun p hp => absurd (rem_nil.symm.trans hp) nofun, fun _ => ⟨fun z' lv' hz' t' H13 s13 zt' => ?_, fun p1 pg tw lw hz' => absurd ((lk2.trans hz).symm.trans hz') nofun⟩⟩
        cases (lk2.trans hz).symm.trans hz'
        refine ⟨_, rfl, _, _, rfl, .flt zk zt' (s13 _ _ zt), _, rfl, iteF ?_⟩
        have s913 := s912.trans s13
        have Wb13 := Wb.same s913
        have g13 := (g11.same s12).same s13
        refine ⟨_, rfl, a2, _, _, rfl, Wb13.ob.choose_spec.choose_spec.1, Wb13.ob.choose_spec.choose_spec.2.no _ (by decide +kernel) (by decide +kernel) (by decide +kernel) (by decide +kernel), a2, m2, h2, r2, q2, aw2, ps2, n, [], [], (rt : Int), rfl, Wb13, fun D3 H14 qs3 s14 g14 cc14 f14 => ⟨_, rfl, D3, D2, qs3, qs2, rfl, g14, g13.same s14, good_cont cc14 Wb13.M.good, cc14.trans c2, by have := cont_len cc14; omega, _, rfl, iteFS rfl ?_⟩⟩
        have Wb14 := Wb13.same s14
        refine ⟨_, rfl, a2, _, _, rfl, Wb14.ob.choose_spec.choose_spec.1, Wb14.ob.choose_spec.choose_spec.2.no _ (by decide +kernel) (by decide +kernel) (by decide +kernel) (by decide +kernel), a2, m2, h2, r2, q2, aw2, ps2, n, [], [], (rt : Int), rfl, Wb14, fun l15 H15 s15 hl15 tl15 => ⟨_, rfl, l15, R, [], rfl, tl15, TL.zero (s15 _ _ (s14 _ _ (s13 _ _ (s12 _ _ zR)))), by decide, _, rfl, iteFS rfl ?_⟩⟩
        have s915 := (s913.trans s14).trans s15
        have zt15 := s15 _ _ (s14 _ _ (s13 _ _ zt))
        refine ⟨_, rfl, t, _, _, .str "fault", rfl, rfl, SqT.of zt15, rfl, _, _, .str _, .str _, (by decide +kernel), (by decide +kernel), _, rfl, iteFS (by simp [PyData.eqv]) ?_⟩
        have W15 := W6.same (s69.trans s915)
        refine ⟨_, rfl, _, rfl, _, rfl, _, rfl, _, rfl, a, m, h, r, q, aw, ps, n, [], [], rt, pl, v, wr, k, rfl, W15, by decide, RsN.nil, v0, v1', rem_nil, fun z' lv' hz2 t2 H16 s16 zt2 => ?_, fun p1 pg tw lw hz2 => absurd ((lk1.trans hz).symm.trans hz2) nofun⟩
        cases (lk1.trans hz).symm.trans hz2
        refine ⟨_, rfl, _, _, rfl, .flt zk zt2 (s16 _ _ zt15), _, rfl, iteF ?_⟩
        have W16 := W15.same s16
        have g16 := ((g13.same s14).same s15).same s16
        refine ⟨_, rfl, a, _, _, rfl, W16.ob.choose_spec.choose_spec.1, W16.ob.choose_spec.choose_spec.2.no _ (by decide +kernel) (by decide +kernel) (by decide +kernel) (by decide +kernel), a, m, h, r, q, aw, ps, n, [], [], (rt : Int), rfl, W16, fun D3 H17 qs3 s17 g17 cc17 f17 => ⟨_, rfl, D3, D2, qs3, qs2, rfl, g17, g16.same s17, good_cont cc17 W16.M.good, cc17.trans c1, by have := cont_len cc17; omega, _, rfl, iteT ?_⟩⟩
        have W17 := W16.same s17
        refine ⟨_, rfl, a, _, _, rfl, W17.ob.choose_spec.choose_spec.1, W17.ob.choose_spec.choose_spec.2.no _ (by decide +kernel) (by decide +kernel) (by decide +kernel) (by decide +kernel), a, m, h, r, q, aw, ps, n, [], [], (rt : Int), rfl, W17, fun l18 H18 s18 hl18 tl18 => ⟨_, rfl, l18, R, [], rfl, tl18, TL.zero (s18 _ _ (s17 _ _ (s16 _ _ (s15 _ _ (s14 _ _ (s13 _ _ (s12 _ _ zR))))))), by decide, _, rfl, iteT ?_⟩⟩
        have W18 := W17.same s18
        refine ⟨_, rfl, a, _, _, rfl, W18.ob.choose_spec.choose_spec.1, W18.ob.choose_spec.choose_spec.2.no _ (by decide +kernel) (by decide +kernel) (by decide +kernel) (by decide +kernel), a, m, h, r, q, aw, ps, n, [], [], (rt : Int), rfl, W18, _, rfl, rfl, ?_⟩
        rw [decide_eq_true rfl]
        exact q0 _
      · obtain ⟨hpl, hr0, hp1, hpg, _, _, _, _, _, _⟩ := look_trail hz
        have g12 := g11.same s12
        have nTu : ∀ (b : Addr) (xs : List V), H12 b = some (.tup xs) → ¬ At D2 qs2 b := fun b xs e z => by
          rcases z with z | ⟨n, ws, z⟩
          · have y := g12.top; rw [← z, e] at y; cases y
          · have y := (g12.each n b ws z).1; rw [e] at y; cases y
        refine ⟨_, rfl, _, rfl, _, rfl, tt, _, _, .ref t1, rfl, rfl, SqT.of ztt, rfl, _, _, .tup (SqT.of zt1) (.cons (.int _) (.cons (.int _) .nil)), .str _, (by simp [SeqAt.shaped, PyData.canLay0, PyData.canLayAll0, PyData.depth, PyData.depthAll]), (by decide +kernel), _, rfl, iteTS (by simp [PyData.eqv]) ?_⟩
        refine ⟨_, rfl, tt, _, _, .int (pg : Int), rfl, rfl, SqT.of ztt, rfl, ?_⟩
        refine ⟨_, rfl, _, 8, rfl, rfl, ⟨by decide, by decide⟩, _, rfl, _, rfl, _, rfl, _, rfl, D2, tt, t1, t2, qs2, rt, pl / 8 / 8, p1, pl / 8 % 8, pg, tw, lw, wr, rfl, g12, gd2, ztt, zt1, zt2, hr0, hp1, by omega, by omega, fun H13 g13 kp13 => ⟨by show 3 ≤ sizeLine; decide, fun tr htr => ?_⟩⟩
        have s913 : Same H9 H13 := Kpt.old kp13 (s911.trans s12) f2
        have ztt13 := kp13 _ _ (nTu _ _ ztt) ztt
        have zt113 := kp13 _ _ (nTu _ _ zt1) zt1
        generalize hrg : (if wr then rigN tw lw ||| 16 else rigN tw lw : Nat) = rg at *
        generalize hq' : mkN (mkN qs2 rt (pl / 8 / 8) 8) p1 (pl / 8 % 8) (if wr then 24 else 8) = qs' at *
        have at' : ∀ b, At D2 qs' b → At D2 qs2 b := fun b z => by rw [← hq'] at z; exact At.setW (At.setW z)
        have f2' : ∀ b, At D2 qs' b → H9 b = none := fun b z => f2 b (at' b z)
        have hpg' : hasP qs' (.int (pg : Int)) = true := by rw [← hq', hasP_mkN, hasP_mkN]; exact hpg
        have cq1 : cont (mkN (mkN ps rt (pl / 8 / 8) 8) p1 (pl / 8 % 8) (if wr then 24 else 8)) = cont qs' := by rw [← hq']; exact cont_mkN (cont_mkN c1 _ _ _) _ _ _
        have cq2 : cont (mkN (mkN ps2 rt (pl / 8 / 8) 8) p1 (pl / 8 % 8) (if wr then 24 else 8)) = cont qs' := by rw [← hq']; exact cont_mkN (cont_mkN c2 _ _ _) _ _ _
        have s14 := same_new (o := .tup [.int ((pl : Int) / 8), .int (pg : Int), .int (rg : Int)]) htr
        have ztr : upd H13 tr (.tup [.int ((pl : Int) / 8), .int (pg : Int), .int (rg : Int)]) tr = some (.tup [.int ((pl : Int) / 8), .int (pg : Int), .int (rg : Int)]) := upd_same
        have fr9 : H9 tr = none := s913.free htr
        generalize upd H13 tr (.tup [.int ((pl : Int) / 8), .int (pg : Int), .int (rg : Int)]) = H14 at *
        refine ⟨by show 1 ≤ sizeLine; decide, fun R2 hR2 => ?_⟩
        have s15 := same_new (o := .lst [.ref tr]) hR2
        have zR2 : upd H14 R2 (.lst [.ref tr]) R2 = some (.lst [.ref tr]) := upd_same
        have s914 := s913.trans s14
        have fR9 : H9 R2 = none := s914.free hR2
        have g14 := g13.same s14
        have nR2 : ¬ At D2 qs' R2 := fun z => by obtain ⟨o, e⟩ := g14.at z; rw [hR2] at e; cases e
        generalize upd H14 R2 (.lst [.ref tr]) = H15 at *
        have s915 := s914.trans s15
        have g15 := g14.same s15
        have Wb15 := Wb.same s915
        have ztt15 := s15 _ _ (s14 _ _ ztt13)
        have zt115 := s15 _ _ (s14 _ _ zt113)
        have ztr15 := s15 _ _ ztr
        refine ⟨_, rfl, _, rfl, _, rfl, _, rfl, a2, m2, h2, r2, q2, aw2, ps2, n, [], [], rt, pl, wr, k, rfl, Wb15, by decide, RsN.nil, fun p hp => absurd (rem_nil.symm.trans hp) nofun, fun _ => ⟨fun z' lv' hz' => absurd ((lk2.trans hz).symm.trans hz') nofun, fun p1' pg' tw' lw' hz' H16 W16 kp16 => ?_⟩⟩
        cases (lk2.trans hz).symm.trans hz'
        refine ⟨_, rfl, _, _, rfl, .int _, _, rfl, iteF ?_⟩
        rw [keepR_nil n1, hrg] at W16
        have s616 : Same H6 H16 := Kpw.old kp16 (s69.trans s915) fb
        have g16 := Pg.kpw g15 kp16 f2' Wb.is.1 Wb.is.2
        have zR16 := Kpw.fresh kp16 Wb.is.1 Wb.is.2 _ _ fR9 zR2
        have ztr16 := Kpw.fresh kp16 Wb.is.1 Wb.is.2 _ _ fr9 ztr15
        have ztt16 := kp16 _ _ (Wb15.tup ztt15).1 (Wb15.tup ztt15).2 ztt15
        have zt116 := kp16 _ _ (Wb15.tup zt115).1 (Wb15.tup zt115).2 zt115
        have lb := W16.M.len.2
        refine ⟨_, rfl, a2, _, _, rfl, W16.ob.choose_spec.choose_spec.1, W16.ob.choose_spec.choose_spec.2.no _ (by decide +kernel) (by decide +kernel) (by decide +kernel) (by decide +kernel), a2, m2, h2, r2, q2, aw2, _, n, _, [], (rt : Int), rfl, W16, fun D3 H17 qs3 s17 g17 cc17 f17 => ⟨_, rfl, D3, D2, qs3, _, rfl, g17, g16.same s17, good_cont cc17 W16.M.good, cc17.trans cq2, by have := cont_len cc17; omega, _, rfl, iteFS rfl ?_⟩⟩
        have W17 := W16.same s17
        refine ⟨_, rfl, a2, _, _, rfl, W17.ob.choose_spec.choose_spec.1, W17.ob.choose_spec.choose_spec.2.no _ (by decide +kernel) (by decide +kernel) (by decide +kernel) (by decide +kernel), a2, m2, h2, r2, q2, aw2, _, n, _, [], (rt : Int), rfl, W17, fun l18 H18 s18 hl18 tl18 => ⟨_, rfl, l18, R2, _, rfl, tl18, TL.one (s18 _ _ (s17 _ _ zR16)) (s18 _ _ (s17 _ _ ztr16)), by show 1 ≤ 13; decide, _, rfl, iteFS rfl ?_⟩⟩
        have s1618 := s17.trans s18
        have s618 := s616.trans s1618
        have g18 := g16.same s1618
        have zR18 := s1618 _ _ zR16
        have ztr18 := s1618 _ _ ztr16
        have ztt18 := s1618 _ _ ztt16
        have zt118 := s1618 _ _ zt116
        clear W16 W17 Wb15 Wb kp16 kp13 g17 tl18
        have oa1 : ∀ b, At h ps b → ∃ o, H9 b = some o := fun b z => let ⟨o, e⟩ := W6.is.1 b z; ⟨o, s69 _ _ e⟩
        have oa2 : ∃ o, H9 q = some o := let ⟨o, e⟩ := W6.is.2; ⟨o, s69 _ _ e⟩
        obtain ⟨ng, p, ws, en, e1⟩ := hasP_int hpg'
        obtain rfl : pg = ng := by have := V.int.inj en; omega
        have gdq : Good qs' := good_cont cq1.symm (by
          obtain ⟨n1, p1', ws1, en1, e1'⟩ := hasP_int (show hasP ps (.int (rt : Int)) = true by rw [hasP_cont c1]; exact hr0)
          obtain rfl : rt = n1 := by have := V.int.inj en1; omega
          have G1 := Good.mkN (m := 8) W6.M.good e1' (show pl / 8 / 8 < 8 by omega) (by decide)
          obtain ⟨n2, p2', ws2, en2, e2'⟩ := hasP_int (show hasP (mkN ps rt (pl / 8 / 8) 8) (.int (p1 : Int)) = true by rw [hasP_mkN, hasP_cont c1]; exact hp1)
          obtain rfl : p1 = n2 := by have := V.int.inj en2; omega
          exact Good.mkN G1 e2' (by omega) (by cases wr <;> decide))
        obtain ⟨w0, w1, w8⟩ := Good.word gdq e1 (show pl % 8 < 8 by omega)
        have hw := wordN_of e1 w0
        refine ⟨_, rfl, tt, _, _, .ref t1, rfl, rfl, SqT.of ztt18, rfl, _, _, .tup (SqT.of zt118) (.cons (.int _) (.cons (.int _) .nil)), .str _, (by simp [SeqAt.shaped, PyData.canLay0, PyData.canLayAll0, PyData.depth, PyData.depthAll]), (by decide +kernel), _, rfl, iteTS (by simp [PyData.eqv]) ?_⟩
        refine ⟨_, rfl, _, rfl, ?_⟩
        cases wr with
        | false =>
          refine iteT ⟨_, rfl, _, rfl, tt, _, _, .int (pg : Int), rfl, rfl, SqT.of ztt18, rfl, D2, _, _, .ref p, rfl, rfl, SqL.of g18.top, atI_nat (by rw [List.getElem?_map, e1]; rfl), _, rfl, _, 8, rfl, rfl, (by show (0 : Int) < 8; decide), p, _, _, .int (ws.getD (pl % 8) 0), rfl, rfl, SqL.of (g18.each _ _ _ e1).1, show atI (ws.map V.int) ((pl % 8 : Nat) : Int) = some (.int (ws.getD (pl % 8) 0)) from atI_word (by omega), ?_⟩
          refine ⟨_, rfl, _, rfl, _, rfl, _, rfl, _, rfl, a, m, h, r, q, aw, ps, n, [], [], rt, pl, v, false, k, rfl, W6.same s618, by decide, RsN.nil, v0, v1', rem_nil, fun z' lv' hz' => absurd ((lk1.trans hz).symm.trans hz') nofun, fun p1' pg' tw' lw' hz' H19 W19 kp19 => ⟨fun _ H20 s20 => ?_, fun y => absurd y nofun⟩⟩
          cases (lk1.trans hz).symm.trans hz'
          refine ⟨_, rfl, _, _, rfl, ?_, _, rfl, iteF ?_⟩
          · rw [hw, show wordN (mkN (mkN ps rt (pl / 8 / 8) 8) p1 (pl / 8 % 8) 8) pg (pl % 8) = wordN qs' pg (pl % 8) from wordN_cont cq1 _ _]
            exact .int _
          rw [keepR_nil n1, hrg] at W19
          have g20 := (Pg.kpw g18 kp19 f2' oa1 oa2).same s20
          have zR20 := s20 _ _ (Kpw.fresh kp19 oa1 oa2 _ _ fR9 zR18)
          have ztr20 := s20 _ _ (Kpw.fresh kp19 oa1 oa2 _ _ fr9 ztr18)
          have W20 := W19.same s20
          have cqf := cq1
          have lw20 := W20.M.len.2
          refine ⟨_, rfl, a, _, _, rfl, W20.ob.choose_spec.choose_spec.1, W20.ob.choose_spec.choose_spec.2.no _ (by decide +kernel) (by decide +kernel) (by decide +kernel) (by decide +kernel), a, m, h, r, q, aw, _, n, _, [], (rt : Int), rfl, W20, fun D3 H27 qs3 s27 g27 cc27 f27 => ⟨_, rfl, D3, D2, qs3, _, rfl, g27, g20.same s27, good_cont cc27 W20.M.good, cc27.trans cqf, by have := cont_len cc27; omega, _, rfl, iteT ?_⟩⟩
          have W27 := W20.same s27
          refine ⟨_, rfl, a, _, _, rfl, W27.ob.choose_spec.choose_spec.1, W27.ob.choose_spec.choose_spec.2.no _ (by decide +kernel) (by decide +kernel) (by decide +kernel) (by decide +kernel), a, m, h, r, q, aw, _, n, _, [], (rt : Int), rfl, W27, fun l28 H28 s28 hl28 tl28 => ⟨_, rfl, l28, R2, _, rfl, tl28, TL.one (s28 _ _ (s27 _ _ zR20)) (s28 _ _ (s27 _ _ ztr20)), by show 1 ≤ 13; decide, _, rfl, iteT ?_⟩⟩
          have W28 := W27.same s28
          refine ⟨_, rfl, a, _, _, rfl, W28.ob.choose_spec.choose_spec.1, W28.ob.choose_spec.choose_spec.2.no _ (by decide +kernel) (by decide +kernel) (by decide +kernel) (by decide +kernel), a, m, h, r, q, aw, _, n, _, [], (rt : Int), rfl, W28, _, rfl, rfl, ?_⟩
          rw [decide_eq_true rfl]
          exact q0 _
        | true =>
          refine iteF ⟨_, rfl, _, rfl, _, rfl, tt, _, _, .int (pg : Int), rfl, rfl, SqT.of ztt18, rfl, D2, _, _, .ref p, rfl, rfl, SqL.of g18.top, atI_nat (by rw [List.getElem?_map, e1]; rfl), _, rfl, _, 8, rfl, rfl, (by show (0 : Int) < 8; decide), p, _, _, pl % 8, rfl, rfl, (g18.each _ _ _ e1).1, show ixN (ws.map V.int).length ((pl % 8 : Nat) : Int) = some (pl % 8) from ixN_nat (by rw [List.length_map]; omega), ?_⟩
          have s619 := s618.set (o := .lst ((ws.map V.int).set (pl % 8) (.int v))) (s69.free (f2' p (.inr ⟨_, ws, e1⟩)))
          have g19 := g18.setW (j := pl % 8) (w := v) e1
          have nRp : R2 ≠ p := fun z => nR2 (by rw [z]; exact .inr ⟨_, ws, e1⟩)
          have zR19 : upd H18 p (.lst ((ws.map V.int).set (pl % 8) (.int v))) R2 = some (.lst [.ref tr]) := by rw [upd_ne nRp]; exact zR18
          have ztr19 : upd H18 p (.lst ((ws.map V.int).set (pl % 8) (.int v))) tr = some (.tup [.int ((pl : Int) / 8), .int (pg : Int), .int (rg : Int)]) := by rw [upd_ne (ne_of ztr18 (g18.each _ _ _ e1).1 nofun)]; exact ztr18
          generalize upd H18 p (.lst ((ws.map V.int).set (pl % 8) (.int v))) = H19 at *
          refine ⟨_, rfl, _, rfl, _, rfl, _, rfl, _, rfl, a, m, h, r, q, aw, ps, n, [], [], rt, pl, v, true, k, rfl, W6.same s619, by decide, RsN.nil, v0, v1', rem_nil, fun z' lv' hz' => absurd ((lk1.trans hz).symm.trans hz') nofun, fun p1' pg' tw' lw' hz' H20 W20 kp20 => ⟨fun y => absurd y nofun, fun _ H21 W21 kp21 => ?_⟩⟩
          cases (lk1.trans hz).symm.trans hz'
          refine ⟨_, rfl, _, _, rfl, .non, _, rfl, iteF ?_⟩
          rw [keepR_nil n1] at W21
          have hrg2 : ((rigN tw lw ||| 16 : Nat) : Int) = (rg : Int) := congrArg Int.ofNat hrg
          rw [hrg2] at W21
          have oa3 : ∀ b, At h (mkN (mkN ps rt (pl / 8 / 8) 8) p1 (pl / 8 % 8) 24) b → ∃ o, H9 b = some o := fun b z => oa1 b (At.setW (At.setW z))
          have f3' : ∀ b, At D2 (setW qs' pg (pl % 8) v) b → H9 b = none := fun b z => f2' b z.setW
          have g20 := Pg.kpw (Pg.kpw g19 kp20 f3' oa1 oa2) kp21 f3' oa3 oa2
          have zR20 := Kpw.fresh kp21 oa3 oa2 _ _ fR9 (Kpw.fresh kp20 oa1 oa2 _ _ fR9 zR19)
          have ztr20 := Kpw.fresh kp21 oa3 oa2 _ _ fr9 (Kpw.fresh kp20 oa1 oa2 _ _ fr9 ztr19)
          have W20 := W21
          have cqf : cont (setW (mkN (mkN ps rt (pl / 8 / 8) 8) p1 (pl / 8 % 8) 24) pg (pl % 8) v) = cont (setW qs' pg (pl % 8) v) := cont_setW cq1 _ _ _
          have lw20 := W20.M.len.2
          refine ⟨_, rfl, a, _, _, rfl, W20.ob.choose_spec.choose_spec.1, W20.ob.choose_spec.choose_spec.2.no _ (by decide +kernel) (by decide +kernel) (by decide +kernel) (by decide +kernel), a, m, h, r, q, aw, _, n, _, [], (rt : Int), rfl, W20, fun D3 H27 qs3 s27 g27 cc27 f27 => ⟨_, rfl, D3, D2, qs3, _, rfl, g27, g20.same s27, good_cont cc27 W20.M.good, cc27.trans cqf, by have := cont_len cc27; omega, _, rfl, iteT ?_⟩⟩
          have W27 := W20.same s27
          refine ⟨_, rfl, a, _, _, rfl, W27.ob.choose_spec.choose_spec.1, W27.ob.choose_spec.choose_spec.2.no _ (by decide +kernel) (by decide +kernel) (by decide +kernel) (by decide +kernel), a, m, h, r, q, aw, _, n, _, [], (rt : Int), rfl, W27, fun l28 H28 s28 hl28 tl28 => ⟨_, rfl, l28, R2, _, rfl, tl28, TL.one (s28 _ _ (s27 _ _ zR20)) (s28 _ _ (s27 _ _ ztr20)), by show 1 ≤ 13; decide, _, rfl, iteT ?_⟩⟩
          have W28 := W27.same s28
          refine ⟨_, rfl, a, _, _, rfl, W28.ob.choose_spec.choose_spec.1, W28.ob.choose_spec.choose_spec.2.no _ (by decide +kernel) (by decide +kernel) (by decide +kernel) (by decide +kernel), a, m, h, r, q, aw, _, n, _, [], (rt : Int), rfl, W28, _, rfl, rfl, ?_⟩
          rw [decide_eq_true rfl]
          exact q0 _
    obtain ⟨t7, R7, hR7⟩ : ∃ tr, PSs (cxOf CX0 P w K mg base ["_law_script", "_law_pages_here", "_law_place_here", "_law_write", "_law_kernel", "_law_word", "_law_root", "_law_most", "_law_way", "_law_beside", "_law_due", "_law_rows", "_law_trail", "_law_told", "_law_page"] "law" (defScope sLaw) f cdv A1 outer s H E).nox ((defBody sLaw).drop 7) tr ∧ ∀ (H1 : Hp) (D : Addr) (qs : Pgs) (v : Int) (pl rt : Nat) (wr k : Bool), Same H H1 → Pg H1 D qs → Good qs → 1 ≤ qs.length → qs.length ≤ 24 → 0 ≤ v → v < 281474976710656 →
        tr { nx := fun _ H' => Q .non H', rt := Q } [some (.ref x), some (.ref D), some (.int (pl : Int)), some (.bl wr), some (.bl k), some (.int v), some (.int (rt : Int)), none, none, none, none, none, none, none, none] H1 := by
      refine ⟨_, pss_cons (ps_set (i := 7) scLa.nd rfl (Or.inl rfl) (pe_op op_add pe_int (pe_op op_mod (pe_call G1 hr1 (by rfl) D1.m D1.F.kp D1.b .nil pass0 (pa_cons (pv 0) (pa_cons pe_int pa_nil))) pe_int))) (pss_cons (ps_set (i := 8) scLa.nd rfl (Or.inl rfl) (pe_make MK GI hr9 (by rfl) mP BI .nil pass0 (pa_cons (pv 1) (pa_cons (pv 7) (pa_cons (pe_lst pa_nil) pa_nil))))) (pss_cons (ps_expr (pe_meth (pv 8) PC.cl M1.m GM1 hr2 M1.b .nil pass0 (pa_cons (pv 6) pa_nil))) (pss_cons (ps_set (i := 9) scLa.nd rfl (Or.inl rfl) (pe_make MK GI hr9 (by rfl) mP BI .nil pass0 (pa_cons (pv 1) (pa_cons (pv 7) (pa_cons (pe_lst pa_nil) pa_nil))))) (pss_cons (ps_expr (pe_meth (pv 9) PC.cl M1.m GM1 hr2 M1.b .nil pass0 (pa_cons (pv 6) pa_nil))) (pss_cons (ps_set (i := 10) scLa.nd rfl (Or.inl rfl) (pe_call G4 hr1 (by rfl) D4.m D4.F.kp D4.b .nil pass0 (pa_cons (pv 1) pa_nil))) R13))))), fun H1 D qs v pl rt wr k ss g1 gd1 l1 l2 v0 v1 => ?_⟩
      refine ⟨_, rfl, x, ns, 1, rfl, ss.seq hS, _, 12, rfl, rfl, (by show (0 : Int) < 12; decide), 1, _, rfl, rfl, ?_⟩
      have b0 : 0 ≤ ns.getD 1 0 % 12 := Int.emod_nonneg _ (by decide)
      have b1 : ns.getD 1 0 % 12 < 12 := Int.emod_lt_of_pos _ (by decide)
      have n1 : 1 ≤ 1 + ns.getD 1 0 % 12 := by omega
      have n2 : 1 + ns.getD 1 0 % 12 ≤ 12 := by omega
      dsimp only
      generalize 1 + ns.getD 1 0 % 12 = n at *
      refine ⟨_, rfl, _, rfl, by show 0 ≤ sizeLine; decide, fun hd hhd => ?_⟩
      have sh := same_new (o := .lst []) hhd
      have zh : upd H1 hd (.lst []) hd = some (.lst (([] : List Bool).map V.bl)) := upd_same
      have gh := g1.same sh
      generalize upd H1 hd (.lst []) = H2 at *
      refine fun a dx ha hdx ne => ?_
      have s0 : Same H2 (upd (upd H2 dx (.own a)) a (.ins PL dx [])) := (same_new hdx).trans (same_new (by rw [upd_ne ne.symm]; exact ha))
      refine ⟨a, dx, D, hd, qs, n, [], rfl, upd_same, gh.same s0, gd1, l1, l2, n1, n2, s0 _ _ zh, fun m h r q0 aw H4 ps b4 W4 cch f4 => ⟨rfl, ?_⟩⟩
      refine ⟨_, rfl, a, _, _, rfl, W4.ob.choose_spec.choose_spec.1, W4.ob.choose_spec.choose_spec.2.no _ (by decide +kernel) (by decide +kernel) (by decide +kernel) (by decide +kernel), _, rfl, a, m, h, r, q0, aw, ps, n, [], [], 0, (rt : Int), rfl, W4, fun H5 q W5 kp5 hq5 => ?_⟩
      have s4 : Same H2 H4 := b4.same s0 ha
      have s15 : Same H1 H5 := fun b o e => kp5 b o (ne_of_none (sh _ _ e) ha) (ne_of_none (s0 _ _ (sh _ _ e)) (f4 r (.inr (.inl rfl)))) (s4 _ _ (sh _ _ e))
      have fbH1 : ∀ b, At h ps b ∨ b = q → H1 b = none := fun b z => by
        rcases z with z | z
        · exact sh.free (s0.free (f4 b (.inr (.inr (.inr (.inr z))))))
        · rw [z]; exact sh.free (s4.free hq5)
      have g5 := g1.same s15
      refine ⟨_, rfl, _, rfl, by show 0 ≤ sizeLine; decide, fun hd2 hhd2 => ?_⟩
      have sh2 := same_new (o := .lst []) hhd2
      have zh2 : upd H5 hd2 (.lst []) hd2 = some (.lst (([] : List Bool).map V.bl)) := upd_same
      have gh2 := g5.same sh2
      generalize upd H5 hd2 (.lst []) = H6 at *
      refine fun a2 dx2 ha2 hdx2 ne2 => ?_
      have s02 : Same H6 (upd (upd H6 dx2 (.own a2)) a2 (.ins PL dx2 [])) := (same_new hdx2).trans (same_new (by rw [upd_ne ne2.symm]; exact ha2))
      refine ⟨a2, dx2, D, hd2, qs, n, [], rfl, upd_same, gh2.same s02, gd1, l1, l2, n1, n2, s02 _ _ zh2, fun m2 h2 r2 q02 aw2 H8 ps2 b42 W42 cch2 f42 => ⟨rfl, ?_⟩⟩
      refine ⟨_, rfl, a2, _, _, rfl, W42.ob.choose_spec.choose_spec.1, W42.ob.choose_spec.choose_spec.2.no _ (by decide +kernel) (by decide +kernel) (by decide +kernel) (by decide +kernel), _, rfl, a2, m2, h2, r2, q02, aw2, ps2, n, [], [], 0, (rt : Int), rfl, W42, fun H9 q2 W9 kp52 hq52 => ?_⟩
      have s42 : Same H6 H8 := b42.same s02 ha2
      have s59 : Same H5 H9 := fun b o e => kp52 b o (ne_of_none (sh2 _ _ e) ha2) (ne_of_none (s02 _ _ (sh2 _ _ e)) (f42 r2 (.inr (.inl rfl)))) (s42 _ _ (sh2 _ _ e))
      have fbH5 : ∀ b, At h2 ps2 b ∨ b = q2 → H5 b = none := fun b z => by
        rcases z with z | z
        · exact sh2.free (s02.free (f42 b (.inr (.inr (.inr (.inr z))))))
        · rw [z]; exact sh2.free (s42.free hq52)
      refine ⟨_, rfl, D, qs, rfl, g5.same s59, by omega, fun D2 H10 qs2 s10 g10 cc10 f10 => ?_⟩
      exact hR13 H5 H9 H10 _ _ _ _ _ _ _ _ _ _ _ _ D2 ps ps2 qs2 n v pl rt wr k _ W5 s59 W9 fbH5 s10 g10 f10 (cch.trans cc10.symm) (cch2.trans cc10.symm) v0 v1 n1
    refine ⟨_, pss_cons (ps_set (i := 1) scLa.nd rfl (Or.inl rfl) (pe_call G2 hr2 (by rfl) D2.m D2.F.kp D2.b .nil pass0 (pa_cons (pv 0) pa_nil))) (pss_cons (ps_set (i := 2) scLa.nd rfl (Or.inl rfl) (pe_call G3 hr1 (by rfl) D3.m D3.F.kp D3.b .nil pass0 (pa_cons (pe_call G1 hr1 (by rfl) D1.m D1.F.kp D1.b .nil pass0 (pa_cons (pv 0) (pa_cons pe_int pa_nil))) pa_nil))) (pss_cons (ps_set (i := 3) scLa.nd rfl (Or.inl rfl) (pe_cmpR op_eq (pe_op op_mod (pe_call G1 hr1 (by rfl) D1.m D1.F.kp D1.b .nil pass0 (pa_cons (pv 0) (pa_cons pe_int pa_nil))) pe_int) pe_int (nomark _))) (pss_cons (ps_set (i := 4) scLa.nd rfl (Or.inl rfl) (pe_cmpR op_gt (pe_op op_mod (pe_call G1 hr1 (by rfl) D1.m D1.F.kp D1.b .nil pass0 (pa_cons (pv 0) (pa_cons pe_int pa_nil))) pe_int) pe_int (nomark _))) (pss_cons (ps_set (i := 5) scLa.nd rfl (Or.inl rfl) (pe_op op_mod (pe_call G1 hr1 (by rfl) D1.m D1.F.kp D1.b .nil pass0 (pa_cons (pv 0) (pa_cons pe_int pa_nil))) (pe_op op_pow pe_int pe_int))) (pss_cons (ps_set (i := 6) scLa.nd rfl (Or.inl rfl) (pe_op op_mod (pe_call G1 hr1 (by rfl) D1.m D1.F.kp D1.b .nil pass0 (pa_cons (pv 0) (pa_cons pe_int pa_nil))) (pe_op op_add (pe_op op_mul pe_int (pe_callB call_len_seq (by rfl) T.len PySem.boot_len (pa_cons (pv 1) pa_nil))) pe_int))) (pss_cons (ps_if (pt_cmpR op_gt (pv 6) (pe_callB call_len_seq (by rfl) T.len PySem.boot_len (pa_cons (pv 1) pa_nil)) (nomark _)) (pss_one (ps_set (i := 6) scLa.nd rfl (Or.inl rfl) pe_int)) pss_nil) R7)))))), ?_⟩
    refine ⟨_, rfl, x, ns, rfl, hS, fun D H1 qs s1 g1 gd1 l1 l2 e0 fr1 => ?_⟩
    refine ⟨_, rfl, x, ns, 2, rfl, s1.seq hS, _, rfl, fun pl H2 s2 => ?_⟩
    have s12 := s1.trans s2
    have g2 := g1.same s2
    refine ⟨_, rfl, x, ns, 3, rfl, s12.seq hS, _, 2, rfl, rfl, (by show (0 : Int) < 2; decide), rfl, ?_⟩
    dsimp only
    generalize decide (V.int (ns.getD 3 0 % 2) = V.int 1) = wr
    refine ⟨_, rfl, x, ns, 4, rfl, s12.seq hS, _, 3, rfl, rfl, (by show (0 : Int) < 3; decide), _, _, rfl, rfl, ?_⟩
    dsimp only
    generalize decide (0 < ns.getD 4 0 % 3) = k
    refine ⟨_, rfl, x, ns, 5, rfl, s12.seq hS, 2, 48, rfl, rfl, ⟨by decide, by decide, by decide⟩, _, _, rfl, rfl, (by show (0 : Int) < 2 ^ (48 : Int).toNat; decide), ?_⟩
    dsimp only
    rw [e48]
    have v0 : 0 ≤ ns.getD 5 0 % 281474976710656 := Int.emod_nonneg _ (by decide)
    have v1 : ns.getD 5 0 % 281474976710656 < 281474976710656 := Int.emod_lt_of_pos _ (by decide)
    generalize ns.getD 5 0 % 281474976710656 = v at *
    refine ⟨_, rfl, x, ns, 6, rfl, s12.seq hS, _, rfl, D, _, rfl, .inl (SqL.of g2.top), 2, _, rfl, rfl, .inl ⟨by decide, by decide⟩, _, 1, rfl, rfl, _, _, rfl, rfl, (by show (0 : Int) < 2 * ((qs.map pgV).length : Int) + 1; omega), ?_⟩
    dsimp only
    have y0 : 0 ≤ ns.getD 6 0 % (2 * ((qs.map pgV).length : Int) + 1) := Int.emod_nonneg _ (by omega)
    generalize ns.getD 6 0 % (2 * ((qs.map pgV).length : Int) + 1) = y at y0 ⊢
    obtain ⟨rt, rfl⟩ : ∃ rt : Nat, y = (rt : Int) := ⟨y.toNat, by omega⟩
    exact ⟨_, rfl, _, rfl, D, _, rfl, .inl (SqL.of g2.top), _, _, rfl, rfl, _, rfl, ite2 (fun _ => hR7 H2 D qs v pl 0 wr k s12 g2 gd1 l1 l2 v0 v1) (fun _ => hR7 H2 D qs v pl rt wr k s12 g2 gd1 l1 l2 v0 v1)⟩
end
end K25
end
section
open PySem PySem.W PyProof.Rows
namespace K25
open PySem L2
theorem ba1 {fd : FuncData} {p1 : Str} (h : ∀ a1 : Value, bindArgs fd ⟨[a1], []⟩ = pure ([p1].zip [a1])) : ∀ us : List Value, us.length = [p1].length → bindArgs fd ⟨us, []⟩ = pure ([p1].zip us)
  | [_], _ => h _
theorem ba2 {fd : FuncData} {p1 p2 : Str} (h : ∀ a1 a2 : Value, bindArgs fd ⟨[a1, a2], []⟩ = pure ([p1, p2].zip [a1, a2])) : ∀ us : List Value, us.length = [p1, p2].length → bindArgs fd ⟨us, []⟩ = pure ([p1, p2].zip us)
  | [_, _], _ => h _ _
theorem ba3 {fd : FuncData} {p1 p2 p3 : Str} (h : ∀ a1 a2 a3 : Value, bindArgs fd ⟨[a1, a2, a3], []⟩ = pure ([p1, p2, p3].zip [a1, a2, a3])) : ∀ us : List Value, us.length = [p1, p2, p3].length → bindArgs fd ⟨us, []⟩ = pure ([p1, p2, p3].zip us)
  | [_, _, _], _ => h _ _ _
theorem ba4 {fd : FuncData} {p1 p2 p3 p4 : Str} (h : ∀ a1 a2 a3 a4 : Value, bindArgs fd ⟨[a1, a2, a3, a4], []⟩ = pure ([p1, p2, p3, p4].zip [a1, a2, a3, a4])) : ∀ us : List Value, us.length = [p1, p2, p3, p4].length → bindArgs fd ⟨us, []⟩ = pure ([p1, p2, p3, p4].zip us)
  | [_, _, _, _], _ => h _ _ _ _
theorem ba5 {fd : FuncData} {p1 p2 p3 p4 p5 : Str} (h : ∀ a1 a2 a3 a4 a5 : Value, bindArgs fd ⟨[a1, a2, a3, a4, a5], []⟩ = pure ([p1, p2, p3, p4, p5].zip [a1, a2, a3, a4, a5])) : ∀ us : List Value, us.length = [p1, p2, p3, p4, p5].length → bindArgs fd ⟨us, []⟩ = pure ([p1, p2, p3, p4, p5].zip us)
  | [_, _, _, _, _], _ => h _ _ _ _ _
theorem ba6 {fd : FuncData} {p1 p2 p3 p4 p5 p6 : Str} (h : ∀ a1 a2 a3 a4 a5 a6 : Value, bindArgs fd ⟨[a1, a2, a3, a4, a5, a6], []⟩ = pure ([p1, p2, p3, p4, p5, p6].zip [a1, a2, a3, a4, a5, a6])) : ∀ us : List Value, us.length = [p1, p2, p3, p4, p5, p6].length → bindArgs fd ⟨us, []⟩ = pure ([p1, p2, p3, p4, p5, p6].zip us)
  | [_, _, _, _, _, _], _ => h _ _ _ _ _ _
theorem all_mk {l : PySem.W.OpenLaw} {w : World} {K : PySem.W.Frag} {h : Heap} {mg : Str → Option Value} {fa f0 f1 f2 f3 f4 f5 f6 f7 f8 f9 f10 f11 f12 f13 f14 f15 f16 f17 f18 f19 f20 f21 f22 f23 f24 f25 f26 f27 f28 f29 f30 f31 f32 f33 f34 f35 f36 f37 f38 f39 f40 f41 f42 f43 f44 f45 f46 f47 f48 f49 f50 f51 f52 f53 f54 f55 f56 f57 f58 f59 f60 f61 f62 f63 xC xSC xPL xWC xNP xNL xNW xNI xFA : Addr} (X : K.In h) (G : h.Ns mainGlobals mg) (hfa : mg "law" = some (.ref fa))
    {od0 an0 od1 an1 od2 an2 od3 an3 od4 an4 od5 an5 od6 an6 od7 an7 od8 an8 od9 an9 od10 an10 od11 an11 od12 an12 od13 an13 od14 an14 od15 an15 od16 an16 od17 an17 od18 an18 od19 an19 od20 an20 od21 an21 od22 an22 od23 an23 od24 an24 od25 an25 od26 an26 od27 an27 od28 an28 od29 an29 od30 an30 od31 an31 od32 an32 od33 an33 od34 an34 od35 an35 od36 an36 od37 an37 od38 an38 od39 an39 od40 an40 od41 an41 od42 an42 od43 an43 od44 an44 od45 an45 od46 an46 od47 an47 od48 an48 od49 an49 od50 an50 od51 an51 od52 an52 od53 an53 od54 an54 od55 an55 od56 an56 od57 an57 od58 an58 od59 an59 od60 an60 od61 an61 od62 an62 od63 an63 : Option Addr} {sl0 sl1 sl2 sl3 sl4 sl5 sl6 sl7 sl8 sl9 sl10 sl11 sl12 sl13 sl14 sl15 sl16 sl17 sl18 sl19 sl20 sl21 sl22 sl23 sl24 sl25 sl26 sl27 sl28 sl29 sl30 sl31 sl32 sl33 sl34 sl35 sl36 sl37 sl38 sl39 sl40 sl41 sl42 sl43 sl44 sl45 sl46 sl47 sl48 sl49 sl50 sl51 sl52 sl53 sl54 sl55 sl56 sl57 sl58 sl59 sl60 sl61 sl62 sl63 : Array (Option Value)} {oc0 kV0 dc0 pm0 cd0 ct0 oc1 kV1 dc1 pm1 cd1 ct1 oc2 kV2 dc2 pm2 cd2 ct2 oc3 kV3 dc3 pm3 cd3 ct3 oc4 kV4 dc4 pm4 cd4 ct4 oc5 kV5 dc5 pm5 cd5 ct5 oc6 kV6 dc6 pm6 cd6 ct6 oc7 kV7 dc7 pm7 cd7 ct7 oc8 kV8 dc8 pm8 cd8 ct8 oc9 kV9 dc9 pm9 cd9 ct9 oc10 kV10 dc10 pm10 cd10 ct10 oc11 kV11 dc11 pm11 cd11 ct11 oc12 kV12 dc12 pm12 cd12 ct12 oc13 kV13 dc13 pm13 cd13 ct13 oc14 kV14 dc14 pm14 cd14 ct14 oc15 kV15 dc15 pm15 cd15 ct15 oc16 kV16 dc16 pm16 cd16 ct16 oc17 kV17 dc17 pm17 cd17 ct17 oc18 kV18 dc18 pm18 cd18 ct18 oc19 kV19 dc19 pm19 cd19 ct19 oc20 kV20 dc20 pm20 cd20 ct20 oc21 kV21 dc21 pm21 cd21 ct21 oc22 kV22 dc22 pm22 cd22 ct22 oc23 kV23 dc23 pm23 cd23 ct23 oc24 kV24 dc24 pm24 cd24 ct24 oc25 kV25 dc25 pm25 cd25 ct25 oc26 kV26 dc26 pm26 cd26 ct26 oc27 kV27 dc27 pm27 cd27 ct27 oc28 kV28 dc28 pm28 cd28 ct28 oc29 kV29 dc29 pm29 cd29 ct29 oc30 kV30 dc30 pm30 cd30 ct30 oc31 kV31 dc31 pm31 cd31 ct31 oc32 kV32 dc32 pm32 cd32 ct32 oc33 kV33 dc33 pm33 cd33 ct33 oc34 kV34 dc34 pm34 cd34 ct34 oc35 kV35 dc35 pm35 cd35 ct35 oc36 kV36 dc36 pm36 cd36 ct36 oc37 kV37 dc37 pm37 cd37 ct37 oc38 kV38 dc38 pm38 cd38 ct38 oc39 kV39 dc39 pm39 cd39 ct39 oc40 kV40 dc40 pm40 cd40 ct40 oc41 kV41 dc41 pm41 cd41 ct41 oc42 kV42 dc42 pm42 cd42 ct42 oc43 kV43 dc43 pm43 cd43 ct43 oc44 kV44 dc44 pm44 cd44 ct44 oc45 kV45 dc45 pm45 cd45 ct45 oc46 kV46 dc46 pm46 cd46 ct46 oc47 kV47 dc47 pm47 cd47 ct47 oc48 kV48 dc48 pm48 cd48 ct48 oc49 kV49 dc49 pm49 cd49 ct49 oc50 kV50 dc50 pm50 cd50 ct50 oc51 kV51 dc51 pm51 cd51 ct51 oc52 kV52 dc52 pm52 cd52 ct52 oc53 kV53 dc53 pm53 cd53 ct53 oc54 kV54 dc54 pm54 cd54 ct54 oc55 kV55 dc55 pm55 cd55 ct55 oc56 kV56 dc56 pm56 cd56 ct56 oc57 kV57 dc57 pm57 cd57 ct57 oc58 kV58 dc58 pm58 cd58 ct58 oc59 kV59 dc59 pm59 cd59 ct59 oc60 kV60 dc60 pm60 cd60 ct60 oc61 kV61 dc61 pm61 cd61 ct61 oc62 kV62 dc62 pm62 cd62 ct62 oc63 kV63 dc63 pm63 cd63 ct63 : Value} {tk0 tk1 tk2 tk3 tk4 tk5 tk6 tk7 tk8 tk9 tk10 tk11 : Tok}
    (n_C : PySem.W.nsIn K mainGlobals "Memory" = some (some (.ref xC)))
    (n_SC : PySem.W.nsIn K mainGlobals "Shelf" = some (some (.ref xSC)))
    (n_PL : PySem.W.nsIn K mainGlobals "Plain" = some (some (.ref xPL)))
    (n_WC : PySem.W.nsIn K mainGlobals "Ways" = some (some (.ref xWC)))
    (n_NP : PySem.W.nsIn K mainGlobals "NoPage" = some (some (.ref xNP)))
    (n_NL : PySem.W.nsIn K mainGlobals "NoPlace" = some (some (.ref xNL)))
    (n_NW : PySem.W.nsIn K mainGlobals "NoWord" = some (some (.ref xNW)))
    (n_NI : PySem.W.nsIn K mainGlobals "NoImage" = some (some (.ref xNI)))
    (n_FA : PySem.W.nsIn K mainGlobals "Fault" = some (some (.ref xFA)))
    (a0 : PySem.W.nsIn K mainGlobals "is_whole" = some (some (.ref f0)))
    (l0 : K.lookup f0 = some ⟨oc0, od0, .func (PySem.W.fnOf "is_whole" "is_whole" (defArgs sWhole) (defBody sWhole) (defScope sWhole) .none kV0 dc0 pm0 an0 cd0 ct0), sl0⟩)
    (c0 : PySem.W.codeIn K cd0 "is_whole" = true)
    (k0 : PySem.W.keepIn K (.ref f0) = true)
    (a1 : PySem.W.nsIn K mainGlobals "is_below" = some (some (.ref f1)))
    (l1 : K.lookup f1 = some ⟨oc1, od1, .func (PySem.W.fnOf "is_below" "is_below" (defArgs sBelow) (defBody sBelow) (defScope sBelow) .none kV1 dc1 pm1 an1 cd1 ct1), sl1⟩)
    (c1 : PySem.W.codeIn K cd1 "is_below" = true)
    (k1 : PySem.W.keepIn K (.ref f1) = true)
    (a2 : PySem.W.nsIn K mainGlobals "is_word" = some (some (.ref f2)))
    (l2 : K.lookup f2 = some ⟨oc2, od2, .func (PySem.W.fnOf "is_word" "is_word" (defArgs sWord) (defBody sWord) (defScope sWord) .none kV2 dc2 pm2 an2 cd2 ct2), sl2⟩)
    (c2 : PySem.W.codeIn K cd2 "is_word" = true)
    (k2 : PySem.W.keepIn K (.ref f2) = true)
    (a3 : PySem.W.findIn K (.ref xC) "size" = some (some (.ref f3)))
    (l3 : K.lookup f3 = some ⟨oc3, od3, .func (PySem.W.fnOf "size" "Memory.size" (defArgs sSize) (defBody sSize) (defScope sSize) .none kV3 dc3 pm3 an3 cd3 ct3), sl3⟩)
    (c3 : PySem.W.codeIn K cd3 "Memory.size" = true)
    (k3 : PySem.W.keepIn K (.ref f3) = true)
    (a4 : PySem.W.findIn K (.ref xC) "has" = some (some (.ref f4)))
    (l4 : K.lookup f4 = some ⟨oc4, od4, .func (PySem.W.fnOf "has" "Memory.has" (defArgs sHas) (defBody sHas) (defScope sHas) .none kV4 dc4 pm4 an4 cd4 ct4), sl4⟩)
    (c4 : PySem.W.codeIn K cd4 "Memory.has" = true)
    (k4 : PySem.W.keepIn K (.ref f4) = true)
    (a5 : PySem.W.findIn K (.ref xC) "word_at" = some (some (.ref f5)))
    (l5 : K.lookup f5 = some ⟨oc5, od5, .func (PySem.W.fnOf "word_at" "Memory.word_at" (defArgs sWordAt) (defBody sWordAt) (defScope sWordAt) .none kV5 dc5 pm5 an5 cd5 ct5), sl5⟩)
    (c5 : PySem.W.codeIn K cd5 "Memory.word_at" = true)
    (k5 : PySem.W.keepIn K (.ref f5) = true)
    (a6 : PySem.W.findIn K (.ref xC) "put_word" = some (some (.ref f6)))
    (l6 : K.lookup f6 = some ⟨oc6, od6, .func (PySem.W.fnOf "put_word" "Memory.put_word" (defArgs sPutWord) (defBody sPutWord) (defScope sPutWord) .none kV6 dc6 pm6 an6 cd6 ct6), sl6⟩)
    (c6 : PySem.W.codeIn K cd6 "Memory.put_word" = true)
    (k6 : PySem.W.keepIn K (.ref f6) = true)
    (a7 : PySem.W.nsIn K mainGlobals "check_word" = some (some (.ref f7)))
    (l7 : K.lookup f7 = some ⟨oc7, od7, .func (PySem.W.fnOf "check_word" "check_word" (defArgs sCWord) (defBody sCWord) (defScope sCWord) .none kV7 dc7 pm7 an7 cd7 ct7), sl7⟩)
    (c7 : PySem.W.codeIn K cd7 "check_word" = true)
    (k7 : PySem.W.keepIn K (.ref f7) = true)
    (a8 : PySem.W.nsIn K mainGlobals "is_eight_words" = some (some (.ref f8)))
    (l8 : K.lookup f8 = some ⟨oc8, od8, .func (PySem.W.fnOf "is_eight_words" "is_eight_words" (defArgs sEight) (defBody sEight) (defScope sEight) .none kV8 dc8 pm8 an8 cd8 ct8), sl8⟩)
    (c8 : PySem.W.codeIn K cd8 "is_eight_words" = true)
    (k8 : PySem.W.keepIn K (.ref f8) = true)
    (a9 : PySem.W.nsIn K mainGlobals "check_image" = some (some (.ref f9)))
    (l9 : K.lookup f9 = some ⟨oc9, od9, .func (PySem.W.fnOf "check_image" "check_image" (defArgs sImage) (defBody sImage) (defScope sImage) .none kV9 dc9 pm9 an9 cd9 ct9), sl9⟩)
    (c9 : PySem.W.codeIn K cd9 "check_image" = true)
    (k9 : PySem.W.keepIn K (.ref f9) = true)
    (a10 : PySem.W.findIn K (.ref xC) "__init__" = some (some (.ref f10)))
    (l10 : K.lookup f10 = some ⟨oc10, od10, .func (PySem.W.fnOf "__init__" "Memory.__init__" (defArgs sInit) (defBody sInit) (defScope sInit) .none kV10 dc10 pm10 an10 cd10 ct10), sl10⟩)
    (c10 : PySem.W.codeIn K cd10 "Memory.__init__" = true)
    (k10 : PySem.W.keepIn K (.ref f10) = true)
    (a11 : PySem.W.findIn K (.ref xSC) "__init__" = some (some (.ref f11)))
    (l11 : K.lookup f11 = some ⟨oc11, od11, .func (PySem.W.fnOf "__init__" "Shelf.__init__" (defArgs sSInit) (defBody sSInit) (defScope sSInit) .none kV11 dc11 pm11 an11 cd11 ct11), sl11⟩)
    (c11 : PySem.W.codeIn K cd11 "Shelf.__init__" = true)
    (k11 : PySem.W.keepIn K (.ref f11) = true)
    (a12 : PySem.W.findIn K (.ref xSC) "told" = some (some (.ref f12)))
    (l12 : K.lookup f12 = some ⟨oc12, od12, .func (PySem.W.fnOf "told" "Shelf.told" (defArgs sSTold) (defBody sSTold) (defScope sSTold) .none kV12 dc12 pm12 an12 cd12 ct12), sl12⟩)
    (c12 : PySem.W.codeIn K cd12 "Shelf.told" = true)
    (k12 : PySem.W.keepIn K (.ref f12) = true)
    (a13 : PySem.W.findIn K (.ref xPL) "size" = some (some (.ref f13)))
    (l13 : K.lookup f13 = some ⟨oc13, od13, .func (PySem.W.fnOf "size" "Plain.size" (defArgs sPSize) (defBody sPSize) (defScope sPSize) .none kV13 dc13 pm13 an13 cd13 ct13), sl13⟩)
    (c13 : PySem.W.codeIn K cd13 "Plain.size" = true)
    (k13 : PySem.W.keepIn K (.ref f13) = true)
    (a14 : PySem.W.findIn K (.ref xPL) "has" = some (some (.ref f14)))
    (l14 : K.lookup f14 = some ⟨oc14, od14, .func (PySem.W.fnOf "has" "Plain.has" (defArgs sPHas) (defBody sPHas) (defScope sPHas) .none kV14 dc14 pm14 an14 cd14 ct14), sl14⟩)
    (c14 : PySem.W.codeIn K cd14 "Plain.has" = true)
    (k14 : PySem.W.keepIn K (.ref f14) = true)
    (a15 : PySem.W.findIn K (.ref xPL) "word_at" = some (some (.ref f15)))
    (l15 : K.lookup f15 = some ⟨oc15, od15, .func (PySem.W.fnOf "word_at" "Plain.word_at" (defArgs sPWordAt) (defBody sPWordAt) (defScope sPWordAt) .none kV15 dc15 pm15 an15 cd15 ct15), sl15⟩)
    (c15 : PySem.W.codeIn K cd15 "Plain.word_at" = true)
    (k15 : PySem.W.keepIn K (.ref f15) = true)
    (a16 : PySem.W.findIn K (.ref xPL) "root" = some (some (.ref f16)))
    (l16 : K.lookup f16 = some ⟨oc16, od16, .func (PySem.W.fnOf "root" "Ways.root" (defArgs sRoot) (defBody sRoot) (defScope sRoot) .none kV16 dc16 pm16 an16 cd16 ct16), sl16⟩)
    (c16 : PySem.W.codeIn K cd16 "Ways.root" = true)
    (k16 : PySem.W.keepIn K (.ref f16) = true)
    (a17 : PySem.W.findIn K (.ref xPL) "shelf" = some (some (.ref f17)))
    (l17 : K.lookup f17 = some ⟨oc17, od17, .func (PySem.W.fnOf "shelf" "Ways.shelf" (defArgs sShelf) (defBody sShelf) (defScope sShelf) .none kV17 dc17 pm17 an17 cd17 ct17), sl17⟩)
    (c17 : PySem.W.codeIn K cd17 "Ways.shelf" = true)
    (k17 : PySem.W.keepIn K (.ref f17) = true)
    (a18 : PySem.W.findIn K (.ref xPL) "words_of" = some (some (.ref f18)))
    (l18 : K.lookup f18 = some ⟨oc18, od18, .func (PySem.W.fnOf "words_of" "Store.words_of" (defArgs sWords) (defBody sWords) (defScope sWords) .none kV18 dc18 pm18 an18 cd18 ct18), sl18⟩)
    (c18 : PySem.W.codeIn K cd18 "Store.words_of" = true)
    (k18 : PySem.W.keepIn K (.ref f18) = true)
    (a19 : PySem.W.findIn K (.ref xPL) "pages" = some (some (.ref f19)))
    (l19 : K.lookup f19 = some ⟨oc19, od19, .func (PySem.W.fnOf "pages" "Ways.pages" (defArgs sWPages) (defBody sWPages) (defScope sWPages) .none kV19 dc19 pm19 an19 cd19 ct19), sl19⟩)
    (c19 : PySem.W.codeIn K cd19 "Ways.pages" = true)
    (k19 : PySem.W.keepIn K (.ref f19) = true)
    (a20 : PySem.W.findCls K (.ref xWC) (.type "type") "__init__" = some (.val (.ref f20)))
    (l20 : K.lookup f20 = some ⟨oc20, od20, .func (PySem.W.fnOf "__init__" "Ways.__init__" (defArgs sWInit) (defBody sWInit) (defScope sWInit) .none kV20 dc20 pm20 an20 cd20 ct20), sl20⟩)
    (c20 : PySem.W.codeIn K cd20 "Ways.__init__" = true)
    (k20 : PySem.W.keepIn K (.ref f20) = true)
    (a21 : PySem.W.findIn K (.ref xPL) "__init__" = some (some (.ref f21)))
    (l21 : K.lookup f21 = some ⟨oc21, od21, .func (PySem.W.fnOf "__init__" "Plain.__init__" (defArgs sPInit) (defBody sPInit) (defScope sPInit) .none kV21 dc21 pm21 an21 cd21 ct21), sl21⟩)
    (c21 : PySem.W.codeIn K cd21 "Plain.__init__" = true)
    (k21 : PySem.W.keepIn K (.ref f21) = true)
    (a22 : PySem.W.findIn K (.ref xPL) "put_word" = some (some (.ref f22)))
    (l22 : K.lookup f22 = some ⟨oc22, od22, .func (PySem.W.fnOf "put_word" "Plain.put_word" (defArgs sPPut) (defBody sPPut) (defScope sPPut) .none kV22 dc22 pm22 an22 cd22 ct22), sl22⟩)
    (c22 : PySem.W.codeIn K cd22 "Plain.put_word" = true)
    (k22 : PySem.W.keepIn K (.ref f22) = true)
    (a23 : PySem.W.findIn K (.ref xPL) "check_page" = some (some (.ref f23)))
    (l23 : K.lookup f23 = some ⟨oc23, od23, .func (PySem.W.fnOf "check_page" "Store.check_page" (defArgs sCPage) (defBody sCPage) (defScope sCPage) .none kV23 dc23 pm23 an23 cd23 ct23), sl23⟩)
    (c23 : PySem.W.codeIn K cd23 "Store.check_page" = true)
    (k23 : PySem.W.keepIn K (.ref f23) = true)
    (a24 : PySem.W.findIn K (.ref xPL) "check_spot" = some (some (.ref f24)))
    (l24 : K.lookup f24 = some ⟨oc24, od24, .func (PySem.W.fnOf "check_spot" "Store.check_spot" (defArgs sSpot) (defBody sSpot) (defScope sSpot) .none kV24 dc24 pm24 an24 cd24 ct24), sl24⟩)
    (c24 : PySem.W.codeIn K cd24 "Store.check_spot" = true)
    (k24 : PySem.W.keepIn K (.ref f24) = true)
    (a25 : PySem.W.findIn K (.ref xPL) "read" = some (some (.ref f25)))
    (l25 : K.lookup f25 = some ⟨oc25, od25, .func (PySem.W.fnOf "read" "Store.read" (defArgs sRead) (defBody sRead) (defScope sRead) .none kV25 dc25 pm25 an25 cd25 ct25), sl25⟩)
    (c25 : PySem.W.codeIn K cd25 "Store.read" = true)
    (k25 : PySem.W.keepIn K (.ref f25) = true)
    (a26 : PySem.W.findIn K (.ref xPL) "write" = some (some (.ref f26)))
    (l26 : K.lookup f26 = some ⟨oc26, od26, .func (PySem.W.fnOf "write" "Store.write" (defArgs sWrite) (defBody sWrite) (defScope sWrite) .none kV26 dc26 pm26 an26 cd26 ct26), sl26⟩)
    (c26 : PySem.W.codeIn K cd26 "Store.write" = true)
    (k26 : PySem.W.keepIn K (.ref f26) = true)
    (a27 : PySem.W.findIn K (.ref xFA) "__init__" = some (some (.ref f27)))
    (l27 : K.lookup f27 = some ⟨oc27, od27, .func (PySem.W.fnOf "__init__" "Fault.__init__" (defArgs sFI) (defBody sFI) (defScope sFI) .none kV27 dc27 pm27 an27 cd27 ct27), sl27⟩)
    (c27 : PySem.W.codeIn K cd27 "Fault.__init__" = true)
    (k27 : PySem.W.keepIn K (.ref f27) = true)
    (a28 : PySem.W.nsIn K mainGlobals "page_of" = some (some (.ref f28)))
    (l28 : K.lookup f28 = some ⟨oc28, od28, .func (PySem.W.fnOf "page_of" "page_of" (defArgs sPgOf) (defBody sPgOf) (defScope sPgOf) .none kV28 dc28 pm28 an28 cd28 ct28), sl28⟩)
    (c28 : PySem.W.codeIn K cd28 "page_of" = true)
    (k28 : PySem.W.keepIn K (.ref f28) = true)
    (a29 : PySem.W.nsIn K mainGlobals "has" = some (some (.ref f29)))
    (l29 : K.lookup f29 = some ⟨oc29, od29, .func (PySem.W.fnOf "has" "has" (defArgs sRHas) (defBody sRHas) (defScope sRHas) .none kV29 dc29 pm29 an29 cd29 ct29), sl29⟩)
    (c29 : PySem.W.codeIn K cd29 "has" = true)
    (k29 : PySem.W.keepIn K (.ref f29) = true)
    (a30 : PySem.W.nsIn K mainGlobals "put" = some (some (.ref f30)))
    (l30 : K.lookup f30 = some ⟨oc30, od30, .func (PySem.W.fnOf "put" "put" (defArgs sRPut) (defBody sRPut) (defScope sRPut) .none kV30 dc30 pm30 an30 cd30 ct30), sl30⟩)
    (c30 : PySem.W.codeIn K cd30 "put" = true)
    (k30 : PySem.W.keepIn K (.ref f30) = true)
    (a31 : PySem.W.nsIn K mainGlobals "rights_of" = some (some (.ref f31)))
    (l31 : K.lookup f31 = some ⟨oc31, od31, .func (PySem.W.fnOf "rights_of" "rights_of" (defArgs sRig) (defBody sRig) (defScope sRig) .none kV31 dc31 pm31 an31 cd31 ct31), sl31⟩)
    (c31 : PySem.W.codeIn K cd31 "rights_of" = true)
    (k31 : PySem.W.keepIn K (.ref f31) = true)
    (a32 : PySem.W.nsIn K mainGlobals "lets" = some (some (.ref f32)))
    (l32 : K.lookup f32 = some ⟨oc32, od32, .func (PySem.W.fnOf "lets" "lets" (defArgs sLets) (defBody sLets) (defScope sLets) .none kV32 dc32 pm32 an32 cd32 ct32), sl32⟩)
    (c32 : PySem.W.codeIn K cd32 "lets" = true)
    (k32 : PySem.W.keepIn K (.ref f32) = true)
    (a33 : PySem.W.nsIn K mainGlobals "number_of" = some (some (.ref f33)))
    (l33 : K.lookup f33 = some ⟨oc33, od33, .func (PySem.W.fnOf "number_of" "number_of" (defArgs sNum) (defBody sNum) (defScope sNum) .none kV33 dc33 pm33 an33 cd33 ct33), sl33⟩)
    (c33 : PySem.W.codeIn K cd33 "number_of" = true)
    (k33 : PySem.W.keepIn K (.ref f33) = true)
    (a34 : PySem.W.nsIn K mainGlobals "parts_of" = some (some (.ref f34)))
    (l34 : K.lookup f34 = some ⟨oc34, od34, .func (PySem.W.fnOf "parts_of" "parts_of" (defArgs sParts) (defBody sParts) (defScope sParts) .none kV34 dc34 pm34 an34 cd34 ct34), sl34⟩)
    (c34 : PySem.W.codeIn K cd34 "parts_of" = true)
    (k34 : PySem.W.keepIn K (.ref f34) = true)
    (a35 : PySem.W.nsIn K mainGlobals "check_row" = some (some (.ref f35)))
    (l35 : K.lookup f35 = some ⟨oc35, od35, .func (PySem.W.fnOf "check_row" "check_row" (defArgs sCRow) (defBody sCRow) (defScope sCRow) .none kV35 dc35 pm35 an35 cd35 ct35), sl35⟩)
    (c35 : PySem.W.codeIn K cd35 "check_row" = true)
    (k35 : PySem.W.keepIn K (.ref f35) = true)
    (a36 : PySem.W.nsIn K mainGlobals "look" = some (some (.ref f36)))
    (l36 : K.lookup f36 = some ⟨oc36, od36, .func (PySem.W.fnOf "look" "look" (defArgs sLook) (defBody sLook) (defScope sLook) .none kV36 dc36 pm36 an36 cd36 ct36), sl36⟩)
    (c36 : PySem.W.codeIn K cd36 "look" = true)
    (k36 : PySem.W.keepIn K (.ref f36) = true)
    (a37 : PySem.W.nsIn K mainGlobals "put_marks" = some (some (.ref f37)))
    (l37 : K.lookup f37 = some ⟨oc37, od37, .func (PySem.W.fnOf "put_marks" "put_marks" (defArgs sPutM) (defBody sPutM) (defScope sPutM) .none kV37 dc37 pm37 an37 cd37 ct37), sl37⟩)
    (c37 : PySem.W.codeIn K cd37 "put_marks" = true)
    (k37 : PySem.W.keepIn K (.ref f37) = true)
    (a38 : PySem.W.nsIn K mainGlobals "mark" = some (some (.ref f38)))
    (l38 : K.lookup f38 = some ⟨oc38, od38, .func (PySem.W.fnOf "mark" "mark" (defArgs sMark) (defBody sMark) (defScope sMark) .none kV38 dc38 pm38 an38 cd38 ct38), sl38⟩)
    (c38 : PySem.W.codeIn K cd38 "mark" = true)
    (k38 : PySem.W.keepIn K (.ref f38) = true)
    (a39 : PySem.W.findIn K (.ref xSC) "seek" = some (some (.ref f39)))
    (l39 : K.lookup f39 = some ⟨oc39, od39, .func (PySem.W.fnOf "seek" "Shelf.seek" (defArgs sSeek) (defBody sSeek) (defScope sSeek) .none kV39 dc39 pm39 an39 cd39 ct39), sl39⟩)
    (c39 : PySem.W.codeIn K cd39 "Shelf.seek" = true)
    (k39 : PySem.W.keepIn K (.ref f39) = true)
    (a40 : PySem.W.findIn K (.ref xSC) "drop" = some (some (.ref f40)))
    (l40 : K.lookup f40 = some ⟨oc40, od40, .func (PySem.W.fnOf "drop" "Shelf.drop" (defArgs sSDrop) (defBody sSDrop) (defScope sSDrop) .none kV40 dc40 pm40 an40 cd40 ct40), sl40⟩)
    (c40 : PySem.W.codeIn K cd40 "Shelf.drop" = true)
    (k40 : PySem.W.keepIn K (.ref f40) = true)
    (a41 : PySem.W.findIn K (.ref xSC) "keep" = some (some (.ref f41)))
    (l41 : K.lookup f41 = some ⟨oc41, od41, .func (PySem.W.fnOf "keep" "Shelf.keep" (defArgs sKeep) (defBody sKeep) (defScope sKeep) .none kV41 dc41 pm41 an41 cd41 ct41), sl41⟩)
    (c41 : PySem.W.codeIn K cd41 "Shelf.keep" = true)
    (k41 : PySem.W.keepIn K (.ref f41) = true)
    (a42 : PySem.W.findIn K (.ref xSC) "empty" = some (some (.ref f42)))
    (l42 : K.lookup f42 = some ⟨oc42, od42, .func (PySem.W.fnOf "empty" "Shelf.empty" (defArgs sEmpty) (defBody sEmpty) (defScope sEmpty) .none kV42 dc42 pm42 an42 cd42 ct42), sl42⟩)
    (c42 : PySem.W.codeIn K cd42 "Shelf.empty" = true)
    (k42 : PySem.W.keepIn K (.ref f42) = true)
    (a43 : PySem.W.findIn K (.ref xPL) "remembered" = some (some (.ref f43)))
    (l43 : K.lookup f43 = some ⟨oc43, od43, .func (PySem.W.fnOf "remembered" "Ways.remembered" (defArgs sRem) (defBody sRem) (defScope sRem) .none kV43 dc43 pm43 an43 cd43 ct43), sl43⟩)
    (c43 : PySem.W.codeIn K cd43 "Ways.remembered" = true)
    (k43 : PySem.W.keepIn K (.ref f43) = true)
    (a44 : PySem.W.findIn K (.ref xPL) "walked" = some (some (.ref f44)))
    (l44 : K.lookup f44 = some ⟨oc44, od44, .func (PySem.W.fnOf "walked" "Ways.walked" (defArgs sWalk) (defBody sWalk) (defScope sWalk) .none kV44 dc44 pm44 an44 cd44 ct44), sl44⟩)
    (c44 : PySem.W.codeIn K cd44 "Ways.walked" = true)
    (k44 : PySem.W.keepIn K (.ref f44) = true)
    (a45 : PySem.W.findIn K (.ref xPL) "reach" = some (some (.ref f45)))
    (l45 : K.lookup f45 = some ⟨oc45, od45, .func (PySem.W.fnOf "reach" "Ways.reach" (defArgs sReach) (defBody sReach) (defScope sReach) .none kV45 dc45 pm45 an45 cd45 ct45), sl45⟩)
    (c45 : PySem.W.codeIn K cd45 "Ways.reach" = true)
    (k45 : PySem.W.keepIn K (.ref f45) = true)
    (a46 : PySem.W.findIn K (.ref xPL) "load" = some (some (.ref f46)))
    (l46 : K.lookup f46 = some ⟨oc46, od46, .func (PySem.W.fnOf "load" "Ways.load" (defArgs sLoad) (defBody sLoad) (defScope sLoad) .none kV46 dc46 pm46 an46 cd46 ct46), sl46⟩)
    (c46 : PySem.W.codeIn K cd46 "Ways.load" = true)
    (k46 : PySem.W.keepIn K (.ref f46) = true)
    (a47 : PySem.W.findIn K (.ref xPL) "turn_root" = some (some (.ref f47)))
    (l47 : K.lookup f47 = some ⟨oc47, od47, .func (PySem.W.fnOf "turn_root" "Ways.turn_root" (defArgs sTurn) (defBody sTurn) (defScope sTurn) .none kV47 dc47 pm47 an47 cd47 ct47), sl47⟩)
    (c47 : PySem.W.codeIn K cd47 "Ways.turn_root" = true)
    (k47 : PySem.W.keepIn K (.ref f47) = true)
    (a48 : PySem.W.findIn K (.ref xPL) "save" = some (some (.ref f48)))
    (l48 : K.lookup f48 = some ⟨oc48, od48, .func (PySem.W.fnOf "save" "Ways.save" (defArgs sSave) (defBody sSave) (defScope sSave) .none kV48 dc48 pm48 an48 cd48 ct48), sl48⟩)
    (c48 : PySem.W.codeIn K cd48 "Ways.save" = true)
    (k48 : PySem.W.keepIn K (.ref f48) = true)
    (a49 : PySem.W.nsIn K mainGlobals "_law_cell_at" = some (some (.ref f49)))
    (l49 : K.lookup f49 = some ⟨oc49, od49, .func (PySem.W.fnOf "_law_cell_at" "_law_cell_at" (defArgs sCell) (defBody sCell) (defScope sCell) .none kV49 dc49 pm49 an49 cd49 ct49), sl49⟩)
    (c49 : PySem.W.codeIn K cd49 "_law_cell_at" = true)
    (k49 : PySem.W.keepIn K (.ref f49) = true)
    (a50 : PySem.W.nsIn K mainGlobals "_law_whole" = some (some (.ref f50)))
    (l50 : K.lookup f50 = some ⟨oc50, od50, .func (PySem.W.fnOf "_law_whole" "_law_whole" (defArgs sLWhole) (defBody sLWhole) (defScope sLWhole) .none kV50 dc50 pm50 an50 cd50 ct50), sl50⟩)
    (c50 : PySem.W.codeIn K cd50 "_law_whole" = true)
    (k50 : PySem.W.keepIn K (.ref f50) = true)
    (a51 : PySem.W.nsIn K mainGlobals "_law_row_by" = some (some (.ref f51)))
    (l51 : K.lookup f51 = some ⟨oc51, od51, .func (PySem.W.fnOf "_law_row_by" "_law_row_by" (defArgs sRow) (defBody sRow) (defScope sRow) .none kV51 dc51 pm51 an51 cd51 ct51), sl51⟩)
    (c51 : PySem.W.codeIn K cd51 "_law_row_by" = true)
    (k51 : PySem.W.keepIn K (.ref f51) = true)
    (a52 : PySem.W.nsIn K mainGlobals "_law_there" = some (some (.ref f52)))
    (l52 : K.lookup f52 = some ⟨oc52, od52, .func (PySem.W.fnOf "_law_there" "_law_there" (defArgs sThere) (defBody sThere) (defScope sThere) .none kV52 dc52 pm52 an52 cd52 ct52), sl52⟩)
    (c52 : PySem.W.codeIn K cd52 "_law_there" = true)
    (k52 : PySem.W.keepIn K (.ref f52) = true)
    (a53 : PySem.W.nsIn K mainGlobals "_law_copy" = some (some (.ref f53)))
    (l53 : K.lookup f53 = some ⟨oc53, od53, .func (PySem.W.fnOf "_law_copy" "_law_copy" (defArgs sCopy) (defBody sCopy) (defScope sCopy) .none kV53 dc53 pm53 an53 cd53 ct53), sl53⟩)
    (c53 : PySem.W.codeIn K cd53 "_law_copy" = true)
    (k53 : PySem.W.keepIn K (.ref f53) = true)
    (a54 : PySem.W.nsIn K mainGlobals "_law_is_image" = some (some (.ref f54)))
    (l54 : K.lookup f54 = some ⟨oc54, od54, .func (PySem.W.fnOf "_law_is_image" "_law_is_image" (defArgs sIsI) (defBody sIsI) (defScope sIsI) .none kV54 dc54 pm54 an54 cd54 ct54), sl54⟩)
    (c54 : PySem.W.codeIn K cd54 "_law_is_image" = true)
    (k54 : PySem.W.keepIn K (.ref f54) = true)
    (a55 : PySem.W.nsIn K mainGlobals "_law_pages" = some (some (.ref f55)))
    (l55 : K.lookup f55 = some ⟨oc55, od55, .func (PySem.W.fnOf "_law_pages" "_law_pages" (defArgs sPgs) (defBody sPgs) (defScope sPgs) .none kV55 dc55 pm55 an55 cd55 ct55), sl55⟩)
    (c55 : PySem.W.codeIn K cd55 "_law_pages" = true)
    (k55 : PySem.W.keepIn K (.ref f55) = true)
    (a56 : PySem.W.nsIn K mainGlobals "_law_place" = some (some (.ref f56)))
    (l56 : K.lookup f56 = some ⟨oc56, od56, .func (PySem.W.fnOf "_law_place" "_law_place" (defArgs sPlace) (defBody sPlace) (defScope sPlace) .none kV56 dc56 pm56 an56 cd56 ct56), sl56⟩)
    (c56 : PySem.W.codeIn K cd56 "_law_place" = true)
    (k56 : PySem.W.keepIn K (.ref f56) = true)
    (a57 : PySem.W.nsIn K mainGlobals "_law_is_shelf" = some (some (.ref f57)))
    (l57 : K.lookup f57 = some ⟨oc57, od57, .func (PySem.W.fnOf "_law_is_shelf" "_law_is_shelf" (defArgs sIsS) (defBody sIsS) (defScope sIsS) .none kV57 dc57 pm57 an57 cd57 ct57), sl57⟩)
    (c57 : PySem.W.codeIn K cd57 "_law_is_shelf" = true)
    (k57 : PySem.W.keepIn K (.ref f57) = true)
    (a58 : PySem.W.nsIn K mainGlobals "_law_alike" = some (some (.ref f58)))
    (l58 : K.lookup f58 = some ⟨oc58, od58, .func (PySem.W.fnOf "_law_alike" "_law_alike" (defArgs sAlike) (defBody sAlike) (defScope sAlike) .none kV58 dc58 pm58 an58 cd58 ct58), sl58⟩)
    (c58 : PySem.W.codeIn K cd58 "_law_alike" = true)
    (k58 : PySem.W.keepIn K (.ref f58) = true)
    (a59 : PySem.W.nsIn K mainGlobals "_law_walk" = some (some (.ref f59)))
    (l59 : K.lookup f59 = some ⟨oc59, od59, .func (PySem.W.fnOf "_law_walk" "_law_walk" (defArgs sWalkL) (defBody sWalkL) (defScope sWalkL) .none kV59 dc59 pm59 an59 cd59 ct59), sl59⟩)
    (c59 : PySem.W.codeIn K cd59 "_law_walk" = true)
    (k59 : PySem.W.keepIn K (.ref f59) = true)
    (a60 : PySem.W.nsIn K mainGlobals "_law_marked" = some (some (.ref f60)))
    (l60 : K.lookup f60 = some ⟨oc60, od60, .func (PySem.W.fnOf "_law_marked" "_law_marked" (defArgs sMkd) (defBody sMkd) (defScope sMkd) .none kV60 dc60 pm60 an60 cd60 ct60), sl60⟩)
    (c60 : PySem.W.codeIn K cd60 "_law_marked" = true)
    (k60 : PySem.W.keepIn K (.ref f60) = true)
    (a61 : PySem.W.nsIn K mainGlobals "_law_reach" = some (some (.ref f61)))
    (l61 : K.lookup f61 = some ⟨oc61, od61, .func (PySem.W.fnOf "_law_reach" "_law_reach" (defArgs sRchL) (defBody sRchL) (defScope sRchL) .none kV61 dc61 pm61 an61 cd61 ct61), sl61⟩)
    (c61 : PySem.W.codeIn K cd61 "_law_reach" = true)
    (k61 : PySem.W.keepIn K (.ref f61) = true)
    (a62 : PySem.W.nsIn K mainGlobals "_law_do" = some (some (.ref f62)))
    (l62 : K.lookup f62 = some ⟨oc62, od62, .func (PySem.W.fnOf "_law_do" "_law_do" (defArgs sDoL) (defBody sDoL) (defScope sDoL) .none kV62 dc62 pm62 an62 cd62 ct62), sl62⟩)
    (c62 : PySem.W.codeIn K cd62 "_law_do" = true)
    (k62 : PySem.W.keepIn K (.ref f62) = true)
    (a63 : PySem.W.nsIn K mainGlobals "law" = some (some (.ref f63)))
    (l63 : K.lookup f63 = some ⟨oc63, od63, .func (PySem.W.fnOf "law" "law" (defArgs sLaw) (defBody sLaw) (defScope sLaw) .none kV63 dc63 pm63 an63 cd63 ct63), sl63⟩)
    (c63 : PySem.W.codeIn K cd63 "law" = true)
    (k63 : PySem.W.keepIn K (.ref f63) = true)
    (v0 : PySem.W.nsIn K mainGlobals "WORDS" = some (some (.int 281474976710656 tk0)))
    (v1 : PySem.W.nsIn K mainGlobals "CELLS" = some (some (.int 8 tk1)))
    (v2 : PySem.W.nsIn K mainGlobals "MOST_PAGES" = some (some (.int 24 tk2)))
    (v3 : PySem.W.nsIn K mainGlobals "SEATS" = some (some (.int 12 tk3)))
    (v4 : PySem.W.nsIn K mainGlobals "MARKS" = some (some (.int 256 tk4)))
    (v5 : PySem.W.nsIn K mainGlobals "PARTS" = some (some (.int 8 tk5)))
    (v6 : PySem.W.nsIn K mainGlobals "PLACES" = some (some (.int 512 tk6)))
    (v7 : PySem.W.nsIn K mainGlobals "PRESENT" = some (some (.int 1 tk7)))
    (v8 : PySem.W.nsIn K mainGlobals "WRITABLE" = some (some (.int 2 tk8)))
    (v9 : PySem.W.nsIn K mainGlobals "KERNEL" = some (some (.int 4 tk9)))
    (v10 : PySem.W.nsIn K mainGlobals "TOUCHED" = some (some (.int 8 tk10)))
    (v11 : PySem.W.nsIn K mainGlobals "SOILED" = some (some (.int 16 tk11)))
    (z_isinstance : PySem.W.nsIn K mainGlobals "isinstance" = some none)
    (z_int : PySem.W.nsIn K mainGlobals "int" = some none)
    (z_bool : PySem.W.nsIn K mainGlobals "bool" = some none)
    (z_list : PySem.W.nsIn K mainGlobals "list" = some none)
    (z_len : PySem.W.nsIn K mainGlobals "len" = some none)
    (z_all : PySem.W.nsIn K mainGlobals "all" = some none)
    (z_range : PySem.W.nsIn K mainGlobals "range" = some none)
    (z_tuple : PySem.W.nsIn K mainGlobals "tuple" = some none)
    (xi_NP : L2.excIn K xNP = true)
    (xi_NL : L2.excIn K xNL = true)
    (xi_NW : L2.excIn K xNW = true)
    (xi_NI : L2.excIn K xNI = true)
    (nh : PySem.W.findIn K (.ref xC) "held" = some none)
    (nmo : PySem.W.findIn K (.ref xSC) "most" = some none)
    (nse : PySem.W.findIn K (.ref xSC) "seats" = some none)
    (nme : PySem.W.findIn K (.ref xPL) "memory" = some none)
    (nba : PySem.W.findIn K (.ref xPL) "base" = some none)
    (nra : PySem.W.findIn K (.ref xPL) "rack" = some none)
    (nan : PySem.W.findIn K (.ref xPL) "answers" = some none)
    (nfk : PySem.W.findIn K (.ref xFA) "kind" = some none)
    (nfp : PySem.W.findIn K (.ref xFA) "place" = some none)
    (nfl : PySem.W.findIn K (.ref xFA) "level" = some none)
    (fsa : PySem.W.findIn K (.ref xFA) "__setattr__" = some (some (.builtin "object.__setattr__")))
    (fov : L2.overIn K xFA = true)
    (fhd : PySem.W.hasDictIn K xFA = true)
    (fga : PySem.W.findIn K (.ref xFA) "__getattribute__" = some (some (.builtin "BaseException.__getattribute__")))
    (fgh : PySem.W.findIn K (.ref xFA) "__getattr__" = some none)
    (fmb : PySem.W.mroIn K xFA (.type "BaseException") = some true)
    (fxm : PySem.W.exmOne K (.ref xFA) (.ref xFA) = some true)
    (fex : L2.excInI K xFA f27 = true)
    (i3 : PySem.W.isFn K (.ref f3) = true)
    (i4 : PySem.W.isFn K (.ref f4) = true)
    (i5 : PySem.W.isFn K (.ref f5) = true)
    (i6 : PySem.W.isFn K (.ref f6) = true)
    (i10 : PySem.W.isFn K (.ref f10) = true)
    (i11 : PySem.W.isFn K (.ref f11) = true)
    (i12 : PySem.W.isFn K (.ref f12) = true)
    (i13 : PySem.W.isFn K (.ref f13) = true)
    (i14 : PySem.W.isFn K (.ref f14) = true)
    (i15 : PySem.W.isFn K (.ref f15) = true)
    (i16 : PySem.W.isFn K (.ref f16) = true)
    (i17 : PySem.W.isFn K (.ref f17) = true)
    (i18 : PySem.W.isFn K (.ref f18) = true)
    (i19 : PySem.W.isFn K (.ref f19) = true)
    (i21 : PySem.W.isFn K (.ref f21) = true)
    (i22 : PySem.W.isFn K (.ref f22) = true)
    (i23 : PySem.W.isFn K (.ref f23) = true)
    (i24 : PySem.W.isFn K (.ref f24) = true)
    (i25 : PySem.W.isFn K (.ref f25) = true)
    (i26 : PySem.W.isFn K (.ref f26) = true)
    (i27 : PySem.W.isFn K (.ref f27) = true)
    (i39 : PySem.W.isFn K (.ref f39) = true)
    (i40 : PySem.W.isFn K (.ref f40) = true)
    (i41 : PySem.W.isFn K (.ref f41) = true)
    (i42 : PySem.W.isFn K (.ref f42) = true)
    (i43 : PySem.W.isFn K (.ref f43) = true)
    (i44 : PySem.W.isFn K (.ref f44) = true)
    (i45 : PySem.W.isFn K (.ref f45) = true)
    (i46 : PySem.W.isFn K (.ref f46) = true)
    (i47 : PySem.W.isFn K (.ref f47) = true)
    (i48 : PySem.W.isFn K (.ref f48) = true)
    (pg_C : PySem.W.plainGet K xC Str.empty = true)
    (hd_C : PySem.W.hasDictIn K xC = true)
    (po_C : PySem.W.plainOver K xC = true)
    (sa_C : PySem.W.findIn K (.ref xC) "__setattr__" = some (some (.builtin "object.__setattr__")))
    (pg_PL : PySem.W.plainGet K xPL Str.empty = true)
    (hd_PL : PySem.W.hasDictIn K xPL = true)
    (po_PL : PySem.W.plainOver K xPL = true)
    (sa_PL : PySem.W.findIn K (.ref xPL) "__setattr__" = some (some (.builtin "object.__setattr__")))
    (pg_SC : PySem.W.plainGet K xSC Str.empty = true)
    (hd_SC : PySem.W.hasDictIn K xSC = true)
    (po_SC : PySem.W.plainOver K xSC = true)
    (sa_SC : PySem.W.findIn K (.ref xSC) "__setattr__" = some (some (.builtin "object.__setattr__")))
    (mk_C : PySem.W.makesIn K xC = true)
    (kc_C : PySem.W.keepIn K (.ref xC) = true)
    (mk_PL : PySem.W.makesIn K xPL = true)
    (kc_PL : PySem.W.keepIn K (.ref xPL) = true)
    (mk_SC : PySem.W.makesIn K xSC = true)
    (kc_SC : PySem.W.keepIn K (.ref xSC) = true)
    (sp_WC : PySem.W.specialIn K (.ref xWC) "__getattribute__" = some (some (.builtin "type.__getattribute__")))
    (rd_WC : PySem.W.readsIn K xWC (.type "type") = true)
    : ∃ fd : FuncData, (∀ (s : Shared) (v : Value), BindsTo s fd ⟨[v], []⟩ [("_law_script", v)]) ∧ ∀ base : Heap, K.In base → base.Ns mainGlobals mg → FnOk l.prog w K mg base CX0 14 fa fd ["_law_script"] (spLaw K) := by
  have e := hfa.symm.trans (PySem.W.mg_of X G a63)
  cases e
  have F0 := fun_mk (st := sWhole) l0 c0 k0
  have D0 : Dn K mg "is_whole" sWhole ["thing"] f0 _ := ⟨F0, PySem.W.mg_of X G a0, F0.binds (ps := ["thing"]) fun _ _ _ _ _ _ us hl => ba1 (fun _ => rfl) us hl⟩
  have F1 := fun_mk (st := sBelow) l1 c1 k1
  have D1 : Dn K mg "is_below" sBelow ["thing", "bound"] f1 _ := ⟨F1, PySem.W.mg_of X G a1, F1.binds (ps := ["thing", "bound"]) fun _ _ _ _ _ _ us hl => ba2 (fun _ _ => rfl) us hl⟩
  have F2 := fun_mk (st := sWord) l2 c2 k2
  have D2 : Dn K mg "is_word" sWord ["thing"] f2 _ := ⟨F2, PySem.W.mg_of X G a2, F2.binds (ps := ["thing"]) fun _ _ _ _ _ _ us hl => ba1 (fun _ => rfl) us hl⟩
  have F3 := fun_mk (st := sSize) l3 c3 k3
  have B3 := F3.binds (ps := ["self"]) fun _ _ _ _ _ _ us hl => ba1 (fun _ => rfl) us hl
  have F4 := fun_mk (st := sHas) l4 c4 k4
  have B4 := F4.binds (ps := ["self", "page"]) fun _ _ _ _ _ _ us hl => ba2 (fun _ _ => rfl) us hl
  have F5 := fun_mk (st := sWordAt) l5 c5 k5
  have B5 := F5.binds (ps := ["self", "page", "cell"]) fun _ _ _ _ _ _ us hl => ba3 (fun _ _ _ => rfl) us hl
  have F6 := fun_mk (st := sPutWord) l6 c6 k6
  have B6 := F6.binds (ps := ["self", "page", "cell", "word"]) fun _ _ _ _ _ _ us hl => ba4 (fun _ _ _ _ => rfl) us hl
  have F7 := fun_mk (st := sCWord) l7 c7 k7
  have D7 : Dn K mg "check_word" sCWord ["word"] f7 _ := ⟨F7, PySem.W.mg_of X G a7, F7.binds (ps := ["word"]) fun _ _ _ _ _ _ us hl => ba1 (fun _ => rfl) us hl⟩
  have F8 := fun_mk (st := sEight) l8 c8 k8
  have D8 : Dn K mg "is_eight_words" sEight ["thing"] f8 _ := ⟨F8, PySem.W.mg_of X G a8, F8.binds (ps := ["thing"]) fun _ _ _ _ _ _ us hl => ba1 (fun _ => rfl) us hl⟩
  have F9 := fun_mk (st := sImage) l9 c9 k9
  have D9 : Dn K mg "check_image" sImage ["pages"] f9 _ := ⟨F9, PySem.W.mg_of X G a9, F9.binds (ps := ["pages"]) fun _ _ _ _ _ _ us hl => ba1 (fun _ => rfl) us hl⟩
  have F10 := fun_mk (st := sInit) l10 c10 k10
  have B10 := F10.binds (ps := ["self", "pages"]) fun _ _ _ _ _ _ us hl => ba2 (fun _ _ => rfl) us hl
  have F11 := fun_mk (st := sSInit) l11 c11 k11
  have B11 := F11.binds (ps := ["self", "most"]) fun _ _ _ _ _ _ us hl => ba2 (fun _ _ => rfl) us hl
  have F12 := fun_mk (st := sSTold) l12 c12 k12
  have B12 := F12.binds (ps := ["self"]) fun _ _ _ _ _ _ us hl => ba1 (fun _ => rfl) us hl
  have F13 := fun_mk (st := sPSize) l13 c13 k13
  have B13 := F13.binds (ps := ["self"]) fun _ _ _ _ _ _ us hl => ba1 (fun _ => rfl) us hl
  have F14 := fun_mk (st := sPHas) l14 c14 k14
  have B14 := F14.binds (ps := ["self", "page"]) fun _ _ _ _ _ _ us hl => ba2 (fun _ _ => rfl) us hl
  have F15 := fun_mk (st := sPWordAt) l15 c15 k15
  have B15 := F15.binds (ps := ["self", "page", "cell"]) fun _ _ _ _ _ _ us hl => ba3 (fun _ _ _ => rfl) us hl
  have F16 := fun_mk (st := sRoot) l16 c16 k16
  have B16 := F16.binds (ps := ["self"]) fun _ _ _ _ _ _ us hl => ba1 (fun _ => rfl) us hl
  have F17 := fun_mk (st := sShelf) l17 c17 k17
  have B17 := F17.binds (ps := ["self"]) fun _ _ _ _ _ _ us hl => ba1 (fun _ => rfl) us hl
  have F18 := fun_mk (st := sWords) l18 c18 k18
  have B18 := F18.binds (ps := ["self", "page"]) fun _ _ _ _ _ _ us hl => ba2 (fun _ _ => rfl) us hl
  have F19 := fun_mk (st := sWPages) l19 c19 k19
  have B19 := F19.binds (ps := ["self"]) fun _ _ _ _ _ _ us hl => ba1 (fun _ => rfl) us hl
  have F20 := fun_mk (st := sWInit) l20 c20 k20
  have B20 := F20.binds (ps := ["self", "most"]) fun _ _ _ _ _ _ us hl => ba2 (fun _ _ => rfl) us hl
  have F21 := fun_mk (st := sPInit) l21 c21 k21
  have B21 := F21.binds (ps := ["self", "pages", "most", "words"]) fun _ _ _ _ _ _ us hl => ba4 (fun _ _ _ _ => rfl) us hl
  have F22 := fun_mk (st := sPPut) l22 c22 k22
  have B22 := F22.binds (ps := ["self", "page", "cell", "word"]) fun _ _ _ _ _ _ us hl => ba4 (fun _ _ _ _ => rfl) us hl
  have F23 := fun_mk (st := sCPage) l23 c23 k23
  have B23 := F23.binds (ps := ["self", "page"]) fun _ _ _ _ _ _ us hl => ba2 (fun _ _ => rfl) us hl
  have F24 := fun_mk (st := sSpot) l24 c24 k24
  have B24 := F24.binds (ps := ["self", "page", "cell"]) fun _ _ _ _ _ _ us hl => ba3 (fun _ _ _ => rfl) us hl
  have F25 := fun_mk (st := sRead) l25 c25 k25
  have B25 := F25.binds (ps := ["self", "page", "cell"]) fun _ _ _ _ _ _ us hl => ba3 (fun _ _ _ => rfl) us hl
  have F26 := fun_mk (st := sWrite) l26 c26 k26
  have B26 := F26.binds (ps := ["self", "page", "cell", "word"]) fun _ _ _ _ _ _ us hl => ba4 (fun _ _ _ _ => rfl) us hl
  have F27 := fun_mk (st := sFI) l27 c27 k27
  have B27 := F27.binds (ps := ["self", "kind", "place", "level"]) fun _ _ _ _ _ _ us hl => ba4 (fun _ _ _ _ => rfl) us hl
  have F28 := fun_mk (st := sPgOf) l28 c28 k28
  have D28 : Dn K mg "page_of" sPgOf ["row"] f28 _ := ⟨F28, PySem.W.mg_of X G a28, F28.binds (ps := ["row"]) fun _ _ _ _ _ _ us hl => ba1 (fun _ => rfl) us hl⟩
  have F29 := fun_mk (st := sRHas) l29 c29 k29
  have D29 : Dn K mg "has" sRHas ["row", "marks"] f29 _ := ⟨F29, PySem.W.mg_of X G a29, F29.binds (ps := ["row", "marks"]) fun _ _ _ _ _ _ us hl => ba2 (fun _ _ => rfl) us hl⟩
  have F30 := fun_mk (st := sRPut) l30 c30 k30
  have D30 : Dn K mg "put" sRPut ["row", "marks"] f30 _ := ⟨F30, PySem.W.mg_of X G a30, F30.binds (ps := ["row", "marks"]) fun _ _ _ _ _ _ us hl => ba2 (fun _ _ => rfl) us hl⟩
  have F31 := fun_mk (st := sRig) l31 c31 k31
  have D31 : Dn K mg "rights_of" sRig ["top_row", "low_row"] f31 _ := ⟨F31, PySem.W.mg_of X G a31, F31.binds (ps := ["top_row", "low_row"]) fun _ _ _ _ _ _ us hl => ba2 (fun _ _ => rfl) us hl⟩
  have F32 := fun_mk (st := sLets) l32 c32 k32
  have D32 : Dn K mg "lets" sLets ["rights", "write", "kernel"] f32 _ := ⟨F32, PySem.W.mg_of X G a32, F32.binds (ps := ["rights", "write", "kernel"]) fun _ _ _ _ _ _ us hl => ba3 (fun _ _ _ => rfl) us hl⟩
  have F33 := fun_mk (st := sNum) l33 c33 k33
  have D33 : Dn K mg "number_of" sNum ["place"] f33 _ := ⟨F33, PySem.W.mg_of X G a33, F33.binds (ps := ["place"]) fun _ _ _ _ _ _ us hl => ba1 (fun _ => rfl) us hl⟩
  have F34 := fun_mk (st := sParts) l34 c34 k34
  have D34 : Dn K mg "parts_of" sParts ["place"] f34 _ := ⟨F34, PySem.W.mg_of X G a34, F34.binds (ps := ["place"]) fun _ _ _ _ _ _ us hl => ba1 (fun _ => rfl) us hl⟩
  have F35 := fun_mk (st := sCRow) l35 c35 k35
  have D35 : Dn K mg "check_row" sCRow ["store", "row", "write", "kernel", "place", "level"] f35 _ := ⟨F35, PySem.W.mg_of X G a35, F35.binds (ps := ["store", "row", "write", "kernel", "place", "level"]) fun _ _ _ _ _ _ us hl => ba6 (fun _ _ _ _ _ _ => rfl) us hl⟩
  have F36 := fun_mk (st := sLook) l36 c36 k36
  have D36 : Dn K mg "look" sLook ["store", "root", "place", "write", "kernel"] f36 _ := ⟨F36, PySem.W.mg_of X G a36, F36.binds (ps := ["store", "root", "place", "write", "kernel"]) fun _ _ _ _ _ _ us hl => ba5 (fun _ _ _ _ _ => rfl) us hl⟩
  have F37 := fun_mk (st := sPutM) l37 c37 k37
  have D37 : Dn K mg "put_marks" sPutM ["store", "spot", "marks"] f37 _ := ⟨F37, PySem.W.mg_of X G a37, F37.binds (ps := ["store", "spot", "marks"]) fun _ _ _ _ _ _ us hl => ba3 (fun _ _ _ => rfl) us hl⟩
  have F38 := fun_mk (st := sMark) l38 c38 k38
  have D38 : Dn K mg "mark" sMark ["store", "trail", "write"] f38 _ := ⟨F38, PySem.W.mg_of X G a38, F38.binds (ps := ["store", "trail", "write"]) fun _ _ _ _ _ _ us hl => ba3 (fun _ _ _ => rfl) us hl⟩
  have F39 := fun_mk (st := sSeek) l39 c39 k39
  have B39 := F39.binds (ps := ["self", "number"]) fun _ _ _ _ _ _ us hl => ba2 (fun _ _ => rfl) us hl
  have F40 := fun_mk (st := sSDrop) l40 c40 k40
  have B40 := F40.binds (ps := ["self", "number"]) fun _ _ _ _ _ _ us hl => ba2 (fun _ _ => rfl) us hl
  have F41 := fun_mk (st := sKeep) l41 c41 k41
  have B41 := F41.binds (ps := ["self", "number", "page", "rights"]) fun _ _ _ _ _ _ us hl => ba4 (fun _ _ _ _ => rfl) us hl
  have F42 := fun_mk (st := sEmpty) l42 c42 k42
  have B42 := F42.binds (ps := ["self"]) fun _ _ _ _ _ _ us hl => ba1 (fun _ => rfl) us hl
  have F43 := fun_mk (st := sRem) l43 c43 k43
  have B43 := F43.binds (ps := ["self", "place", "write", "kernel"]) fun _ _ _ _ _ _ us hl => ba4 (fun _ _ _ _ => rfl) us hl
  have F44 := fun_mk (st := sWalk) l44 c44 k44
  have B44 := F44.binds (ps := ["self", "place", "write", "kernel"]) fun _ _ _ _ _ _ us hl => ba4 (fun _ _ _ _ => rfl) us hl
  have F45 := fun_mk (st := sReach) l45 c45 k45
  have B45 := F45.binds (ps := ["self", "place", "write", "kernel"]) fun _ _ _ _ _ _ us hl => ba4 (fun _ _ _ _ => rfl) us hl
  have F46 := fun_mk (st := sLoad) l46 c46 k46
  have B46 := F46.binds (ps := ["self", "place", "kernel"]) fun _ _ _ _ _ _ us hl => ba3 (fun _ _ _ => rfl) us hl
  have F47 := fun_mk (st := sTurn) l47 c47 k47
  have B47 := F47.binds (ps := ["self", "root"]) fun _ _ _ _ _ _ us hl => ba2 (fun _ _ => rfl) us hl
  have F48 := fun_mk (st := sSave) l48 c48 k48
  have B48 := F48.binds (ps := ["self", "place", "word", "kernel"]) fun _ _ _ _ _ _ us hl => ba4 (fun _ _ _ _ => rfl) us hl
  have F49 := fun_mk (st := sCell) l49 c49 k49
  have D49 : Dn K mg "_law_cell_at" sCell ["_law_script", "_law_k"] f49 _ := ⟨F49, PySem.W.mg_of X G a49, F49.binds (ps := ["_law_script", "_law_k"]) fun _ _ _ _ _ _ us hl => ba2 (fun _ _ => rfl) us hl⟩
  have F50 := fun_mk (st := sLWhole) l50 c50 k50
  have D50 : Dn K mg "_law_whole" sLWhole ["_law_found"] f50 _ := ⟨F50, PySem.W.mg_of X G a50, F50.binds (ps := ["_law_found"]) fun _ _ _ _ _ _ us hl => ba1 (fun _ => rfl) us hl⟩
  have F51 := fun_mk (st := sRow) l51 c51 k51
  have D51 : Dn K mg "_law_row_by" sRow ["_law_mixed", "_law_many"] f51 _ := ⟨F51, PySem.W.mg_of X G a51, F51.binds (ps := ["_law_mixed", "_law_many"]) fun _ _ _ _ _ _ us hl => ba2 (fun _ _ => rfl) us hl⟩
  have F52 := fun_mk (st := sThere) l52 c52 k52
  have D52 : Dn K mg "_law_there" sThere ["_law_pages_here", "_law_page"] f52 _ := ⟨F52, PySem.W.mg_of X G a52, F52.binds (ps := ["_law_pages_here", "_law_page"]) fun _ _ _ _ _ _ us hl => ba2 (fun _ _ => rfl) us hl⟩
  have F53 := fun_mk (st := sCopy) l53 c53 k53
  have D53 : Dn K mg "_law_copy" sCopy ["_law_pages_here"] f53 _ := ⟨F53, PySem.W.mg_of X G a53, F53.binds (ps := ["_law_pages_here"]) fun _ _ _ _ _ _ us hl => ba1 (fun _ => rfl) us hl⟩
  have F54 := fun_mk (st := sIsI) l54 c54 k54
  have D54 : Dn K mg "_law_is_image" sIsI ["_law_found", "_law_due"] f54 _ := ⟨F54, PySem.W.mg_of X G a54, F54.binds (ps := ["_law_found", "_law_due"]) fun _ _ _ _ _ _ us hl => ba2 (fun _ _ => rfl) us hl⟩
  have F55 := fun_mk (st := sPgs) l55 c55 k55
  have D55 : Dn K mg "_law_pages" sPgs ["_law_script"] f55 _ := ⟨F55, PySem.W.mg_of X G a55, F55.binds (ps := ["_law_script"]) fun _ _ _ _ _ _ us hl => ba1 (fun _ => rfl) us hl⟩
  have F56 := fun_mk (st := sPlace) l56 c56 k56
  have D56 : Dn K mg "_law_place" sPlace ["_law_cell"] f56 _ := ⟨F56, PySem.W.mg_of X G a56, F56.binds (ps := ["_law_cell"]) fun _ _ _ _ _ _ us hl => ba1 (fun _ => rfl) us hl⟩
  have F57 := fun_mk (st := sIsS) l57 c57 k57
  have D57 : Dn K mg "_law_is_shelf" sIsS ["_law_found", "_law_due"] f57 _ := ⟨F57, PySem.W.mg_of X G a57, F57.binds (ps := ["_law_found", "_law_due"]) fun _ _ _ _ _ _ us hl => ba2 (fun _ _ => rfl) us hl⟩
  have F58 := fun_mk (st := sAlike) l58 c58 k58
  have D58 : Dn K mg "_law_alike" sAlike ["_law_found", "_law_due"] f58 _ := ⟨F58, PySem.W.mg_of X G a58, F58.binds (ps := ["_law_found", "_law_due"]) fun _ _ _ _ _ _ us hl => ba2 (fun _ _ => rfl) us hl⟩
  have F59 := fun_mk (st := sWalkL) l59 c59 k59
  have D59 : Dn K mg "_law_walk" sWalkL ["_law_root", "_law_pages_here", "_law_place_here", "_law_write", "_law_kernel"] f59 _ := ⟨F59, PySem.W.mg_of X G a59, F59.binds (ps := ["_law_root", "_law_pages_here", "_law_place_here", "_law_write", "_law_kernel"]) fun _ _ _ _ _ _ us hl => ba5 (fun _ _ _ _ _ => rfl) us hl⟩
  have F60 := fun_mk (st := sMkd) l60 c60 k60
  have D60 : Dn K mg "_law_marked" sMkd ["_law_pages_here", "_law_trail", "_law_write"] f60 _ := ⟨F60, PySem.W.mg_of X G a60, F60.binds (ps := ["_law_pages_here", "_law_trail", "_law_write"]) fun _ _ _ _ _ _ us hl => ba3 (fun _ _ _ => rfl) us hl⟩
  have F61 := fun_mk (st := sRchL) l61 c61 k61
  have D61 : Dn K mg "_law_reach" sRchL ["_law_way", "_law_place_here", "_law_write", "_law_kernel"] f61 _ := ⟨F61, PySem.W.mg_of X G a61, F61.binds (ps := ["_law_way", "_law_place_here", "_law_write", "_law_kernel"]) fun _ _ _ _ _ _ us hl => ba4 (fun _ _ _ _ => rfl) us hl⟩
  have F62 := fun_mk (st := sDoL) l62 c62 k62
  have D62 : Dn K mg "_law_do" sDoL ["_law_way", "_law_place_here", "_law_word", "_law_write", "_law_kernel"] f62 _ := ⟨F62, PySem.W.mg_of X G a62, F62.binds (ps := ["_law_way", "_law_place_here", "_law_word", "_law_write", "_law_kernel"]) fun _ _ _ _ _ _ us hl => ba5 (fun _ _ _ _ _ => rfl) us hl⟩
  have F63 := fun_mk (st := sLaw) l63 c63 k63
  have D63 : Dn K mg "law" sLaw ["_law_script"] fa _ := ⟨F63, PySem.W.mg_of X G a63, F63.binds (ps := ["_law_script"]) fun _ _ _ _ _ _ us hl => ba1 (fun _ => rfl) us hl⟩
  have T : Txt K mg := ⟨PySem.W.mg_none_of X G z_isinstance, PySem.W.mg_none_of X G z_int, PySem.W.mg_none_of X G z_bool, PySem.W.mg_none_of X G z_list, PySem.W.mg_none_of X G z_len, PySem.W.mg_none_of X G z_all, PySem.W.mg_none_of X G z_range⟩
  have S0 : Sto K mg xC xNP xNL xNW xNI := ⟨⟨pg_C, hd_C, po_C, sa_C⟩, nh, ⟨tk0, PySem.W.mg_of X G v0⟩, ⟨tk1, PySem.W.mg_of X G v1⟩, ⟨tk2, PySem.W.mg_of X G v2⟩, PySem.W.mg_of X G n_NP, xi_NP, PySem.W.mg_of X G n_NL, xi_NL, PySem.W.mg_of X G n_NW, xi_NW, PySem.W.mg_of X G n_NI, xi_NI⟩
  have SS : Shf K mg xSC := ⟨⟨pg_SC, hd_SC, po_SC, sa_SC⟩, nmo, nse, ⟨tk3, PySem.W.mg_of X G v3⟩⟩
  have RR : Rws0 K mg := ⟨⟨tk4, PySem.W.mg_of X G v4⟩, ⟨tk5, PySem.W.mg_of X G v5⟩, ⟨tk6, PySem.W.mg_of X G v6⟩, ⟨tk7, PySem.W.mg_of X G v7⟩, ⟨tk8, PySem.W.mg_of X G v8⟩, ⟨tk9, PySem.W.mg_of X G v9⟩, ⟨tk10, PySem.W.mg_of X G v10⟩, ⟨tk11, PySem.W.mg_of X G v11⟩⟩
  have PC : Plc K xPL := ⟨⟨pg_PL, hd_PL, po_PL, sa_PL⟩, nme, nba, nra, nan⟩
  have FL : Flt K mg xFA f27 := ⟨⟨fsa, fov, fhd, fga, fgh, fmb⟩, nfk, nfp, nfl, fex, i27, PySem.W.mg_of X G n_FA⟩
  have XF : PySem.W.exmOne K (.ref xFA) (.ref xFA) = some true := fxm
  have M3_C : Me K xC "size" "Memory.size" sSize ["self"] f3 _ := ⟨F3, ⟨a3, i3, k3⟩, B3⟩
  have M4_C : Me K xC "has" "Memory.has" sHas ["self", "page"] f4 _ := ⟨F4, ⟨a4, i4, k4⟩, B4⟩
  have M5_C : Me K xC "word_at" "Memory.word_at" sWordAt ["self", "page", "cell"] f5 _ := ⟨F5, ⟨a5, i5, k5⟩, B5⟩
  have M6_C : Me K xC "put_word" "Memory.put_word" sPutWord ["self", "page", "cell", "word"] f6 _ := ⟨F6, ⟨a6, i6, k6⟩, B6⟩
  have M12_SC : Me K xSC "told" "Shelf.told" sSTold ["self"] f12 _ := ⟨F12, ⟨a12, i12, k12⟩, B12⟩
  have M13_PL : Me K xPL "size" "Plain.size" sPSize ["self"] f13 _ := ⟨F13, ⟨a13, i13, k13⟩, B13⟩
  have M14_PL : Me K xPL "has" "Plain.has" sPHas ["self", "page"] f14 _ := ⟨F14, ⟨a14, i14, k14⟩, B14⟩
  have M15_PL : Me K xPL "word_at" "Plain.word_at" sPWordAt ["self", "page", "cell"] f15 _ := ⟨F15, ⟨a15, i15, k15⟩, B15⟩
  have M16_PL : Me K xPL "root" "Ways.root" sRoot ["self"] f16 _ := ⟨F16, ⟨a16, i16, k16⟩, B16⟩
  have M17_PL : Me K xPL "shelf" "Ways.shelf" sShelf ["self"] f17 _ := ⟨F17, ⟨a17, i17, k17⟩, B17⟩
  have M18_PL : Me K xPL "words_of" "Store.words_of" sWords ["self", "page"] f18 _ := ⟨F18, ⟨a18, i18, k18⟩, B18⟩
  have M19_PL : Me K xPL "pages" "Ways.pages" sWPages ["self"] f19 _ := ⟨F19, ⟨a19, i19, k19⟩, B19⟩
  have M22_PL : Me K xPL "put_word" "Plain.put_word" sPPut ["self", "page", "cell", "word"] f22 _ := ⟨F22, ⟨a22, i22, k22⟩, B22⟩
  have M23_PL : Me K xPL "check_page" "Store.check_page" sCPage ["self", "page"] f23 _ := ⟨F23, ⟨a23, i23, k23⟩, B23⟩
  have M24_PL : Me K xPL "check_spot" "Store.check_spot" sSpot ["self", "page", "cell"] f24 _ := ⟨F24, ⟨a24, i24, k24⟩, B24⟩
  have M25_PL : Me K xPL "read" "Store.read" sRead ["self", "page", "cell"] f25 _ := ⟨F25, ⟨a25, i25, k25⟩, B25⟩
  have M26_PL : Me K xPL "write" "Store.write" sWrite ["self", "page", "cell", "word"] f26 _ := ⟨F26, ⟨a26, i26, k26⟩, B26⟩
  have M39_SC : Me K xSC "seek" "Shelf.seek" sSeek ["self", "number"] f39 _ := ⟨F39, ⟨a39, i39, k39⟩, B39⟩
  have M40_SC : Me K xSC "drop" "Shelf.drop" sSDrop ["self", "number"] f40 _ := ⟨F40, ⟨a40, i40, k40⟩, B40⟩
  have M41_SC : Me K xSC "keep" "Shelf.keep" sKeep ["self", "number", "page", "rights"] f41 _ := ⟨F41, ⟨a41, i41, k41⟩, B41⟩
  have M42_SC : Me K xSC "empty" "Shelf.empty" sEmpty ["self"] f42 _ := ⟨F42, ⟨a42, i42, k42⟩, B42⟩
  have M43_PL : Me K xPL "remembered" "Ways.remembered" sRem ["self", "place", "write", "kernel"] f43 _ := ⟨F43, ⟨a43, i43, k43⟩, B43⟩
  have M44_PL : Me K xPL "walked" "Ways.walked" sWalk ["self", "place", "write", "kernel"] f44 _ := ⟨F44, ⟨a44, i44, k44⟩, B44⟩
  have M45_PL : Me K xPL "reach" "Ways.reach" sReach ["self", "place", "write", "kernel"] f45 _ := ⟨F45, ⟨a45, i45, k45⟩, B45⟩
  have M46_PL : Me K xPL "load" "Ways.load" sLoad ["self", "place", "kernel"] f46 _ := ⟨F46, ⟨a46, i46, k46⟩, B46⟩
  have M47_PL : Me K xPL "turn_root" "Ways.turn_root" sTurn ["self", "root"] f47 _ := ⟨F47, ⟨a47, i47, k47⟩, B47⟩
  have M48_PL : Me K xPL "save" "Ways.save" sSave ["self", "place", "word", "kernel"] f48 _ := ⟨F48, ⟨a48, i48, k48⟩, B48⟩
  refine ⟨PySem.W.fnOf "law" "law" (defArgs sLaw) (defBody sLaw) (defScope sLaw) .none kV63 dc63 pm63 an63 cd63 ct63, fun s v => .of_eq rfl, fun base _ _ => ?_⟩
  have g0_whole : FnOk l.prog w K mg base CX0 1 f0 _ ["thing"] spWhole := ok_whole F0 T
  have g1_below : FnOk l.prog w K mg base CX0 2 f1 _ ["thing", "bound"] spBelow := ok_below F1 D0 T
  have g2_word : FnOk l.prog w K mg base CX0 3 f2 _ ["thing"] spWord := ok_word F2 D1 g1_below S0
  have g3_size : FnOk l.prog w K mg base CX0 1 f3 _ ["self"] (spSize xC) := ok_size F3 S0 T
  have g4_has : FnOk l.prog w K mg base CX0 3 f4 _ ["self", "page"] (spHas xC) := ok_has F4 D1 g1_below M3_C g3_size S0
  have g5_wordat : FnOk l.prog w K mg base CX0 1 f5 _ ["self", "page", "cell"] (spWordAt xC) := ok_wordat F5 S0
  have g6_putword : FnOk l.prog w K mg base CX0 1 f6 _ ["self", "page", "cell", "word"] (spPutWord xC) := ok_putword F6 S0
  have g7_cword : FnOk l.prog w K mg base (CXr l.prog w) 4 f7 _ ["word"] (spCWord xNW) := ok_cword F7 D2 g2_word S0
  have g8_eight : FnOk l.prog w K mg base CX0 4 f8 _ ["thing"] spEight := ok_eight F8 D2 g2_word S0 T
  have g9_image : FnOk l.prog w K mg base (CXr l.prog w) 5 f9 _ ["pages"] spImage := ok_image F9 D8 g8_eight S0 T
  have g10_init : FnOk l.prog w K mg base (CXr l.prog w) 6 f10 _ ["self", "pages"] (spInit xC) := ok_init F10 D9 g9_image S0 T
  have g11_sinit : FnOk l.prog w K mg base CX0 2 f11 _ ["self", "most"] (spSInit xSC) := ok_sinit F11 D0 g0_whole SS
  have g12_stold : FnOk l.prog w K mg base CX0 1 f12 _ ["self"] (spSTold xSC) := ok_stold F12 SS
  have g13_psz : FnOk l.prog w K mg base CX0 2 f13 _ ["self"] (spPSize xC xSC xPL) := ok_psz F13 M3_C g3_size S0 PC
  have g14_phas : FnOk l.prog w K mg base CX0 4 f14 _ ["self", "page"] (spPHas xC xSC xPL) := ok_phas F14 M4_C g4_has S0 PC
  have g15_pwat : FnOk l.prog w K mg base CX0 2 f15 _ ["self", "page", "cell"] (spPWordAt xC xSC xPL) := ok_pwat F15 M5_C g5_wordat S0 PC
  have g16_root : FnOk l.prog w K mg base CX0 1 f16 _ ["self"] (spRoot xC xSC xPL) := ok_root F16 PC
  have g17_shelf : FnOk l.prog w K mg base CX0 2 f17 _ ["self"] (spShelf xC xSC xPL) := ok_shelf F17 M12_SC g12_stold PC SS
  have g18_words : FnOk l.prog w K mg base CX0 3 f18 _ ["self", "page"] (spWords xC xSC xPL) := ok_words F18 M15_PL g15_pwat S0 PC T
  have g19_wpages : FnOk l.prog w K mg base CX0 5 f19 _ ["self"] (spWPages xC xSC xPL) := ok_wpages F19 M13_PL g13_psz M14_PL g14_phas M18_PL g18_words PC T
  have g20_winit : FnOk l.prog w K mg base CX0 4 f20 _ ["self", "most"] (spWInit xSC xPL) := ok_winit F20 ⟨mk_SC, a11, i11, kc_SC⟩ (PySem.W.mg_of X G n_SC) B11 g11_sinit PC
  have g21_plinit : FnOk l.prog w K mg base CX0 8 f21 _ ["self", "pages", "most", "words"] (spPInit xC xSC xPL) := ok_plinit F21 ⟨mk_C, a10, i10, kc_C⟩ (PySem.W.mg_of X G n_C) B10 g10_init ⟨sp_WC, rd_WC, a20, k20⟩ (PySem.W.mg_of X G n_WC) B20 g20_winit PC T
  have g22_pput : FnOk l.prog w K mg base CX0 2 f22 _ ["self", "page", "cell", "word"] (spPPut xC xSC xPL) := ok_pput F22 M6_C g6_putword S0 PC
  have g23_wcpage : FnOk l.prog w K mg base (CXr l.prog w) 5 f23 _ ["self", "page"] (spWCPage xC xSC xPL xNP) := ok_wcpage F23 M14_PL g14_phas S0 PC
  have g24_wspot : FnOk l.prog w K mg base (CXr l.prog w) 6 f24 _ ["self", "page", "cell"] (spWSpot xC xSC xPL xNP xNL) := ok_wspot F24 D1 g1_below M23_PL g23_wcpage S0 PC
  have g25_wread : FnOk l.prog w K mg base (CXr l.prog w) 7 f25 _ ["self", "page", "cell"] (spWRead xC xSC xPL xNP xNL) := ok_wread F25 M24_PL g24_wspot M15_PL g15_pwat PC
  have g26_wwrite : FnOk l.prog w K mg base (CXr l.prog w) 7 f26 _ ["self", "page", "cell", "word"] (spWWrite xC xSC xPL xNP xNL xNW) := ok_wwrite F26 M24_PL g24_wspot D7 g7_cword M22_PL g22_pput PC
  have g27_finit : FnOk l.prog w K mg base CX0 1 f27 _ ["self", "kind", "place", "level"] (spXI xFA 3 ffF) := ok_finit F27 FL
  have g28_pgof : FnOk l.prog w K mg base CX0 1 f28 _ ["row"] spPgOf := ok_pgof F28 RR
  have g29_rhas : FnOk l.prog w K mg base CX0 1 f29 _ ["row", "marks"] spRHas := ok_rhas F29 RR
  have g30_rput : FnOk l.prog w K mg base CX0 1 f30 _ ["row", "marks"] spRPut := ok_rput F30 RR
  have g31_rig : FnOk l.prog w K mg base CX0 1 f31 _ ["top_row", "low_row"] spRig := ok_rig F31 RR
  have g32_lets : FnOk l.prog w K mg base CX0 2 f32 _ ["rights", "write", "kernel"] spLets := ok_lets F32 D29 g29_rhas D30 g30_rput RR
  have g33_num : FnOk l.prog w K mg base CX0 3 f33 _ ["place"] spNum := ok_num F33 D1 g1_below RR
  have g34_parts : FnOk l.prog w K mg base CX0 4 f34 _ ["place"] spParts := ok_parts F34 D33 g33_num RR
  have g35_crow : FnOk l.prog w K mg base (CXr l.prog w) 5 f35 _ ["store", "row", "write", "kernel", "place", "level"] (spCRow xC xSC xPL xFA) := ok_crow F35 D29 g29_rhas D28 g28_pgof M14_PL g14_phas FL g27_finit B27 PC RR
  have g36_look : FnOk l.prog w K mg base (CXr l.prog w) 8 f36 _ ["store", "root", "place", "write", "kernel"] (spLook xC xSC xPL xFA) := ok_look F36 D34 g34_parts D28 g28_pgof D31 g31_rig M14_PL g14_phas M25_PL g25_wread D35 g35_crow FL g27_finit B27 PC RR
  have g37_putm : FnOk l.prog w K mg base CX0 8 f37 _ ["store", "spot", "marks"] (spPutM xC xSC xPL) := ok_putm F37 D29 g29_rhas D30 g30_rput M25_PL g25_wread M26_PL g26_wwrite PC RR
  have g38_mark : FnOk l.prog w K mg base CX0 9 f38 _ ["store", "trail", "write"] (spMark xC xSC xPL) := ok_mark F38 D37 g37_putm D30 g30_rput RR
  have g39_seek : FnOk l.prog w K mg base CX0 1 f39 _ ["self", "number"] (spSeek xSC) := ok_seek F39 SS
  have g40_sdrop : FnOk l.prog w K mg base CX0 1 f40 _ ["self", "number"] (spSDrop xSC) := ok_sdrop F40 SS
  have g41_keep : FnOk l.prog w K mg base CX0 2 f41 _ ["self", "number", "page", "rights"] (spKeep xSC) := ok_keep F41 M40_SC g40_sdrop SS T
  have g42_empty : FnOk l.prog w K mg base CX0 1 f42 _ ["self"] (spEmpty xSC) := ok_empty F42 SS
  have g43_rem : FnOk l.prog w K mg base CX0 5 f43 _ ["self", "place", "write", "kernel"] (spRem xC xSC xPL) := ok_rem F43 D1 g1_below D33 g33_num M39_SC g39_seek M14_PL g14_phas D32 g32_lets PC SS RR
  have g44_walk : FnOk l.prog w K mg base (CXr l.prog w) 10 f44 _ ["self", "place", "write", "kernel"] (spWalk xC xSC xPL xFA) := ok_walk F44 D36 g36_look D38 g38_mark D33 g33_num M41_SC g41_keep PC SS
  have g45_reach : FnOk l.prog w K mg base (CXr l.prog w) 11 f45 _ ["self", "place", "write", "kernel"] (spReach xC xSC xPL xFA) := ok_reach F45 M43_PL g43_rem M44_PL g44_walk PC
  have g46_load : FnOk l.prog w K mg base (CXr l.prog w) 12 f46 _ ["self", "place", "kernel"] (spLoad xC xSC xPL xFA) := ok_load F46 M45_PL g45_reach M25_PL g25_wread D34 g34_parts PC
  have g47_turn : FnOk l.prog w K mg base CX0 2 f47 _ ["self", "root"] (spTurn xC xSC xPL) := ok_turn F47 M42_SC g42_empty PC SS
  have g48_save : FnOk l.prog w K mg base (CXr l.prog w) 12 f48 _ ["self", "place", "word", "kernel"] (spSave xC xSC xPL xFA) := ok_save F48 D7 g7_cword M45_PL g45_reach M26_PL g26_wwrite D34 g34_parts PC
  have g49_cell : FnOk l.prog w K mg base CX0 1 f49 _ ["_law_script", "_law_k"] (spCell K) := ok_cell F49 T
  have g50_lwhole : FnOk l.prog w K mg base CX0 1 f50 _ ["_law_found"] spWhole := ok_lwhole F50 T
  have g51_row : FnOk l.prog w K mg base CX0 1 f51 _ ["_law_mixed", "_law_many"] spRow := ok_row F51
  have g52_there : FnOk l.prog w K mg base CX0 1 f52 _ ["_law_pages_here", "_law_page"] spThere := ok_there F52 T
  have g53_copy : FnOk l.prog w K mg base CX0 1 f53 _ ["_law_pages_here"] spCopy := ok_copy F53 T
  have g54_isi : FnOk l.prog w K mg base CX0 2 f54 _ ["_law_found", "_law_due"] spIsI := ok_isi F54 D50 g50_lwhole T
  have g55_pages : FnOk l.prog w K mg base CX0 2 f55 _ ["_law_script"] (spPgs K) := ok_pages F55 D49 g49_cell D51 g51_row T
  have g56_place : FnOk l.prog w K mg base CX0 1 f56 _ ["_law_cell"] spPlace := ok_place F56 T
  have g57_iss : FnOk l.prog w K mg base CX0 2 f57 _ ["_law_found", "_law_due"] spIsS := ok_iss F57 D50 g50_lwhole T (PySem.W.mg_none_of X G z_tuple)
  have g58_alike : FnOk l.prog w K mg base CX0 2 f58 _ ["_law_found", "_law_due"] spAlike := ok_alike F58 D50 g50_lwhole T (PySem.W.mg_none_of X G z_tuple)
  have g59_walkl : FnOk l.prog w K mg base CX0 2 f59 _ ["_law_root", "_law_pages_here", "_law_place_here", "_law_write", "_law_kernel"] spWalkL := ok_walkl F59 D52 g52_there T
  have g60_mkd : FnOk l.prog w K mg base CX0 1 f60 _ ["_law_pages_here", "_law_trail", "_law_write"] spMkd := ok_mkd F60 T
  have g61_rchl : FnOk l.prog w K mg base CX0 12 f61 _ ["_law_way", "_law_place_here", "_law_write", "_law_kernel"] (spRchL xC xSC xPL) := ok_rchl F61 M45_PL g45_reach PC FL XF
  have g62_dol : FnOk l.prog w K mg base CX0 13 f62 _ ["_law_way", "_law_place_here", "_law_word", "_law_write", "_law_kernel"] (spDoL xC xSC xPL) := ok_dol F62 M46_PL g46_load M48_PL g48_save PC FL XF
  exact ok_law F63 D49 g49_cell D55 g55_pages D56 g56_place D53 g53_copy D59 g59_walkl D60 g60_mkd D58 g58_alike D61 g61_rchl D54 g54_isi D57 g57_iss D62 g62_dol M47_PL g47_turn M19_PL g19_wpages M17_PL g17_shelf M16_PL g16_root ⟨mk_PL, a21, i21, kc_PL⟩ (PySem.W.mg_of X G n_PL) B21 g21_plinit PC T
theorem walk {l : PySem.W.OpenLaw} {q : Program} {loose : List Str} {XP : (Str → Option Value) → Heap → Prop} {YP : World → Heap → Prop} {d : DefRec} {K : Params → PySem.W.Frag} (hn : l.most = some 63) (hdf : d.params.defaults = [])
    (hY : ∀ (w : World) (h : Heap), YP w h → (K w.params).In h)
    (F : ∀ (w : World) (mg : Str → Option Value) (fa : Addr) (h : Heap), (K w.params).In h → h.Ns mainGlobals mg → mg d.name = some (.ref fa) →
      ∃ fd : FuncData, (∀ (s : Shared) (u : Value), BindsTo s fd ⟨[u], []⟩ [("_law_script", u)]) ∧ ∀ base : Heap, (K w.params).In base → base.Ns mainGlobals mg → FnOk l.prog w (K w.params) mg base CX0 14 fa fd ["_law_script"] (spLaw (K w.params))) :
    PySem.W.WalkO q loose XP YP l.row.toRowW d [] (fun f vs => PySem.call f vs) :=
  L2.walk_of (n := 63) (k := 14) (x := "_law_script") (CX := fun _ => CX0) (sp := fun w => spLaw (K w.params)) hn (by decide) hdf ⟨rfl, by decide, by decide⟩ hY F (fun _ _ a ns hl _ hS => ⟨a, ns, rfl, hS, hl, fun _ => rfl⟩) fun _ _ _ _ _ z => z
end K25
open PySem PySem.W PyProof.Rows
set_option maxRecDepth 100000 in
set_option maxHeartbeats 0 in
theorem PySem.Challenge.cw_shadowpages_k25_one_reach_holds : PySem.Challenge.rw_shadowpages_k25_one_reach.Holds := by
  w_on; o_law
  refine holds_open (q := K25.vw) (loose := []) (Xt := fun s => xlAt K25.vw [] s && recOk [] s) (XP := XL K25.vw []) (Yf := Hook.obs (kHook K25.KF K25.asF K25.hF)) (Ya := Hook.val (kHook K25.KF K25.asF K25.hF)) (YP := Hook.says (kHook K25.KF K25.asF K25.hF)) (N := 10878) ?hl (Hook.of (kHook K25.KF K25.asF K25.hF)) (Hook.keeps (kHook K25.KF K25.asF K25.hF)) (fun s e => xl_of s (Bool.and_eq_true_iff.mp e).1) XL.keeps (by rfl) (by rfl) (by rfl) (fun s e => recFacts_of (Bool.and_eq_true_iff.mp e).2) (by rfl) (by first | assumption | decide +kernel) (by decide +kernel) ⟨rfl, rfl, rfl, rfl, rfl, by decide +kernel⟩ ?hw ?hc
  case hl => exact K25.hl
  case hw => w_witness2
  k_fill
  refine K25.walk (l := PySem.Challenge.rw_shadowpages_k25_one_reach) rfl rfl (fun w h Y => PySem.W.kIn_of Y) ?F
  case F =>
    intro w mg fa h KX G hmg
    refine' K25.all_mk KX G hmg ?n_C ?n_SC ?n_PL ?n_WC ?n_NP ?n_NL ?n_NW ?n_NI ?n_FA ?a0 ?l0 ?c0 ?k0 ?a1 ?l1 ?c1 ?k1 ?a2 ?l2 ?c2 ?k2 ?a3 ?l3 ?c3 ?k3 ?a4 ?l4 ?c4 ?k4 ?a5 ?l5 ?c5 ?k5 ?a6 ?l6 ?c6 ?k6 ?a7 ?l7 ?c7 ?k7 ?a8 ?l8 ?c8 ?k8 ?a9 ?l9 ?c9 ?k9 ?a10 ?l10 ?c10 ?k10 ?a11 ?l11 ?c11 ?k11 ?a12 ?l12 ?c12 ?k12 ?a13 ?l13 ?c13 ?k13 ?a14 ?l14 ?c14 ?k14 ?a15 ?l15 ?c15 ?k15 ?a16 ?l16 ?c16 ?k16 ?a17 ?l17 ?c17 ?k17 ?a18 ?l18 ?c18 ?k18 ?a19 ?l19 ?c19 ?k19 ?a20 ?l20 ?c20 ?k20 ?a21 ?l21 ?c21 ?k21 ?a22 ?l22 ?c22 ?k22 ?a23 ?l23 ?c23 ?k23 ?a24 ?l24 ?c24 ?k24 ?a25 ?l25 ?c25 ?k25 ?a26 ?l26 ?c26 ?k26 ?a27 ?l27 ?c27 ?k27 ?a28 ?l28 ?c28 ?k28 ?a29 ?l29 ?c29 ?k29 ?a30 ?l30 ?c30 ?k30 ?a31 ?l31 ?c31 ?k31 ?a32 ?l32 ?c32 ?k32 ?a33 ?l33 ?c33 ?k33 ?a34 ?l34 ?c34 ?k34 ?a35 ?l35 ?c35 ?k35 ?a36 ?l36 ?c36 ?k36 ?a37 ?l37 ?c37 ?k37 ?a38 ?l38 ?c38 ?k38 ?a39 ?l39 ?c39 ?k39 ?a40 ?l40 ?c40 ?k40 ?a41 ?l41 ?c41 ?k41 ?a42 ?l42 ?c42 ?k42 ?a43 ?l43 ?c43 ?k43 ?a44 ?l44 ?c44 ?k44 ?a45 ?l45 ?c45 ?k45 ?a46 ?l46 ?c46 ?k46 ?a47 ?l47 ?c47 ?k47 ?a48 ?l48 ?c48 ?k48 ?a49 ?l49 ?c49 ?k49 ?a50 ?l50 ?c50 ?k50 ?a51 ?l51 ?c51 ?k51 ?a52 ?l52 ?c52 ?k52 ?a53 ?l53 ?c53 ?k53 ?a54 ?l54 ?c54 ?k54 ?a55 ?l55 ?c55 ?k55 ?a56 ?l56 ?c56 ?k56 ?a57 ?l57 ?c57 ?k57 ?a58 ?l58 ?c58 ?k58 ?a59 ?l59 ?c59 ?k59 ?a60 ?l60 ?c60 ?k60 ?a61 ?l61 ?c61 ?k61 ?a62 ?l62 ?c62 ?k62 ?a63 ?l63 ?c63 ?k63 ?v0 ?v1 ?v2 ?v3 ?v4 ?v5 ?v6 ?v7 ?v8 ?v9 ?v10 ?v11 ?z_isinstance ?z_int ?z_bool ?z_list ?z_len ?z_all ?z_range ?z_tuple ?xi_NP ?xi_NL ?xi_NW ?xi_NI ?nh ?nmo ?nse ?nme ?nba ?nra ?nan ?nfk ?nfp ?nfl ?fsa ?fov ?fhd ?fga ?fgh ?fmb ?fxm ?fex ?i3 ?i4 ?i5 ?i6 ?i10 ?i11 ?i12 ?i13 ?i14 ?i15 ?i16 ?i17 ?i18 ?i19 ?i21 ?i22 ?i23 ?i24 ?i25 ?i26 ?i27 ?i39 ?i40 ?i41 ?i42 ?i43 ?i44 ?i45 ?i46 ?i47 ?i48 ?pg_C ?hd_C ?po_C ?sa_C ?pg_PL ?hd_PL ?po_PL ?sa_PL ?pg_SC ?hd_SC ?po_SC ?sa_SC ?mk_C ?kc_C ?mk_PL ?kc_PL ?mk_SC ?kc_SC ?sp_WC ?rd_WC
    (case n_C => k_is)
    (case n_SC => k_is)
    (case n_PL => k_is)
    (case n_WC => k_is)
    (case n_NP => k_is)
    (case n_NL => k_is)
    (case n_NW => k_is)
    (case n_NI => k_is)
    (case n_FA => k_is)
    (case a0 => k_is)
    (case l0 => k_is)
    (case c0 => k_is)
    (case k0 => k_is)
    (case a1 => k_is)
    (case l1 => k_is)
    (case c1 => k_is)
    (case k1 => k_is)
    (case a2 => k_is)
    (case l2 => k_is)
    (case c2 => k_is)
    (case k2 => k_is)
    (case a3 => k_is)
    (case l3 => k_is)
    (case c3 => k_is)
    (case k3 => k_is)
    (case a4 => k_is)
    (case l4 => k_is)
    (case c4 => k_is)
    (case k4 => k_is)
    (case a5 => k_is)
    (case l5 => k_is)
    (case c5 => k_is)
    (case k5 => k_is)
    (case a6 => k_is)
    (case l6 => k_is)
    (case c6 => k_is)
    (case k6 => k_is)
    (case a7 => k_is)
    (case l7 => k_is)
    (case c7 => k_is)
    (case k7 => k_is)
    (case a8 => k_is)
    (case l8 => k_is)
    (case c8 => k_is)
    (case k8 => k_is)
    (case a9 => k_is)
    (case l9 => k_is)
    (case c9 => k_is)
    (case k9 => k_is)
    (case a10 => k_is)
    (case l10 => k_is)
    (case c10 => k_is)
    (case k10 => k_is)
    (case a11 => k_is)
    (case l11 => k_is)
    (case c11 => k_is)
    (case k11 => k_is)
    (case a12 => k_is)
    (case l12 => k_is)
    (case c12 => k_is)
    (case k12 => k_is)
    (case a13 => k_is)
    (case l13 => k_is)
    (case c13 => k_is)
    (case k13 => k_is)
    (case a14 => k_is)
    (case l14 => k_is)
    (case c14 => k_is)
    (case k14 => k_is)
    (case a15 => k_is)
    (case l15 => k_is)
    (case c15 => k_is)
    (case k15 => k_is)
    (case a16 => k_is)
    (case l16 => k_is)
    (case c16 => k_is)
    (case k16 => k_is)
    (case a17 => k_is)
    (case l17 => k_is)
    (case c17 => k_is)
    (case k17 => k_is)
    (case a18 => k_is)
    (case l18 => k_is)
    (case c18 => k_is)
    (case k18 => k_is)
    (case a19 => k_is)
    (case l19 => k_is)
    (case c19 => k_is)
    (case k19 => k_is)
    (case a20 => k_is)
    (case l20 => k_is)
    (case c20 => k_is)
    (case k20 => k_is)
    (case a21 => k_is)
    (case l21 => k_is)
    (case c21 => k_is)
    (case k21 => k_is)
    (case a22 => k_is)
    (case l22 => k_is)
    (case c22 => k_is)
    (case k22 => k_is)
    (case a23 => k_is)
    (case l23 => k_is)
    (case c23 => k_is)
    (case k23 => k_is)
    (case a24 => k_is)
    (case l24 => k_is)
    (case c24 => k_is)
    (case k24 => k_is)
    (case a25 => k_is)
    (case l25 => k_is)
    (case c25 => k_is)
    (case k25 => k_is)
    (case a26 => k_is)
    (case l26 => k_is)
    (case c26 => k_is)
    (case k26 => k_is)
    (case a27 => k_is)
    (case l27 => k_is)
    (case c27 => k_is)
    (case k27 => k_is)
    (case a28 => k_is)
    (case l28 => k_is)
    (case c28 => k_is)
    (case k28 => k_is)
    (case a29 => k_is)
    (case l29 => k_is)
    (case c29 => k_is)
    (case k29 => k_is)
    (case a30 => k_is)
    (case l30 => k_is)
    (case c30 => k_is)
    (case k30 => k_is)
    (case a31 => k_is)
    (case l31 => k_is)
    (case c31 => k_is)
    (case k31 => k_is)
    (case a32 => k_is)
    (case l32 => k_is)
    (case c32 => k_is)
    (case k32 => k_is)
    (case a33 => k_is)
    (case l33 => k_is)
    (case c33 => k_is)
    (case k33 => k_is)
    (case a34 => k_is)
    (case l34 => k_is)
    (case c34 => k_is)
    (case k34 => k_is)
    (case a35 => k_is)
    (case l35 => k_is)
    (case c35 => k_is)
    (case k35 => k_is)
    (case a36 => k_is)
    (case l36 => k_is)
    (case c36 => k_is)
    (case k36 => k_is)
    (case a37 => k_is)
    (case l37 => k_is)
    (case c37 => k_is)
    (case k37 => k_is)
    (case a38 => k_is)
    (case l38 => k_is)
    (case c38 => k_is)
    (case k38 => k_is)
    (case a39 => k_is)
    (case l39 => k_is)
    (case c39 => k_is)
    (case k39 => k_is)
    (case a40 => k_is)
    (case l40 => k_is)
    (case c40 => k_is)
    (case k40 => k_is)
    (case a41 => k_is)
    (case l41 => k_is)
    (case c41 => k_is)
    (case k41 => k_is)
    (case a42 => k_is)
    (case l42 => k_is)
    (case c42 => k_is)
    (case k42 => k_is)
    (case a43 => k_is)
    (case l43 => k_is)
    (case c43 => k_is)
    (case k43 => k_is)
    (case a44 => k_is)
    (case l44 => k_is)
    (case c44 => k_is)
    (case k44 => k_is)
    (case a45 => k_is)
    (case l45 => k_is)
    (case c45 => k_is)
    (case k45 => k_is)
    (case a46 => k_is)
    (case l46 => k_is)
    (case c46 => k_is)
    (case k46 => k_is)
    (case a47 => k_is)
    (case l47 => k_is)
    (case c47 => k_is)
    (case k47 => k_is)
    (case a48 => k_is)
    (case l48 => k_is)
    (case c48 => k_is)
    (case k48 => k_is)
    (case a49 => k_is)
    (case l49 => k_is)
    (case c49 => k_is)
    (case k49 => k_is)
    (case a50 => k_is)
    (case l50 => k_is)
    (case c50 => k_is)
    (case k50 => k_is)
    (case a51 => k_is)
    (case l51 => k_is)
    (case c51 => k_is)
    (case k51 => k_is)
    (case a52 => k_is)
    (case l52 => k_is)
    (case c52 => k_is)
    (case k52 => k_is)
    (case a53 => k_is)
    (case l53 => k_is)
    (case c53 => k_is)
    (case k53 => k_is)
    (case a54 => k_is)
    (case l54 => k_is)
    (case c54 => k_is)
    (case k54 => k_is)
    (case a55 => k_is)
    (case l55 => k_is)
    (case c55 => k_is)
    (case k55 => k_is)
    (case a56 => k_is)
    (case l56 => k_is)
    (case c56 => k_is)
    (case k56 => k_is)
    (case a57 => k_is)
    (case l57 => k_is)
    (case c57 => k_is)
    (case k57 => k_is)
    (case a58 => k_is)
    (case l58 => k_is)
    (case c58 => k_is)
    (case k58 => k_is)
    (case a59 => k_is)
    (case l59 => k_is)
    (case c59 => k_is)
    (case k59 => k_is)
    (case a60 => k_is)
    (case l60 => k_is)
    (case c60 => k_is)
    (case k60 => k_is)
    (case a61 => k_is)
    (case l61 => k_is)
    (case c61 => k_is)
    (case k61 => k_is)
    (case a62 => k_is)
    (case l62 => k_is)
    (case c62 => k_is)
    (case k62 => k_is)
    (case a63 => k_is)
    (case l63 => k_is)
    (case c63 => k_is)
    (case k63 => k_is)
    (case v0 => k_is)
    (case v1 => k_is)
    (case v2 => k_is)
    (case v3 => k_is)
    (case v4 => k_is)
    (case v5 => k_is)
    (case v6 => k_is)
    (case v7 => k_is)
    (case v8 => k_is)
    (case v9 => k_is)
    (case v10 => k_is)
    (case v11 => k_is)
    (case z_isinstance => k_is)
    (case z_int => k_is)
    (case z_bool => k_is)
    (case z_list => k_is)
    (case z_len => k_is)
    (case z_all => k_is)
    (case z_range => k_is)
    (case z_tuple => k_is)
    (case xi_NP => kernel_rfl)
    (case xi_NL => kernel_rfl)
    (case xi_NW => kernel_rfl)
    (case xi_NI => kernel_rfl)
    (case nh => k_is)
    (case nmo => k_is)
    (case nse => k_is)
    (case nme => k_is)
    (case nba => k_is)
    (case nra => k_is)
    (case nan => k_is)
    (case nfk => k_is)
    (case nfp => k_is)
    (case nfl => k_is)
    (case fsa => k_is)
    (case fov => kernel_rfl)
    (case fhd => k_is)
    (case fga => k_is)
    (case fgh => k_is)
    (case fmb => k_is)
    (case fxm => kernel_rfl)
    (case fex => kernel_rfl)
    (case i3 => k_is)
    (case i4 => k_is)
    (case i5 => k_is)
    (case i6 => k_is)
    (case i10 => k_is)
    (case i11 => k_is)
    (case i12 => k_is)
    (case i13 => k_is)
    (case i14 => k_is)
    (case i15 => k_is)
    (case i16 => k_is)
    (case i17 => k_is)
    (case i18 => k_is)
    (case i19 => k_is)
    (case i21 => k_is)
    (case i22 => k_is)
    (case i23 => k_is)
    (case i24 => k_is)
    (case i25 => k_is)
    (case i26 => k_is)
    (case i27 => k_is)
    (case i39 => k_is)
    (case i40 => k_is)
    (case i41 => k_is)
    (case i42 => k_is)
    (case i43 => k_is)
    (case i44 => k_is)
    (case i45 => k_is)
    (case i46 => k_is)
    (case i47 => k_is)
    (case i48 => k_is)
    (case pg_C => k_is)
    (case hd_C => k_is)
    (case po_C => k_is)
    (case sa_C => k_is)
    (case pg_PL => k_is)
    (case hd_PL => k_is)
    (case po_PL => k_is)
    (case sa_PL => k_is)
    (case pg_SC => k_is)
    (case hd_SC => k_is)
    (case po_SC => k_is)
    (case sa_SC => k_is)
    (case mk_C => k_is)
    (case kc_C => k_is)
    (case mk_PL => k_is)
    (case kc_PL => k_is)
    (case mk_SC => k_is)
    (case kc_SC => k_is)
    (case sp_WC => k_is)
    (case rd_WC => k_is)
end
