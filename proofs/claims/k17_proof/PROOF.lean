import PyProof.Rows.All
import Wide.All
import OpenK.AllK
import Wide.FinOn
import Lean
import PyProof.EqAt
import PyProof.EqKinds
import PyProof.TupleCall
import PySem.Challenge.RW_shadowpages_k17_whole_walks
set_option Elab.async false
set_option linter.all false
set_option maxRecDepth 100000
set_option maxHeartbeats 4000000
section
namespace L2
open PySem
def inClass (s : Stmt) (j : Nat) : Stmt := match s with
  | .ClassDef _ _ _ body _ _ _ _ _ _ _ => body.getD j (.Pass ⟨0, 0, 0, 0⟩)
  | _ => .Pass ⟨0, 0, 0, 0⟩
def defArgs (s : Stmt) : Arguments := match s with
  | .FunctionDef _ a _ _ _ _ _ _ _ _ => a
  | _ => { posonlyargs := [], args := [], vararg := none, kwonlyargs := [], kw_defaults := [], kwarg := none, defaults := [] }
def defBody (s : Stmt) : List Stmt := match s with
  | .FunctionDef _ _ b _ _ _ _ _ _ _ => b
  | _ => []
def defScope (s : Stmt) : Scope := match s with
  | .FunctionDef _ _ _ _ _ _ sc _ _ _ => sc
  | _ => { kind := .function, names := [], isGenerator := false, isCoroutine := false }
end L2
end
section
namespace HT1
open PySem PySem.W PyProof.Rows
def topRunT (tb : String → Option Builtin) (p : Program) (w : World) (n₀ : Nat) (ann : Option Value) : Nat → SharedT → Thread → Option SharedT
  | 0, _, _ => none
  | n + 1, s, t => match through t with
    | true => some s
    | false => match stepOk n₀ ann t with
      | false => none
      | true => match stepT (denote tb) p w s t with
        | some (s', t') => topRunT tb p w n₀ ann n s' t'
        | none => none
theorem topRun_of {tb : String → Option Builtin} {p : Program} {w : World} {n₀ : Nat} {ann : Option Value} : ∀ {n : Nat} {s s' : SharedT} {t : Thread}, topRunT tb p w n₀ ann n s t = some s' → topRun tb p w n₀ ann n s.abs t = some s'.abs
  | 0, _, _, _, h => by cases h
  | n + 1, s, s', t, h => by
    unfold topRunT at h
    unfold topRun
    cases ht : through t with
    | true => rw [ht] at h; cases h; rfl
    | false =>
      rw [ht] at h
      cases hk : stepOk n₀ ann t with
      | false => rw [hk] at h; cases h
      | true =>
        rw [hk] at h
        cases hs : stepT (denote tb) p w s t with
        | none => rw [hs] at h; cases h
        | some r => obtain ⟨s₂, t₂⟩ := r; rw [hs] at h; rw [stepT_spec hs]; exact topRun_of h
def ofL : List Obj → Nat → BT → BT
  | [], _, t => t
  | o :: l, n, t => ofL l (n + 1) (t.ins n o)
noncomputable def bootT (P : Params) : BT := ofL (boot_heap P).objs.toList 0 .nil
def bootN : Nat := 11
noncomputable def bootS (w : World) (os : OsState) : SharedT := ⟨bootT w.params, bootN, (boot_heap w.params).life, Array.mk [], boot_drawn, boot_toks, os⟩
theorem boot_size (w : World) : ((boot_heap w.params).isNs mainGlobals && (Array.mk [] : Array GenState).size == 0, (boot_heap w.params).objs.size, (boot_heap w.params).nsMap mainGlobals "__annotations__") = (true, 11, some (.ref 6)) := by kernel_rfl
theorem boot_abs (w : World) (os : OsState) : (bootS w os).abs = ⟨boot_heap w.params, Array.mk [], boot_drawn, boot_toks, os⟩ := by kernel_rfl
noncomputable def lookT {α : Type} (p q : Program) (loose : List Str) (Xt : Shared → Bool) (Yf : Shared → α) (N : Nat) (g0 : Bool) (w : World) (os : OsState) :=
  (topRunT treeTable p w 11 (some (.ref 6)) N (bootS w os) (topStub p)).map fun s =>
    ((staticsOk (importedModules p.main.body) (boot_heap w.params) s.abs.heap && namesBound p s.abs.heap && gensDone s.abs && laidKept (boot_heap w.params) s.abs.heap),
      openSeen q loose (importedModules p.main.body) Xt g0 s.abs, Yf s.abs)
theorem left_one {p q : Program} {loose : List Str} {Xt : Shared → Bool} {α : Type} {Yf : Shared → α} {Ya : World → α} {N : Nat} {g0 : Bool}
    (e : opening p = plainProg p.main.scope.names) (hN : Nat.ble 600 N = true) (f : ∀ s, fenceModules? p s = some s)
    (looks : ∀ w : World, (fun os => lookT p q loose Xt Yf N g0 w os) = fun _ => some (true, openGood q loose, Ya w)) : LeftO p q loose Xt Yf Ya N g0 := fun w => by
  obtain ⟨⟨h, gs, d, k, os⟩, eo, e'⟩ := Option.map_eq_some_iff.mp (boot_open e hN f w)
  obtain ⟨rfl, rfl, rfl, rfl⟩ : h = boot_heap w.params ∧ gs = Array.mk [] ∧ d = boot_drawn ∧ k = boot_toks := by simpa using e'
  obtain ⟨z1, z2, z3⟩ : _ ∧ _ ∧ _ := by simpa only [Prod.mk.injEq] using boot_size w
  obtain ⟨s1, r1, l⟩ := Option.map_eq_some_iff.mp (congrFun (looks w) os)
  obtain ⟨l1, l2, l3⟩ : _ ∧ _ ∧ _ := by simpa only [Prod.mk.injEq] using l
  have r := topRun_of r1
  rw [boot_abs] at r
  have t : topFrom treeTable p w N ⟨boot_heap w.params, Array.mk [], boot_drawn, boot_toks, os⟩ = some s1.abs := by
    unfold topFrom
    dsimp only
    rw [z1, z2, z3, r]
    show (match staticsOk (importedModules p.main.body) (boot_heap w.params) s1.abs.heap && namesBound p s1.abs.heap && gensDone s1.abs && laidKept (boot_heap w.params) s1.abs.heap with | true => _ | false => _) = _
    rw [l1]
  unfold openEnds
  rw [eo]
  show (topFrom treeTable p w N _).map _ = _
  rw [t]
  exact congrArg some (Prod.ext l2 l3)
end HT1
lay_quick HT1.lookT PySem.W.xlAt PySem.W.recOk PySem.W.openGood
end
section
open PySem PySem.W PyProof.Rows
namespace K17
open PySem L2
def top (i : Nat) : Stmt := PySem.Challenge.pw_shadowpages_k17_whole_walks.main.body.getD i (.Pass ⟨0, 0, 0, 0⟩)
def KF (P : Params) : PySem.W.Frag :=
  (nat_lit 2, ⟨.none, none, (.dict #[] 0), #[]⟩) ::
  (nat_lit 3, ⟨(.type "dict"), none, (.dict #[⟨(PyData.keyHash P "__name__"), (.str "__name__" 165), (.str "law_shadowpages_k17_whole_walks" 653)⟩, ⟨(PyData.keyHash P "__doc__"), (.str "__doc__" 166), .none⟩, ⟨(PyData.keyHash P "__package__"), (.str "__package__" 167), .none⟩, ⟨(PyData.keyHash P "__loader__"), (.str "__loader__" 168), (.builtin "__main__.__loader__#opaque")⟩, ⟨(PyData.keyHash P "__spec__"), (.str "__spec__" 169), .none⟩, ⟨(PyData.keyHash P "__annotations__"), (.str "__annotations__" 170), (.ref 6)⟩, ⟨(PyData.keyHash P "__builtins__"), (.str "__builtins__" 171), (.ref 4)⟩, ⟨(PyData.keyHash P "__file__"), (.str "__file__" 173), (.str "/claim/cut.py" 172)⟩, ⟨(PyData.keyHash P "__cached__"), (.str "__cached__" 174), .none⟩, ⟨(PyData.keyHash P "_wall"), (.str "_wall" 193), (.ref 21)⟩, ⟨(PyData.keyHash P "WORDS"), (.str "WORDS" 195), (.int 281474976710656 194)⟩, ⟨(PyData.keyHash P "MARKS"), (.str "MARKS" 197), (.int 256 196)⟩, ⟨(PyData.keyHash P "PARTS"), (.str "PARTS" 199), (.int 8 198)⟩, ⟨(PyData.keyHash P "PLACES"), (.str "PLACES" 201), (.int 512 200)⟩, ⟨(PyData.keyHash P "CELLS"), (.str "CELLS" 203), (.int 8 202)⟩, ⟨(PyData.keyHash P "MOST_PAGES"), (.str "MOST_PAGES" 205), (.int 24 204)⟩, ⟨(PyData.keyHash P "HouseError"), (.str "HouseError" 225), (.ref 31)⟩, ⟨(PyData.keyHash P "NoWord"), (.str "NoWord" 241), (.ref 44)⟩, ⟨(PyData.keyHash P "NoPlace"), (.str "NoPlace" 257), (.ref 56)⟩, ⟨(PyData.keyHash P "NoPage"), (.str "NoPage" 273), (.ref 68)⟩, ⟨(PyData.keyHash P "NoImage"), (.str "NoImage" 289), (.ref 80)⟩, ⟨(PyData.keyHash P "Fault"), (.str "Fault" 318), (.ref 99)⟩, ⟨(PyData.keyHash P "is_whole"), (.str "is_whole" 327), (.ref 108)⟩, ⟨(PyData.keyHash P "is_below"), (.str "is_below" 335), (.ref 115)⟩, ⟨(PyData.keyHash P "is_word"), (.str "is_word" 342), (.ref 122)⟩, ⟨(PyData.keyHash P "parts_of"), (.str "parts_of" 352), (.ref 129)⟩, ⟨(PyData.keyHash P "number_of"), (.str "number_of" 359), (.ref 136)⟩, ⟨(PyData.keyHash P "PRESENT"), (.str "PRESENT" 363), (.int 1 362)⟩, ⟨(PyData.keyHash P "WRITABLE"), (.str "WRITABLE" 365), (.int 2 364)⟩, ⟨(PyData.keyHash P "KERNEL"), (.str "KERNEL" 367), (.int 4 366)⟩, ⟨(PyData.keyHash P "TOUCHED"), (.str "TOUCHED" 369), (.int 8 368)⟩, ⟨(PyData.keyHash P "SOILED"), (.str "SOILED" 371), (.int 16 370)⟩, ⟨(PyData.keyHash P "page_of"), (.str "page_of" 378), (.ref 143)⟩, ⟨(PyData.keyHash P "has"), (.str "has" 386), (.ref 150)⟩, ⟨(PyData.keyHash P "put"), (.str "put" 394), (.ref 157)⟩, ⟨(PyData.keyHash P "look"), (.str "look" 412), (.ref 164)⟩, ⟨(PyData.keyHash P "check_row"), (.str "check_row" 424), (.ref 171)⟩, ⟨(PyData.keyHash P "rights_of"), (.str "rights_of" 432), (.ref 178)⟩, ⟨(PyData.keyHash P "mark"), (.str "mark" 441), (.ref 185)⟩, ⟨(PyData.keyHash P "put_marks"), (.str "put_marks" 451), (.ref 192)⟩, ⟨(PyData.keyHash P "is_eight_words"), (.str "is_eight_words" 459), (.ref 197)⟩, ⟨(PyData.keyHash P "check_image"), (.str "check_image" 467), (.ref 204)⟩, ⟨(PyData.keyHash P "check_word"), (.str "check_word" 474), (.ref 211)⟩, ⟨(PyData.keyHash P "Store"), (.str "Store" 572), (.ref 284)⟩, ⟨(PyData.keyHash P "Memory"), (.str "Memory" 652), (.ref 350)⟩, ⟨(PyData.keyHash P "_law_cell_at"), (.str "_law_cell_at" 662), (.ref 359)⟩, ⟨(PyData.keyHash P "_law_whole"), (.str "_law_whole" 669), (.ref 366)⟩, ⟨(PyData.keyHash P "_law_mixed"), (.str "_law_mixed" 678), (.ref 373)⟩, ⟨(PyData.keyHash P "_law_row"), (.str "_law_row" 691), (.ref 380)⟩, ⟨(PyData.keyHash P "_law_rows"), (.str "_law_rows" 697), (.ref 385)⟩, ⟨(PyData.keyHash P "_law_there"), (.str "_law_there" 705), (.ref 392)⟩, ⟨(PyData.keyHash P "_law_lack"), (.str "_law_lack" 715), (.ref 399)⟩, ⟨(PyData.keyHash P "_law_faulty"), (.str "_law_faulty" 728), (.ref 406)⟩, ⟨(PyData.keyHash P "_law_leads"), (.str "_law_leads" 743), (.ref 413)⟩, ⟨(PyData.keyHash P "_law_put"), (.str "_law_put" 753), (.ref 420)⟩, ⟨(PyData.keyHash P "_law_reached"), (.str "_law_reached" 770), (.ref 427)⟩, ⟨(PyData.keyHash P "_law_deed"), (.str "_law_deed" 776), (.ref 432)⟩, ⟨(PyData.keyHash P "law"), (.str "law" 782), (.ref 437)⟩] 58), #[]⟩) ::
  (nat_lit 15, ⟨(.type "tuple"), none, (.seq #[] 0), #[]⟩) ::
  (nat_lit 17, ⟨(.type "tuple"), none, (.seq #[(.str "k" 190)] 0), #[]⟩) ::
  (nat_lit 18, ⟨(.type "tuple"), none, (.seq #[] 0), #[]⟩) ::
  (nat_lit 20, ⟨(.type "code"), none, (.fields #[(.str "_wall" 187), (.str "_wall" 188), (.str "/claim/cut.py" 189), (.int 1 0), (.int 1 0), (.int 0 0), (.int 0 0), (.int 3 0), (.ref 15), (.bool true), (.int 181 0), (.ref 16), .none, (.ref 17), (.ref 18), (.ref 19), (.int 191 0), (.int 1 0), (.str "/claim/cut.py" 192)]), #[]⟩) ::
  (nat_lit 21, ⟨(.type "function"), none, (.func ⟨"_wall", "_wall", defArgs (top 0), .stmts (defBody (top 0)), defScope (top 0), 3, [], .none, .none, .none, (.str "__main__" 164), none, (.ref 20), .none, 0⟩), #[]⟩) ::
  (nat_lit 22, ⟨(.type "tuple"), none, (.seq #[(.type "ValueError")] 0), #[]⟩) ::
  (nat_lit 29, ⟨(.type "tuple"), none, (.seq #[] 0), #[]⟩) ::
  (nat_lit 30, ⟨(.type "dict"), none, (.dict #[⟨(PyData.keyHash P "__module__"), (.str "__module__" 215), (.str "shadowpages.errors" 206)⟩, ⟨(PyData.keyHash P "__firstlineno__"), (.str "__firstlineno__" 219), (.int 11 218)⟩, ⟨(PyData.keyHash P "__static_attributes__"), (.str "__static_attributes__" 220), (.ref 29)⟩, ⟨(PyData.keyHash P "__weakref__"), (.str "__weakref__" 222), (.ref 32)⟩, ⟨(PyData.keyHash P "__doc__"), (.str "__doc__" 223), .none⟩] 3), #[]⟩) ::
  (nat_lit 31, ⟨(.type "type"), none, (.cls ⟨"HouseError", [(.type "ValueError")], [(.ref 31), (.type "ValueError"), (.type "Exception"), (.type "BaseException"), (.type "object")], 30, "HouseError", true, [], [(.ref 44), (.ref 56), (.ref 68), (.ref 80), (.ref 99)], false, none, false⟩), #[(some (.ref 22)), none, (some (.str "HouseError" 208)), (some (.str "HouseError" 216)), (some (.builtin "ValueError.__new__")), (some (.bool true))]⟩) ::
  (nat_lit 32, ⟨(.type "getset_descriptor"), none, (.fields #[(.str "__weakref__" 221), (.ref 31), (.builtin "ExceptionGroup.__weakref__"), .none]), #[]⟩) ::
  (nat_lit 35, ⟨(.type "tuple"), none, (.seq #[(.ref 31)] 0), #[]⟩) ::
  (nat_lit 42, ⟨(.type "tuple"), none, (.seq #[] 0), #[]⟩) ::
  (nat_lit 43, ⟨(.type "dict"), none, (.dict #[⟨(PyData.keyHash P "__module__"), (.str "__module__" 233), (.str "shadowpages.errors" 206)⟩, ⟨(PyData.keyHash P "__firstlineno__"), (.str "__firstlineno__" 237), (.int 13 236)⟩, ⟨(PyData.keyHash P "__static_attributes__"), (.str "__static_attributes__" 238), (.ref 42)⟩, ⟨(PyData.keyHash P "__doc__"), (.str "__doc__" 239), .none⟩] 2), #[]⟩) ::
  (nat_lit 44, ⟨(.type "type"), none, (.cls ⟨"NoWord", [(.ref 31)], [(.ref 44), (.ref 31), (.type "ValueError"), (.type "Exception"), (.type "BaseException"), (.type "object")], 43, "NoWord", true, [], [], false, none, false⟩), #[(some (.ref 35)), none, (some (.str "NoWord" 226)), (some (.str "NoWord" 234)), (some (.builtin "ValueError.__new__")), (some (.bool true))]⟩) ::
  (nat_lit 47, ⟨(.type "tuple"), none, (.seq #[(.ref 31)] 0), #[]⟩) ::
  (nat_lit 54, ⟨(.type "tuple"), none, (.seq #[] 0), #[]⟩) ::
  (nat_lit 55, ⟨(.type "dict"), none, (.dict #[⟨(PyData.keyHash P "__module__"), (.str "__module__" 249), (.str "shadowpages.errors" 206)⟩, ⟨(PyData.keyHash P "__firstlineno__"), (.str "__firstlineno__" 253), (.int 15 252)⟩, ⟨(PyData.keyHash P "__static_attributes__"), (.str "__static_attributes__" 254), (.ref 54)⟩, ⟨(PyData.keyHash P "__doc__"), (.str "__doc__" 255), .none⟩] 2), #[]⟩) ::
  (nat_lit 56, ⟨(.type "type"), none, (.cls ⟨"NoPlace", [(.ref 31)], [(.ref 56), (.ref 31), (.type "ValueError"), (.type "Exception"), (.type "BaseException"), (.type "object")], 55, "NoPlace", true, [], [], false, none, false⟩), #[(some (.ref 47)), none, (some (.str "NoPlace" 242)), (some (.str "NoPlace" 250)), (some (.builtin "ValueError.__new__")), (some (.bool true))]⟩) ::
  (nat_lit 59, ⟨(.type "tuple"), none, (.seq #[(.ref 31)] 0), #[]⟩) ::
  (nat_lit 66, ⟨(.type "tuple"), none, (.seq #[] 0), #[]⟩) ::
  (nat_lit 67, ⟨(.type "dict"), none, (.dict #[⟨(PyData.keyHash P "__module__"), (.str "__module__" 265), (.str "shadowpages.errors" 206)⟩, ⟨(PyData.keyHash P "__firstlineno__"), (.str "__firstlineno__" 269), (.int 17 268)⟩, ⟨(PyData.keyHash P "__static_attributes__"), (.str "__static_attributes__" 270), (.ref 66)⟩, ⟨(PyData.keyHash P "__doc__"), (.str "__doc__" 271), .none⟩] 2), #[]⟩) ::
  (nat_lit 68, ⟨(.type "type"), none, (.cls ⟨"NoPage", [(.ref 31)], [(.ref 68), (.ref 31), (.type "ValueError"), (.type "Exception"), (.type "BaseException"), (.type "object")], 67, "NoPage", true, [], [], false, none, false⟩), #[(some (.ref 59)), none, (some (.str "NoPage" 258)), (some (.str "NoPage" 266)), (some (.builtin "ValueError.__new__")), (some (.bool true))]⟩) ::
  (nat_lit 71, ⟨(.type "tuple"), none, (.seq #[(.ref 31)] 0), #[]⟩) ::
  (nat_lit 78, ⟨(.type "tuple"), none, (.seq #[] 0), #[]⟩) ::
  (nat_lit 79, ⟨(.type "dict"), none, (.dict #[⟨(PyData.keyHash P "__module__"), (.str "__module__" 281), (.str "shadowpages.errors" 206)⟩, ⟨(PyData.keyHash P "__firstlineno__"), (.str "__firstlineno__" 285), (.int 19 284)⟩, ⟨(PyData.keyHash P "__static_attributes__"), (.str "__static_attributes__" 286), (.ref 78)⟩, ⟨(PyData.keyHash P "__doc__"), (.str "__doc__" 287), .none⟩] 2), #[]⟩) ::
  (nat_lit 80, ⟨(.type "type"), none, (.cls ⟨"NoImage", [(.ref 31)], [(.ref 80), (.ref 31), (.type "ValueError"), (.type "Exception"), (.type "BaseException"), (.type "object")], 79, "NoImage", true, [], [], false, none, false⟩), #[(some (.ref 71)), none, (some (.str "NoImage" 274)), (some (.str "NoImage" 282)), (some (.builtin "ValueError.__new__")), (some (.bool true))]⟩) ::
  (nat_lit 83, ⟨(.type "tuple"), none, (.seq #[(.ref 31)] 0), #[]⟩) ::
  (nat_lit 90, ⟨(.type "tuple"), none, (.seq #[] 0), #[]⟩) ::
  (nat_lit 92, ⟨(.type "tuple"), none, (.seq #[(.str "self" 305), (.str "kind" 306), (.str "place" 307), (.str "level" 308)] 0), #[]⟩) ::
  (nat_lit 93, ⟨(.type "tuple"), none, (.seq #[] 0), #[]⟩) ::
  (nat_lit 95, ⟨(.type "code"), none, (.fields #[(.str "__init__" 302), (.str "Fault.__init__" 303), (.str "/claim/cut.py" 304), (.int 23 0), (.int 4 0), (.int 0 0), (.int 0 0), (.int 3 0), (.ref 90), (.bool true), (.int 181 0), (.ref 91), .none, (.ref 92), (.ref 93), (.ref 94), (.int 309 0), (.int 23 0), (.str "/claim/cut.py" 310)]), #[]⟩) ::
  (nat_lit 96, ⟨(.type "function"), none, (.func ⟨"__init__", "Fault.__init__", defArgs (inClass (top 13) 0), .stmts (defBody (inClass (top 13) 0)), defScope (inClass (top 13) 0), 3, [], .none, .none, .none, (.str "shadowpages.errors" 206), none, (.ref 95), .none, 0⟩), #[]⟩) ::
  (nat_lit 97, ⟨(.type "tuple"), none, (.seq #[(.str "kind" 312), (.str "level" 313), (.str "place" 314)] 0), #[]⟩) ::
  (nat_lit 98, ⟨(.type "dict"), none, (.dict #[⟨(PyData.keyHash P "__module__"), (.str "__module__" 297), (.str "shadowpages.errors" 206)⟩, ⟨(PyData.keyHash P "__firstlineno__"), (.str "__firstlineno__" 301), (.int 21 300)⟩, ⟨(PyData.keyHash P "__init__"), (.str "__init__" 311), (.ref 96)⟩, ⟨(PyData.keyHash P "__static_attributes__"), (.str "__static_attributes__" 315), (.ref 97)⟩, ⟨(PyData.keyHash P "__doc__"), (.str "__doc__" 316), .none⟩] 2), #[]⟩) ::
  (nat_lit 99, ⟨(.type "type"), none, (.cls ⟨"Fault", [(.ref 31)], [(.ref 99), (.ref 31), (.type "ValueError"), (.type "Exception"), (.type "BaseException"), (.type "object")], 98, "Fault", true, [], [], false, none, false⟩), #[(some (.ref 83)), none, (some (.str "Fault" 290)), (some (.str "Fault" 298)), (some (.builtin "ValueError.__new__")), (some (.bool true))]⟩) ::
  (nat_lit 102, ⟨(.type "tuple"), none, (.seq #[] 0), #[]⟩) ::
  (nat_lit 104, ⟨(.type "tuple"), none, (.seq #[(.str "thing" 324)] 0), #[]⟩) ::
  (nat_lit 105, ⟨(.type "tuple"), none, (.seq #[] 0), #[]⟩) ::
  (nat_lit 107, ⟨(.type "code"), none, (.fields #[(.str "is_whole" 321), (.str "is_whole" 322), (.str "/claim/cut.py" 323), (.int 28 0), (.int 1 0), (.int 0 0), (.int 0 0), (.int 3 0), (.ref 102), (.bool true), (.int 181 0), (.ref 103), .none, (.ref 104), (.ref 105), (.ref 106), (.int 325 0), (.int 28 0), (.str "/claim/cut.py" 326)]), #[]⟩) ::
  (nat_lit 108, ⟨(.type "function"), none, (.func ⟨"is_whole", "is_whole", defArgs (top 15), .stmts (defBody (top 15)), defScope (top 15), 3, [], .none, .none, .none, (.str "shadowpages.words" 319), none, (.ref 107), .none, 0⟩), #[]⟩) ::
  (nat_lit 109, ⟨(.type "tuple"), none, (.seq #[] 0), #[]⟩) ::
  (nat_lit 111, ⟨(.type "tuple"), none, (.seq #[(.str "thing" 331), (.str "bound" 332)] 0), #[]⟩) ::
  (nat_lit 112, ⟨(.type "tuple"), none, (.seq #[] 0), #[]⟩) ::
  (nat_lit 114, ⟨(.type "code"), none, (.fields #[(.str "is_below" 328), (.str "is_below" 329), (.str "/claim/cut.py" 330), (.int 30 0), (.int 2 0), (.int 0 0), (.int 0 0), (.int 3 0), (.ref 109), (.bool true), (.int 181 0), (.ref 110), .none, (.ref 111), (.ref 112), (.ref 113), (.int 333 0), (.int 30 0), (.str "/claim/cut.py" 334)]), #[]⟩) ::
  (nat_lit 115, ⟨(.type "function"), none, (.func ⟨"is_below", "is_below", defArgs (top 16), .stmts (defBody (top 16)), defScope (top 16), 3, [], .none, .none, .none, (.str "shadowpages.words" 319), none, (.ref 114), .none, 0⟩), #[]⟩) ::
  (nat_lit 116, ⟨(.type "tuple"), none, (.seq #[] 0), #[]⟩) ::
  (nat_lit 118, ⟨(.type "tuple"), none, (.seq #[(.str "thing" 339)] 0), #[]⟩) ::
  (nat_lit 119, ⟨(.type "tuple"), none, (.seq #[] 0), #[]⟩) ::
  (nat_lit 121, ⟨(.type "code"), none, (.fields #[(.str "is_word" 336), (.str "is_word" 337), (.str "/claim/cut.py" 338), (.int 32 0), (.int 1 0), (.int 0 0), (.int 0 0), (.int 3 0), (.ref 116), (.bool true), (.int 181 0), (.ref 117), .none, (.ref 118), (.ref 119), (.ref 120), (.int 340 0), (.int 32 0), (.str "/claim/cut.py" 341)]), #[]⟩) ::
  (nat_lit 122, ⟨(.type "function"), none, (.func ⟨"is_word", "is_word", defArgs (top 17), .stmts (defBody (top 17)), defScope (top 17), 3, [], .none, .none, .none, (.str "shadowpages.words" 319), none, (.ref 121), .none, 0⟩), #[]⟩) ::
  (nat_lit 123, ⟨(.type "tuple"), none, (.seq #[] 0), #[]⟩) ::
  (nat_lit 125, ⟨(.type "tuple"), none, (.seq #[(.str "place" 348), (.str "number" 349)] 0), #[]⟩) ::
  (nat_lit 126, ⟨(.type "tuple"), none, (.seq #[] 0), #[]⟩) ::
  (nat_lit 128, ⟨(.type "code"), none, (.fields #[(.str "parts_of" 345), (.str "parts_of" 346), (.str "/claim/cut.py" 347), (.int 35 0), (.int 1 0), (.int 0 0), (.int 0 0), (.int 3 0), (.ref 123), (.bool true), (.int 181 0), (.ref 124), .none, (.ref 125), (.ref 126), (.ref 127), (.int 350 0), (.int 35 0), (.str "/claim/cut.py" 351)]), #[]⟩) ::
  (nat_lit 129, ⟨(.type "function"), none, (.func ⟨"parts_of", "parts_of", defArgs (top 19), .stmts (defBody (top 19)), defScope (top 19), 3, [], .none, .none, .none, (.str "shadowpages.places" 343), none, (.ref 128), .none, 0⟩), #[]⟩) ::
  (nat_lit 130, ⟨(.type "tuple"), none, (.seq #[] 0), #[]⟩) ::
  (nat_lit 132, ⟨(.type "tuple"), none, (.seq #[(.str "place" 356)] 0), #[]⟩) ::
  (nat_lit 133, ⟨(.type "tuple"), none, (.seq #[] 0), #[]⟩) ::
  (nat_lit 135, ⟨(.type "code"), none, (.fields #[(.str "number_of" 353), (.str "number_of" 354), (.str "/claim/cut.py" 355), (.int 38 0), (.int 1 0), (.int 0 0), (.int 0 0), (.int 3 0), (.ref 130), (.bool true), (.int 181 0), (.ref 131), .none, (.ref 132), (.ref 133), (.ref 134), (.int 357 0), (.int 38 0), (.str "/claim/cut.py" 358)]), #[]⟩) ::
  (nat_lit 136, ⟨(.type "function"), none, (.func ⟨"number_of", "number_of", defArgs (top 20), .stmts (defBody (top 20)), defScope (top 20), 3, [], .none, .none, .none, (.str "shadowpages.places" 343), none, (.ref 135), .none, 0⟩), #[]⟩) ::
  (nat_lit 137, ⟨(.type "tuple"), none, (.seq #[] 0), #[]⟩) ::
  (nat_lit 139, ⟨(.type "tuple"), none, (.seq #[(.str "row" 375)] 0), #[]⟩) ::
  (nat_lit 140, ⟨(.type "tuple"), none, (.seq #[] 0), #[]⟩) ::
  (nat_lit 142, ⟨(.type "code"), none, (.fields #[(.str "page_of" 372), (.str "page_of" 373), (.str "/claim/cut.py" 374), (.int 48 0), (.int 1 0), (.int 0 0), (.int 0 0), (.int 3 0), (.ref 137), (.bool true), (.int 181 0), (.ref 138), .none, (.ref 139), (.ref 140), (.ref 141), (.int 376 0), (.int 48 0), (.str "/claim/cut.py" 377)]), #[]⟩) ::
  (nat_lit 143, ⟨(.type "function"), none, (.func ⟨"page_of", "page_of", defArgs (top 27), .stmts (defBody (top 27)), defScope (top 27), 3, [], .none, .none, .none, (.str "shadowpages.rows" 360), none, (.ref 142), .none, 0⟩), #[]⟩) ::
  (nat_lit 144, ⟨(.type "tuple"), none, (.seq #[] 0), #[]⟩) ::
  (nat_lit 146, ⟨(.type "tuple"), none, (.seq #[(.str "row" 382), (.str "marks" 383)] 0), #[]⟩) ::
  (nat_lit 147, ⟨(.type "tuple"), none, (.seq #[] 0), #[]⟩) ::
  (nat_lit 149, ⟨(.type "code"), none, (.fields #[(.str "has" 379), (.str "has" 380), (.str "/claim/cut.py" 381), (.int 50 0), (.int 2 0), (.int 0 0), (.int 0 0), (.int 3 0), (.ref 144), (.bool true), (.int 181 0), (.ref 145), .none, (.ref 146), (.ref 147), (.ref 148), (.int 384 0), (.int 50 0), (.str "/claim/cut.py" 385)]), #[]⟩) ::
  (nat_lit 150, ⟨(.type "function"), none, (.func ⟨"has", "has", defArgs (top 28), .stmts (defBody (top 28)), defScope (top 28), 3, [], .none, .none, .none, (.str "shadowpages.rows" 360), none, (.ref 149), .none, 0⟩), #[]⟩) ::
  (nat_lit 151, ⟨(.type "tuple"), none, (.seq #[] 0), #[]⟩) ::
  (nat_lit 153, ⟨(.type "tuple"), none, (.seq #[(.str "row" 390), (.str "marks" 391)] 0), #[]⟩) ::
  (nat_lit 154, ⟨(.type "tuple"), none, (.seq #[] 0), #[]⟩) ::
  (nat_lit 156, ⟨(.type "code"), none, (.fields #[(.str "put" 387), (.str "put" 388), (.str "/claim/cut.py" 389), (.int 52 0), (.int 2 0), (.int 0 0), (.int 0 0), (.int 3 0), (.ref 151), (.bool true), (.int 181 0), (.ref 152), .none, (.ref 153), (.ref 154), (.ref 155), (.int 392 0), (.int 52 0), (.str "/claim/cut.py" 393)]), #[]⟩) ::
  (nat_lit 157, ⟨(.type "function"), none, (.func ⟨"put", "put", defArgs (top 29), .stmts (defBody (top 29)), defScope (top 29), 3, [], .none, .none, .none, (.str "shadowpages.rows" 360), none, (.ref 156), .none, 0⟩), #[]⟩) ::
  (nat_lit 158, ⟨(.type "tuple"), none, (.seq #[] 0), #[]⟩) ::
  (nat_lit 160, ⟨(.type "tuple"), none, (.seq #[(.str "store" 400), (.str "root" 401), (.str "place" 402), (.str "write" 403), (.str "kernel" 404), (.str "parts" 405), (.str "top" 406), (.str "top_row" 407), (.str "low" 408), (.str "low_row" 409)] 0), #[]⟩) ::
  (nat_lit 161, ⟨(.type "tuple"), none, (.seq #[] 0), #[]⟩) ::
  (nat_lit 163, ⟨(.type "code"), none, (.fields #[(.str "look" 397), (.str "look" 398), (.str "/claim/cut.py" 399), (.int 55 0), (.int 5 0), (.int 0 0), (.int 0 0), (.int 3 0), (.ref 158), (.bool true), (.int 181 0), (.ref 159), .none, (.ref 160), (.ref 161), (.ref 162), (.int 410 0), (.int 55 0), (.str "/claim/cut.py" 411)]), #[]⟩) ::
  (nat_lit 164, ⟨(.type "function"), none, (.func ⟨"look", "look", defArgs (top 31), .stmts (defBody (top 31)), defScope (top 31), 3, [], .none, .none, .none, (.str "shadowpages.walk" 395), none, (.ref 163), .none, 0⟩), #[]⟩) ::
  (nat_lit 165, ⟨(.type "tuple"), none, (.seq #[] 0), #[]⟩) ::
  (nat_lit 167, ⟨(.type "tuple"), none, (.seq #[(.str "store" 416), (.str "row" 417), (.str "write" 418), (.str "kernel" 419), (.str "place" 420), (.str "level" 421)] 0), #[]⟩) ::
  (nat_lit 168, ⟨(.type "tuple"), none, (.seq #[] 0), #[]⟩) ::
  (nat_lit 170, ⟨(.type "code"), none, (.fields #[(.str "check_row" 413), (.str "check_row" 414), (.str "/claim/cut.py" 415), (.int 68 0), (.int 6 0), (.int 0 0), (.int 0 0), (.int 3 0), (.ref 165), (.bool true), (.int 181 0), (.ref 166), .none, (.ref 167), (.ref 168), (.ref 169), (.int 422 0), (.int 68 0), (.str "/claim/cut.py" 423)]), #[]⟩) ::
  (nat_lit 171, ⟨(.type "function"), none, (.func ⟨"check_row", "check_row", defArgs (top 32), .stmts (defBody (top 32)), defScope (top 32), 3, [], .none, .none, .none, (.str "shadowpages.walk" 395), none, (.ref 170), .none, 0⟩), #[]⟩) ::
  (nat_lit 172, ⟨(.type "tuple"), none, (.seq #[] 0), #[]⟩) ::
  (nat_lit 174, ⟨(.type "tuple"), none, (.seq #[(.str "top_row" 428), (.str "low_row" 429)] 0), #[]⟩) ::
  (nat_lit 175, ⟨(.type "tuple"), none, (.seq #[] 0), #[]⟩) ::
  (nat_lit 177, ⟨(.type "code"), none, (.fields #[(.str "rights_of" 425), (.str "rights_of" 426), (.str "/claim/cut.py" 427), (.int 77 0), (.int 2 0), (.int 0 0), (.int 0 0), (.int 3 0), (.ref 172), (.bool true), (.int 181 0), (.ref 173), .none, (.ref 174), (.ref 175), (.ref 176), (.int 430 0), (.int 77 0), (.str "/claim/cut.py" 431)]), #[]⟩) ::
  (nat_lit 178, ⟨(.type "function"), none, (.func ⟨"rights_of", "rights_of", defArgs (top 33), .stmts (defBody (top 33)), defScope (top 33), 3, [], .none, .none, .none, (.str "shadowpages.walk" 395), none, (.ref 177), .none, 0⟩), #[]⟩) ::
  (nat_lit 179, ⟨(.type "tuple"), none, (.seq #[] 0), #[]⟩) ::
  (nat_lit 181, ⟨(.type "tuple"), none, (.seq #[(.str "store" 436), (.str "trail" 437), (.str "write" 438)] 0), #[]⟩) ::
  (nat_lit 182, ⟨(.type "tuple"), none, (.seq #[] 0), #[]⟩) ::
  (nat_lit 184, ⟨(.type "code"), none, (.fields #[(.str "mark" 433), (.str "mark" 434), (.str "/claim/cut.py" 435), (.int 79 0), (.int 3 0), (.int 0 0), (.int 0 0), (.int 3 0), (.ref 179), (.bool true), (.int 181 0), (.ref 180), .none, (.ref 181), (.ref 182), (.ref 183), (.int 439 0), (.int 79 0), (.str "/claim/cut.py" 440)]), #[]⟩) ::
  (nat_lit 185, ⟨(.type "function"), none, (.func ⟨"mark", "mark", defArgs (top 34), .stmts (defBody (top 34)), defScope (top 34), 3, [], .none, .none, .none, (.str "shadowpages.walk" 395), none, (.ref 184), .none, 0⟩), #[]⟩) ::
  (nat_lit 186, ⟨(.type "tuple"), none, (.seq #[] 0), #[]⟩) ::
  (nat_lit 188, ⟨(.type "tuple"), none, (.seq #[(.str "store" 445), (.str "spot" 446), (.str "marks" 447), (.str "row" 448)] 0), #[]⟩) ::
  (nat_lit 189, ⟨(.type "tuple"), none, (.seq #[] 0), #[]⟩) ::
  (nat_lit 191, ⟨(.type "code"), none, (.fields #[(.str "put_marks" 442), (.str "put_marks" 443), (.str "/claim/cut.py" 444), (.int 83 0), (.int 3 0), (.int 0 0), (.int 0 0), (.int 3 0), (.ref 186), (.bool true), (.int 181 0), (.ref 187), .none, (.ref 188), (.ref 189), (.ref 190), (.int 449 0), (.int 83 0), (.str "/claim/cut.py" 450)]), #[]⟩) ::
  (nat_lit 192, ⟨(.type "function"), none, (.func ⟨"put_marks", "put_marks", defArgs (top 35), .stmts (defBody (top 35)), defScope (top 35), 3, [], .none, .none, .none, (.str "shadowpages.walk" 395), none, (.ref 191), .none, 0⟩), #[]⟩) ::
  (nat_lit 193, ⟨(.type "tuple"), none, (.seq #[] 0), #[]⟩) ::
  (nat_lit 196, ⟨(.type "code"), none, (.fields #[(.str "is_eight_words" 454), (.str "is_eight_words" 455), (.str "/claim/cut.py" 456), (.int 88 0), (.int 1 0), (.int 0 0), (.int 0 0), (.int 3 0), (.ref 193), (.bool true), (.int 181 0), (.ref 194), .none, .none, .none, (.ref 195), (.int 457 0), (.int 88 0), (.str "/claim/cut.py" 458)]), #[]⟩) ::
  (nat_lit 197, ⟨(.type "function"), none, (.func ⟨"is_eight_words", "is_eight_words", defArgs (top 37), .stmts (defBody (top 37)), defScope (top 37), 3, [], .none, .none, .none, (.str "shadowpages.store" 452), none, (.ref 196), .none, 0⟩), #[]⟩) ::
  (nat_lit 198, ⟨(.type "tuple"), none, (.seq #[] 0), #[]⟩) ::
  (nat_lit 200, ⟨(.type "tuple"), none, (.seq #[(.str "pages" 463), (.str "page" 464)] 0), #[]⟩) ::
  (nat_lit 201, ⟨(.type "tuple"), none, (.seq #[] 0), #[]⟩) ::
  (nat_lit 203, ⟨(.type "code"), none, (.fields #[(.str "check_image" 460), (.str "check_image" 461), (.str "/claim/cut.py" 462), (.int 90 0), (.int 1 0), (.int 0 0), (.int 0 0), (.int 3 0), (.ref 198), (.bool true), (.int 181 0), (.ref 199), .none, (.ref 200), (.ref 201), (.ref 202), (.int 465 0), (.int 90 0), (.str "/claim/cut.py" 466)]), #[]⟩) ::
  (nat_lit 204, ⟨(.type "function"), none, (.func ⟨"check_image", "check_image", defArgs (top 38), .stmts (defBody (top 38)), defScope (top 38), 3, [], .none, .none, .none, (.str "shadowpages.store" 452), none, (.ref 203), .none, 0⟩), #[]⟩) ::
  (nat_lit 205, ⟨(.type "tuple"), none, (.seq #[] 0), #[]⟩) ::
  (nat_lit 207, ⟨(.type "tuple"), none, (.seq #[(.str "word" 471)] 0), #[]⟩) ::
  (nat_lit 208, ⟨(.type "tuple"), none, (.seq #[] 0), #[]⟩) ::
  (nat_lit 210, ⟨(.type "code"), none, (.fields #[(.str "check_word" 468), (.str "check_word" 469), (.str "/claim/cut.py" 470), (.int 96 0), (.int 1 0), (.int 0 0), (.int 0 0), (.int 3 0), (.ref 205), (.bool true), (.int 181 0), (.ref 206), .none, (.ref 207), (.ref 208), (.ref 209), (.int 472 0), (.int 96 0), (.str "/claim/cut.py" 473)]), #[]⟩) ::
  (nat_lit 211, ⟨(.type "function"), none, (.func ⟨"check_word", "check_word", defArgs (top 39), .stmts (defBody (top 39)), defScope (top 39), 3, [], .none, .none, .none, (.str "shadowpages.store" 452), none, (.ref 210), .none, 0⟩), #[]⟩) ::
  (nat_lit 219, ⟨(.type "tuple"), none, (.seq #[] 0), #[]⟩) ::
  (nat_lit 221, ⟨(.type "tuple"), none, (.seq #[(.str "self" 490)] 0), #[]⟩) ::
  (nat_lit 222, ⟨(.type "tuple"), none, (.seq #[] 0), #[]⟩) ::
  (nat_lit 224, ⟨(.type "code"), none, (.fields #[(.str "size" 487), (.str "Store.size" 488), (.str "/claim/cut.py" 489), (.int 101 0), (.int 1 0), (.int 0 0), (.int 0 0), (.int 3 0), (.ref 219), (.bool true), (.int 181 0), (.ref 220), .none, (.ref 221), (.ref 222), (.ref 223), (.int 491 0), (.int 101 0), (.str "/claim/cut.py" 492)]), #[]⟩) ::
  (nat_lit 225, ⟨(.type "function"), none, (.func ⟨"size", "Store.size", defArgs (inClass (top 40) 0), .stmts (defBody (inClass (top 40) 0)), defScope (inClass (top 40) 0), 3, [], .none, .none, .none, (.str "shadowpages.store" 452), none, (.ref 224), .none, 0⟩), #[]⟩) ::
  (nat_lit 226, ⟨(.type "tuple"), none, (.seq #[] 0), #[]⟩) ::
  (nat_lit 228, ⟨(.type "tuple"), none, (.seq #[(.str "self" 497), (.str "page" 498)] 0), #[]⟩) ::
  (nat_lit 229, ⟨(.type "tuple"), none, (.seq #[] 0), #[]⟩) ::
  (nat_lit 231, ⟨(.type "code"), none, (.fields #[(.str "has" 494), (.str "Store.has" 495), (.str "/claim/cut.py" 496), (.int 104 0), (.int 2 0), (.int 0 0), (.int 0 0), (.int 3 0), (.ref 226), (.bool true), (.int 181 0), (.ref 227), .none, (.ref 228), (.ref 229), (.ref 230), (.int 499 0), (.int 104 0), (.str "/claim/cut.py" 500)]), #[]⟩) ::
  (nat_lit 232, ⟨(.type "function"), none, (.func ⟨"has", "Store.has", defArgs (inClass (top 40) 1), .stmts (defBody (inClass (top 40) 1)), defScope (inClass (top 40) 1), 3, [], .none, .none, .none, (.str "shadowpages.store" 452), none, (.ref 231), .none, 0⟩), #[]⟩) ::
  (nat_lit 233, ⟨(.type "tuple"), none, (.seq #[] 0), #[]⟩) ::
  (nat_lit 235, ⟨(.type "tuple"), none, (.seq #[(.str "self" 505), (.str "page" 506), (.str "cell" 507)] 0), #[]⟩) ::
  (nat_lit 236, ⟨(.type "tuple"), none, (.seq #[] 0), #[]⟩) ::
  (nat_lit 238, ⟨(.type "code"), none, (.fields #[(.str "word_at" 502), (.str "Store.word_at" 503), (.str "/claim/cut.py" 504), (.int 107 0), (.int 3 0), (.int 0 0), (.int 0 0), (.int 3 0), (.ref 233), (.bool true), (.int 181 0), (.ref 234), .none, (.ref 235), (.ref 236), (.ref 237), (.int 508 0), (.int 107 0), (.str "/claim/cut.py" 509)]), #[]⟩) ::
  (nat_lit 239, ⟨(.type "function"), none, (.func ⟨"word_at", "Store.word_at", defArgs (inClass (top 40) 2), .stmts (defBody (inClass (top 40) 2)), defScope (inClass (top 40) 2), 3, [], .none, .none, .none, (.str "shadowpages.store" 452), none, (.ref 238), .none, 0⟩), #[]⟩) ::
  (nat_lit 240, ⟨(.type "tuple"), none, (.seq #[] 0), #[]⟩) ::
  (nat_lit 242, ⟨(.type "tuple"), none, (.seq #[(.str "self" 514), (.str "page" 515), (.str "cell" 516), (.str "word" 517)] 0), #[]⟩) ::
  (nat_lit 243, ⟨(.type "tuple"), none, (.seq #[] 0), #[]⟩) ::
  (nat_lit 245, ⟨(.type "code"), none, (.fields #[(.str "put_word" 511), (.str "Store.put_word" 512), (.str "/claim/cut.py" 513), (.int 110 0), (.int 4 0), (.int 0 0), (.int 0 0), (.int 3 0), (.ref 240), (.bool true), (.int 181 0), (.ref 241), .none, (.ref 242), (.ref 243), (.ref 244), (.int 518 0), (.int 110 0), (.str "/claim/cut.py" 519)]), #[]⟩) ::
  (nat_lit 246, ⟨(.type "function"), none, (.func ⟨"put_word", "Store.put_word", defArgs (inClass (top 40) 3), .stmts (defBody (inClass (top 40) 3)), defScope (inClass (top 40) 3), 3, [], .none, .none, .none, (.str "shadowpages.store" 452), none, (.ref 245), .none, 0⟩), #[]⟩) ::
  (nat_lit 247, ⟨(.type "tuple"), none, (.seq #[] 0), #[]⟩) ::
  (nat_lit 249, ⟨(.type "tuple"), none, (.seq #[(.str "self" 524), (.str "page" 525), (.str "cell" 526)] 0), #[]⟩) ::
  (nat_lit 250, ⟨(.type "tuple"), none, (.seq #[] 0), #[]⟩) ::
  (nat_lit 252, ⟨(.type "code"), none, (.fields #[(.str "read" 521), (.str "Store.read" 522), (.str "/claim/cut.py" 523), (.int 113 0), (.int 3 0), (.int 0 0), (.int 0 0), (.int 3 0), (.ref 247), (.bool true), (.int 181 0), (.ref 248), .none, (.ref 249), (.ref 250), (.ref 251), (.int 527 0), (.int 113 0), (.str "/claim/cut.py" 528)]), #[]⟩) ::
  (nat_lit 253, ⟨(.type "function"), none, (.func ⟨"read", "Store.read", defArgs (inClass (top 40) 4), .stmts (defBody (inClass (top 40) 4)), defScope (inClass (top 40) 4), 3, [], .none, .none, .none, (.str "shadowpages.store" 452), none, (.ref 252), .none, 0⟩), #[]⟩) ::
  (nat_lit 254, ⟨(.type "tuple"), none, (.seq #[] 0), #[]⟩) ::
  (nat_lit 256, ⟨(.type "tuple"), none, (.seq #[(.str "self" 533), (.str "page" 534), (.str "cell" 535), (.str "word" 536)] 0), #[]⟩) ::
  (nat_lit 257, ⟨(.type "tuple"), none, (.seq #[] 0), #[]⟩) ::
  (nat_lit 259, ⟨(.type "code"), none, (.fields #[(.str "write" 530), (.str "Store.write" 531), (.str "/claim/cut.py" 532), (.int 117 0), (.int 4 0), (.int 0 0), (.int 0 0), (.int 3 0), (.ref 254), (.bool true), (.int 181 0), (.ref 255), .none, (.ref 256), (.ref 257), (.ref 258), (.int 537 0), (.int 117 0), (.str "/claim/cut.py" 538)]), #[]⟩) ::
  (nat_lit 260, ⟨(.type "function"), none, (.func ⟨"write", "Store.write", defArgs (inClass (top 40) 5), .stmts (defBody (inClass (top 40) 5)), defScope (inClass (top 40) 5), 3, [], .none, .none, .none, (.str "shadowpages.store" 452), none, (.ref 259), .none, 0⟩), #[]⟩) ::
  (nat_lit 261, ⟨(.type "tuple"), none, (.seq #[] 0), #[]⟩) ::
  (nat_lit 263, ⟨(.type "tuple"), none, (.seq #[(.str "self" 543), (.str "page" 544)] 0), #[]⟩) ::
  (nat_lit 264, ⟨(.type "tuple"), none, (.seq #[] 0), #[]⟩) ::
  (nat_lit 266, ⟨(.type "code"), none, (.fields #[(.str "words_of" 540), (.str "Store.words_of" 541), (.str "/claim/cut.py" 542), (.int 122 0), (.int 2 0), (.int 0 0), (.int 0 0), (.int 3 0), (.ref 261), (.bool true), (.int 181 0), (.ref 262), .none, (.ref 263), (.ref 264), (.ref 265), (.int 545 0), (.int 122 0), (.str "/claim/cut.py" 546)]), #[]⟩) ::
  (nat_lit 267, ⟨(.type "function"), none, (.func ⟨"words_of", "Store.words_of", defArgs (inClass (top 40) 6), .stmts (defBody (inClass (top 40) 6)), defScope (inClass (top 40) 6), 3, [], .none, .none, .none, (.str "shadowpages.store" 452), none, (.ref 266), .none, 0⟩), #[]⟩) ::
  (nat_lit 268, ⟨(.type "tuple"), none, (.seq #[] 0), #[]⟩) ::
  (nat_lit 270, ⟨(.type "tuple"), none, (.seq #[(.str "self" 551), (.str "page" 552), (.str "cell" 553)] 0), #[]⟩) ::
  (nat_lit 271, ⟨(.type "tuple"), none, (.seq #[] 0), #[]⟩) ::
  (nat_lit 273, ⟨(.type "code"), none, (.fields #[(.str "check_spot" 548), (.str "Store.check_spot" 549), (.str "/claim/cut.py" 550), (.int 125 0), (.int 3 0), (.int 0 0), (.int 0 0), (.int 3 0), (.ref 268), (.bool true), (.int 181 0), (.ref 269), .none, (.ref 270), (.ref 271), (.ref 272), (.int 554 0), (.int 125 0), (.str "/claim/cut.py" 555)]), #[]⟩) ::
  (nat_lit 274, ⟨(.type "function"), none, (.func ⟨"check_spot", "Store.check_spot", defArgs (inClass (top 40) 7), .stmts (defBody (inClass (top 40) 7)), defScope (inClass (top 40) 7), 3, [], .none, .none, .none, (.str "shadowpages.store" 452), none, (.ref 273), .none, 0⟩), #[]⟩) ::
  (nat_lit 275, ⟨(.type "tuple"), none, (.seq #[] 0), #[]⟩) ::
  (nat_lit 277, ⟨(.type "tuple"), none, (.seq #[(.str "self" 560), (.str "page" 561)] 0), #[]⟩) ::
  (nat_lit 278, ⟨(.type "tuple"), none, (.seq #[] 0), #[]⟩) ::
  (nat_lit 280, ⟨(.type "code"), none, (.fields #[(.str "check_page" 557), (.str "Store.check_page" 558), (.str "/claim/cut.py" 559), (.int 130 0), (.int 2 0), (.int 0 0), (.int 0 0), (.int 3 0), (.ref 275), (.bool true), (.int 181 0), (.ref 276), .none, (.ref 277), (.ref 278), (.ref 279), (.int 562 0), (.int 130 0), (.str "/claim/cut.py" 563)]), #[]⟩) ::
  (nat_lit 281, ⟨(.type "function"), none, (.func ⟨"check_page", "Store.check_page", defArgs (inClass (top 40) 8), .stmts (defBody (inClass (top 40) 8)), defScope (inClass (top 40) 8), 3, [], .none, .none, .none, (.str "shadowpages.store" 452), none, (.ref 280), .none, 0⟩), #[]⟩) ::
  (nat_lit 282, ⟨(.type "tuple"), none, (.seq #[] 0), #[]⟩) ::
  (nat_lit 283, ⟨(.type "dict"), none, (.dict #[⟨(PyData.keyHash P "__module__"), (.str "__module__" 482), (.str "shadowpages.store" 452)⟩, ⟨(PyData.keyHash P "__firstlineno__"), (.str "__firstlineno__" 486), (.int 99 485)⟩, ⟨(PyData.keyHash P "size"), (.str "size" 493), (.ref 225)⟩, ⟨(PyData.keyHash P "has"), (.str "has" 501), (.ref 232)⟩, ⟨(PyData.keyHash P "word_at"), (.str "word_at" 510), (.ref 239)⟩, ⟨(PyData.keyHash P "put_word"), (.str "put_word" 520), (.ref 246)⟩, ⟨(PyData.keyHash P "read"), (.str "read" 529), (.ref 253)⟩, ⟨(PyData.keyHash P "write"), (.str "write" 539), (.ref 260)⟩, ⟨(PyData.keyHash P "words_of"), (.str "words_of" 547), (.ref 267)⟩, ⟨(PyData.keyHash P "check_spot"), (.str "check_spot" 556), (.ref 274)⟩, ⟨(PyData.keyHash P "check_page"), (.str "check_page" 564), (.ref 281)⟩, ⟨(PyData.keyHash P "__static_attributes__"), (.str "__static_attributes__" 565), (.ref 282)⟩, ⟨(PyData.keyHash P "__dict__"), (.str "__dict__" 567), (.ref 285)⟩, ⟨(PyData.keyHash P "__weakref__"), (.str "__weakref__" 569), (.ref 286)⟩, ⟨(PyData.keyHash P "__doc__"), (.str "__doc__" 570), .none⟩] 4), #[]⟩) ::
  (nat_lit 284, ⟨(.type "type"), none, (.cls ⟨"Store", [(.type "object")], [(.ref 284), (.type "object")], 283, "Store", true, [], [(.ref 350)], false, none, false⟩), #[none, none, (some (.str "Store" 475)), (some (.str "Store" 483)), (some (.builtin "object.__new__")), (some (.bool true))]⟩) ::
  (nat_lit 285, ⟨(.type "getset_descriptor"), none, (.fields #[(.str "__dict__" 566), (.ref 284), (.builtin "function.__dict__"), (.builtin "function.__dict__#set")]), #[]⟩) ::
  (nat_lit 286, ⟨(.type "getset_descriptor"), none, (.fields #[(.str "__weakref__" 568), (.ref 284), (.builtin "ExceptionGroup.__weakref__"), .none]), #[]⟩) ::
  (nat_lit 289, ⟨(.type "tuple"), none, (.seq #[(.ref 284)] 0), #[]⟩) ::
  (nat_lit 296, ⟨(.type "tuple"), none, (.seq #[] 0), #[]⟩) ::
  (nat_lit 299, ⟨(.type "code"), none, (.fields #[(.str "__init__" 585), (.str "Memory.__init__" 586), (.str "/claim/cut.py" 587), (.int 135 0), (.int 2 0), (.int 0 0), (.int 0 0), (.int 3 0), (.ref 296), (.bool true), (.int 181 0), (.ref 297), .none, .none, .none, (.ref 298), (.int 588 0), (.int 135 0), (.str "/claim/cut.py" 589)]), #[]⟩) ::
  (nat_lit 300, ⟨(.type "function"), none, (.func ⟨"__init__", "Memory.__init__", defArgs (inClass (top 41) 0), .stmts (defBody (inClass (top 41) 0)), defScope (inClass (top 41) 0), 3, [], .none, .none, .none, (.str "shadowpages.store" 452), none, (.ref 299), .none, 0⟩), #[]⟩) ::
  (nat_lit 301, ⟨(.type "tuple"), none, (.seq #[] 0), #[]⟩) ::
  (nat_lit 303, ⟨(.type "tuple"), none, (.seq #[(.str "self" 594)] 0), #[]⟩) ::
  (nat_lit 304, ⟨(.type "tuple"), none, (.seq #[] 0), #[]⟩) ::
  (nat_lit 306, ⟨(.type "code"), none, (.fields #[(.str "size" 591), (.str "Memory.size" 592), (.str "/claim/cut.py" 593), (.int 139 0), (.int 1 0), (.int 0 0), (.int 0 0), (.int 3 0), (.ref 301), (.bool true), (.int 181 0), (.ref 302), .none, (.ref 303), (.ref 304), (.ref 305), (.int 595 0), (.int 139 0), (.str "/claim/cut.py" 596)]), #[]⟩) ::
  (nat_lit 307, ⟨(.type "function"), none, (.func ⟨"size", "Memory.size", defArgs (inClass (top 41) 1), .stmts (defBody (inClass (top 41) 1)), defScope (inClass (top 41) 1), 3, [], .none, .none, .none, (.str "shadowpages.store" 452), none, (.ref 306), .none, 0⟩), #[]⟩) ::
  (nat_lit 308, ⟨(.type "tuple"), none, (.seq #[] 0), #[]⟩) ::
  (nat_lit 310, ⟨(.type "tuple"), none, (.seq #[(.str "self" 601), (.str "page" 602)] 0), #[]⟩) ::
  (nat_lit 311, ⟨(.type "tuple"), none, (.seq #[] 0), #[]⟩) ::
  (nat_lit 313, ⟨(.type "code"), none, (.fields #[(.str "has" 598), (.str "Memory.has" 599), (.str "/claim/cut.py" 600), (.int 142 0), (.int 2 0), (.int 0 0), (.int 0 0), (.int 3 0), (.ref 308), (.bool true), (.int 181 0), (.ref 309), .none, (.ref 310), (.ref 311), (.ref 312), (.int 603 0), (.int 142 0), (.str "/claim/cut.py" 604)]), #[]⟩) ::
  (nat_lit 314, ⟨(.type "function"), none, (.func ⟨"has", "Memory.has", defArgs (inClass (top 41) 2), .stmts (defBody (inClass (top 41) 2)), defScope (inClass (top 41) 2), 3, [], .none, .none, .none, (.str "shadowpages.store" 452), none, (.ref 313), .none, 0⟩), #[]⟩) ::
  (nat_lit 315, ⟨(.type "tuple"), none, (.seq #[] 0), #[]⟩) ::
  (nat_lit 317, ⟨(.type "tuple"), none, (.seq #[(.str "self" 609), (.str "page" 610), (.str "cell" 611)] 0), #[]⟩) ::
  (nat_lit 318, ⟨(.type "tuple"), none, (.seq #[] 0), #[]⟩) ::
  (nat_lit 320, ⟨(.type "code"), none, (.fields #[(.str "word_at" 606), (.str "Memory.word_at" 607), (.str "/claim/cut.py" 608), (.int 145 0), (.int 3 0), (.int 0 0), (.int 0 0), (.int 3 0), (.ref 315), (.bool true), (.int 181 0), (.ref 316), .none, (.ref 317), (.ref 318), (.ref 319), (.int 612 0), (.int 145 0), (.str "/claim/cut.py" 613)]), #[]⟩) ::
  (nat_lit 321, ⟨(.type "function"), none, (.func ⟨"word_at", "Memory.word_at", defArgs (inClass (top 41) 3), .stmts (defBody (inClass (top 41) 3)), defScope (inClass (top 41) 3), 3, [], .none, .none, .none, (.str "shadowpages.store" 452), none, (.ref 320), .none, 0⟩), #[]⟩) ::
  (nat_lit 322, ⟨(.type "tuple"), none, (.seq #[] 0), #[]⟩) ::
  (nat_lit 324, ⟨(.type "tuple"), none, (.seq #[(.str "self" 618), (.str "page" 619), (.str "cell" 620), (.str "word" 621)] 0), #[]⟩) ::
  (nat_lit 325, ⟨(.type "tuple"), none, (.seq #[] 0), #[]⟩) ::
  (nat_lit 327, ⟨(.type "code"), none, (.fields #[(.str "put_word" 615), (.str "Memory.put_word" 616), (.str "/claim/cut.py" 617), (.int 148 0), (.int 4 0), (.int 0 0), (.int 0 0), (.int 3 0), (.ref 322), (.bool true), (.int 181 0), (.ref 323), .none, (.ref 324), (.ref 325), (.ref 326), (.int 622 0), (.int 148 0), (.str "/claim/cut.py" 623)]), #[]⟩) ::
  (nat_lit 328, ⟨(.type "function"), none, (.func ⟨"put_word", "Memory.put_word", defArgs (inClass (top 41) 4), .stmts (defBody (inClass (top 41) 4)), defScope (inClass (top 41) 4), 3, [], .none, .none, .none, (.str "shadowpages.store" 452), none, (.ref 327), .none, 0⟩), #[]⟩) ::
  (nat_lit 329, ⟨(.type "tuple"), none, (.seq #[] 0), #[]⟩) ::
  (nat_lit 331, ⟨(.type "tuple"), none, (.seq #[(.str "self" 628), (.str "page" 629)] 0), #[]⟩) ::
  (nat_lit 332, ⟨(.type "tuple"), none, (.seq #[] 0), #[]⟩) ::
  (nat_lit 334, ⟨(.type "code"), none, (.fields #[(.str "give" 625), (.str "Memory.give" 626), (.str "/claim/cut.py" 627), (.int 151 0), (.int 2 0), (.int 0 0), (.int 0 0), (.int 3 0), (.ref 329), (.bool true), (.int 181 0), (.ref 330), .none, (.ref 331), (.ref 332), (.ref 333), (.int 630 0), (.int 151 0), (.str "/claim/cut.py" 631)]), #[]⟩) ::
  (nat_lit 335, ⟨(.type "function"), none, (.func ⟨"give", "Memory.give", defArgs (inClass (top 41) 5), .stmts (defBody (inClass (top 41) 5)), defScope (inClass (top 41) 5), 3, [], .none, .none, .none, (.str "shadowpages.store" 452), none, (.ref 334), .none, 0⟩), #[]⟩) ::
  (nat_lit 336, ⟨(.type "tuple"), none, (.seq #[] 0), #[]⟩) ::
  (nat_lit 338, ⟨(.type "tuple"), none, (.seq #[(.str "self" 636), (.str "page" 637), (.str "words" 638)] 0), #[]⟩) ::
  (nat_lit 339, ⟨(.type "tuple"), none, (.seq #[] 0), #[]⟩) ::
  (nat_lit 341, ⟨(.type "code"), none, (.fields #[(.str "lay" 633), (.str "Memory.lay" 634), (.str "/claim/cut.py" 635), (.int 155 0), (.int 3 0), (.int 0 0), (.int 0 0), (.int 3 0), (.ref 336), (.bool true), (.int 181 0), (.ref 337), .none, (.ref 338), (.ref 339), (.ref 340), (.int 639 0), (.int 155 0), (.str "/claim/cut.py" 640)]), #[]⟩) ::
  (nat_lit 342, ⟨(.type "function"), none, (.func ⟨"lay", "Memory.lay", defArgs (inClass (top 41) 6), .stmts (defBody (inClass (top 41) 6)), defScope (inClass (top 41) 6), 3, [], .none, .none, .none, (.str "shadowpages.store" 452), none, (.ref 341), .none, 0⟩), #[]⟩) ::
  (nat_lit 343, ⟨(.type "tuple"), none, (.seq #[] 0), #[]⟩) ::
  (nat_lit 346, ⟨(.type "code"), none, (.fields #[(.str "told" 642), (.str "Memory.told" 643), (.str "/claim/cut.py" 644), (.int 162 0), (.int 1 0), (.int 0 0), (.int 0 0), (.int 3 0), (.ref 343), (.bool true), (.int 181 0), (.ref 344), .none, .none, .none, (.ref 345), (.int 645 0), (.int 162 0), (.str "/claim/cut.py" 646)]), #[]⟩) ::
  (nat_lit 347, ⟨(.type "function"), none, (.func ⟨"told", "Memory.told", defArgs (inClass (top 41) 7), .stmts (defBody (inClass (top 41) 7)), defScope (inClass (top 41) 7), 3, [], .none, .none, .none, (.str "shadowpages.store" 452), none, (.ref 346), .none, 0⟩), #[]⟩) ::
  (nat_lit 348, ⟨(.type "tuple"), none, (.seq #[(.str "held" 648)] 0), #[]⟩) ::
  (nat_lit 349, ⟨(.type "dict"), none, (.dict #[⟨(PyData.keyHash P "__module__"), (.str "__module__" 580), (.str "shadowpages.store" 452)⟩, ⟨(PyData.keyHash P "__firstlineno__"), (.str "__firstlineno__" 584), (.int 133 583)⟩, ⟨(PyData.keyHash P "__init__"), (.str "__init__" 590), (.ref 300)⟩, ⟨(PyData.keyHash P "size"), (.str "size" 597), (.ref 307)⟩, ⟨(PyData.keyHash P "has"), (.str "has" 605), (.ref 314)⟩, ⟨(PyData.keyHash P "word_at"), (.str "word_at" 614), (.ref 321)⟩, ⟨(PyData.keyHash P "put_word"), (.str "put_word" 624), (.ref 328)⟩, ⟨(PyData.keyHash P "give"), (.str "give" 632), (.ref 335)⟩, ⟨(PyData.keyHash P "lay"), (.str "lay" 641), (.ref 342)⟩, ⟨(PyData.keyHash P "told"), (.str "told" 647), (.ref 347)⟩, ⟨(PyData.keyHash P "__static_attributes__"), (.str "__static_attributes__" 649), (.ref 348)⟩, ⟨(PyData.keyHash P "__doc__"), (.str "__doc__" 650), .none⟩] 2), #[]⟩) ::
  (nat_lit 350, ⟨(.type "type"), none, (.cls ⟨"Memory", [(.ref 284)], [(.ref 350), (.ref 284), (.type "object")], 349, "Memory", true, [], [], false, none, false⟩), #[(some (.ref 289)), none, (some (.str "Memory" 573)), (some (.str "Memory" 581)), (some (.builtin "object.__new__")), (some (.bool true))]⟩) ::
  (nat_lit 353, ⟨(.type "tuple"), none, (.seq #[] 0), #[]⟩) ::
  (nat_lit 355, ⟨(.type "tuple"), none, (.seq #[(.str "_law_script" 658), (.str "_law_k" 659)] 0), #[]⟩) ::
  (nat_lit 356, ⟨(.type "tuple"), none, (.seq #[] 0), #[]⟩) ::
  (nat_lit 358, ⟨(.type "code"), none, (.fields #[(.str "_law_cell_at" 655), (.str "_law_cell_at" 656), (.str "/claim/cut.py" 657), (.int 165 0), (.int 2 0), (.int 0 0), (.int 0 0), (.int 3 0), (.ref 353), (.bool true), (.int 181 0), (.ref 354), .none, (.ref 355), (.ref 356), (.ref 357), (.int 660 0), (.int 165 0), (.str "/claim/cut.py" 661)]), #[]⟩) ::
  (nat_lit 359, ⟨(.type "function"), none, (.func ⟨"_law_cell_at", "_law_cell_at", defArgs (top 43), .stmts (defBody (top 43)), defScope (top 43), 3, [], .none, .none, .none, (.str "law_shadowpages_k17_whole_walks" 653), none, (.ref 358), .none, 0⟩), #[]⟩) ::
  (nat_lit 360, ⟨(.type "tuple"), none, (.seq #[] 0), #[]⟩) ::
  (nat_lit 362, ⟨(.type "tuple"), none, (.seq #[(.str "_law_found" 666)] 0), #[]⟩) ::
  (nat_lit 363, ⟨(.type "tuple"), none, (.seq #[] 0), #[]⟩) ::
  (nat_lit 365, ⟨(.type "code"), none, (.fields #[(.str "_law_whole" 663), (.str "_law_whole" 664), (.str "/claim/cut.py" 665), (.int 169 0), (.int 1 0), (.int 0 0), (.int 0 0), (.int 3 0), (.ref 360), (.bool true), (.int 181 0), (.ref 361), .none, (.ref 362), (.ref 363), (.ref 364), (.int 667 0), (.int 169 0), (.str "/claim/cut.py" 668)]), #[]⟩) ::
  (nat_lit 366, ⟨(.type "function"), none, (.func ⟨"_law_whole", "_law_whole", defArgs (top 44), .stmts (defBody (top 44)), defScope (top 44), 3, [], .none, .none, .none, (.str "law_shadowpages_k17_whole_walks" 653), none, (.ref 365), .none, 0⟩), #[]⟩) ::
  (nat_lit 367, ⟨(.type "tuple"), none, (.seq #[] 0), #[]⟩) ::
  (nat_lit 369, ⟨(.type "tuple"), none, (.seq #[(.str "_law_cell" 673), (.str "_law_k" 674), (.str "_law_number" 675)] 0), #[]⟩) ::
  (nat_lit 370, ⟨(.type "tuple"), none, (.seq #[] 0), #[]⟩) ::
  (nat_lit 372, ⟨(.type "code"), none, (.fields #[(.str "_law_mixed" 670), (.str "_law_mixed" 671), (.str "/claim/cut.py" 672), (.int 171 0), (.int 2 0), (.int 0 0), (.int 0 0), (.int 3 0), (.ref 367), (.bool true), (.int 181 0), (.ref 368), .none, (.ref 369), (.ref 370), (.ref 371), (.int 676 0), (.int 171 0), (.str "/claim/cut.py" 677)]), #[]⟩) ::
  (nat_lit 373, ⟨(.type "function"), none, (.func ⟨"_law_mixed", "_law_mixed", defArgs (top 45), .stmts (defBody (top 45)), defScope (top 45), 3, [], .none, .none, .none, (.str "law_shadowpages_k17_whole_walks" 653), none, (.ref 372), .none, 0⟩), #[]⟩) ::
  (nat_lit 374, ⟨(.type "tuple"), none, (.seq #[] 0), #[]⟩) ::
  (nat_lit 376, ⟨(.type "tuple"), none, (.seq #[(.str "_law_cell" 682), (.str "_law_k" 683), (.str "_law_size" 684), (.str "_law_one" 685), (.str "_law_other" 686), (.str "_law_page" 687), (.str "_law_marks" 688)] 0), #[]⟩) ::
  (nat_lit 377, ⟨(.type "tuple"), none, (.seq #[] 0), #[]⟩) ::
  (nat_lit 379, ⟨(.type "code"), none, (.fields #[(.str "_law_row" 679), (.str "_law_row" 680), (.str "/claim/cut.py" 681), (.int 176 0), (.int 3 0), (.int 0 0), (.int 0 0), (.int 3 0), (.ref 374), (.bool true), (.int 181 0), (.ref 375), .none, (.ref 376), (.ref 377), (.ref 378), (.int 689 0), (.int 176 0), (.str "/claim/cut.py" 690)]), #[]⟩) ::
  (nat_lit 380, ⟨(.type "function"), none, (.func ⟨"_law_row", "_law_row", defArgs (top 46), .stmts (defBody (top 46)), defScope (top 46), 3, [], .none, .none, .none, (.str "law_shadowpages_k17_whole_walks" 653), none, (.ref 379), .none, 0⟩), #[]⟩) ::
  (nat_lit 381, ⟨(.type "tuple"), none, (.seq #[] 0), #[]⟩) ::
  (nat_lit 384, ⟨(.type "code"), none, (.fields #[(.str "_law_rows" 692), (.str "_law_rows" 693), (.str "/claim/cut.py" 694), (.int 184 0), (.int 3 0), (.int 0 0), (.int 0 0), (.int 3 0), (.ref 381), (.bool true), (.int 181 0), (.ref 382), .none, .none, .none, (.ref 383), (.int 695 0), (.int 184 0), (.str "/claim/cut.py" 696)]), #[]⟩) ::
  (nat_lit 385, ⟨(.type "function"), none, (.func ⟨"_law_rows", "_law_rows", defArgs (top 47), .stmts (defBody (top 47)), defScope (top 47), 3, [], .none, .none, .none, (.str "law_shadowpages_k17_whole_walks" 653), none, (.ref 384), .none, 0⟩), #[]⟩) ::
  (nat_lit 386, ⟨(.type "tuple"), none, (.seq #[] 0), #[]⟩) ::
  (nat_lit 388, ⟨(.type "tuple"), none, (.seq #[(.str "_law_pages" 701), (.str "_law_page" 702)] 0), #[]⟩) ::
  (nat_lit 389, ⟨(.type "tuple"), none, (.seq #[] 0), #[]⟩) ::
  (nat_lit 391, ⟨(.type "code"), none, (.fields #[(.str "_law_there" 698), (.str "_law_there" 699), (.str "/claim/cut.py" 700), (.int 186 0), (.int 2 0), (.int 0 0), (.int 0 0), (.int 3 0), (.ref 386), (.bool true), (.int 181 0), (.ref 387), .none, (.ref 388), (.ref 389), (.ref 390), (.int 703 0), (.int 186 0), (.str "/claim/cut.py" 704)]), #[]⟩) ::
  (nat_lit 392, ⟨(.type "function"), none, (.func ⟨"_law_there", "_law_there", defArgs (top 48), .stmts (defBody (top 48)), defScope (top 48), 3, [], .none, .none, .none, (.str "law_shadowpages_k17_whole_walks" 653), none, (.ref 391), .none, 0⟩), #[]⟩) ::
  (nat_lit 393, ⟨(.type "tuple"), none, (.seq #[] 0), #[]⟩) ::
  (nat_lit 395, ⟨(.type "tuple"), none, (.seq #[(.str "_law_pages" 709), (.str "_law_row_here" 710), (.str "_law_write" 711), (.str "_law_kernel" 712)] 0), #[]⟩) ::
  (nat_lit 396, ⟨(.type "tuple"), none, (.seq #[] 0), #[]⟩) ::
  (nat_lit 398, ⟨(.type "code"), none, (.fields #[(.str "_law_lack" 706), (.str "_law_lack" 707), (.str "/claim/cut.py" 708), (.int 188 0), (.int 4 0), (.int 0 0), (.int 0 0), (.int 3 0), (.ref 393), (.bool true), (.int 181 0), (.ref 394), .none, (.ref 395), (.ref 396), (.ref 397), (.int 713 0), (.int 188 0), (.str "/claim/cut.py" 714)]), #[]⟩) ::
  (nat_lit 399, ⟨(.type "function"), none, (.func ⟨"_law_lack", "_law_lack", defArgs (top 49), .stmts (defBody (top 49)), defScope (top 49), 3, [], .none, .none, .none, (.str "law_shadowpages_k17_whole_walks" 653), none, (.ref 398), .none, 0⟩), #[]⟩) ::
  (nat_lit 400, ⟨(.type "tuple"), none, (.seq #[] 0), #[]⟩) ::
  (nat_lit 402, ⟨(.type "tuple"), none, (.seq #[(.str "_law_pages" 719), (.str "_law_root" 720), (.str "_law_place" 721), (.str "_law_write" 722), (.str "_law_kernel" 723), (.str "_law_told" 724), (.str "_law_high" 725)] 0), #[]⟩) ::
  (nat_lit 403, ⟨(.type "tuple"), none, (.seq #[] 0), #[]⟩) ::
  (nat_lit 405, ⟨(.type "code"), none, (.fields #[(.str "_law_faulty" 716), (.str "_law_faulty" 717), (.str "/claim/cut.py" 718), (.int 198 0), (.int 6 0), (.int 0 0), (.int 0 0), (.int 3 0), (.ref 400), (.bool true), (.int 181 0), (.ref 401), .none, (.ref 402), (.ref 403), (.ref 404), (.int 726 0), (.int 198 0), (.str "/claim/cut.py" 727)]), #[]⟩) ::
  (nat_lit 406, ⟨(.type "function"), none, (.func ⟨"_law_faulty", "_law_faulty", defArgs (top 50), .stmts (defBody (top 50)), defScope (top 50), 3, [], .none, .none, .none, (.str "law_shadowpages_k17_whole_walks" 653), none, (.ref 405), .none, 0⟩), #[]⟩) ::
  (nat_lit 407, ⟨(.type "tuple"), none, (.seq #[] 0), #[]⟩) ::
  (nat_lit 409, ⟨(.type "tuple"), none, (.seq #[(.str "_law_pages" 732), (.str "_law_root" 733), (.str "_law_place" 734), (.str "_law_write" 735), (.str "_law_kernel" 736), (.str "_law_trail" 737), (.str "_law_high" 738), (.str "_law_low" 739), (.str "_law_rights" 740)] 0), #[]⟩) ::
  (nat_lit 410, ⟨(.type "tuple"), none, (.seq #[] 0), #[]⟩) ::
  (nat_lit 412, ⟨(.type "code"), none, (.fields #[(.str "_law_leads" 729), (.str "_law_leads" 730), (.str "/claim/cut.py" 731), (.int 211 0), (.int 6 0), (.int 0 0), (.int 0 0), (.int 3 0), (.ref 407), (.bool true), (.int 181 0), (.ref 408), .none, (.ref 409), (.ref 410), (.ref 411), (.int 741 0), (.int 211 0), (.str "/claim/cut.py" 742)]), #[]⟩) ::
  (nat_lit 413, ⟨(.type "function"), none, (.func ⟨"_law_leads", "_law_leads", defArgs (top 51), .stmts (defBody (top 51)), defScope (top 51), 3, [], .none, .none, .none, (.str "law_shadowpages_k17_whole_walks" 653), none, (.ref 412), .none, 0⟩), #[]⟩) ::
  (nat_lit 414, ⟨(.type "tuple"), none, (.seq #[] 0), #[]⟩) ::
  (nat_lit 416, ⟨(.type "tuple"), none, (.seq #[(.str "_law_pages" 747), (.str "_law_spot" 748), (.str "_law_write" 749), (.str "_law_word" 750)] 0), #[]⟩) ::
  (nat_lit 417, ⟨(.type "tuple"), none, (.seq #[] 0), #[]⟩) ::
  (nat_lit 419, ⟨(.type "code"), none, (.fields #[(.str "_law_put" 744), (.str "_law_put" 745), (.str "/claim/cut.py" 746), (.int 224 0), (.int 3 0), (.int 0 0), (.int 0 0), (.int 3 0), (.ref 414), (.bool true), (.int 181 0), (.ref 415), .none, (.ref 416), (.ref 417), (.ref 418), (.int 751 0), (.int 224 0), (.str "/claim/cut.py" 752)]), #[]⟩) ::
  (nat_lit 420, ⟨(.type "function"), none, (.func ⟨"_law_put", "_law_put", defArgs (top 52), .stmts (defBody (top 52)), defScope (top 52), 3, [], .none, .none, .none, (.str "law_shadowpages_k17_whole_walks" 653), none, (.ref 419), .none, 0⟩), #[]⟩) ::
  (nat_lit 421, ⟨(.type "tuple"), none, (.seq #[] 0), #[]⟩) ::
  (nat_lit 423, ⟨(.type "tuple"), none, (.seq #[(.str "_law_store" 757), (.str "_law_pages" 758), (.str "_law_root" 759), (.str "_law_place" 760), (.str "_law_write" 761), (.str "_law_kernel" 762), (.str "_law_trail" 763), (.str "_law_told" 764), (.str "e" 765), (.str "_law_rights" 766), (.str "_law_again" 767)] 0), #[]⟩) ::
  (nat_lit 424, ⟨(.type "tuple"), none, (.seq #[] 0), #[]⟩) ::
  (nat_lit 426, ⟨(.type "code"), none, (.fields #[(.str "_law_reached" 754), (.str "_law_reached" 755), (.str "/claim/cut.py" 756), (.int 231 0), (.int 6 0), (.int 0 0), (.int 0 0), (.int 3 0), (.ref 421), (.bool true), (.int 181 0), (.ref 422), .none, (.ref 423), (.ref 424), (.ref 425), (.int 768 0), (.int 231 0), (.str "/claim/cut.py" 769)]), #[]⟩) ::
  (nat_lit 427, ⟨(.type "function"), none, (.func ⟨"_law_reached", "_law_reached", defArgs (top 53), .stmts (defBody (top 53)), defScope (top 53), 3, [], .none, .none, .none, (.str "law_shadowpages_k17_whole_walks" 653), none, (.ref 426), .none, 0⟩), #[]⟩) ::
  (nat_lit 428, ⟨(.type "tuple"), none, (.seq #[] 0), #[]⟩) ::
  (nat_lit 431, ⟨(.type "code"), none, (.fields #[(.str "_law_deed" 771), (.str "_law_deed" 772), (.str "/claim/cut.py" 773), (.int 247 0), (.int 4 0), (.int 0 0), (.int 0 0), (.int 3 0), (.ref 428), (.bool true), (.int 181 0), (.ref 429), .none, .none, .none, (.ref 430), (.int 774 0), (.int 247 0), (.str "/claim/cut.py" 775)]), #[]⟩) ::
  (nat_lit 432, ⟨(.type "function"), none, (.func ⟨"_law_deed", "_law_deed", defArgs (top 54), .stmts (defBody (top 54)), defScope (top 54), 3, [], .none, .none, .none, (.str "law_shadowpages_k17_whole_walks" 653), none, (.ref 431), .none, 0⟩), #[]⟩) ::
  (nat_lit 433, ⟨(.type "tuple"), none, (.seq #[] 0), #[]⟩) ::
  (nat_lit 436, ⟨(.type "code"), none, (.fields #[(.str "law" 777), (.str "law" 778), (.str "/claim/cut.py" 779), (.int 272 0), (.int 1 0), (.int 0 0), (.int 0 0), (.int 3 0), (.ref 433), (.bool true), (.int 181 0), (.ref 434), .none, .none, .none, (.ref 435), (.int 780 0), (.int 272 0), (.str "/claim/cut.py" 781)]), #[]⟩) ::
  (nat_lit 437, ⟨(.type "function"), none, (.func ⟨"law", "law", defArgs (top 55), .stmts (defBody (top 55)), defScope (top 55), 3, [], .none, .none, .none, (.str "law_shadowpages_k17_whole_walks" 653), none, (.ref 436), .none, 0⟩), #[]⟩) :: []
def asF : List Nat := [2, 3, 15, 17, 18, 20, 21, 22, 29, 30, 31, 32, 35, 42, 43, 44, 47, 54, 55, 56, 59, 66, 67, 68, 71, 78, 79, 80, 83, 90, 92, 93, 95, 96, 97, 98, 99, 102, 104, 105, 107, 108, 109, 111, 112, 114, 115, 116, 118, 119, 121, 122, 123, 125, 126, 128, 129, 130, 132, 133, 135, 136, 137, 139, 140, 142, 143, 144, 146, 147, 149, 150, 151, 153, 154, 156, 157, 158, 160, 161, 163, 164, 165, 167, 168, 170, 171, 172, 174, 175, 177, 178, 179, 181, 182, 184, 185, 186, 188, 189, 191, 192, 193, 196, 197, 198, 200, 201, 203, 204, 205, 207, 208, 210, 211, 219, 221, 222, 224, 225, 226, 228, 229, 231, 232, 233, 235, 236, 238, 239, 240, 242, 243, 245, 246, 247, 249, 250, 252, 253, 254, 256, 257, 259, 260, 261, 263, 264, 266, 267, 268, 270, 271, 273, 274, 275, 277, 278, 280, 281, 282, 283, 284, 285, 286, 289, 296, 299, 300, 301, 303, 304, 306, 307, 308, 310, 311, 313, 314, 315, 317, 318, 320, 321, 322, 324, 325, 327, 328, 329, 331, 332, 334, 335, 336, 338, 339, 341, 342, 343, 346, 347, 348, 349, 350, 353, 355, 356, 358, 359, 360, 362, 363, 365, 366, 367, 369, 370, 372, 373, 374, 376, 377, 379, 380, 381, 384, 385, 386, 388, 389, 391, 392, 393, 395, 396, 398, 399, 400, 402, 403, 405, 406, 407, 409, 410, 412, 413, 414, 416, 417, 419, 420, 421, 423, 424, 426, 427, 428, 431, 432, 433, 436, 437]
theorem hF (P : Params) : asF = (KF P).map (·.1) := by kernel_rfl
noncomputable def vw : Program := { PySem.Challenge.pw_shadowpages_k17_whole_walks with main := { PySem.Challenge.pw_shadowpages_k17_whole_walks.main with body := [top 0, top 1, top 2, top 3, top 4, top 5, top 6, top 8, top 9, top 10, top 11, top 12, top 13, top 15, top 16, top 17, top 19, top 20, top 22, top 23, top 24, top 25, top 26, top 27, top 28, top 29, top 31, top 32, top 33, top 34, top 35, top 37, top 38, top 39, top 40, top 41, top 43, top 44, top 45, top 46, top 47, top 48, top 49, top 50, top 51, top 52, top 53, top 54, top 55] } }
set_option maxHeartbeats 0 in
theorem hl : PySem.W.LeftO PySem.Challenge.rw_shadowpages_k17_whole_walks.row.prog vw [] (fun s => PySem.W.xlAt vw [] s && PySem.W.recOk [] s) (PySem.W.kHook KF asF hF).obs (PySem.W.kHook KF asF hF).val 6764 := by
  refine HT1.left_one (by rfl) (by rfl) (fun _ => rfl) fun w => ?_
  rw [PySem.W.Fast.te2107270133195307567, PySem.W.Fast.te4757257242682413121, PySem.W.Fast.te6483871617321286689, PySem.W.Fast.te3486900944545009338]
  kernel_rfl
end K17
end
section
namespace L2
open PySem PySem.Spec PyProof.Rows
abbrev Key := Sum Int Str
def keyIs : Key → Value → Bool
  | .inl k, v => Value.isInt k v
  | .inr x, v => Value.isStrOf x v
def keyH (w : World) : Key → Int
  | .inl k => hashInt k
  | .inr x => hashStr w x
theorem keyIs_shape : ∀ {k : Key} {v : Value}, keyIs k v = true → (∃ i t, k = Sum.inl i ∧ v = Value.int i t) ∨ (∃ x t, k = Sum.inr x ∧ v = Value.str x t)
  | .inl i, v, h => by
    obtain ⟨t, e⟩ := Value.isInt_shape (k := i) (v := v) h
    exact .inl ⟨i, t, rfl, e⟩
  | .inr x, v, h => by
    obtain ⟨t, e⟩ := Value.isStrOf_shape (x := x) (v := v) h
    exact .inr ⟨x, t, rfl, e⟩
theorem key_ll (a b : Int) : decide ((Sum.inl a : Key) = Sum.inl b) = (a == b) := by
  by_cases e : a = b
  · subst e; simp
  · have h : ¬ (Sum.inl a : Key) = Sum.inl b := fun q => e (Sum.inl.inj q)
    rw [decide_eq_false h]
    exact (beq_eq_false_iff_ne.mpr e).symm
theorem key_rr (a b : Str) : decide ((Sum.inr a : Key) = Sum.inr b) = decide (a = b) := by
  by_cases e : a = b
  · subst e; simp
  · have h : ¬ (Sum.inr a : Key) = Sum.inr b := fun q => e (Sum.inr.inj q)
    rw [decide_eq_false h, decide_eq_false e]
theorem key_lr (a : Int) (b : Str) : decide ((Sum.inl a : Key) = Sum.inr b) = false := decide_eq_false (fun q => nomatch q)
theorem key_rl (a : Str) (b : Int) : decide ((Sum.inr a : Key) = Sum.inl b) = false := decide_eq_false (fun q => nomatch q)
def mixKind (prog : Program) (w : World) : PySem.KeyKind prog w Key where
  is := keyIs
  hash := keyH w
  inj := fun v a b ha hb => by
    rcases keyIs_shape ha with ⟨i, t, rfl, rfl⟩ | ⟨x, t, rfl, rfl⟩
    · rcases keyIs_shape hb with ⟨j, u, rfl, e⟩ | ⟨y, u, rfl, e⟩
      · injection e with e1 _; rw [e1]
      · exact nomatch e
    · rcases keyIs_shape hb with ⟨j, u, rfl, e⟩ | ⟨y, u, rfl, e⟩
      · exact nomatch e
      · injection e with e1 _; rw [e1]
  byValue := fun k v h => by
    rcases keyIs_shape h with ⟨i, t, rfl, rfl⟩ | ⟨x, t, rfl, rfl⟩ <;> rfl
  pyHash := fun hv h => by
    rcases keyIs_shape hv with ⟨i, t, rfl, rfl⟩ | ⟨x, t, rfl, rfl⟩
    · exact wpAny_pyHash_int h
    · exact wpAny_pyHash_str h
  eqBool := fun hu hv h => by
    rcases keyIs_shape hu with ⟨i, t, rfl, rfl⟩ | ⟨x, t, rfl, rfl⟩
    · rcases keyIs_shape hv with ⟨j, u, rfl, rfl⟩ | ⟨y, u, rfl, rfl⟩
      · rw [key_ll] at h; exact wpAny_eqBool_int h
      · rw [key_lr] at h; exact SeqAt.EqAt.int_str i t y u _ _ _ _ h
    · rcases keyIs_shape hv with ⟨j, u, rfl, rfl⟩ | ⟨y, u, rfl, rfl⟩
      · rw [key_rl] at h; exact SeqAt.EqAt.str_int x t j u _ _ _ _ h
      · rw [key_rr] at h; exact wpAny_eqBool_str h
  «strs» := fun k x t v h => by
    rcases keyIs_shape h with ⟨i, u, rfl, e⟩ | ⟨y, u, rfl, e⟩
    · exact nomatch e
    · injection e with e1 _
      subst e1
      cases v <;> rfl
end L2
namespace L2
open PySem PySem.Spec PyProof.Rows
inductive V where
  | non | bl (b : Bool) | int (i : Int) | str (x : Str) | byt (b : Array UInt8) | flt (b : UInt64) | ref (a : Addr) | ty (n : String)
  deriving DecidableEq
def RelV : V → Value → Prop
  | .non, u => u = Value.none
  | .bl b, u => u = Value.bool b
  | .int i, u => ∃ t, u = Value.int i t
  | .str x, u => ∃ t, u = Value.str x t
  | .byt b, u => ∃ t, u = Value.bytes b t
  | .flt b, u => ∃ t, u = Value.float b t
  | .ref a, u => u = Value.ref a
  | .ty n, u => u = Value.type n
abbrev Vals : List V → List Value → Prop := Paired RelV
theorem Vals.length {xs : List V} {us : List Value} (r : Vals xs us) : xs.length = us.length := Paired.length r
theorem Vals.get : ∀ {xs : List V} {us : List Value} {i : Nat} {x : V}, Vals xs us → xs[i]? = some x → ∃ u, us[i]? = some u ∧ RelV x u
  | _, _, _, _, .nil, e => by simp at e
  | _, _, 0, _, .cons r _, e => by simp at e; subst e; exact ⟨_, rfl, r⟩
  | _, _, i + 1, x, .cons _ t, e => by
    obtain ⟨u, h1, h2⟩ := Vals.get (i := i) (x := x) t (by simpa using e)
    exact ⟨u, by simpa using h1, h2⟩
theorem Vals.set {x : V} {u : Value} (r : RelV x u) : ∀ {xs : List V} {us : List Value} (i : Nat), Vals xs us → Vals (xs.set i x) (us.set i u)
  | _, _, _, .nil => .nil
  | _, _, 0, .cons _ t => .cons r t
  | _, _, i + 1, .cons q t => .cons q (Vals.set r i t)
theorem Vals.append : ∀ {xs ys : List V} {us ws : List Value}, Vals xs us → Vals ys ws → Vals (xs ++ ys) (us ++ ws)
  | _, _, _, _, .nil, s => s
  | _, _, _, _, .cons r t, s => .cons r (Vals.append t s)
theorem Vals.take : ∀ {xs : List V} {us : List Value} (n : Nat), Vals xs us → Vals (xs.take n) (us.take n)
  | _, _, 0, _ => .nil
  | _, _, _ + 1, .nil => .nil
  | _, _, n + 1, .cons r t => .cons r (Vals.take n t)
theorem Vals.drop : ∀ {xs : List V} {us : List Value} (n : Nat), Vals xs us → Vals (xs.drop n) (us.drop n)
  | _, _, 0, r => r
  | _, _, _ + 1, .nil => .nil
  | _, _, n + 1, .cons _ t => Vals.drop n t
def RelO : Option V → Option Value → Prop
  | some v, some u => RelV v u
  | none, none => True
  | _, _ => False
def KV {κ : Type} : List (κ × V) → List (κ × Value) → Prop := Paired fun (p : κ × V) (q : κ × Value) => p.1 = q.1 ∧ RelV p.2 q.2
def kV : Key → V
  | .inl i => .int i
  | .inr x => .str x
inductive HO where
    | lst (xs : List V)
    | tup (xs : List V)
    | dK (kvs : List (Key × V)) | dT (kvs : List (List Key × V))
    | set (S : Int → Bool) (n : Nat)
    | ins (C dx : Addr) (fs : List (Str × V))
    | own (x : Addr)
    | xd (fs : List (Str × V))
    | met (f x : Addr)
    | rng (lo hi : Int)
    | frz (o : Obj) (u : HO)
    | tbl (ps : Array Value)
    | ext (φ : Heap → Prop)
abbrev Hp := Addr → Option HO
def upd (H : Hp) (a : Addr) (o : HO) : Hp := fun b => if b = a then some o else H b
theorem upd_same {H : Hp} {a : Addr} {o : HO} : upd H a o a = some o := by unfold upd; rw [if_pos rfl]
theorem upd_ne {H : Hp} {a b : Addr} {o : HO} (h : b ≠ a) : upd H a o b = H b := by unfold upd; rw [if_neg h]
theorem ne_of {H : Hp} {a b : Addr} {o u : HO} (h : H a = some o) (h' : H b = some u) (d : o ≠ u) : a ≠ b := by
  intro e; subst e; rw [h] at h'; exact d (Option.some.inj h')
theorem ne_of_none {H : Hp} {a b : Addr} {o : HO} (h : H a = some o) (h' : H b = none) : a ≠ b := by
  intro e; subst e; rw [h] at h'; cases h'
section
variable (P : Program) (w : World)
def ObjOk (H : Hp) (h : Heap) (a : Addr) : HO → Prop
  | .lst xs => xs.length ≤ sizeLine ∧ ∃ (its : List Value) (n : Nat), Vals xs its ∧ h.get? a = some { cls := .type "list", data := .seq its.toArray n }
  | .tup xs => xs.length ≤ sizeLine ∧ ∃ its : List Value, Vals xs its ∧ IsTup h a its.toArray
  | .dK kvs => kvs.length ≤ sizeLine ∧ (a == sysModules) = false ∧ ∃ vs, KV kvs vs ∧ h.DictOf (mixKind P w) a vs
  | .dT kvs => kvs.length ≤ sizeLine ∧ (a == sysModules) = false ∧ ∃ xs : List (List Key × Addr × Value),
      Paired (fun (p : List Key × V) (q : List Key × Addr × Value) => p.1 = q.1 ∧ H q.2.1 = some (.tup (p.1.map kV)) ∧ RelV p.2 q.2.2) kvs xs ∧
      ∃ o es ep, h.get? a = some o ∧ o.ExactDict ∧ o.data = .dict es ep ∧ es.toList = xs.map (entryOfKey (tupleKind (mixKind P w))) ∧ (xs.map (·.1)).Nodup
  | .set S n => h.SetOf (intKind P w) a S n
  | .ins C dx fs => H dx = some (.own a) ∧ fs.length ≤ 1000 ∧ dx ≠ a ∧ h.get? a = some (PySem.W.instObj C dx) ∧
      ∃ mA, h.Ns1 dx mA ∧ (∀ f, RelO (fs.lookup f) (mA f)) ∧ PySem.Within mA (fs.map (·.1))
  | .own _ => ∃ o, h.get? a = some o
  | .xd fs => ∃ mA, h.Ns1 a mA ∧ ∀ f, RelO (fs.lookup f) (mA f)
  | .rng lo hi => ∃ t u v, h.get? a = some { cls := .type "range", data := .fields #[.int lo t, .int hi u, .int 1 v] }
  | .frz o u => h.get? a = some o ∧ ObjOk H h a u
  | .tbl ps => h.get? a = some { cls := .none, data := .fields ps }
  | .met f x => h.get? a = some (PySem.W.methodObj (.ref f) (.ref x))
  | .ext φ => φ h ∧ (∃ o, h.get? a = some o) ∧ ∀ h1 h2 : Heap, φ h1 → (∀ o, h1.get? a = some o → h2.get? a = some o) → φ h2
def HOk (H : Hp) (h : Heap) : Prop := ∀ a o, H a = some o → ObjOk P w H h a o
end
section
variable {P : Program} {w : World} {H H' : Hp} {h h' : Heap} {a : Addr} {o : HO}
theorem ObjOk.lt (x : ObjOk P w H h a o) : a < h.objs.size := by
  cases o with
  | lst xs => obtain ⟨_, _, _, _, e⟩ := x; exact Heap.lt_size e
  | tup xs => obtain ⟨_, _, _, p⟩ := x; exact p.lt
  | dK kvs => obtain ⟨_, _, _, _, o, _, _, e, _⟩ := x; exact Heap.lt_size e
  | dT kvs => obtain ⟨_, _, _, _, o, _, _, e, _⟩ := x; exact Heap.lt_size e
  | set S n => obtain ⟨o, _, _, _, e, _⟩ := x; exact Heap.lt_size e
  | ins C dx fs => obtain ⟨_, _, _, e, _⟩ := x; exact Heap.lt_size e
  | own y => obtain ⟨_, e⟩ := x; exact Heap.lt_size e
  | xd fs => obtain ⟨_, ⟨_, _, _, e, _⟩, _⟩ := x; exact Heap.lt_size e
  | rng lo hi => obtain ⟨_, _, _, e⟩ := x; exact Heap.lt_size e
  | frz ob u => obtain ⟨e, _⟩ := x; exact Heap.lt_size e
  | tbl ps => exact Heap.lt_size (show h.get? a = some _ from x)
  | met f y => exact Heap.lt_size (show h.get? a = some _ from x)
  | ext φ => obtain ⟨_, ⟨_, e⟩, _⟩ := x; exact Heap.lt_size e
theorem Paired.mapP {α β : Type} {F G : α → β → Prop} : ∀ {l₁ : List α} {l₂ : List β}, Paired F l₁ l₂ → (∀ a b, F a b → G a b) → Paired G l₁ l₂
  | _, _, .nil, _ => .nil
  | _, _, .cons r t, f => .cons (f _ _ r) (Paired.mapP t f)
theorem ObjOk.stay (x : ObjOk P w H h a o) (k : ∀ b u, (b = a ∨ H b = some (.own a)) → h.get? b = some u → h'.get? b = some u)
    (ho : ∀ b, H b = some (.own a) → H' b = some (.own a)) (ht : ∀ b xs, H b = some (.tup xs) → H' b = some (.tup xs)) : ObjOk P w H' h' a o := by
  induction o with
  | lst xs => obtain ⟨z, its, n, r, e⟩ := x; exact ⟨z, its, n, r, k _ _ (.inl rfl) e⟩
  | tup xs => obtain ⟨z, its, r, ob, e, c⟩ := x; exact ⟨z, its, r, ob, k _ _ (.inl rfl) e, c⟩
  | dK kvs => obtain ⟨z, y, vs, r, ob, es, ep, e, c⟩ := x; exact ⟨z, y, vs, r, ob, es, ep, k _ _ (.inl rfl) e, c⟩
  | dT kvs =>
    obtain ⟨z, y, xs, r, ob, es, ep, e, c⟩ := x
    exact ⟨z, y, xs, Paired.mapP r fun p q z => ⟨z.1, ht _ _ z.2.1, z.2.2⟩, ob, es, ep, k _ _ (.inl rfl) e, c⟩
  | set S n => obtain ⟨ob, es, ep, t, e, c⟩ := x; exact ⟨ob, es, ep, t, k _ _ (.inl rfl) e, c⟩
  | ins C dx fs =>
    obtain ⟨d, z, ne, e, mA, ⟨od, es, ep, e2, c⟩, r⟩ := x
    exact ⟨ho _ d, z, ne, k _ _ (.inl rfl) e, mA, ⟨od, es, ep, k _ _ (.inr d) e2, c⟩, r⟩
  | own y => obtain ⟨ob, e⟩ := x; exact ⟨ob, k _ _ (.inl rfl) e⟩
  | xd fs => obtain ⟨mA, ⟨od, es, ep, e, c⟩, r⟩ := x; exact ⟨mA, ⟨od, es, ep, k _ _ (.inl rfl) e, c⟩, r⟩
  | rng lo hi => obtain ⟨t, u, v, e⟩ := x; exact ⟨t, u, v, k _ _ (.inl rfl) e⟩
  | frz ob u ih => obtain ⟨e, q⟩ := x; exact ⟨k _ _ (.inl rfl) e, ih q⟩
  | tbl ps =>
    have e : h.get? a = some { cls := .none, data := .fields ps } := x
    show h'.get? a = some { cls := .none, data := .fields ps }
    exact k a _ (.inl rfl) e
  | met f y =>
    have e : h.get? a = some (PySem.W.methodObj (.ref f) (.ref y)) := x
    show h'.get? a = some (PySem.W.methodObj (.ref f) (.ref y))
    exact k a _ (.inl rfl) e
  | ext φ => obtain ⟨p, ⟨o, e⟩, st⟩ := x; exact ⟨st _ _ p fun o q => k _ _ (.inl rfl) q, ⟨o, k _ _ (.inl rfl) e⟩, st⟩
theorem HOk.lt (x : HOk P w H h) (e : H a = some o) : a < h.objs.size := (x a o e).lt
theorem HOk.fresh (x : HOk P w H h) (e : h.objs.size ≤ a) : H a = none := by
  cases q : H a with
  | none => rfl
  | some u => exact absurd (Nat.lt_of_lt_of_le (x.lt q) e) (Nat.lt_irrefl _)
theorem HOk.kept (x : HOk P w H h) (k : ∀ b u, h.get? b = some u → h'.get? b = some u) : HOk P w H h' := fun a o e =>
  (x a o e).stay (fun b u _ q => k b u q) (fun _ q => q) fun _ _ q => q
theorem HOk.laid (x : HOk P w H h) (k : ∀ b u, h.get? b = some u → h'.get? b = some u) (hp : h.objs.size ≤ a) (new : ObjOk P w (upd H a o) h' a o) : HOk P w (upd H a o) h' := fun b u e => by
  have hn := x.fresh hp
  by_cases hb : b = a
  · subst hb; rw [upd_same] at e; cases e; exact new
  · rw [upd_ne hb] at e
    exact (x b u e).stay (fun c v _ q => k c v q) (fun c q => by rw [upd_ne (ne_of_none q hn)]; exact q) fun c xs q => by rw [upd_ne (ne_of_none q hn)]; exact q
end
def Rd (H : Hp) (a : Addr) (u : HO) : Prop := H a = some u ∨ ∃ o, H a = some (.frz o u)
theorem Rd.ok {P : Program} {w : World} {H : Hp} {h : Heap} {a : Addr} {u : HO} (r : Rd H a u) (x : HOk P w H h) : ObjOk P w H h a u := by
  rcases r with r | ⟨o, r⟩
  · exact x a u r
  · obtain ⟨_, q⟩ := x a _ r
    exact q
def Mut : Option HO → Prop
  | some (.lst _) => True
  | some (.dK _) => True
  | some (.dT _) => True
  | some (.set _ _) => True
  | some (.ins _ _ _) => True
  | some (.ext _) => True
  | _ => False
section
variable {P : Program} {w : World} {H : Hp} {h h' : Heap} {x e : Addr} {o' : HO}
theorem HOk.write (ok : HOk P w H h) (mu : Mut (H x)) (he : e = x ∨ H e = some (.own x)) (k : ∀ b u, b ≠ e → h.get? b = some u → h'.get? b = some u) (heo : ∃ u, h'.get? e = some u)
    (new : ObjOk P w (upd H x o') h' x o') : HOk P w (upd H x o') h' := fun b u q => by
  have nown : ∀ c y, H c = some (.own y) → c ≠ x := fun c y r z => by subst z; rw [r] at mu; exact mu
  have ntup : ∀ c xs, H c = some (.tup xs) → c ≠ x := fun c xs r z => by subst z; rw [r] at mu; exact mu
  by_cases hb : b = x
  · subst hb; rw [upd_same] at q; cases q; exact new
  · rw [upd_ne hb] at q
    by_cases hbe : b = e
    · have q' : H b = some (.own x) := by
        rcases he with z | z
        · exact absurd (hbe.trans z) hb
        · rw [hbe]; exact z
      rw [q] at q'; cases q'
      obtain ⟨v, hv⟩ := heo
      exact ⟨v, by rw [hbe]; exact hv⟩
    · refine (ok b u q).stay (fun c v hc r => k c v ?_ r) (fun c r => by rw [upd_ne (nown c b r)]; exact r) fun c xs r => by rw [upd_ne (ntup c xs r)]; exact r
      rcases hc with rfl | hc
      · exact hbe
      · rintro rfl
        rcases he with z | z
        · exact nown c b hc z
        · rw [hc] at z; cases z; exact hb rfl
end
structure Un (fs ex : List Addr) (H H' : Hp) (h h' : Heap) : Prop where
  keep : ∀ b o, h.get? b = some o → H b = none → b ∉ fs → b ∉ ex → h'.get? b = some o
  slot : ∀ b o, h.get? b = some o → H b = none → b ∈ fs → b ∉ ex → ∃ sl, h'.get? b = some { o with slots := sl }
  free : ∀ b o, h.get? b = some o → H b = none → b ∉ ex → H' b = none
  there : ∀ b o, h.get? b = some o → b ∉ ex → ∃ o', h'.get? b = some o'
  tups : ∀ b xs, H b = some (.tup xs) → H' b = some (.tup xs)
  frzs : ∀ b o u, H b = some (.frz o u) → H' b = some (.frz o u)
  tbls : ∀ b ps, H b = some (.tbl ps) → ∃ more, H' b = some (.tbl (ps ++ more))
section
variable {fs fs' ex ex' : List Addr} {H H1 H2 : Hp} {h h1 h2 h' : Heap} {a x e : Addr} {o : HO}
theorem Un.any (u : Un fs ex H H1 h h1) {b : Addr} {ob : Obj} (q : h.get? b = some ob) (n : H b = none) (hx : b ∉ ex) : ∃ sl, h1.get? b = some { ob with slots := sl } := by
  by_cases hb : b ∈ fs
  · exact u.slot b ob q n hb hx
  · exact ⟨ob.slots, u.keep b ob q n hb hx⟩
theorem Un.kept (k : ∀ b u, h.get? b = some u → h'.get? b = some u) : Un fs ex H H h h' :=
  ⟨fun b ob q _ _ _ => k b ob q, fun b ob q _ _ _ => ⟨ob.slots, k b ob q⟩, fun _ _ _ n _ => n, fun b ob q _ => ⟨ob, k b ob q⟩, fun _ _ q => q, fun _ _ _ q => q, fun _ ps q => ⟨#[], by rw [q]; simp⟩⟩
theorem Un.refl : Un fs ex H H h h := Un.kept fun _ _ q => q
theorem Un.laid (k : ∀ b u, h.get? b = some u → h'.get? b = some u) (hp : h.objs.size ≤ a) (hn : H a = none) : Un fs ex H (upd H a o) h h' where
  keep := fun b u q _ _ _ => k b u q
  slot := fun b u q _ _ _ => ⟨u.slots, k b u q⟩
  free := fun b u q n _ => by rw [upd_ne (Nat.ne_of_lt (Nat.lt_of_lt_of_le (Heap.lt_size q) hp))]; exact n
  there := fun b u q _ => ⟨u, k b u q⟩
  tups := fun b xs q => by rw [upd_ne (ne_of_none q hn)]; exact q
  frzs := fun b u xs q => by rw [upd_ne (ne_of_none q hn)]; exact q
  tbls := fun b ps q => ⟨#[], by rw [upd_ne (ne_of_none q hn), q]; simp⟩
theorem Un.write (mu : Mut (H x)) (he : e = x ∨ H e = some (.own x)) (k : ∀ b u, b ≠ e → h.get? b = some u → h'.get? b = some u) (heo : ∃ u, h'.get? e = some u) : Un fs ex H (upd H x o) h h' := by
  have hx : ∀ b, H b = none → b ≠ x := fun b n z => by subst z; rw [n] at mu; exact mu
  have hb : ∀ b, H b = none → b ≠ e := fun b n z => by
    subst z
    rcases he with r | r
    · exact hx b n r
    · rw [n] at r; cases r
  have hm : ∀ b u, H b = some u → ¬ Mut (some u) → b ≠ x := fun b u q nm z => by subst z; rw [q] at mu; exact nm mu
  refine ⟨fun b u q n _ _ => k b u (hb b n) q, fun b u q n _ _ => ⟨u.slots, k b u (hb b n) q⟩, fun b u q n _ => by rw [upd_ne (hx b n)]; exact n, fun b u q _ => ?_,
    fun b xs q => by rw [upd_ne (hm b _ q fun z => z)]; exact q, fun b u xs q => by rw [upd_ne (hm b _ q fun z => z)]; exact q, fun b ps q => ⟨#[], by rw [upd_ne (hm b _ q fun z => z), q]; simp⟩⟩
  by_cases hbe : b = e
  · subst hbe; exact heo
  · exact ⟨u, k b u hbe q⟩
end
def trk (h : Heap) (H : Hp) : List Addr := (List.range h.objs.size).filter fun a => (H a).isSome
def hidT (h : Heap) (H : Hp) : Heap := PySem.W.hideAll h (trk h H)
theorem hidT_size (h : Heap) (H : Hp) : (hidT h H).objs.size = h.objs.size := PySem.W.hideAll_size _ _
theorem hidT_get {h : Heap} {H : Hp} {b : Addr} {o : Obj} (e : h.get? b = some o) (n : H b = none) : (hidT h H).get? b = some o :=
  PySem.W.hideAll_get _ e fun hm => by
    have q : (H b).isSome = true := (List.mem_filter.mp hm).2
    rw [n] at q; simp at q
theorem of_hidT {h : Heap} {H : Hp} {b : Addr} {o : Obj} (e : (hidT h H).get? b = some o) : h.get? b = some o ∧ H b = none := by
  have e' : h.get? b = some o := PySem.W.of_hideAll (trk h H) e
  refine ⟨e', ?_⟩
  cases q : H b with
  | none => rfl
  | some x =>
    have hm : b ∈ trk h H := List.mem_filter.mpr ⟨List.mem_range.mpr (Heap.lt_size e'), by simp [q]⟩
    have z : (hidT h H).get? b = none := PySem.W.hideAll_none (trk h H) hm
    rw [z] at e; cases e
end L2
namespace L2
open PySem PySem.Spec PyProof.Rows
structure Mod (K : PySem.W.Frag) (mg : Str → Option Value) (base : Heap) : Prop where
  kin : K.In base
  glob : base.Ns mainGlobals mg
  blt : ∃ mb, base.Ns builtinsNs mb ∧ ∀ x : Str, x ≠ "__name__" → mb x = bootBuiltins x
  nolimit : base.NoLimit
structure Cx where
  prog : Program
  w : World
  K : PySem.W.Frag
  mg : Str → Option Value
  base : Heap
  A : Around
  N : List Str
  s₀ : Shared
  H₀ : Hp
  env : Env
  outer : List Env
  stack : List Env
  ex : List Addr
  fn : Str → Bool
  calm : Bool
  pn : List (Addr × Obj)
  xe : Value → Shared → Prop
def frs (l : List Env) : List Addr := l.filterMap (·.frame)
abbrev Cx.fs (X : Cx) : List Addr := frs X.outer
def Vis (sc : Scope) (x : Str) : Prop := sc.names.lookup x = some .local ∨ sc.names.lookup x = some .cell ∨ sc.names.lookup x = some .free
def Loc (sc : Scope) (x : Str) : Prop := sc.names.lookup x = some .local ∨ sc.names.lookup x = some .cell
def Look (env : Env) (h : Heap) (m : Str → Option Value) (x : Str) (u : Value) : Prop :=
  (env.kindOf x = some .local ∧ m x = some u) ∨ ((env.kindOf x = some .cell ∨ env.kindOf x = some .free) ∧ ∃ c, env.cells.lookup x = some c ∧ h.IsCell c (some u))
structure Cx.Ok (X : Cx) : Prop where
  mod : Mod X.K X.mg X.base
  kind : X.env.scope.kind = .function
  glob : X.env.globals = mainGlobals
  blt : X.env.builtins = builtinsNs
  above : X.s₀.heap.objs.size ≤ X.env.locals
  inj : ∀ x y c, X.env.cells.lookup x = some c → X.env.cells.lookup y = some c → x = y
  has : ∀ x, (X.env.kindOf x = some .cell ∨ X.env.kindOf x = some .free) → ∃ c, X.env.cells.lookup x = some c
  cab : ∀ x c, X.fn x = true → X.env.cells.lookup x = some c → X.s₀.heap.objs.size ≤ c
  hd : X.calm = true → X.A.handled = none
  frames : X.A.frames = some X.stack
  stk : X.stack = X.outer ∨ (X.stack = X.env :: X.outer ∧ X.env.frame = some X.env.locals)
  exf : ∀ b ∈ X.ex, b ≠ X.env.locals ∧ ∀ x c, X.env.cells.lookup x = some c → c ≠ b
  bs : ∀ b o, X.base.get? b = some o → X.s₀.heap.get? b = some o ∧ X.H₀ b = none
  bsz : X.base.objs.size ≤ X.s₀.heap.objs.size
  noex : ∀ b o, X.base.get? b = some o → b ∉ X.ex
  exfs : ∀ b ∈ X.ex, b ∉ X.fs
  funs : X.s₀.heap.FunFrames X.base X.outer
  frf : ∀ b ∈ X.fs, X.H₀ b = none
structure Inv (X : Cx) (pins : List (Addr × Obj)) (σ : List (Option V)) (H : Hp) (s : Shared) : Prop where
  ok : X.Ok
  os : s.os = X.s₀.os
  bare : AllBare s.gens
  base : Un X.fs X.ex X.H₀ H X.s₀.heap s.heap
  loc : ∃ m, s.heap.Ns X.env.locals m ∧ ∀ (i : Nat) (x : Str) (v : V), X.N[i]? = some x → σ[i]? = some (some v) → Vis X.env.scope x → ∃ u, RelV v u ∧ Look X.env s.heap m x u
  cell : ∀ x c, X.env.cells.lookup x = some c → ∃ v, s.heap.IsCell c v
  free : H X.env.locals = none
  freeC : ∀ x c, X.env.cells.lookup x = some c → H c = none
  pin : ∀ p ∈ X.pn ++ pins, s.heap.get? p.1 = some p.2 ∧ H p.1 = none ∧ p.1 ≠ X.env.locals ∧ p.1 ∉ X.fs ∧ ∀ v, p.2.data ≠ .cell v
  hok : HOk X.prog X.w H s.heap
  len : σ.length = X.N.length
section
variable {X : Cx} {pins : List (Addr × Obj)} {σ : List (Option V)} {H H' : Hp} {s : Shared} {h' : Heap}
theorem Cx.Ok.nofr (ok : X.Ok) {b : Addr} {o : Obj} (e : X.base.get? b = some o) : b ∉ X.fs := fun hb => by
  have := (ok.funs.mem hb).1
  rw [e] at this; cases this
theorem Inv.bs (I : Inv X pins σ H s) : ∀ b o, X.base.get? b = some o → s.heap.get? b = some o ∧ H b = none := fun b o e =>
  ⟨I.base.keep b o (I.ok.bs b o e).1 (I.ok.bs b o e).2 (I.ok.nofr e) (I.ok.noex b o e), I.base.free b o (I.ok.bs b o e).1 (I.ok.bs b o e).2 (I.ok.noex b o e)⟩
theorem Inv.bk (I : Inv X pins σ H s) : ∀ b o, X.base.get? b = some o → s.heap.get? b = some o := fun b o e => (I.bs b o e).1
theorem Inv.mod (I : Inv X pins σ H s) : Mod X.K X.mg X.base := I.ok.mod
theorem Inv.kIn (I : Inv X pins σ H s) : X.K.In s.heap := I.ok.mod.kin.keeps I.bk
theorem Inv.lt (I : Inv X pins σ H s) : X.env.locals < s.heap.objs.size := let ⟨_, hn, _⟩ := I.loc; hn.lt
theorem Inv.sz (I : Inv X pins σ H s) : X.s₀.heap.objs.size ≤ s.heap.objs.size := Nat.le_trans I.ok.above (Nat.le_of_lt I.lt)
theorem Inv.nofs (I : Inv X pins σ H s) {a : Addr} (h : s.heap.objs.size ≤ a) : a ∉ X.fs := fun hb => by
  obtain ⟨_, o, ho, _⟩ := I.ok.funs.mem hb
  exact absurd (Nat.lt_of_lt_of_le (Heap.lt_size ho) (Nat.le_trans I.sz h)) (Nat.lt_irrefl _)
theorem Inv.cne (I : Inv X pins σ H s) : ∀ x c, X.env.cells.lookup x = some c → c ≠ X.env.locals := fun x c e z => by
  obtain ⟨v, o, ho, hd⟩ := I.cell x c e
  obtain ⟨m, ⟨o', es, ep, ho', hd', _⟩, _⟩ := I.loc
  rw [z, ho'] at ho; cases ho; rw [hd'] at hd; cases hd
theorem Inv.funs (I : Inv X pins σ H s) : s.heap.FunFrames X.base X.outer := by
  have all : ∀ (l : List Env), (∀ b ∈ frs l, b ∈ X.fs) → X.s₀.heap.FunFrames X.base l → s.heap.FunFrames X.base l := by
    intro l
    induction l with
    | nil => intro _ _; trivial
    | cons env r ih =>
      intro hs hl
      obtain ⟨hk, ⟨L, o, hf, hn, ho, hd⟩, hr⟩ := hl
      have hL : L ∈ X.fs := hs L (by unfold frs; rw [List.filterMap_cons, hf]; exact List.mem_cons_self)
      obtain ⟨sl, e⟩ := I.base.slot L o ho (I.ok.frf L hL) hL fun z => I.ok.exfs L z hL
      exact ⟨hk, ⟨L, _, hf, hn, e, hd⟩, ih (fun b hb => hs b (by unfold frs; rw [List.filterMap_cons, hf]; exact List.mem_cons_of_mem _ hb)) hr⟩
  exact all X.outer (fun _ hb => hb) I.ok.funs
theorem Inv.stack (I : Inv X pins σ H s) : s.heap.FunFrames X.base X.stack := by
  rcases I.ok.stk with e | ⟨e, hf⟩
  · rw [e]; exact I.funs
  · rw [e]
    obtain ⟨m, hn, _⟩ := I.loc
    refine .cons (by rw [I.ok.kind]; decide) hf hn ?_ I.funs
    exact Heap.get?_none_of_le (Nat.le_trans I.ok.bsz I.ok.above)
theorem Inv.stkSub (I : Inv X pins σ H s) : ∀ b ∈ frs X.stack, b ∈ X.env.locals :: X.fs := fun b hb => by
  rcases I.ok.stk with e | ⟨e, hf⟩
  · rw [e] at hb; exact List.mem_cons_of_mem _ hb
  · rw [e] at hb
    unfold frs at hb
    rw [List.filterMap_cons, hf] at hb
    exact hb
theorem Inv.stkFree (I : Inv X pins σ H s) : ∀ b ∈ frs X.stack, H b = none := fun b hb => by
  rcases List.mem_cons.mp (I.stkSub b hb) with e | hb
  · rw [e]; exact I.free
  · obtain ⟨_, o, ho, _⟩ := I.ok.funs.mem hb
    exact I.base.free b o ho (I.ok.frf b hb) fun z => I.ok.exfs b z hb
theorem Inv.step {g' : Array GenState} {t' : Nat} {d' : Drawn} {ch : List Addr} (I : Inv X pins σ H s)
    (hch : ∀ b ∈ ch, (b ∈ X.ex ∨ X.s₀.heap.objs.size ≤ b) ∧ b ≠ X.env.locals ∧ (∀ x c, X.env.cells.lookup x = some c → c ≠ b) ∧ ∀ p ∈ X.pn ++ pins, p.1 ≠ b)
    (keep : ∀ b o, b ≠ X.env.locals → b ∉ X.fs → b ∉ ch → s.heap.get? b = some o → H b = none → h'.get? b = some o)
    (slot : ∀ b o, b ≠ X.env.locals → b ∈ X.fs → b ∉ ch → s.heap.get? b = some o → H b = none → ∃ sl, h'.get? b = some { o with slots := sl }) (free : ∀ b o, b ∉ ch → s.heap.get? b = some o → H b = none → H' b = none)
    (there : ∀ b o, b ∉ ch → s.heap.get? b = some o → ∃ o', h'.get? b = some o')
    (tups : ∀ b xs, H b = some (.tup xs) → H' b = some (.tup xs)) (frzs : ∀ b o u, H b = some (.frz o u) → H' b = some (.frz o u)) (tbls : ∀ b ps, H b = some (.tbl ps) → ∃ more, H' b = some (.tbl (ps ++ more)))
    (ns : ∀ m, s.heap.Ns X.env.locals m → h'.Ns X.env.locals m) (hok : HOk X.prog X.w H' h') (hg : AllBare g') :
    Inv X pins σ H' { s with heap := h', gens := g', drawn := d', toks := t' } := by
  have neL : ∀ b o, X.s₀.heap.get? b = some o → b ≠ X.env.locals := fun b o e => Nat.ne_of_lt (Nat.lt_of_lt_of_le (Heap.lt_size e) I.ok.above)
  have neC : ∀ b o, X.s₀.heap.get? b = some o → b ∉ X.ex → b ∉ ch := fun b o e hx hb => by
    rcases (hch b hb).1 with z | z
    · exact hx z
    · exact absurd (Nat.lt_of_lt_of_le (Heap.lt_size e) z) (Nat.lt_irrefl _)
  have cellK : ∀ x c, X.env.cells.lookup x = some c → ∀ v, s.heap.IsCell c v → h'.IsCell c v := fun x c e v ⟨o, ho, hd⟩ => by
    have nch : c ∉ ch := fun z => (hch c z).2.2.1 x c e rfl
    by_cases hc : c ∈ X.fs
    · obtain ⟨sl, q⟩ := slot c o (I.cne x c e) hc nch ho (I.freeC x c e)
      exact ⟨_, q, hd⟩
    · exact ⟨o, keep c o (I.cne x c e) hc nch ho (I.freeC x c e), hd⟩
  refine ⟨I.ok, I.os, hg, ⟨fun b o e n hb hx => ?_, fun b o e n hb hx => ?_, fun b o e n hx => ?_, fun b o e hx => ?_, fun b xs e => tups b xs (I.base.tups b xs e), fun b o xs e => frzs b o xs (I.base.frzs b o xs e), fun b ps e => ?_⟩, ?_, fun x c e => ?_, ?_, fun x c e => ?_, fun p hp => ?_, hok, I.len⟩
  · exact keep b o (neL b o e) hb (neC b o e hx) (I.base.keep b o e n hb hx) (I.base.free b o e n hx)
  · obtain ⟨sl, e1⟩ := I.base.slot b o e n hb hx
    obtain ⟨sl', e2⟩ := slot b _ (neL b o e) hb (neC b o e hx) e1 (I.base.free b o e n hx)
    exact ⟨sl', e2⟩
  · obtain ⟨o', e1⟩ := I.base.there b o e hx
    exact free b o' (neC b o e hx) e1 (I.base.free b o e n hx)
  · obtain ⟨o', e1⟩ := I.base.there b o e hx
    exact there b o' (neC b o e hx) e1
  · obtain ⟨m1, e1⟩ := I.base.tbls b ps e
    obtain ⟨m2, e2⟩ := tbls b _ e1
    exact ⟨m1 ++ m2, by rw [e2, Array.append_assoc]⟩
  · obtain ⟨m, hn, hl⟩ := I.loc
    refine ⟨m, ns m hn, fun i x v e1 e2 e3 => ?_⟩
    obtain ⟨u, r, l⟩ := hl i x v e1 e2 e3
    refine ⟨u, r, ?_⟩
    rcases l with l | ⟨k, c, e, z⟩
    · exact .inl l
    · exact .inr ⟨k, c, e, cellK x c e _ z⟩
  · obtain ⟨v, z⟩ := I.cell x c e
    exact ⟨v, cellK x c e v z⟩
  · obtain ⟨m, ⟨o, _, _, ho, _⟩, _⟩ := I.loc
    exact free _ o (fun z => (hch _ z).2.1 rfl) ho I.free
  · obtain ⟨v, o, ho, hd⟩ := I.cell x c e
    exact free c o (fun z => (hch c z).2.2.1 x c e rfl) ho (I.freeC x c e)
  · obtain ⟨e, n, ne, nf, d⟩ := I.pin p hp
    have nch : p.1 ∉ ch := fun z => (hch p.1 z).2.2.2 p hp rfl
    exact ⟨keep p.1 p.2 ne nf nch e n, free p.1 p.2 nch e n, ne, nf, d⟩
theorem Inv.un {t' : Nat} (I : Inv X pins σ H s) (u : Un X.fs [] H H' s.heap h') (hok : HOk X.prog X.w H' h') : Inv X pins σ H' { s with heap := h', toks := t' } := by
  obtain ⟨m, ⟨o, es, ep, ho, r⟩, _⟩ := id I.loc
  obtain ⟨sl, hL⟩ := u.any ho I.free (by simp)
  exact I.step (g' := s.gens) (d' := s.drawn) (ch := []) (fun _ z => nomatch z) (fun b o _ hb _ e n => u.keep b o e n hb (by simp)) (fun b o _ hb _ e n => u.slot b o e n hb (by simp)) (fun b o _ e n => u.free b o e n (by simp)) (fun b o _ e => u.there b o e (by simp)) u.tups u.frzs u.tbls (fun m' hm => by
    obtain ⟨o', es', ep', ho', r'⟩ := hm
    rw [ho] at ho'; cases ho'
    exact ⟨_, es', ep', hL, r'⟩) hok I.bare
theorem Inv.call {g' : Array GenState} {t' : Nat} {d' : Drawn} {ch : List Addr} (I : Inv X pins σ H s) (u : Un (frs X.stack) ch H H' s.heap h') (hok : HOk X.prog X.w H' h') (hg : AllBare g')
    (hch : ∀ b ∈ ch, (b ∈ X.ex ∨ X.s₀.heap.objs.size ≤ b) ∧ b ≠ X.env.locals ∧ (∀ x c, X.env.cells.lookup x = some c → c ≠ b) ∧ ∀ p ∈ X.pn ++ pins, p.1 ≠ b) :
    Inv X pins σ H' { s with heap := h', gens := g', drawn := d', toks := t' } := by
  obtain ⟨m, ⟨o, es, ep, ho, r⟩, _⟩ := id I.loc
  obtain ⟨sl, hL⟩ := u.any ho I.free fun z => (hch _ z).2.1 rfl
  exact I.step (ch := ch) hch (fun b o hL hb hc e n => u.keep b o e n (fun z => (List.mem_cons.mp (I.stkSub b z)).elim hL hb) hc) (fun b o _ _ hc e n => u.any e n hc) (fun b o hc e n => u.free b o e n hc) (fun b o hc e => u.there b o e hc) u.tups u.frzs u.tbls (fun m' hm => by
    obtain ⟨o', es', ep', ho', r'⟩ := hm
    rw [ho] at ho'; cases ho'
    exact ⟨_, es', ep', hL, r'⟩) hok hg
theorem Inv.turned {t' : Nat} {it : Addr} (I : Inv X pins σ H s) (k : ∀ b o, b ≠ it → s.heap.get? b = some o → h'.get? b = some o) (hn : H it = none) (hL : it ≠ X.env.locals)
    (h1 : it ∈ X.ex ∨ X.s₀.heap.objs.size ≤ it) (h2 : ∀ x c, X.env.cells.lookup x = some c → c ≠ it) (h3 : ∀ p ∈ X.pn ++ pins, p.1 ≠ it) : Inv X pins σ H { s with heap := h', toks := t' } := by
  have nit : ∀ b u, H b = some u → b ≠ it := fun b u e z => by rw [z, hn] at e; cases e
  refine I.step (g' := s.gens) (d' := s.drawn) (ch := [it]) (fun b hb => ?_) (fun b o _ _ hc e _ => k b o (fun z => hc (by simp [z])) e) (fun b o _ _ hc e _ => ⟨o.slots, k b o (fun z => hc (by simp [z])) e⟩) (fun _ _ _ _ n => n)
    (fun b o hc e => ⟨o, k b o (fun z => hc (by simp [z])) e⟩) (fun _ _ e => e) (fun _ _ _ e => e) (fun b ps e => ⟨#[], by rw [e]; simp⟩) (fun m hm => ?_) (fun b u e => ?_) I.bare
  · have e : b = it := by simpa using hb
    subst e
    exact ⟨h1, hL, h2, h3⟩
  · obtain ⟨o, es, ep, ho, r⟩ := hm
    exact ⟨o, es, ep, k _ o (Ne.symm hL) ho, r⟩
  · refine (I.hok b u e).stay (fun c v hc q => k c v ?_ q) (fun _ q => q) fun _ _ q => q
    rcases hc with z | z
    · rw [z]; exact nit b u e
    · exact nit c _ z
theorem Inv.tok (I : Inv X pins σ H s) (t : Nat) : Inv X pins σ H { s with toks := t } := I.un (h' := s.heap) (t' := t) Un.refl I.hok
theorem Inv.kept {t' : Nat} (I : Inv X pins σ H s) (k : ∀ b u, s.heap.get? b = some u → h'.get? b = some u) : Inv X pins σ H { s with heap := h', toks := t' } := I.un (Un.kept k) (I.hok.kept k)
theorem Inv.laid {a : Addr} {o : HO} {t' : Nat} (I : Inv X pins σ H s) (k : ∀ b u, s.heap.get? b = some u → h'.get? b = some u) (hp : s.heap.objs.size ≤ a) (new : ObjOk X.prog X.w (upd H a o) h' a o) :
    Inv X pins σ (upd H a o) { s with heap := h', toks := t' } := I.un (Un.laid k hp (I.hok.fresh hp)) (I.hok.laid k hp new)
theorem Inv.write {x e : Addr} {o : HO} {t' : Nat} (I : Inv X pins σ H s) (mu : Mut (H x)) (he : e = x ∨ H e = some (.own x)) (k : ∀ b u, b ≠ e → s.heap.get? b = some u → h'.get? b = some u) (heo : ∃ u, h'.get? e = some u)
    (new : ObjOk X.prog X.w (upd H x o) h' x o) : Inv X pins σ (upd H x o) { s with heap := h', toks := t' } := I.un (Un.write mu he k heo) (I.hok.write mu he k heo new)
theorem Inv.pins_of {pins' : List (Addr × Obj)} (I : Inv X pins σ H s) (h : ∀ p ∈ pins', s.heap.get? p.1 = some p.2 ∧ H p.1 = none ∧ p.1 ≠ X.env.locals ∧ p.1 ∉ X.fs ∧ ∀ v, p.2.data ≠ .cell v) : Inv X pins' σ H s :=
  ⟨I.ok, I.os, I.bare, I.base, I.loc, I.cell, I.free, I.freeC, fun p hp => (List.mem_append.mp hp).elim (fun z => I.pin p (List.mem_append_left _ z)) (h p), I.hok, I.len⟩
theorem nodup_ix {N : List Str} (hN : N.Nodup) {i j : Nat} {x : Str} (a : N[i]? = some x) (b : N[j]? = some x) : i = j := by
  obtain ⟨h1, e1⟩ := List.getElem?_eq_some_iff.mp a
  obtain ⟨h2, e2⟩ := List.getElem?_eq_some_iff.mp b
  exact (List.getElem_inj hN).mp (e1.trans e2.symm)
theorem store_ok2 {M : Model} {A : Around} {E : Value → Shared → Prop} {i : Nat} {x : Str} {v : V} {u : Value} {Q : Unit → Shared → Prop} (I : Inv X pins σ H s) (hN : X.N.Nodup) (hi : X.N[i]? = some x) (hx : Loc X.env.scope x) (r : RelV v u)
    (h : ∀ s', Inv X pins (σ.set i (some v)) H s' → (∃ a, Heap.SameBut a s.heap s'.heap ∧ (a = X.env.locals ∨ X.env.cells.lookup x = some a)) → Q () s') (hf : X.fn x = true ∨ X.env.scope.names.lookup x = some .local := by first | exact .inl rfl | exact .inr rfl | assumption) : wpAny M A (storeName X.env x u) Q E s := by
  obtain ⟨m, hn, hl⟩ := id I.loc
  have hcls : (X.env.scope.kind == .class || (X.env.scope.kind == .module && X.env.locals != X.env.globals)) = false := by rw [I.ok.kind]; rfl
  have hiσ : i < σ.length := by rw [I.len]; exact (List.getElem?_eq_some_iff.mp hi).1
  have cne := I.cne
  have tracked : ∀ {a : Addr} {h' : Heap}, (∃ o, s.heap.get? a = some o ∧ H a = none) → Heap.SameBut a s.heap h' → HOk X.prog X.w H h' := fun {a h'} ha hs b ob e => by
    obtain ⟨_, _, hfree⟩ := ha
    refine (I.hok b ob e).stay (fun c w' hc q => (hs.2 c ?_).trans q) (fun _ q => q) fun _ _ q => q
    rintro rfl
    rcases hc with rfl | hc
    · rw [hfree] at e; cases e
    · rw [hfree] at hc; cases hc
  rcases hx with hk | hk
  · refine wpAny_storeName_local hk hn (fun h' hn' hs => ?_) hcls
    obtain ⟨oL, _, _, hoL, _⟩ := id hn
    refine h _ ⟨I.ok, I.os, I.bare, ⟨fun b o e n hb hx => ?_, fun b o e n hb hx => ?_, I.base.free, fun b o e hx => ?_, I.base.tups, I.base.frzs, I.base.tbls⟩, ⟨_, hn', fun j y v' e1 e2 e3 => ?_⟩, fun y c e => ?_, I.free, I.freeC, fun p hp => ?_, tracked ⟨oL, hoL, I.free⟩ hs, by simpa using I.len⟩ ⟨_, hs, .inl rfl⟩
    · exact (hs.2 b (Nat.ne_of_lt (Nat.lt_of_lt_of_le (Heap.lt_size e) I.ok.above))).trans (I.base.keep b o e n hb hx)
    · obtain ⟨sl, e1⟩ := I.base.slot b o e n hb hx
      exact ⟨sl, (hs.2 b (Nat.ne_of_lt (Nat.lt_of_lt_of_le (Heap.lt_size e) I.ok.above))).trans e1⟩
    · obtain ⟨o', e1⟩ := I.base.there b o e hx
      exact ⟨o', (hs.2 b (Nat.ne_of_lt (Nat.lt_of_lt_of_le (Heap.lt_size e) I.ok.above))).trans e1⟩
    · by_cases hj : j = i
      · subst hj
        rw [hi] at e1; cases e1
        rw [List.getElem?_set_self hiσ] at e2
        cases e2
        exact ⟨u, r, .inl ⟨hk, by simp⟩⟩
      · rw [List.getElem?_set_ne (Ne.symm hj)] at e2
        obtain ⟨u', r', q⟩ := hl j y v' e1 e2 e3
        refine ⟨u', r', ?_⟩
        rcases q with ⟨k, e⟩ | ⟨k, c, e, z⟩
        · refine .inl ⟨k, ?_⟩
          have : y ≠ x := fun e => hj (nodup_ix hN e1 (e ▸ hi))
          simp [this, e]
        · exact .inr ⟨k, c, e, z.sameBut hs (cne y c e)⟩
    · obtain ⟨w', z⟩ := I.cell y c e
      exact ⟨w', z.sameBut hs (cne y c e)⟩
    · obtain ⟨e, n, ne, nf, d⟩ := I.pin p hp
      exact ⟨(hs.2 p.1 ne).trans e, n, ne, nf, d⟩
  · have hfn : X.fn x = true := by
      rcases hf with z | z
      · exact z
      · rw [z] at hk; cases hk
    obtain ⟨c, hc⟩ := I.ok.has x (.inl hk)
    obtain ⟨w', z⟩ := I.cell x c hc
    refine wpAny_storeName_cell I.ok.kind hk hc z (fun h' hc' hs => ?_)
    obtain ⟨oc, hoc, hocd⟩ := id z
    refine h { s with heap := h' } ⟨I.ok, I.os, I.bare, ⟨fun b o e n hb hx => ?_, fun b o e n hb hx => ?_, I.base.free, fun b o e hx => ?_, I.base.tups, I.base.frzs, I.base.tbls⟩, ⟨m, hn.sameBut hs (Ne.symm (cne x c hc)), fun j y v' e1 e2 e3 => ?_⟩, fun y c' e => ?_, I.free, I.freeC, fun p hp => ?_, tracked ⟨oc, hoc, I.freeC x c hc⟩ hs, by simpa using I.len⟩ ⟨c, hs, .inr hc⟩
    · exact (hs.2 b (Nat.ne_of_lt (Nat.lt_of_lt_of_le (Heap.lt_size e) (I.ok.cab x c hfn hc)))).trans (I.base.keep b o e n hb hx)
    · obtain ⟨sl, e1⟩ := I.base.slot b o e n hb hx
      exact ⟨sl, (hs.2 b (Nat.ne_of_lt (Nat.lt_of_lt_of_le (Heap.lt_size e) (I.ok.cab x c hfn hc)))).trans e1⟩
    · obtain ⟨o', e1⟩ := I.base.there b o e hx
      exact ⟨o', (hs.2 b (Nat.ne_of_lt (Nat.lt_of_lt_of_le (Heap.lt_size e) (I.ok.cab x c hfn hc)))).trans e1⟩
    · by_cases hj : j = i
      · subst hj
        rw [hi] at e1; cases e1
        rw [List.getElem?_set_self hiσ] at e2
        cases e2
        exact ⟨u, r, .inr ⟨.inl hk, c, hc, hc'⟩⟩
      · rw [List.getElem?_set_ne (Ne.symm hj)] at e2
        obtain ⟨u', r', q⟩ := hl j y v' e1 e2 e3
        refine ⟨u', r', ?_⟩
        rcases q with q | ⟨k, c', e, z'⟩
        · exact .inl q
        · refine .inr ⟨k, c', e, z'.sameBut hs ?_⟩
          rintro rfl
          exact hj (nodup_ix hN e1 (I.ok.inj _ _ _ e hc ▸ hi))
    · by_cases hcc : c' = c
      · subst hcc; exact ⟨_, hc'⟩
      · obtain ⟨w2, z2⟩ := I.cell y c' e
        exact ⟨w2, z2.sameBut hs hcc⟩
    · obtain ⟨e, n, ne, nf, d⟩ := I.pin p hp
      refine ⟨(hs.2 p.1 ?_).trans e, n, ne, nf, d⟩
      intro q
      rw [q, hoc] at e
      have q' : oc = p.2 := Option.some.inj e
      exact d w' (by rw [← q']; exact hocd)
theorem store_ok {M : Model} {A : Around} {E : Value → Shared → Prop} {i : Nat} {x : Str} {v : V} {u : Value} {Q : Unit → Shared → Prop} (I : Inv X pins σ H s) (hN : X.N.Nodup) (hi : X.N[i]? = some x) (hx : Loc X.env.scope x) (r : RelV v u)
    (h : ∀ s', Inv X pins (σ.set i (some v)) H s' → Q () s') (hf : X.fn x = true ∨ X.env.scope.names.lookup x = some .local := by first | exact .inl rfl | exact .inr rfl | assumption) : wpAny M A (storeName X.env x u) Q E s :=
  store_ok2 I hN hi hx r (fun s' I' _ => h s' I') hf
theorem Inv.call' {s' : Shared} {ch : List Addr} (I : Inv X pins σ H s) (ho : s'.os = s.os) (u : Un (frs X.stack) ch H H' s.heap s'.heap) (hok : HOk X.prog X.w H' s'.heap) (hg : AllBare s'.gens)
    (hch : ∀ b ∈ ch, (b ∈ X.ex ∨ X.s₀.heap.objs.size ≤ b) ∧ b ≠ X.env.locals ∧ (∀ x c, X.env.cells.lookup x = some c → c ≠ b) ∧ ∀ p ∈ X.pn ++ pins, p.1 ≠ b) : Inv X pins σ H' s' := by
  obtain ⟨h', g', d', t', o'⟩ := s'
  have e : o' = s.os := ho
  subst e
  exact I.call (g' := g') (t' := t') (d' := d') u hok hg hch
end
abbrev XK := Value → Option Addr → Hp → Prop
abbrev St := List (Option V)
abbrev VK := V → Hp → Prop
abbrev TE := St → Hp → VK → Prop
abbrev TT := St → Hp → (Bool → Hp → Prop) → Prop
abbrev TA := St → Hp → (List V → Hp → Prop) → Prop
structure Ends where
  nx : St → Hp → Prop
  rt : VK
  bk : St → Hp → Prop := fun _ _ => False
  ct : St → Hp → Prop := fun _ _ => False
abbrev TS := Ends → St → Hp → Prop
def EP (X : Cx) (pins : List (Addr × Obj)) (σ : St) (Q : VK) (u : Value) (s' : Shared) : Prop := ∃ v H', Inv X pins σ H' s' ∧ RelV v u ∧ Q v H'
def TP (X : Cx) (pins : List (Addr × Obj)) (σ : St) (Q : Bool → Hp → Prop) (b : Bool) (s' : Shared) : Prop := ∃ H', Inv X pins σ H' s' ∧ Q b H'
def AP (X : Cx) (pins : List (Addr × Obj)) (σ : St) (Q : List V → Hp → Prop) (us : List Value) (s' : Shared) : Prop := ∃ vs H', Inv X pins σ H' s' ∧ Vals vs us ∧ Q vs H'
def SP (X : Cx) (pins : List (Addr × Obj)) (D : Ends) (f : Flow) (s' : Shared) : Prop :=
  match f with
  | .next => ∃ σ' H', Inv X pins σ' H' s' ∧ D.nx σ' H'
  | .brk => ∃ σ' H', Inv X pins σ' H' s' ∧ D.bk σ' H'
  | .cont => ∃ σ' H', Inv X pins σ' H' s' ∧ D.ct σ' H'
  | .ret u => ∃ v σ' H', Inv X pins σ' H' s' ∧ RelV v u ∧ D.rt v H'
def PE (X : Cx) (e : Expr) (t : TE) : Prop :=
  ∀ (pins : List (Addr × Obj)) (s : Shared) (σ : St) (H : Hp) (Q : VK), Inv X pins σ H s → t σ H Q → wpAny (model X.prog X.w) X.A (eval e X.env) (EP X pins σ Q) X.xe s
def PT (X : Cx) (e : Expr) (t : TT) : Prop :=
  ∀ (pins : List (Addr × Obj)) (s : Shared) (σ : St) (H : Hp) (Q : Bool → Hp → Prop), Inv X pins σ H s → t σ H Q → wpAny (model X.prog X.w) X.A (isTrue e X.env (eval e X.env)) (TP X pins σ Q) X.xe s
def PW (X : Cx) (e : Expr) (t : TT) : Prop :=
  ∀ (whole : Sem Value) (pins : List (Addr × Obj)) (s : Shared) (σ : St) (H : Hp) (Q : Bool → Hp → Prop), Inv X pins σ H s → t σ H Q → wpAny (model X.prog X.w) X.A (isTrue e X.env whole) (TP X pins σ Q) X.xe s
theorem PW.pt {X : Cx} {e : Expr} {t : TT} (h : PW X e t) : PT X e t := h _
def PA (X : Cx) (es : List Expr) (t : TA) : Prop :=
  ∀ (pos : Pos) (pins : List (Addr × Obj)) (s : Shared) (σ : St) (H : Hp) (Q : List V → Hp → Prop), Inv X pins σ H s → t σ H Q → wpAny (model X.prog X.w) X.A (spliced (backTo pos (starEach es X.env))) (AP X pins σ Q) X.xe s
def PS (X : Cx) (st : Stmt) (t : TS) : Prop :=
  ∀ (pins : List (Addr × Obj)) (s : Shared) (σ : St) (H : Hp) (D : Ends), Inv X pins σ H s → t D σ H → wpAny (model X.prog X.w) X.A (exec st X.env) (SP X pins D) X.xe s
def PSs (X : Cx) (st : List Stmt) (t : TS) : Prop :=
  ∀ (pins : List (Addr × Obj)) (s : Shared) (σ : St) (H : Hp) (D : Ends), Inv X pins σ H s → t D σ H → wpAny (model X.prog X.w) X.A (execs st X.env) (SP X pins D) X.xe s
theorem thn {α : Type} {t : Sem α} {Q Q' : α → Shared → Prop} {M : Model} {A : Around} {E : Value → Shared → Prop} {s : Shared} (h : wpAny M A t Q E s) (hQ : ∀ a s, Q a s → Q' a s) : wpAny M A t Q' E s := wpAny_mono h hQ fun _ _ x => x
end L2
namespace L2
open PySem PySem.Spec PyProof.Rows
section
variable {X : Cx}
def tVar (i : Nat) : TE := fun σ H Q => ∃ v, σ[i]? = some (some v) ∧ Q v H
def tC (v : V) : TE := fun _ H Q => Q v H
theorem pe_var {i : Nat} {x : Str} {pos : Pos} (hN : X.N[i]? = some x) (hv : Vis X.env.scope x) (hd : (x == ("__debug__" : Str)) = false := by decide) (hcd : (x == ("__classdict__" : Str)) = false := by decide) : PE X (.Name x pos) (tVar i) := by
  intro pins s σ H Q I h
  obtain ⟨v, e, h⟩ := h
  obtain ⟨m, hn, hl⟩ := I.loc
  obtain ⟨u, r, l⟩ := hl i x v hN e hv
  have fin : EP X pins σ Q u s := ⟨v, H, I, r, h⟩
  rcases l with ⟨hk, hm⟩ | ⟨hk, c, hc, hcell⟩
  · exact wpAny_Name (wpAny_loadName_local I.ok.kind hk hn hm fin) hd
  · rcases hk with hk | hk
    · exact wpAny_Name (wpAny_loadName_cell I.ok.kind hk hc hcell fin) hd
    · exact wpAny_Name (wpAny_loadName_free I.ok.kind hk hc hcell fin hcd) hd
theorem pe_int {i j pos} : PE X (.Constant (.int i) j pos) (tC (.int i)) := fun _ _ _ H _ I h => wpAny_Constant_int ⟨.int i, H, I.tok _, ⟨_, rfl⟩, h⟩
theorem pe_bl {b j pos} : PE X (.Constant (.bool b) j pos) (tC (.bl b)) := fun _ _ _ H _ I h => Constant_bool ⟨.bl b, H, I, rfl, h⟩
theorem pe_non {j pos} : PE X (.Constant .none j pos) (tC .non) := fun _ _ _ H _ I h => Constant_none ⟨.non, H, I, rfl, h⟩
theorem pe_str {x j pos} : PE X (.Constant (.str x) j pos) (tC (.str x)) := fun _ _ _ H _ I h => Calls.Constant_str ⟨.str x, H, I.tok _, ⟨_, rfl⟩, h⟩
def Gl (X : Cx) (x : Str) : Prop := X.env.kindOf x = some .globalImplicit
theorem ld_glob {E : Value → Shared → Prop} {pins : List (Addr × Obj)} {s : Shared} {σ : St} {H : Hp} {x : Str} {u : Value} {pos : Pos} {Q : Value → Shared → Prop} (I : Inv X pins σ H s) (hg : Gl X x) (hm : X.mg x = some u) (h : Q u s)
    (hd : (x == ("__debug__" : Str)) = false := by decide) : wpAny (model X.prog X.w) X.A (eval (.Name x pos) X.env) Q E s :=
  Calls.Name_function_global I.ok.kind hg (Calls.loadGlobal_global (by rw [I.ok.glob]; exact I.mod.glob.keeps I.bk) hm h) hd
theorem ld_blt {E : Value → Shared → Prop} {pins : List (Addr × Obj)} {s : Shared} {σ : St} {H : Hp} {x : Str} {u : Value} {pos : Pos} {Q : Value → Shared → Prop} (I : Inv X pins σ H s) (hg : Gl X x) (hm : X.mg x = none) (hv : bootBuiltins x = some u) (h : Q u s)
    (hn : x ≠ "__name__" := by decide) (hd : (x == ("__debug__" : Str)) = false := by decide) : wpAny (model X.prog X.w) X.A (eval (.Name x pos) X.env) Q E s := by
  obtain ⟨mb, h1, h2⟩ := I.mod.blt
  exact Calls.Name_function_global I.ok.kind hg (Calls.loadGlobal_builtin (by rw [I.ok.glob]; exact I.mod.glob.keeps I.bk) hm (by rw [I.ok.blt]; exact h1.keeps I.bk) ((h2 x hn).trans hv) h) hd
theorem pe_glob {x : Str} {v : V} {u : Value} {pos : Pos} (hg : Gl X x) (hm : X.mg x = some u) (r : RelV v u) (hd : (x == ("__debug__" : Str)) = false := by decide) : PE X (.Name x pos) (tC v) :=
  fun _ _ _ H _ I h => ld_glob I hg hm ⟨v, H, I, r, h⟩ hd
theorem pe_bltn {x : Str} {v : V} {u : Value} {pos : Pos} (hg : Gl X x) (hm : X.mg x = none) (hv : bootBuiltins x = some u) (r : RelV v u) (hn : x ≠ "__name__" := by decide) (hd : (x == ("__debug__" : Str)) = false := by decide) : PE X (.Name x pos) (tC v) :=
  fun _ _ _ H _ I h => ld_blt I hg hm hv ⟨v, H, I, r, h⟩ hn hd
variable {a b : Expr} {ta tb : TE} {pos : Pos}
def tB (t : TE) : TT := fun σ H Q => t σ H fun x H1 => ∃ c, x = .bl c ∧ Q c H1
theorem pt_val {e : Expr} {t : TE} (h : PE X e t) (he : ∀ whole, isTrue e X.env whole = (do let v ← whole; standAt e.pos; holding [v] (truthy v)) := by intro _; rfl) : PT X e (tB t) := by
  intro pins s σ H Q I hw
  refine isTrue_plain (thn (h pins s σ H _ I hw) fun v s1 ⟨x, H1, I1, r1, q1⟩ => ?_) (he _)
  obtain ⟨d, rfl, q⟩ := q1
  cases r1
  exact wpAny_truthy_bool ⟨H1, I1, q⟩
variable {tA tB' : TT} {rest : List Expr}
def tAnd (t u : TT) : TT := fun σ H Q => t σ H fun c H1 => if c = true then u σ H1 Q else Q false H1
def tOr (t u : TT) : TT := fun σ H Q => t σ H fun c H1 => if c = true then Q true H1 else u σ H1 Q
def tNot (t : TT) : TT := fun σ H Q => t σ H fun c H1 => Q (!c) H1
theorem pw_and1 (ha : PT X a tA) : PW X (.BoolOp .And [a] pos) tA := by
  intro wh pins s σ H Q I h
  refine isTrue_and (thn (ha pins s σ H Q I h) fun c s1 e => ?_)
  cases c with
  | true => exact isTrue_and_nil e
  | false => exact e
theorem pw_or1 (ha : PT X a tA) : PW X (.BoolOp .Or [a] pos) tA := by
  intro wh pins s σ H Q I h
  refine isTrue_or (thn (ha pins s σ H Q I h) fun c s1 e => ?_)
  cases c with
  | false => exact isTrue_or_nil e
  | true => exact e
theorem pw_and (ha : PT X a tA) (hb : PW X (.BoolOp .And (b :: rest) pos) tB') : PW X (.BoolOp .And (a :: b :: rest) pos) (tAnd tA tB') := by
  intro wh pins s σ H Q I h
  refine isTrue_and (thn (ha pins s σ H _ I h) fun c s1 ⟨H1, I1, q1⟩ => ?_)
  cases c with
  | true => exact hb wh pins s1 σ H1 Q I1 q1
  | false => exact ⟨H1, I1, q1⟩
theorem pw_or (ha : PT X a tA) (hb : PW X (.BoolOp .Or (b :: rest) pos) tB') : PW X (.BoolOp .Or (a :: b :: rest) pos) (tOr tA tB') := by
  intro wh pins s σ H Q I h
  refine isTrue_or (thn (ha pins s σ H _ I h) fun c s1 ⟨H1, I1, q1⟩ => ?_)
  cases c with
  | true => exact ⟨H1, I1, q1⟩
  | false => exact hb wh pins s1 σ H1 Q I1 q1
theorem pt_not (ha : PT X a tA) : PT X (.UnaryOp .Not a pos) (tNot tA) := by
  intro pins s σ H Q I h
  exact isTrue_not (ha pins s σ H (fun c H1 => Q (!c) H1) I h)
def tAndV (ta tb : TE) : TE := fun σ H Q => ta σ H fun x H1 => ∃ c, x = .bl c ∧ if c = true then tb σ H1 Q else Q (.bl false) H1
def tNotV (ta : TE) : TE := fun σ H Q => ta σ H fun x H1 => ∃ c, x = .bl c ∧ Q (.bl (!c)) H1
theorem pe_one {op} {t : TE} (h : PE X a t) : PE X (.BoolOp op [a] pos) t := fun pins s σ H Q I hw => BoolOp_one (h pins s σ H Q I hw)
theorem pe_and (ha : PE X a ta) (hb : PE X (.BoolOp .And (b :: rest) pos) tb) : PE X (.BoolOp .And (a :: b :: rest) pos) (tAndV ta tb) := by
  intro pins s σ H Q I h
  refine BoolOp_and (thn (ha pins s σ H _ I h) fun v s1 ⟨x, H1, I1, r1, q1⟩ => ?_)
  obtain ⟨c, rfl, q1⟩ := q1
  cases r1
  refine wpAny_truthy_bool ?_
  cases c with
  | true => exact hb pins s1 σ H1 Q I1 q1
  | false => exact ⟨.bl false, H1, I1, rfl, q1⟩
theorem pe_not (ha : PE X a ta) : PE X (.UnaryOp .Not a pos) (tNotV ta) := by
  intro pins s σ H Q I h
  refine UnaryOp_ (thn (ha pins s σ H _ I h) fun v s1 ⟨x, H1, I1, r1, q1⟩ => ?_)
  obtain ⟨c, rfl, q1⟩ := q1
  cases r1
  exact not_of (wpAny_truthy_bool ⟨.bl (!c), H1, I1, rfl, q1⟩)
def tIf (t : TT) (ta tb : TE) : TE := fun σ H Q => t σ H fun c H1 => if c = true then ta σ H1 Q else tb σ H1 Q
theorem pe_ifExp {c : Expr} (hc : PT X c tA) (ha : PE X a ta) (hb : PE X b tb) : PE X (.IfExp c a b pos) (tIf tA ta tb) := by
  intro pins s σ H Q I h
  refine wpAny_IfExp (thn (hc pins s σ H _ I h) fun d s1 ⟨H1, I1, q1⟩ => ?_)
  cases d with
  | true => exact ha pins s1 σ H1 Q I1 q1
  | false => exact hb pins s1 σ H1 Q I1 q1
end
end L2
namespace L2
open PySem PySem.Spec PyProof.Rows
def SqL (K : PySem.W.Frag) (H : Hp) (a : Addr) (xs : List V) : Prop :=
  Rd H a (.lst xs) ∨
    ∃ (o : Obj) (its : Array Value) (n : Nat), K.lookup a = some o ∧ o.cls = .type "list" ∧ o.dict = none ∧ o.data = .seq its n ∧ its.size ≤ sizeLine ∧ Vals xs its.toList
def SqT (K : PySem.W.Frag) (H : Hp) (a : Addr) (xs : List V) : Prop :=
  Rd H a (.tup xs) ∨
    ∃ (o : Obj) (its : Array Value) (n : Nat), K.lookup a = some o ∧ o.cls = .type "tuple" ∧ o.data = .seq its n ∧ its.size ≤ sizeLine ∧ Vals xs its.toList
def absV : Value → Option V
  | .none => some .non
  | .bool b => some (.bl b)
  | .int i _ => some (.int i)
  | .str x _ => some (.str x)
  | .bytes b _ => some (.byt b)
  | .float b _ => some (.flt b)
  | .ref a => some (.ref a)
  | .type n => some (.ty n)
  | _ => none
theorem RelV.abs {x : V} {u : Value} (r : RelV x u) : absV u = some x := by
  cases x with
  | non => cases r; rfl
  | bl _ => cases r; rfl
  | int _ => obtain ⟨t, rfl⟩ := r; rfl
  | str _ => obtain ⟨t, rfl⟩ := r; rfl
  | byt _ => obtain ⟨t, rfl⟩ := r; rfl
  | flt _ => obtain ⟨t, rfl⟩ := r; rfl
  | ref _ => cases r; rfl
  | ty _ => cases r; rfl
theorem RelV.inj {x y : V} {u : Value} (r : RelV x u) (q : RelV y u) : x = y := Option.some.inj (r.abs.symm.trans q.abs)
theorem Vals.inj : ∀ {xs ys : List V} {us : List Value}, Vals xs us → Vals ys us → xs = ys
  | _, _, _, .nil, .nil => rfl
  | _, _, _, .cons r t, .cons r' t' => by rw [r.inj r', Vals.inj t t']
section
variable {X : Cx} {pins : List (Addr × Obj)} {σ : St} {H : Hp} {s : Shared} {a : Addr} {xs ys : List V}
theorem SqL.of {K : PySem.W.Frag} (h : H a = some (.lst xs)) : SqL K H a xs := .inl (.inl h)
theorem SqT.of {K : PySem.W.Frag} (h : H a = some (.tup xs)) : SqT K H a xs := .inl (.inl h)
theorem Inv.list (I : Inv X pins σ H s) (h : SqL X.K H a xs) : ∃ its : List Value, Vals xs its ∧ PlainL s.heap a its.toArray ∧ xs.length ≤ sizeLine := by
  rcases h with h | ⟨o, its, n, hk, hc, hd, hs, hz, r⟩
  · obtain ⟨z, its, n, r, e⟩ := h.ok I.hok
    exact ⟨its, r, ⟨_, n, e, rfl, rfl, rfl⟩, z⟩
  · refine ⟨its.toList, r, ⟨o, n, I.kIn a o hk, hc, hd, by simpa using hs⟩, ?_⟩
    have e := r.length
    simp only [Array.length_toList] at e
    omega
theorem Inv.tuple (I : Inv X pins σ H s) (h : SqT X.K H a xs) : ∃ its : List Value, Vals xs its ∧ IsTup s.heap a its.toArray ∧ xs.length ≤ sizeLine := by
  rcases h with h | ⟨o, its, n, hk, hc, hs, hz, r⟩
  · obtain ⟨z, its, r, p⟩ := h.ok I.hok
    exact ⟨its, r, p, z⟩
  · refine ⟨its.toList, r, ⟨o, I.kIn a o hk, hc, n, by simpa using hs⟩, ?_⟩
    have e := r.length
    simp only [Array.length_toList] at e
    omega
theorem Inv.list_inj (I : Inv X pins σ H s) (h : SqL X.K H a xs) (h' : SqL X.K H a ys) : xs = ys := by
  obtain ⟨its, r, ⟨o, n, e, _, _, d⟩, _⟩ := I.list h
  obtain ⟨its', r', ⟨o', n', e', _, _, d'⟩, _⟩ := I.list h'
  rw [e] at e'; cases e'
  rw [d] at d'
  injection d' with d1 _
  have : its = its' := by simpa using congrArg Array.toList d1
  subst this
  exact r.inj r'
end
abbrev Cx.wish (X : Cx) (E : Value → Shared → Prop) : Cx := { X with xe := E }
abbrev Cx.nox (X : Cx) : Cx := X.wish fun _ _ => False
theorem Cx.Ok.wish {X : Cx} (ok : X.Ok) (E : Value → Shared → Prop) : (X.wish E).Ok :=
  ⟨ok.mod, ok.kind, ok.glob, ok.blt, ok.above, ok.inj, ok.has, ok.cab, ok.hd, ok.frames, ok.stk, ok.exf, ok.bs, ok.bsz, ok.noex, ok.exfs, ok.funs, ok.frf⟩
theorem Cx.Ok.unwish {X : Cx} {E : Value → Shared → Prop} (ok : (X.wish E).Ok) : X.Ok :=
  ⟨ok.mod, ok.kind, ok.glob, ok.blt, ok.above, ok.inj, ok.has, ok.cab, ok.hd, ok.frames, ok.stk, ok.exf, ok.bs, ok.bsz, ok.noex, ok.exfs, ok.funs, ok.frf⟩
section
variable {X : Cx} {pins : List (Addr × Obj)} {σ : St} {H : Hp} {s : Shared} {E : Value → Shared → Prop}
theorem Inv.wish (I : Inv X pins σ H s) (E : Value → Shared → Prop) : Inv (X.wish E) pins σ H s := ⟨I.ok.wish E, I.os, I.bare, I.base, I.loc, I.cell, I.free, I.freeC, I.pin, I.hok, I.len⟩
theorem Inv.unwish (I : Inv (X.wish E) pins σ H s) : Inv X pins σ H s := ⟨I.ok.unwish, I.os, I.bare, I.base, I.loc, I.cell, I.free, I.freeC, I.pin, I.hok, I.len⟩
theorem SP.unwish {D : Ends} {f : Flow} {s' : Shared} (h : SP (X.wish E) pins D f s') : SP X pins D f s' := by
  cases f with
  | next => obtain ⟨σ', H', I, q⟩ := h; exact ⟨σ', H', I.unwish, q⟩
  | brk => obtain ⟨σ', H', I, q⟩ := h; exact ⟨σ', H', I.unwish, q⟩
  | cont => obtain ⟨σ', H', I, q⟩ := h; exact ⟨σ', H', I.unwish, q⟩
  | ret u => obtain ⟨v, σ', H', I, r, q⟩ := h; exact ⟨v, σ', H', I.unwish, r, q⟩
theorem PSs.nox {st : List Stmt} {t : TS} (h : PSs X.nox st t) : PSs X st t := fun pins s σ H D I hw =>
  wpAny_mono (h pins s σ H D (I.wish _) hw) (fun _ _ q => q.unwish) fun _ _ z => False.elim z
end
section
variable {X : Cx} {st : Stmt} {rest : List Stmt} {t u : TS} {e : Expr} {te : TE} {pos : Pos}
def tNext : TS := fun D σ H => D.nx σ H
def tSeq (t u : TS) : TS := fun D σ H => t { D with nx := u D } σ H
theorem pss_nil : PSs X [] tNext := fun _ _ σ H _ I h => wpAny_execs_nil ⟨σ, H, I, h⟩
theorem pss_cons (h1 : PS X st t) (h2 : PSs X rest u) : PSs X (st :: rest) (tSeq t u) := by
  intro pins s σ H D I h
  refine wpAny_execs_cons (thn (h1 pins s σ H { D with nx := u D } I h) fun f s1 q => ?_)
  cases f with
  | next =>
    obtain ⟨σ', H', I', q⟩ := q
    exact h2 pins s1 σ' H' D I' q
  | ret v => exact q
  | brk => exact q
  | cont => exact q
theorem pss_one (h1 : PS X st t) : PSs X [st] t := by
  intro pins s σ H D I h
  refine wpAny_execs_cons (thn (h1 pins s σ H D I h) fun f s1 q => ?_)
  cases f with
  | next => exact wpAny_execs_nil q
  | ret v => exact q
  | brk => exact q
  | cont => exact q
theorem Inv.quiet {pins : List (Addr × Obj)} {σ : St} {H : Hp} {s : Shared} (I : Inv X pins σ H s) : interactive X.env = false := by simp [interactive, I.ok.kind]
def tDrop (te : TE) : TS := fun D σ H => te σ H fun _ H1 => D.nx σ H1
theorem ps_expr (he : PE X e te) (hs : swapsWith e none pos.line X.env = pure false := by rfl) : PS X (.Expr e pos) (tDrop te) := by
  intro pins s σ H D I h
  exact wpAny_Expr_any (thn (he pins s σ H _ I h) fun v s1 ⟨x, H1, I1, r1, q1⟩ => ⟨σ, H1, I1, q1⟩) I.quiet hs
def tRet (te : TE) : TS := fun D σ H => te σ H D.rt
theorem ps_ret (he : PE X e te) : PS X (.Return (some e) pos) (tRet te) := by
  intro pins s σ H D I h
  exact wpAny_Return_some (thn (he pins s σ H _ I h) fun v s1 ⟨x, H1, I1, r1, q1⟩ => ⟨x, σ, H1, I1, r1, q1⟩)
def tIfS (c : TT) (t u : TS) : TS := fun D σ H => c σ H fun b H1 => if b = true then t D σ H1 else u D σ H1
theorem ps_if {c : Expr} {a b : List Stmt} {tc : TT} (hc : PT X c tc) (ha : PSs X a t) (hb : PSs X b u) : PS X (.If c a b pos) (tIfS tc t u) := by
  intro pins s σ H D I h
  refine wpAny_If (thn (hc pins s σ H _ I h) fun d s1 ⟨H1, I1, q1⟩ => ?_)
  cases d with
  | true => exact ha pins s1 σ H1 D I1 q1
  | false => exact hb pins s1 σ H1 D I1 q1
def tNever : TS := fun _ _ _ => False
theorem ps_never : PS X st tNever := fun _ _ _ _ _ _ h => h.elim
end
abbrev TG := V → St → Hp → (St → Hp → Prop) → Prop
abbrev TGs := List V → St → Hp → (St → Hp → Prop) → Prop
def PG (X : Cx) (target : Expr) (t : TG) : Prop :=
  ∀ (pins : List (Addr × Obj)) (s : Shared) (σ : St) (H : Hp) (v : V) (u : Value) (Q : St → Hp → Prop), Inv X pins σ H s → RelV v u → t v σ H Q →
    wpAny (model X.prog X.w) X.A (assign target X.env u) (fun _ s' => ∃ σ' H', Inv X pins σ' H' s' ∧ Q σ' H') X.xe s
def PGs (X : Cx) (ts : List Expr) (t : TGs) : Prop :=
  ∀ (pins : List (Addr × Obj)) (s : Shared) (σ : St) (H : Hp) (vs : List V) (us : List Value) (Q : St → Hp → Prop), Inv X pins σ H s → Vals vs us → t vs σ H Q →
    wpAny (model X.prog X.w) X.A (assignInOrder ((assignEach ts X.env).map (·.2)) us) (fun _ s' => ∃ σ' H', Inv X pins σ' H' s' ∧ Q σ' H') X.xe s
abbrev TSet := V → V → V → Hp → (Hp → Prop) → Prop
def PSet (X : Cx) (t : TSet) : Prop :=
  ∀ (pins : List (Addr × Obj)) (s : Shared) (σ : St) (H : Hp) (o i v : V) (ov iv u : Value) (Q : Hp → Prop), Inv X pins σ H s → RelV o ov → RelV i iv → RelV v u → t o i v H Q →
    wpAny (model X.prog X.w) X.A (setItem ov iv u) (fun _ s' => ∃ H', Inv X pins σ H' s' ∧ Q H') X.xe s
section
variable {X : Cx} {pos : Pos}
def gName (i : Nat) : TG := fun v σ H Q => Q (σ.set i (some v)) H
theorem pg_name {i : Nat} {x : Str} (hN : X.N.Nodup) (hi : X.N[i]? = some x) (hx : Loc X.env.scope x) (hf : X.fn x = true ∨ X.env.scope.names.lookup x = some .local := by first | exact .inl rfl | exact .inr rfl | assumption) : PG X (.Name x pos) (gName i) := by
  intro pins s σ H v u Q I r h
  exact wpAny_assign_Name (store_ok I hN hi hx r (fun s' I' => ⟨_, H, I', h⟩) hf)
def gNil : TGs := fun vs σ H Q => vs = [] ∧ Q σ H
def gCons (t : TG) (u : TGs) : TGs := fun vs σ H Q => ∃ v r, vs = v :: r ∧ t v σ H fun σ' H' => u r σ' H' Q
theorem pgs_nil : PGs X [] gNil := by
  intro pins s σ H vs us Q I r h
  obtain ⟨e, h⟩ := h
  subst e
  cases r
  exact assignInOrder_nil ⟨σ, H, I, h⟩
theorem pgs_cons {e : Expr} {es : List Expr} {t : TG} {u : TGs} (h1 : PG X e t) (h2 : PGs X es u)
    (hs : (assignEach (e :: es) X.env).map (·.2) = assign e X.env :: (assignEach es X.env).map (·.2) := by rfl) : PGs X (e :: es) (gCons t u) := by
  intro pins s σ H vs us Q I r h
  obtain ⟨v, vr, e1, h⟩ := h
  subst e1
  cases r with
  | cons r rr =>
    rw [hs]
    refine assignInOrder_cons (thn (h1 pins s σ H _ _ _ I r h) fun _ s1 ⟨σ1, H1, I1, q1⟩ => ?_)
    exact h2 pins s1 σ1 H1 _ _ Q I1 rr q1
def gTup (K : PySem.W.Frag) (n : Nat) (t : TGs) : TG := fun v σ H Q => ∃ a xs, v = .ref a ∧ SqT K H a xs ∧ xs.length = n ∧ t xs σ H Q
theorem pg_tup {es : List Expr} {k : Nat} {t : TGs} {n : Nat} (hc : X.calm = true) (h : PGs X es t)
    (hn : (assignEach es X.env).length = n := by rfl) (hst : (assignEach es X.env).findIdx? (·.1) = none := by rfl) : PG X (.Tuple es k pos) (gTup X.K n t) := by
  intro pins s σ H v u Q I r hw
  obtain ⟨a, xs, e1, hq, hl, hw⟩ := hw
  subst e1
  cases r
  obtain ⟨its, rv, ht, hz⟩ := I.tuple hq
  refine assign_Tuple_tuple (I.ok.hd hc) ht (by simp [hn, ← hl, rv.length]) hst fun h' hx => ?_
  have I1 : Inv X pins σ H { s with heap := h' } := I.kept (t' := s.toks) fun b o e => hx b o (Nat.ne_of_lt (Heap.lt_size e)) e
  exact h pins _ σ H xs _ Q I1 (by simpa using rv) hw
def gSub (to ti : TE) (t : TSet) : TG := fun v σ H Q => to σ H fun o H1 => ti σ H1 fun i H2 => t o i v H2 fun H3 => Q σ H3
theorem pg_sub {o i : Expr} {to ti : TE} {t : TSet} (ho : PE X o to) (hi : PE X i ti) (hs : PSet X t)
    (ha : ∀ v, assign (.Subscript o i pos) X.env v = (do
      let ov ← holding [v] (eval o X.env)
      let iv ← holding [v, ov] (eval i X.env)
      standAt pos
      holding [v, ov, iv] (setItem ov iv v)
      release [v, ov, iv] []) := by intro _; rfl) : PG X (.Subscript o i pos) (gSub to ti t) := by
  intro pins s σ H v u Q I r h
  rw [ha]
  refine wpAny_bind (wpAny_holding (thn (ho pins s σ H _ I h) fun ov s1 ⟨x, H1, I1, r1, q1⟩ => ?_))
  refine wpAny_bind (wpAny_holding (thn (hi pins s1 σ H1 _ I1 q1) fun iv s2 ⟨y, H2, I2, r2, q2⟩ => ?_))
  refine wpAny_bind (wpAny_standAt (wpAny_bind (wpAny_holding (thn (hs pins s2 σ H2 x y v ov iv u _ I2 r1 r2 r q2) fun _ s3 ⟨H3, I3, q3⟩ => ?_))))
  exact wpAny_release ⟨σ, H3, I3, q3⟩
def tAsg (te : TE) (g : TG) : TS := fun D σ H => te σ H fun x H1 => g x σ H1 D.nx
theorem ps_asg {tg e : Expr} {te : TE} {g : TG} (he : PE X e te) (hg : PG X tg g) (hs : swapsWithSole [tg] e pos.line X.env = pure false := by rfl) (hw : swappedStores [tg] e X.env = pure none := by rfl)
    (h1 : (assignEach [tg] X.env).map (·.2) = [assign tg X.env] := by rfl) : PS X (.Assign [tg] e pos) (tAsg te g) := by
  intro pins s σ H D I h
  refine wpAny_Assign_stores (thn (he pins s σ H _ I h) fun v s1 ⟨x, H1, I1, r1, q1⟩ => ?_) hs hw
  rw [h1]
  exact thn (hg pins s1 σ H1 x v _ I1 r1 q1) fun _ s2 q => q
theorem ps_set {i : Nat} {x : Str} {e : Expr} {te : TE} {pos' : Pos} (hN : X.N.Nodup) (hi : X.N[i]? = some x) (hx : Loc X.env.scope x) (he : PE X e te) (hs : swapsWith e (some (.Name x pos')) pos.line X.env = pure false := by rfl) (hf : X.fn x = true ∨ X.env.scope.names.lookup x = some .local := by first | exact .inl rfl | exact .inr rfl | assumption) :
    PS X (.Assign [.Name x pos'] e pos) (tAsg te (gName i)) := by
  intro pins s σ H D I h
  refine wpAny_Assign_Name (thn (he pins s σ H _ I h) fun v s1 ⟨y, H1, I1, r1, q1⟩ => ?_) hs
  exact store_ok I1 hN hi hx r1 (fun s2 I2 => ⟨_, H1, I2, q1⟩) hf
end
section
variable {X : Cx} {pos : Pos}
end
structure It where
  go : Nat → Hp → Prop
  yld : Nat → Hp → V → Hp → Prop
  stop : Nat → Hp → Prop
def FpOk (X : Cx) (pins : List (Addr × Obj)) (H : Hp) (b : Addr) : Prop :=
  H b = none ∧ b ≠ X.env.locals ∧ b ∉ X.fs ∧ (b ∈ X.ex ∨ X.s₀.heap.objs.size ≤ b) ∧ (∀ x c, X.env.cells.lookup x = some c → c ≠ b) ∧ ∀ p ∈ X.pn ++ pins, p.1 ≠ b
theorem Inv.fpOk {X : Cx} {pins : List (Addr × Obj)} {σ : St} {H H' : Hp} {s : Shared} {b : Addr} (I : Inv X pins σ H s) (hb : s.heap.objs.size ≤ b) (hn : H' b = none) : FpOk X pins H' b := by
  refine ⟨hn, Nat.ne_of_gt (Nat.lt_of_lt_of_le I.lt hb), I.nofs hb, .inr (Nat.le_trans I.sz hb), fun x c e z => ?_, fun p hp z => ?_⟩
  · obtain ⟨v, q⟩ := I.cell x c e
    exact absurd (Nat.lt_of_lt_of_le q.lt (by rw [z]; exact hb)) (Nat.lt_irrefl _)
  · exact absurd (Nat.lt_of_lt_of_le (Heap.lt_size (I.pin p hp).1) (by rw [z]; exact hb)) (Nat.lt_irrefl _)
structure Turn (P : Program) (w : World) (K : PySem.W.Frag) (tg : Expr) (J : It) (fp : List Addr) (it : Addr) (tn : Nat → Heap → Prop) : Prop where
  mem : it ∈ fp
  obj : ∀ i h, tn i h → ∀ b ∈ fp, ∃ o, h.get? b = some o ∧ ∀ v, o.data ≠ .cell v
  keep : ∀ i h h', tn i h → (∀ b ∈ fp, ∀ o, h.get? b = some o → h'.get? b = some o) → tn i h'
  item : ∀ (X : Cx), X.prog = P → X.w = w → X.K = K → X.calm = true → ∀ (i : Nat) (pins : List (Addr × Obj)) (s : Shared) (σ : St) (H : Hp) (E : Value → Shared → Prop), Inv X pins σ H s → (∀ b ∈ fp, FpOk X pins H b) → tn i s.heap → J.go i H →
    wpAny (model P w) X.A (pyNext (.ref it)) (fun r s1 => ∃ u, r = some u ∧
      wpAny (model P w) X.A (letOwnedTupleGo tg (.ref it) u) (fun _ s2 => ∃ x H', Inv X pins σ H' s2 ∧ RelV x u ∧ J.yld i H x H' ∧ tn (i + 1) s2.heap ∧ ∀ b ∈ fp, H' b = none) E s1) E s
  done : ∀ (X : Cx), X.prog = P → X.w = w → X.K = K → X.calm = true → ∀ (i : Nat) (pins : List (Addr × Obj)) (s : Shared) (σ : St) (H : Hp) (E : Value → Shared → Prop), Inv X pins σ H s → (∀ b ∈ fp, FpOk X pins H b) → tn i s.heap → J.stop i H →
    wpAny (model P w) X.A (pyNext (.ref it)) (fun r s1 => r = none ∧ Inv X pins σ H s1) E s
  self : ∀ (A : Around) (i : Nat) (s : Shared) (Q : Value → Shared → Prop) (E : Value → Shared → Prop), tn i s.heap → Q (.ref it) s → wpAny (model P w) A (pyIter (.ref it)) Q E s
abbrev TI := St → Hp → (It → Hp → Prop) → Prop
def PIE (X : Cx) (pins : List (Addr × Obj)) (σ : St) (tg : Expr) (R : It → Hp → Prop) (itv : Value) (s2 : Shared) : Prop :=
  ∃ (it : Addr) (fp : List Addr) (tn : Nat → Heap → Prop) (J : It) (H' : Hp), itv = .ref it ∧ Inv X pins σ H' s2 ∧ Turn X.prog X.w X.K tg J fp it tn ∧ tn 0 s2.heap ∧ (∀ b ∈ fp, FpOk X pins H' b) ∧ R J H'
def PI (X : Cx) (tg iter : Expr) (wi : TI) : Prop :=
  ∀ (pins : List (Addr × Obj)) (s : Shared) (σ : St) (H : Hp) (R : It → Hp → Prop), Inv X pins σ H s → wi σ H R →
    wpAny (model X.prog X.w) X.A (eval iter X.env) (fun v s1 => wpAny (model X.prog X.w) X.A (pyIter v) (PIE X pins σ tg R) X.xe s1) X.xe s
theorem go_of {M : Model} {A : Around} {E : Value → Shared → Prop} {s : Shared} {tg : Expr} {it : Addr} {u : Value} {o : Obj} {n : String} {vs : Array Value} {Q : Unit → Shared → Prop} (ho : s.heap.get? it = some o) (hc : o.cls = .type n) (hd : o.data = .fields vs)
    (hn : ["enumerate", "zip", "dict_itemiterator", "dict_reverseitemiterator", "odict_iterator", "itertools.zip_longest", "itertools.pairwise"].contains n = false) (hQ : Q () s) : wpAny M A (letOwnedTupleGo tg (.ref it) u) Q E s := by
  unfold letOwnedTupleGo
  cases tg <;> first
    | exact wpAny_pure hQ
    | (cases u <;> first
        | exact wpAny_pure hQ
        | (refine wpAny_bind (wpAny_load ho ?_)
           rw [hc, hd]
           show wpAny M A (if (["enumerate", "zip", "dict_itemiterator", "dict_reverseitemiterator", "odict_iterator", "itertools.zip_longest", "itertools.pairwise"].contains n && vs[0]? == some (rawInt _)) = true then _ else _) Q E s
           rw [if_neg (by intro h; rw [hn, Bool.false_and] at h; cases h)]
           exact wpAny_pure hQ))
def Itl (K : PySem.W.Frag) (a : Addr) : It :=
  ⟨fun i H => ∃ xs x, SqL K H a xs ∧ xs[i]? = some x, fun i H x H' => H' = H ∧ ∀ xs, SqL K H a xs → xs[i]? = some x, fun i H => ∃ xs, SqL K H a xs ∧ xs.length ≤ i⟩
def Itr (lo : Int) (n : Nat) : It := ⟨fun i _ => i < n, fun i H x H' => H' = H ∧ x = .int (lo + i), fun i _ => n ≤ i⟩
theorem turn_list {P : Program} {w : World} {K : PySem.W.Frag} {tg : Expr} (a it : Addr) : Turn P w K tg (Itl K a) [it] it (fun i h => h.IsListIter it a i) where
  mem := by simp
  obj := fun i h st b hb => by
    have e : b = it := by simpa using hb
    subst e
    obtain ⟨o, e, c, d⟩ := st
    exact ⟨o, e, fun v z => by rw [d] at z; cases z⟩
  keep := fun i h h' st k => st.at fun o e => k it (by simp) o e
  item := by
    intro X hP hw hK hc i pins s σ H E I hf st hg
    subst hP hw hK
    obtain ⟨xs, x, hq, hx⟩ := hg
    obtain ⟨its, rv, p, hz⟩ := I.list hq
    obtain ⟨u, hu, ru⟩ := rv.get hx
    obtain ⟨f0, f1, f2, f3, f4, f5⟩ := hf it (by simp)
    refine wpAny_pyNext_list_item st p.isList (x := u) (by simpa using hu) fun h' st' sb => ?_
    have I1 : Inv X pins σ H { s with heap := h' } := I.turned (t' := s.toks) (fun b o hb e => (sb.2 b hb).trans e) f0 f1 f3 f4 f5
    obtain ⟨o, e, c, d⟩ := id st'
    exact ⟨u, rfl, go_of (s := { s with heap := h' }) e c d (by decide) ⟨x, H, I1, ru, ⟨rfl, fun ys hy => by rw [I.list_inj hy hq]; exact hx⟩, st', fun b hb => (hf b hb).1⟩⟩
  done := by
    intro X hP hw hK hc i pins s σ H E I hf st hg
    subst hP hw hK
    obtain ⟨xs, hq, hx⟩ := hg
    obtain ⟨its, rv, p, hz⟩ := I.list hq
    obtain ⟨f0, f1, f2, f3, f4, f5⟩ := hf it (by simp)
    have hl := rv.length
    exact wpAny_pyNext_list_end (I.ok.hd hc) st p.isList (by simp; omega) fun h' eb => ⟨rfl, I.turned (t' := s.toks) (fun b o hb e => eb b o hb e) f0 f1 f3 f4 f5⟩
  self := fun _ _ _ _ _ st h => wpAny_pyIter_listiter st h
theorem turn_range {P : Program} {w : World} {K : PySem.W.Frag} {tg : Expr} (it : Addr) (lo : Int) (n : Nat) : Turn P w K tg (Itr lo n) [it] it (fun i h => IsRangeIter h it (lo + (i : Nat) * 1) ((n : Int) - (i : Nat)) 1) where
  mem := by simp
  obj := fun i h st b hb => by
    have e : b = it := by simpa using hb
    subst e
    exact ⟨_, st, fun v z => by
      have z' : Data.fields _ = Data.cell v := z
      cases z'⟩
  keep := fun i h h' st k => k it (by simp) _ st
  item := by
    intro X hP hw hK hc i pins s σ H E I hf st hg
    subst hP hw hK
    obtain ⟨f0, f1, f2, f3, f4, f5⟩ := hf it (by simp)
    have W := Walks.range (prog := X.prog) (w := X.w) (I.ok.hd hc) it lo 1 n
    refine W.item i s _ _ hg st fun v h' tk hv st' kk => ?_
    obtain ⟨t, rfl⟩ := hv
    have I1 : Inv X pins σ H { s with heap := h', toks := tk } := I.turned (fun b o hb e => kk b o (by simpa using hb) e) f0 f1 f3 f4 f5
    refine ⟨_, rfl, go_of (s := { s with heap := h', toks := tk }) (n := "range_iterator") st' rfl rfl (by decide) ⟨.int (lo + i), H, I1, ⟨t, ?_⟩, ⟨rfl, rfl⟩, st', fun b hb => (hf b hb).1⟩⟩
    rw [Int.mul_one]
  done := by
    intro X hP hw hK hc i pins s σ H E I hf st hg
    subst hP hw hK
    obtain ⟨f0, f1, f2, f3, f4, f5⟩ := hf it (by simp)
    exact wpAny_pyNext_range_end (I.ok.hd hc) st (by have : n ≤ i := hg; omega) fun h' eb => ⟨rfl, I.turned (t' := s.toks) (fun b o hb e => eb b o hb e) f0 f1 f3 f4 f5⟩
  self := fun _ _ _ _ _ st h => wpAny_pyIter_rangeiter st h
end L2
namespace L2
open PySem PySem.Spec PyProof.Rows
section
variable {X : Cx} {tg : Expr}
def iList (K : PySem.W.Frag) (tl : TE) : TI := fun σ H R => tl σ H fun x H1 => ∃ a, x = .ref a ∧ (∃ xs, SqL K H1 a xs) ∧ R (Itl K a) H1
theorem pi_list {l : Expr} {tl : TE} (hl : PE X l tl) : PI X tg l (iList X.K tl) := by
  intro pins s σ H R I h
  refine thn (hl pins s σ H _ I h) fun v s1 ⟨x, H1, I1, r1, q1⟩ => ?_
  obtain ⟨a, e, ⟨xs, hq⟩, q⟩ := q1
  subst e
  cases r1
  obtain ⟨its, rv, p, hz⟩ := I1.list hq
  refine wpAny_pyIter_list p.isList ?_
  refine ⟨s1.heap.objs.size, [s1.heap.objs.size], _, _, H1, rfl, I1.kept (t' := s1.toks) fun b o e => Heap.get?_push_of_some _ e, turn_list a _, ⟨_, Heap.get?_push_size _ rfl, rfl, rfl⟩, fun b hb => ?_, q⟩
  have e : b = s1.heap.objs.size := by simpa using hb
  subst e
  exact I1.fpOk (Nat.le_refl _) (I1.hok.fresh (Nat.le_refl _))
theorem range_it {pins : List (Addr × Obj)} {σ : St} {H : Hp} {s : Shared} {R : It → Hp → Prop} {E : Value → Shared → Prop} {lo hi : Int} {t u v : Tok} {tk : Nat} (I : Inv X pins σ H s) (h1 : -(2 ^ 62) ≤ lo) (h2 : lo < 2 ^ 62) (h3 : -(2 ^ 62) ≤ hi) (h4 : hi < 2 ^ 62)
    (q : R (Itr lo (hi - lo).toNat) H) : wpAny (model X.prog X.w) X.A (pyIter (.ref s.heap.objs.size)) (PIE X pins σ tg R) E { s with heap := s.heap.push { cls := .type "range", data := .fields #[.int lo t, .int hi u, .int 1 v] }, toks := tk } := by
  refine wpAny_pyIter_range (IsRange.new ..) (small_one h1 h2 h3 h4) ?_
  have I1 : Inv X pins σ H { s with heap := s.heap.push { cls := .type "range", data := .fields #[.int lo t, .int hi u, .int 1 v] }, toks := tk } := I.kept fun b o e => Heap.get?_push_of_some _ e
  refine ⟨(s.heap.push { cls := .type "range", data := .fields #[.int lo t, .int hi u, .int 1 v] }).objs.size, [(s.heap.push { cls := .type "range", data := .fields #[.int lo t, .int hi u, .int 1 v] }).objs.size], _, _, H, rfl,
    I1.kept (t' := tk) fun b o e => Heap.get?_push_of_some _ e, turn_range _ lo (hi - lo).toNat, ?_, fun b hb => ?_, q⟩
  · have e1 : lo + ((0 : Nat) : Int) * 1 = lo := by simp
    have e2 : (((hi - lo).toNat : Nat) : Int) - ((0 : Nat) : Int) = Builtin.Range.rangeSize lo hi 1 := by rw [rangeSize_one]; split <;> omega
    show IsRangeIter _ _ (lo + ((0 : Nat) : Int) * 1) ((((hi - lo).toNat : Nat) : Int) - ((0 : Nat) : Int)) 1
    rw [e1, e2]
    exact Heap.get?_push_size _ rfl
  · have e : b = (s.heap.push { cls := .type "range", data := .fields #[.int lo t, .int hi u, .int 1 v] }).objs.size := by simpa using hb
    subst e
    exact I1.fpOk (Nat.le_refl _) (I1.hok.fresh (Nat.le_refl _))
def iRng1 (ta : TA) : TI := fun σ H R => ta σ H fun vs H1 => ∃ j : Int, vs = [.int j] ∧ -(2 ^ 62) ≤ j ∧ j < 2 ^ 62 ∧ R (Itr 0 j.toNat) H1
theorem pi_range1 {a : Expr} {ta : TA} {p pos : Pos} (hg : Gl X "range") (hm : X.mg "range" = none) (ha : PA X [a] ta) (hs : starEach [a] X.env = [(false, eval a X.env)] := by rfl) : PI X tg (.Call (.Name "range" p) [a] [] pos) (iRng1 ta) := by
  intro pins s σ H R I h
  refine Call_ (ld_blt I hg hm boot_range (PyProof.Rows.callWith_type1 (thn (ha pos pins s σ H _ I h) fun us s1 ⟨vs, H1, I1, r1, q1⟩ => ?_) hs rfl))
  obtain ⟨j, e, q1, q2, q⟩ := q1
  subst e
  cases r1 with
  | cons r rr =>
    cases rr
    obtain ⟨t, rfl⟩ := r
    exact call_range_1 (range_it I1 (by omega) (by omega) q1 q2 (by simpa using q))
def tFor (wi : TI) (g : TG) (tb : TS) : TS := fun D σ H => wi σ H fun J H1 => ∃ W : Nat → Nat → St → Hp → Prop, (∃ m, W 0 m σ H1) ∧ ∀ i m σ H, W i m σ H →
  (J.stop i H ∧ D.nx σ H) ∨ (J.go i H ∧ ∃ N : St → Hp → Prop, (∀ σ' H', N σ' H' → ∃ m', m' < m ∧ W (i + 1) m' σ' H') ∧ ∀ x H', J.yld i H x H' → g x σ H' fun σ2 H2 => tb { D with nx := N, ct := N, bk := D.nx } σ2 H2)
def pinsAt (fp : List Addr) (h : Heap) : List (Addr × Obj) := fp.filterMap fun b => (h.get? b).map fun o => (b, o)
theorem mem_pinsAt {fp : List Addr} {h : Heap} {b : Addr} {o : Obj} (hb : b ∈ fp) (e : h.get? b = some o) : (b, o) ∈ pinsAt fp h := List.mem_filterMap.mpr ⟨b, hb, by rw [e]; rfl⟩
theorem of_pinsAt {fp : List Addr} {h : Heap} {p : Addr × Obj} (hp : p ∈ pinsAt fp h) : p.1 ∈ fp ∧ h.get? p.1 = some p.2 := by
  obtain ⟨b, hb, e⟩ := List.mem_filterMap.mp hp
  cases q : h.get? b with
  | none => rw [q] at e; cases e
  | some o =>
    rw [q] at e
    have e' : (b, o) = p := Option.some.inj e
    subst e'
    exact ⟨hb, q⟩
theorem Inv.pinned {pins : List (Addr × Obj)} {σ : St} {H : Hp} {s : Shared} {fp : List Addr} (I : Inv X pins σ H s) (hf : ∀ b ∈ fp, FpOk X pins H b) (ho : ∀ b ∈ fp, ∃ o, s.heap.get? b = some o ∧ ∀ v, o.data ≠ .cell v) : Inv X (pins ++ pinsAt fp s.heap) σ H s :=
  I.pins_of fun p hp => (List.mem_append.mp hp).elim (fun z => I.pin p (List.mem_append_right _ z)) fun z => by
    obtain ⟨hb, e⟩ := of_pinsAt z
    obtain ⟨f0, f1, f2, _⟩ := hf p.1 hb
    obtain ⟨o, e', d⟩ := ho p.1 hb
    rw [e] at e'; cases e'
    exact ⟨e, f0, f1, f2, d⟩
theorem Inv.unpinned {pins pl : List (Addr × Obj)} {σ : St} {H : Hp} {s : Shared} (I : Inv X (pins ++ pl) σ H s) : Inv X pins σ H s := I.pins_of fun p hp => I.pin p (List.mem_append_right _ (List.mem_append_left _ hp))
theorem ps_for {iter : Expr} {body : List Stmt} {wi : TI} {g : TG} {tb : TS} {pos : Pos} (hp : PassesOwn (model X.prog X.w) X.A X.env X.xe) (hc : X.calm = true) (hi : PI X tg iter wi) (hg : PG X tg g) (hb : PSs X body tb)
    (hs : ∀ x, foldedSetIterable iter X.env x = pure x := by intro _; rfl) : PS X (.For tg iter body [] pos) (tFor wi g tb) := by
  intro pins s σ H D I h
  refine wpAny_For (thn (hi pins s σ H _ I h) fun v s1 h1 => thn h1 fun itv s2 h2 => ?_) hs
  obtain ⟨it, fp, tn, J, H2, e, I2, T, st2, f2, W, ⟨m0, w0⟩, turn⟩ := h2
  subst e
  have stat : ∀ {H' : Hp}, (∀ b ∈ fp, H' b = none) → ∀ b ∈ fp, FpOk X pins H' b := fun hn b hb => ⟨hn b hb, (f2 b hb).2⟩
  refine codeAny_forLoop_any (fun n s' => ∃ i σ' H', Inv X pins σ' H' s' ∧ tn i s'.heap ∧ (∀ b ∈ fp, H' b = none) ∧ W i n σ' H') ?_ m0 ⟨0, σ, H2, I2, st2, fun b hb => (f2 b hb).1, w0⟩
  rintro n s3 ⟨i, σ3, H3, I3, st3, fr3, w3⟩
  rcases turn i n σ3 H3 w3 with ⟨stop, qn⟩ | ⟨go, N, hN, step⟩
  · refine wpAny_passesOwn hp (thn (T.done X rfl rfl rfl hc i pins s3 σ3 H3 X.xe I3 (stat fr3) st3 stop) fun r s4 ⟨hr, I4⟩ => ?_)
    subst hr
    exact wpAny_execs_nil ⟨σ3, H3, I4, qn⟩
  · refine wpAny_passesOwn hp (thn (T.item X rfl rfl rfl hc i pins s3 σ3 H3 X.xe I3 (stat fr3) st3 go) fun r s4 ⟨u, hr, h4⟩ => ?_)
    subst hr
    refine wpAny_passesOwn hp (thn h4 fun _ s5 ⟨x, H5, I5, r5, y5, st5, fr5⟩ => ?_)
    have I5' := I5.pinned (stat fr5) (T.obj _ _ st5)
    refine wpAny_passesOwn hp (thn (hg _ s5 σ3 H5 x u _ I5' r5 (step x H5 y5)) fun _ s6 ⟨σ6, H6, I6, q6⟩ => ?_)
    refine wpAny_passesOwn hp (thn (hb _ s6 σ6 H6 _ I6 q6) fun f s7 q7 => ?_)
    have again : ∀ {σ7 : St} {H7 : Hp}, Inv X (pins ++ pinsAt fp s5.heap) σ7 H7 s7 → N σ7 H7 → ∃ m, m < n ∧ ∃ i σ' H', Inv X pins σ' H' s7 ∧ tn i s7.heap ∧ (∀ b ∈ fp, H' b = none) ∧ W i m σ' H' := fun {σ7 H7} I7 n7 => by
      obtain ⟨m', hm, w7⟩ := hN σ7 H7 n7
      refine ⟨m', hm, i + 1, σ7, H7, I7.unpinned, T.keep _ _ _ st5 fun b hb o e => (I7.pin (b, o) (List.mem_append_right _ (List.mem_append_right _ (mem_pinsAt hb e)))).1, fun b hb => ?_, w7⟩
      obtain ⟨o, e, d⟩ := T.obj _ _ st5 b hb
      exact (I7.pin (b, o) (List.mem_append_right _ (List.mem_append_right _ (mem_pinsAt hb e)))).2.1
    cases f with
    | next => obtain ⟨σ7, H7, I7, n7⟩ := q7; exact again I7 n7
    | cont => obtain ⟨σ7, H7, I7, n7⟩ := q7; exact again I7 n7
    | brk => obtain ⟨σ7, H7, I7, q7⟩ := q7; exact ⟨σ7, H7, I7.unpinned, q7⟩
    | ret v => obtain ⟨x7, σ7, H7, I7, r7, q7⟩ := q7; exact ⟨x7, σ7, H7, I7.unpinned, r7, q7⟩
end
theorem for_list {K : PySem.W.Frag} {a : Addr} {xs : List V} {g : TG} {tb : TS} {D : Ends} {σ : St} {H : Hp} (Pv : Nat → St → Hp → Prop) (h0 : Pv 0 σ H) (hl : ∀ i σ H, i ≤ xs.length → Pv i σ H → SqL K H a xs)
    (hs : ∀ i x σ H, xs[i]? = some x → Pv i σ H → g x σ H fun σ2 H2 => tb { D with nx := Pv (i + 1), ct := Pv (i + 1), bk := D.nx } σ2 H2) (hd : ∀ σ H, Pv xs.length σ H → D.nx σ H) :
    ∃ W : Nat → Nat → St → Hp → Prop, (∃ m, W 0 m σ H) ∧ ∀ i m σ H, W i m σ H →
      ((Itl K a).stop i H ∧ D.nx σ H) ∨ ((Itl K a).go i H ∧ ∃ N : St → Hp → Prop, (∀ σ' H', N σ' H' → ∃ m', m' < m ∧ W (i + 1) m' σ' H') ∧ ∀ x H', (Itl K a).yld i H x H' → g x σ H' fun σ2 H2 => tb { D with nx := N, ct := N, bk := D.nx } σ2 H2) := by
  refine ⟨fun i m σ H => m = xs.length - i ∧ i ≤ xs.length ∧ Pv i σ H, ⟨xs.length, by simp, Nat.zero_le _, h0⟩, ?_⟩
  rintro i m σ H ⟨rfl, hi, p⟩
  have q := hl i σ H hi p
  by_cases hlt : i < xs.length
  · refine .inr ⟨⟨xs, xs[i], q, by simp [hlt]⟩, Pv (i + 1), fun σ' H' p' => ⟨xs.length - (i + 1), by omega, rfl, hlt, p'⟩, fun x H' y => ?_⟩
    obtain ⟨e, y⟩ := y
    subst e
    exact hs i x σ _ (y xs q) p
  · have e : i = xs.length := by omega
    subst e
    exact .inl ⟨⟨xs, q, Nat.le_refl _⟩, hd σ H p⟩
end L2
namespace L2
open PySem PySem.Spec PyProof.Rows
abbrev R2 := V → V → Hp → VK → Prop
def OpR (X : Cx) (f : Value → Value → Sem Value) (r : R2) : Prop :=
  ∀ (pins : List (Addr × Obj)) (s : Shared) (σ : St) (H : Hp) (x y : V) (v u : Value) (Q : VK), Inv X pins σ H s → RelV x v → RelV y u → r x y H Q →
    wpAny (model X.prog X.w) X.A (f v u) (EP X pins σ Q) X.xe s
def UnR (X : Cx) (f : Value → Sem Value) (r : V → Hp → VK → Prop) : Prop :=
  ∀ (pins : List (Addr × Obj)) (s : Shared) (σ : St) (H : Hp) (x : V) (v : Value) (Q : VK), Inv X pins σ H s → RelV x v → r x H Q →
    wpAny (model X.prog X.w) X.A (f v) (EP X pins σ Q) X.xe s
def CallR (X : Cx) (f : Value) (r : List V → Hp → VK → Prop) : Prop :=
  ∀ (pins : List (Addr × Obj)) (s : Shared) (σ : St) (H : Hp) (xs : List V) (us : List Value) (Q : VK), Inv X pins σ H s → Vals xs us → r xs H Q →
    wpAny (model X.prog X.w) X.A (call f us) (EP X pins σ Q) X.xe s
def tOp (r : R2) (ta tb : TE) : TE := fun σ H Q => ta σ H fun x H1 => tb σ H1 fun y H2 => r x y H2 Q
def tUn (r : V → Hp → VK → Prop) (ta : TE) : TE := fun σ H Q => ta σ H fun x H1 => r x H1 Q
def rI (C : Int → Int → Prop) (g : Int → Int → V) : R2 := fun x y H Q => ∃ i j, x = .int i ∧ y = .int j ∧ C i j ∧ Q (g i j) H
def rI0 (g : Int → Int → V) : R2 := fun x y H Q => ∃ i j, x = .int i ∧ y = .int j ∧ Q (g i j) H
def rU (g : Int → V) : V → Hp → VK → Prop := fun x H Q => ∃ i, x = .int i ∧ Q (g i) H
section
variable {X : Cx} {a b c : Expr} {ta tb tc : TE} {pos : Pos}
theorem binT (ha : PE X a ta) (hb : PE X b tb) {pins : List (Addr × Obj)} {s : Shared} {σ : St} {H : Hp} {R : V → V → Hp → Prop} (I : Inv X pins σ H s)
    (h : ta σ H fun x H1 => tb σ H1 fun y H2 => R x y H2) {Q : Value → Shared → Prop} {f : Value → Value → Sem Value}
    (hf : ∀ v u s2 x y H2, Inv X pins σ H2 s2 → RelV x v → RelV y u → R x y H2 → wpAny (model X.prog X.w) X.A (f v u) Q X.xe s2) :
    wpAny (model X.prog X.w) X.A (eval a X.env) (fun v s₁ => wpAny (model X.prog X.w) X.A (eval b X.env) (fun u s₂ => wpAny (model X.prog X.w) X.A (f v u) Q X.xe s₂) X.xe s₁) X.xe s := by
  refine thn (ha pins s σ H _ I h) fun v s1 ⟨x, H1, I1, r1, q1⟩ => ?_
  refine thn (hb pins s1 σ H1 _ I1 q1) fun u s2 ⟨y, H2, I2, r2, q2⟩ => ?_
  exact hf v u s2 x y H2 I2 r1 r2 q2
theorem pe_op {op : Operator} {r : R2} (ho : OpR X (binaryOp op) r) (ha : PE X a ta) (hb : PE X b tb) : PE X (.BinOp a op b pos) (tOp r ta tb) := by
  intro pins s σ H Q I h
  exact wpAny_BinOp (binT ha hb I h fun v u s2 x y H2 I2 rx ry q => ho pins s2 σ H2 x y v u Q I2 rx ry q)
theorem pe_un {op : UnaryOp} {r : V → Hp → VK → Prop} (ho : UnR X (unaryOp op) r) (ha : PE X a ta) : PE X (.UnaryOp op a pos) (tUn r ta) := by
  intro pins s σ H Q I h
  exact UnaryOp_ (thn (ha pins s σ H _ I h) fun v s1 ⟨x, H1, I1, r1, q1⟩ => ho pins s1 σ H1 x v Q I1 r1 q1)
theorem opI {f : Value → Value → Sem Value} {C : Int → Int → Prop} {g : Int → Int → Int}
    (rule : ∀ (i j : Int) (t u : Tok) (s : Shared) (Q : Value → Shared → Prop) (E : Value → Shared → Prop), C i j → Q (.int (g i j) s.toks) { s with toks := s.toks + 1 } → wpAny (model X.prog X.w) X.A (f (.int i t) (.int j u)) Q E s) :
    OpR X f (rI C fun i j => .int (g i j)) := by
  intro pins s σ H x y v u Q I rx ry h
  obtain ⟨i, j, rfl, rfl, hc, q⟩ := h
  obtain ⟨t, rfl⟩ := rx
  obtain ⟨t', rfl⟩ := ry
  exact rule i j t t' s _ _ hc ⟨.int (g i j), H, I.tok _, ⟨_, rfl⟩, q⟩
theorem opI0 {f : Value → Value → Sem Value} {g : Int → Int → Int}
    (rule : ∀ (i j : Int) (t u : Tok) (s : Shared) (Q : Value → Shared → Prop) (E : Value → Shared → Prop), Q (.int (g i j) s.toks) { s with toks := s.toks + 1 } → wpAny (model X.prog X.w) X.A (f (.int i t) (.int j u)) Q E s) :
    OpR X f (rI0 fun i j => .int (g i j)) := by
  intro pins s σ H x y v u Q I rx ry h
  obtain ⟨i, j, rfl, rfl, q⟩ := h
  obtain ⟨t, rfl⟩ := rx
  obtain ⟨t', rfl⟩ := ry
  exact rule i j t t' s _ _ ⟨.int (g i j), H, I.tok _, ⟨_, rfl⟩, q⟩
theorem opB0 {f : Value → Value → Sem Value} {g : Int → Int → Bool}
    (rule : ∀ (i j : Int) (t u : Tok) (s : Shared) (Q : Value → Shared → Prop) (E : Value → Shared → Prop), Q (.bool (g i j)) s → wpAny (model X.prog X.w) X.A (f (.int i t) (.int j u)) Q E s) :
    OpR X f (rI0 fun i j => .bl (g i j)) := by
  intro pins s σ H x y v u Q I rx ry h
  obtain ⟨i, j, rfl, rfl, q⟩ := h
  obtain ⟨t, rfl⟩ := rx
  obtain ⟨t', rfl⟩ := ry
  exact rule i j t t' s _ _ ⟨.bl (g i j), H, I, rfl, q⟩
def CDiv (i j : Int) : Prop := 0 < j ∧ j < 1073741824
def CPow (i j : Int) : Prop := 0 ≤ j ∧ j ≤ 1000000 ∧ i.natAbs < 2 ^ 64
def CMul (i j : Int) : Prop := (-(2 ^ 64) < i ∧ i < 2 ^ 64) ∨ (-(2 ^ 64) < j ∧ j < 2 ^ 64)
theorem CMul.ok {i j : Int} (h : CMul i j) : IntMulOk i j := by
  rcases h with ⟨h1, h2⟩ | ⟨h1, h2⟩
  · exact .of_left (intBits_le_64 h1 h2)
  · exact .of_right (intBits_le_64 h1 h2)
theorem two_pow_nn (k : Nat) : (0 : Int) ≤ 2 ^ k := by
  rw [two_pow_cast]
  exact Int.natCast_nonneg _
theorem op_add : OpR X (binaryOp .Add) (rI0 fun i j => .int (i + j)) := opI0 fun _ _ _ _ _ _ _ q => add_int q
theorem op_sub : OpR X (binaryOp .Sub) (rI0 fun i j => .int (i - j)) := opI0 fun _ _ _ _ _ _ _ q => sub_int q
theorem op_mul : OpR X (binaryOp .Mult) (rI CMul fun i j => .int (i * j)) := opI fun _ _ _ _ _ _ _ hc q => mul_int q hc.ok
theorem op_fdiv : OpR X (binaryOp .FloorDiv) (rI CDiv fun i j => .int (i / j)) := opI fun i j _ _ _ _ _ hc q => by
  have h1 : (0 : Int) < j := hc.1
  have h2 : j < 1073741824 := hc.2
  exact floordiv_int (by omega) (by rw [Int.fdiv_eq_ediv_of_nonneg i (by omega)]; exact q) (.inl (PyProof.noPylong_small (by omega)))
theorem op_mod : OpR X (binaryOp .Mod) (rI (fun _ j => 0 < j) fun i j => .int (i % j)) := opI fun i j _ _ _ _ _ hc q => by
  have h1 : (0 : Int) < j := hc
  exact mod_int' (by omega) (by rw [Int.fmod_eq_emod_of_nonneg i (by omega)]; exact q)
theorem op_pow : OpR X (binaryOp .Pow) (rI CPow fun i j => .int (i ^ j.toNat)) := opI fun _ _ _ _ _ _ _ hc q => pow_int_small hc.1 hc.2.1 hc.2.2 q
theorem op_shr : OpR X (binaryOp .RShift) (rI (fun _ j => 0 ≤ j) fun i j => .int (i / 2 ^ j.toNat)) := opI fun i j _ _ _ _ _ hc q =>
  rshift_int hc (by rw [Int.fdiv_eq_ediv_of_nonneg i (two_pow_nn _)]; exact q)
theorem op_and : OpR X (binaryOp .BitAnd) (rI0 fun i j => .int (Builtin.bitAnd i j)) := opI0 fun _ _ _ _ _ _ _ q => and_int q
theorem op_or : OpR X (binaryOp .BitOr) (rI0 fun i j => .int (Builtin.bitOr i j)) := opI0 fun _ _ _ _ _ _ _ q => or_int q
theorem unI {f : Value → Sem Value} {g : Int → Int}
    (rule : ∀ (i : Int) (t : Tok) (s : Shared) (Q : Value → Shared → Prop) (E : Value → Shared → Prop), Q (.int (g i) s.toks) { s with toks := s.toks + 1 } → wpAny (model X.prog X.w) X.A (f (.int i t)) Q E s) :
    UnR X f (rU fun i => .int (g i)) := by
  intro pins s σ H x v Q I rx h
  obtain ⟨i, rfl, q⟩ := h
  obtain ⟨t, rfl⟩ := rx
  exact rule i t s _ _ ⟨.int (g i), H, I.tok _, ⟨_, rfl⟩, q⟩
theorem un_neg : UnR X (unaryOp .USub) (rU fun i => .int (-i)) := unI fun _ _ _ _ _ q => neg_int q
end
def scal : V → V → Bool
  | .non, .non => true | .non, .int _ => true | .int _, .non => true | .non, .bl _ => true | .bl _, .non => true | .non, .str _ => true | .str _, .non => true
  | .int _, .int _ => true | .bl _, .bl _ => true | .str _, .str _ => true | .byt _, .byt _ => true
  | .int _, .str _ => true | .str _, .int _ => true | .bl _, .str _ => true | .str _, .bl _ => true
  | _, _ => false
def rEq : R2 := fun x y H Q => scal x y = true ∧ Q (.bl (decide (x = y))) H
def rNe : R2 := fun x y H Q => scal x y = true ∧ Q (.bl (!decide (x = y))) H
theorem dec_int {i j : Int} : decide (V.int i = V.int j) = (i == j) := by
  rw [Bool.eq_iff_iff]
  simp
theorem dec_bl {i j : Bool} : decide (V.bl i = V.bl j) = (i == j) := by
  rw [Bool.eq_iff_iff]
  simp
theorem dec_str {i j : Str} : decide (V.str i = V.str j) = (i == j) := by
  rw [Bool.eq_iff_iff]
  simp
theorem dec_byt {i j : Array UInt8} : decide (V.byt i = V.byt j) = (i.toList == j.toList) := by
  rw [Bool.eq_iff_iff]
  cases i
  cases j
  simp
section
variable {X : Cx} {a b c : Expr} {ta tb tc : TE} {pos : Pos}
theorem fin_bl {pins : List (Addr × Obj)} {σ : St} {H : Hp} {s : Shared} {Q : VK} {k k' : Bool} (I : Inv X pins σ H s) (q : Q (.bl k) H) (e : k = k') : EP X pins σ Q (.bool k') s := by
  subst e
  exact ⟨.bl k, H, I, rfl, q⟩
theorem op_eq : OpR X (compareOp .Eq) rEq := by
  intro pins s σ H x y v u Q I rx ry h
  obtain ⟨hs, q⟩ := h
  cases x with
  | non =>
    cases rx
    cases y with
    | non => cases ry; exact PySem.EqNone.eq_none_none (fin_bl I q (by simp))
    | bl j => cases ry; exact PySem.EqNone.eq_none_bool (fin_bl I q (by simp))
    | int j => obtain ⟨t', rfl⟩ := ry; exact PySem.EqNone.eq_none_int (fin_bl I q (by simp))
    | str j => obtain ⟨t', rfl⟩ := ry; exact PySem.EqNone.eq_none_str (fin_bl I q (by simp))
    | _ => exact absurd (show false = true from hs) Bool.false_ne_true
  | bl i =>
    cases rx
    cases y with
    | non => cases ry; exact PySem.EqNone.eq_bool_none (fin_bl I q (by simp))
    | bl j => cases ry; exact eq_bool (fin_bl I q dec_bl)
    | str j => obtain ⟨t', rfl⟩ := ry; exact PySem.EqMixed.eq_bool_str (fin_bl I q (by simp))
    | _ => exact absurd (show false = true from hs) Bool.false_ne_true
  | int i =>
    obtain ⟨t, rfl⟩ := rx
    cases y with
    | non => cases ry; exact PySem.EqNone.eq_int_none (fin_bl I q (by simp))
    | int j => obtain ⟨t', rfl⟩ := ry; exact eq_int (fin_bl I q dec_int)
    | str j => obtain ⟨t', rfl⟩ := ry; exact PySem.EqMixed.eq_int_str (fin_bl I q (by simp))
    | _ => exact absurd (show false = true from hs) Bool.false_ne_true
  | str i =>
    obtain ⟨t, rfl⟩ := rx
    cases y with
    | non => cases ry; exact PySem.EqNone.eq_str_none (fin_bl I q (by simp))
    | bl j => cases ry; exact PySem.EqMixed.eq_str_bool (fin_bl I q (by simp))
    | int j => obtain ⟨t', rfl⟩ := ry; exact PySem.EqMixed.eq_str_int (fin_bl I q (by simp))
    | str j => obtain ⟨t', rfl⟩ := ry; exact eq_str (fin_bl I q dec_str)
    | _ => exact absurd (show false = true from hs) Bool.false_ne_true
  | byt i =>
    obtain ⟨t, rfl⟩ := rx
    cases y with
    | byt j => obtain ⟨t', rfl⟩ := ry; exact PySem.W.eq_bytes (fin_bl I q dec_byt)
    | _ => exact absurd (show false = true from hs) Bool.false_ne_true
  | _ => cases y <;> exact absurd (show false = true from hs) Bool.false_ne_true
theorem op_ne : OpR X (compareOp .NotEq) rNe := by
  intro pins s σ H x y v u Q I rx ry h
  obtain ⟨hs, q⟩ := h
  cases x with
  | non =>
    cases rx
    cases y with
    | non => cases ry; exact PySem.EqNone.ne_none_none (fin_bl I q (by simp))
    | bl j => cases ry; exact PySem.EqNone.ne_none_bool (fin_bl I q (by simp))
    | int j => obtain ⟨t', rfl⟩ := ry; exact PySem.EqNone.ne_none_int (fin_bl I q (by simp))
    | str j => obtain ⟨t', rfl⟩ := ry; exact PySem.EqNone.ne_none_str (fin_bl I q (by simp))
    | _ => exact absurd (show false = true from hs) Bool.false_ne_true
  | bl i =>
    cases rx
    cases y with
    | non => cases ry; exact PySem.EqNone.ne_bool_none (fin_bl I q (by simp))
    | bl j => cases ry; exact ne_bool (fin_bl I q (congrArg not dec_bl))
    | str j => obtain ⟨t', rfl⟩ := ry; exact PySem.EqMixed.ne_bool_str (fin_bl I q (by simp))
    | _ => exact absurd (show false = true from hs) Bool.false_ne_true
  | int i =>
    obtain ⟨t, rfl⟩ := rx
    cases y with
    | non => cases ry; exact PySem.EqNone.ne_int_none (fin_bl I q (by simp))
    | int j => obtain ⟨t', rfl⟩ := ry; exact ne_int (fin_bl I q (congrArg not dec_int))
    | str j => obtain ⟨t', rfl⟩ := ry; exact PySem.EqMixed.ne_int_str (fin_bl I q (by simp))
    | _ => exact absurd (show false = true from hs) Bool.false_ne_true
  | str i =>
    obtain ⟨t, rfl⟩ := rx
    cases y with
    | non => cases ry; exact PySem.EqNone.ne_str_none (fin_bl I q (by simp))
    | bl j => cases ry; exact PySem.EqMixed.ne_str_bool (fin_bl I q (by simp))
    | int j => obtain ⟨t', rfl⟩ := ry; exact PySem.EqMixed.ne_str_int (fin_bl I q (by simp))
    | str j => obtain ⟨t', rfl⟩ := ry; exact ne_str (fin_bl I q (congrArg not dec_str))
    | _ => exact absurd (show false = true from hs) Bool.false_ne_true
  | byt i =>
    obtain ⟨t, rfl⟩ := rx
    cases y with
    | byt j => obtain ⟨t', rfl⟩ := ry; exact PySem.W.ne_bytes (fin_bl I q (congrArg not dec_byt))
    | _ => exact absurd (show false = true from hs) Bool.false_ne_true
  | _ => cases y <;> exact absurd (show false = true from hs) Bool.false_ne_true
theorem op_lt : OpR X (compareOp .Lt) (rI0 fun i j => .bl (decide (i < j))) := opB0 fun _ _ _ _ _ _ _ q => lt_int q
theorem op_le : OpR X (compareOp .LtE) (rI0 fun i j => .bl (decide (i ≤ j))) := opB0 fun _ _ _ _ _ _ _ q => le_int q
theorem op_gt : OpR X (compareOp .Gt) (rI0 fun i j => .bl (decide (j < i))) := opB0 fun _ _ _ _ _ _ _ q => gt_int q
theorem op_ge : OpR X (compareOp .GtE) (rI0 fun i j => .bl (decide (j ≤ i))) := opB0 fun _ _ _ _ _ _ _ q => ge_int q
theorem op_isN : OpR X (compareOp .Is) (fun x y H Q => y = .non ∧ Q (.bl (decide (x = .non))) H) := by
  intro pins s σ H x y v u Q I rx ry h
  obtain ⟨rfl, q⟩ := h
  cases ry
  refine is_none_gen (fin_bl I q ?_)
  cases x <;> first
    | (cases rx; rfl)
    | (obtain ⟨t, rfl⟩ := rx; rfl)
theorem op_notN : OpR X (compareOp .IsNot) (fun x y H Q => y = .non ∧ Q (.bl (!decide (x = .non))) H) := by
  intro pins s σ H x y v u Q I rx ry h
  obtain ⟨rfl, q⟩ := h
  cases ry
  refine isnot_none_gen (fin_bl I q ?_)
  cases x <;> first
    | (cases rx; rfl)
    | (obtain ⟨t, rfl⟩ := rx; rfl)
theorem nomark (b : Expr) {op : CmpOp} (h : op ≠ .In := by decide) (h2 : op ≠ .NotIn := by decide) : behindInMarks op b = false := by
  have e1 : (op == CmpOp.In) = false := by cases op <;> first | rfl | exact absurd rfl h
  have e2 : (op == CmpOp.NotIn) = false := by cases op <;> first | rfl | exact absurd rfl h2
  cases b <;> simp [behindInMarks, e1, e2]
theorem pe_cmpR {op : CmpOp} {r : R2} (ho : OpR X (compareOp op) r) (ha : PE X a ta) (hb : PE X b tb) (hm : behindInMarks op b = false) : PE X (.Compare a [op] [b] pos) (tOp r ta tb) := by
  intro pins s σ H Q I h
  exact wpAny_Compare1 (binT ha hb I h fun v u s2 x y H2 I2 rx ry q => ho pins s2 σ H2 x y v u Q I2 rx ry q) hm
def tTest (t : TE) : TT := fun σ H Q => t σ H fun x H' => ∃ k, x = .bl k ∧ Q k H'
theorem pt_cmpR {op : CmpOp} {r : R2} (ho : OpR X (compareOp op) r) (ha : PE X a ta) (hb : PE X b tb) (hm : behindInMarks op b = false) : PT X (.Compare a [op] [b] pos) (tTest (tOp r ta tb)) := by
  intro pins s σ H Q I h
  refine wpAny_isTrue_Compare1 (thn (ha pins s σ H _ I h) fun v s1 ⟨x, H1, I1, r1, q1⟩ => thn (hb pins s1 σ H1 _ I1 q1) fun u s2 ⟨y, H2, I2, r2, q2⟩ =>
    thn (ho pins s2 σ H2 x y v u _ I2 r1 r2 q2) fun c s3 ⟨z, H3, I3, r3, k, e, q3⟩ => ?_) hm
  subst e
  cases r3
  exact wpAny_truthy_bool ⟨H3, I3, q3⟩
def tChain (r r' : R2) (ta tb tc : TE) : TE := fun σ H Q => ta σ H fun x H1 => tb σ H1 fun y H2 => r x y H2 fun z H3 => ∃ k, z = .bl k ∧
  (if k = true then tc σ H3 fun w' H4 => r' y w' H4 Q else Q (.bl false) H3)
theorem pe_chain {op op' : CmpOp} {r r' : R2} (ho : OpR X (compareOp op) r) (ho' : OpR X (compareOp op') r') (ha : PE X a ta) (hb : PE X b tb) (hc : PE X c tc)
    (hm : lastMarks [op, op'] [b, c] = false := by with_unfolding_all rfl) : PE X (.Compare a [op, op'] [b, c] pos) (tChain r r' ta tb tc) := by
  intro pins s σ H Q I h
  refine Compare_chain (thn (ha pins s σ H _ I h) fun v s1 ⟨x, H1, I1, r1, q1⟩ => chain_link (thn (hb pins s1 σ H1 _ I1 q1) fun u s2 ⟨y, H2, I2, r2, q2⟩ =>
    thn (ho pins s2 σ H2 x y v u _ I2 r1 r2 q2) fun d s3 ⟨z, H3, I3, r3, k, e, q3⟩ => ?_)) hm
  subst e
  cases r3
  refine wpAny_truthy_bool ?_
  cases k with
  | false => exact ite_ff ⟨.bl false, H3, I3, rfl, q3⟩
  | true => exact ite_tt (chain_last (thn (hc pins s3 σ H3 _ I3 q3) fun w' s4 ⟨z', H4, I4, r4, q4⟩ => ho' pins s4 σ H4 y z' u w' Q I4 r2 r4 q4))
theorem pt_chain {op op' : CmpOp} {r r' : R2} (ho : OpR X (compareOp op) r) (ho' : OpR X (compareOp op') r') (ha : PE X a ta) (hb : PE X b tb) (hc : PE X c tc)
    (hm : lastMarks [op, op'] [b, c] = false := by with_unfolding_all rfl) : PT X (.Compare a [op, op'] [b, c] pos) (tTest (tChain r r' ta tb tc)) := by
  intro pins s σ H Q I h
  refine isTrue_chain (thn (ha pins s σ H _ I h) fun v s1 ⟨x, H1, I1, r1, q1⟩ => test_link (thn (hb pins s1 σ H1 _ I1 q1) fun u s2 ⟨y, H2, I2, r2, q2⟩ =>
    thn (ho pins s2 σ H2 x y v u _ I2 r1 r2 q2) fun d s3 ⟨z, H3, I3, r3, k, e, q3⟩ => ?_)) hm
  subst e
  cases r3
  refine wpAny_truthy_bool ?_
  cases k with
  | false =>
    obtain ⟨k', e', q'⟩ := q3
    cases e'
    exact ite_ff ⟨H3, I3, q'⟩
  | true =>
    refine ite_tt (test_last (thn (hc pins s3 σ H3 _ I3 q3) fun w' s4 ⟨z', H4, I4, r4, q4⟩ => thn (ho' pins s4 σ H4 y z' u w' _ I4 r2 r4 q4) fun d' s5 ⟨z2, H5, I5, r5, k2, e2, q5⟩ => ?_))
    subst e2
    cases r5
    exact wpAny_truthy_bool ⟨H5, I5, q5⟩
theorem line63 : (sizeLine : Nat) < 2 ^ 63 := by rw [sizeLine_eq]; decide
theorem vals1 {x : V} {us : List Value} (r : Vals [x] us) : ∃ u, us = [u] ∧ RelV x u := by
  cases r with
  | cons r1 r2 => cases r2; exact ⟨_, rfl, r1⟩
theorem vals2 {x y : V} {us : List Value} (r : Vals [x, y] us) : ∃ u w', us = [u, w'] ∧ RelV x u ∧ RelV y w' := by
  cases r with
  | cons r1 r2 =>
    cases r2 with
    | cons r3 r4 => cases r4; exact ⟨_, _, rfl, r1, r3⟩
theorem call_max2 (hc : X.calm = true) : CallR X (.builtin "max") (fun xs H Q => ∃ i j, xs = [.int i, .int j] ∧ Q (.int (if j > i then j else i)) H) := by
  intro pins s σ H xs us Q I r h
  obtain ⟨i, j, rfl, q⟩ := h
  obtain ⟨u, w', rfl, ⟨t, rfl⟩, ⟨t', rfl⟩⟩ := vals2 r
  refine max_two_ints (I.ok.hd hc) fun h' tk k => ⟨_, H, I.kept k, ?_, q⟩
  by_cases hj : j > i
  · rw [if_pos hj, if_pos hj]; exact ⟨_, rfl⟩
  · rw [if_neg hj, if_neg hj]; exact ⟨_, rfl⟩
theorem call_min2 (hc : X.calm = true) : CallR X (.builtin "min") (fun xs H Q => ∃ i j, xs = [.int i, .int j] ∧ Q (.int (if j < i then j else i)) H) := by
  intro pins s σ H xs us Q I r h
  obtain ⟨i, j, rfl, q⟩ := h
  obtain ⟨u, w', rfl, ⟨t, rfl⟩, ⟨t', rfl⟩⟩ := vals2 r
  refine min_two_ints (I.ok.hd hc) fun h' tk k => ⟨_, H, I.kept k, ?_, q⟩
  by_cases hj : j < i
  · rw [if_pos hj, if_pos hj]; exact ⟨_, rfl⟩
  · rw [if_neg hj, if_neg hj]; exact ⟨_, rfl⟩
theorem call_int1 : CallR X (.type "int") (fun xs H Q => (∃ i, xs = [.int i] ∧ Q (.int i) H) ∨ ∃ k, xs = [.bl k] ∧ Q (.int (if k then 1 else 0)) H) := by
  intro pins s σ H xs us Q I r h
  rcases h with ⟨i, rfl, q⟩ | ⟨k, rfl, q⟩
  · obtain ⟨u, rfl, t, rfl⟩ := vals1 r
    exact call_int_int ⟨.int i, H, I, ⟨_, rfl⟩, q⟩
  · obtain ⟨u, rfl, r1⟩ := vals1 r
    cases r1
    exact call_int_bool ⟨.int (if k then 1 else 0), H, I.tok _, ⟨_, rfl⟩, q⟩
end
end L2
namespace L2
open PySem PySem.Spec PyProof.Rows
structure ObjM (h : Heap) (x dx C : Addr) (mA : Str → Option Value) : Prop where
  obj : h.get? x = some (PySem.W.instObj C dx)
  ns : h.Ns1 dx mA
  ne : dx ≠ x
theorem lookIn_ns {h : Heap} {dx : Addr} {mA : Str → Option Value} (n : h.Ns1 dx mA) : ∃ od, h.get? dx = some od ∧ ∀ name, PySem.W.lookIn name od = some (mA name) := by
  obtain ⟨o, es, ep, ho, hd, hk, _, hm⟩ := n
  refine ⟨o, ho, fun name => ?_⟩
  have e := hm name
  unfold nsFind findBy at e
  rw [← Array.find?_toList] at e
  unfold PySem.W.lookIn
  rw [hd]
  dsimp only
  split
  · rename_i y q
    rw [q] at e
    exact congrArg some e
  · rename_i q
    rw [q] at e
    have a : es.toList.any (·.refKey) = false := by
      rw [List.any_eq_false]
      intro y hy
      obtain ⟨z, t, hkey⟩ := hk y (Array.mem_toList_iff.mp hy)
      simp [DictEntry.refKey, hkey]
    have a' : ¬ es.toList.any (·.refKey) = true := by rw [a]; exact Bool.false_ne_true
    rw [if_neg a']
    exact congrArg some e
theorem ObjM.look {h : Heap} {x dx C : Addr} {mA : Str → Option Value} (I : ObjM h x dx C mA) : ∃ od, PySem.W.InstAt h x (PySem.W.instObj C dx) C (some od) ∧ ∀ name, PySem.W.lookIn name od = some (mA name) :=
  let ⟨od, ho, hl⟩ := lookIn_ns I.ns
  ⟨od, ⟨I.obj, rfl, rfl, ho⟩, hl⟩
section
variable {prog : Program} {w : World} {A : Around} {E : Value → Shared → Prop} {s : Shared} {K : PySem.W.Frag} {x dx C f : Addr} {mA : Str → Option Value} {name : Str} {v : Value}
theorem get_map {expr : Bool} {Q : Value → Shared → Prop} (X : K.In s.heap) (I : ObjM s.heap x dx C mA) (hg : PySem.W.plainGet K C name = true) (hh : PySem.W.hasDictIn K C = true)
    (ha : PySem.W.findIn K (.ref C) name = some none) (hv : mA name = some v) (hv' : PySem.W.handedIn v = true) (h : Q v { s with toks := s.toks + 1 }) :
    wpAny (model prog w) A (getAttr (.ref x) name expr) Q E s := by
  obtain ⟨od, J, hl⟩ := I.look
  exact PySem.W.get_value X J (PySem.W.plainGet_of hg).1 (PySem.W.findObj_own hh ha rfl (by rw [hl, hv])) hv' h
theorem get_meth {pl : Sem Bool} {Q : Value × List Value → Shared → Prop} (X : K.In s.heap) (I : ObjM s.heap x dx C mA) (hg : PySem.W.plainGet K C name = true)
    (hf : PySem.W.findIn K (.ref C) name = some (some (.ref f))) (ht : PySem.W.isFn K (.ref f) = true) (hv : mA name = none) (h : Q (.ref f, [.ref x]) s) :
    wpAny (model prog w) A (getMethod (.ref x) name pl) Q E s := by
  obtain ⟨od, J, hl⟩ := I.look
  exact PySem.W.method_fn X J (PySem.W.plainGet_of hg).1 (PySem.W.plainGet_of hg).2 hf (beq_iff_eq.mp ht) (by show (PySem.W.lookIn name od).map (·.isSome) = some false; rw [hl, hv]; rfl) h
theorem set_map {ns : List Str} {Q : Unit → Shared → Prop} (X : K.In s.heap) (I : ObjM s.heap x dx C mA)
    (hs : PySem.W.findIn K (.ref C) "__setattr__" = some (some (.builtin "object.__setattr__"))) (hp : PySem.W.plainOver K C = true) (ht : PySem.W.takerIn K C name = some none) (hh : PySem.W.hasDictIn K C = true)
    (hw : PySem.Within mA ns) (hsz : ns.length ≤ sizeLine)
    (h : ∀ h', ObjM h' x dx C (fun y => if y = name then some v else mA y) → Heap.SameBut dx s.heap h' → Q () { s with heap := h', toks := s.toks + 2 }) :
    wpAny (model prog w) A (setAttr (.ref x) name v) Q E s := by
  obtain ⟨od, J, hl⟩ := I.look
  refine PySem.W.set_plain X J hs (PySem.W.osa_open (s := { s with toks := s.toks + 1 }) (r := none) X J hp ht fun b => ?_)
  obtain ⟨cd, hc, hd'⟩ := PySem.W.any_some hh
  have hx : s.heap.get? x = some ⟨.ref C, some dx, .plain, #[]⟩ := I.obj
  refine wpAny_bind (wpAny_pure (wpAny_bind (wpAny_bind (wpAny_loadPart hx (wpAny_bind (PySem.W.Looks.here (s := { s with toks := s.toks + 1 }) (PySem.W.looks_clsIn X hc) ?_))))))
  rw [hd']
  refine wpAny_pure (a := some dx) (wpAny_bind (wpAny_pure (wpAny_bind ?_)))
  refine wpAny_nsSet1 (s := { s with toks := s.toks + 1 }) I.ns fun h' hn2 hs2 => ?_
  obtain ⟨oD, esD, epD, hoD, hdD, hcD⟩ := hn2.count (PySem.Within.cons name v hw)
  refine wpAny_bind (wpAny_lookBehind hoD (by rw [hdD]; exact pastItsLine_dict (Nat.le_trans hcD (by rw [List.length_cons]; omega))) ?_)
  exact wpAny_pure (h _ ⟨(hs2.2 _ (Ne.symm I.ne)).trans I.obj, hn2, I.ne⟩ hs2)
theorem make_map {R : Result → Shared → Prop} {vs : List Value} {kw : List (Str × Value)} (X : K.In s.heap) (hm : PySem.W.makesIn K C = true)
    (hi : PySem.W.findIn K (.ref C) "__init__" = some (some (.ref f))) (hf : PySem.W.typeIn K (.ref f) = some (.type "function"))
    (h : codeAny (model prog w) (A.under (.builtin "type.__call__" ⟨.ref C :: vs, kw⟩)) (.call (.ref f) ⟨.ref (s.heap.objs.size + 1) :: vs, kw⟩) (PySem.W.InitBack (s.heap.objs.size + 1) R)
      { s with heap := (s.heap.push PySem.W.emptyDict).push (PySem.W.instObj C s.heap.objs.size) }) :
    codeAny (model prog w) A (.call (.ref C) ⟨vs, kw⟩) R s := by
  obtain ⟨hh, g, d, t, os⟩ := s
  exact PySem.W.make_core (PySem.W.makes_of X hm) (PySem.W.looks_findIn X hi) (fun self => PySem.W.bind_fn X self hf) (.inl rfl) h
end
def putF (f : Str) (v : V) : List (Str × V) → List (Str × V)
  | [] => [(f, v)]
  | (g, x) :: r => if g = f then (g, v) :: r else (g, x) :: putF f v r
theorem lookup_putF (f g : Str) (v : V) : ∀ fs : List (Str × V), (putF f v fs).lookup g = if g = f then some v else fs.lookup g
  | [] => by
    show List.lookup g [(f, v)] = _
    by_cases h : g = f
    · have hb : (g == f) = true := beq_iff_eq.mpr h
      simp only [List.lookup, hb, if_pos h]
    · have hb : (g == f) = false := beq_eq_false_iff_ne.mpr h
      simp only [List.lookup, hb, if_neg h]
  | (k, x) :: r => by
    have ih := lookup_putF f g v r
    rw [show putF f v ((k, x) :: r) = (if k = f then (k, v) :: r else (k, x) :: putF f v r) from rfl]
    by_cases hk : k = f
    · rw [if_pos hk]
      by_cases h : g = k
      · have hb : (g == k) = true := beq_iff_eq.mpr h
        simp only [List.lookup, hb, if_pos (h.trans hk)]
      · have hb : (g == k) = false := beq_eq_false_iff_ne.mpr h
        simp only [List.lookup, hb, if_neg (fun e : g = f => h (e.trans hk.symm))]
    · rw [if_neg hk]
      by_cases h : g = k
      · have hb : (g == k) = true := beq_iff_eq.mpr h
        simp only [List.lookup, hb, if_neg (fun e : g = f => hk (h.symm.trans e))]
      · have hb : (g == k) = false := beq_eq_false_iff_ne.mpr h
        simp only [List.lookup, hb]
        exact ih
theorem keys_putF (f : Str) (v : V) : ∀ fs : List (Str × V), f ∈ (putF f v fs).map (·.1) ∧ ∀ g, g ∈ fs.map (·.1) → g ∈ (putF f v fs).map (·.1)
  | [] => ⟨by simp [putF], fun g h => by simp at h⟩
  | (k, x) :: r => by
    obtain ⟨i1, i2⟩ := keys_putF f v r
    rw [show putF f v ((k, x) :: r) = (if k = f then (k, v) :: r else (k, x) :: putF f v r) from rfl]
    by_cases hk : k = f
    · rw [if_pos hk]
      subst hk
      exact ⟨by simp, fun g h => by simpa using h⟩
    · rw [if_neg hk]
      refine ⟨?_, fun g h => ?_⟩
      · rw [List.map_cons]
        exact List.mem_cons_of_mem _ i1
      · rw [List.map_cons] at h ⊢
        rcases List.mem_cons.mp h with e | e
        · exact List.mem_cons.mpr (.inl e)
        · exact List.mem_cons_of_mem _ (i2 g e)
theorem length_putF (f : Str) (v : V) : ∀ fs : List (Str × V), (putF f v fs).length ≤ fs.length + 1
  | [] => by simp [putF]
  | (k, x) :: r => by
    have ih := length_putF f v r
    rw [show putF f v ((k, x) :: r) = (if k = f then (k, v) :: r else (k, x) :: putF f v r) from rfl]
    by_cases hk : k = f
    · rw [if_pos hk, List.length_cons, List.length_cons]; omega
    · rw [if_neg hk, List.length_cons, List.length_cons]; omega
theorem RelO.some_of {v : V} {o : Option Value} (r : RelO (some v) o) : ∃ u, o = some u ∧ RelV v u := by
  cases o with
  | none => exact (show False from r).elim
  | some u => exact ⟨u, rfl, r⟩
theorem RelO.none_of {o : Option Value} (r : RelO none o) : o = none := by
  cases o with
  | none => rfl
  | some u => exact (show False from r).elim
theorem handed_of {v : V} {u : Value} (r : RelV v u) : PySem.W.handedIn u = true := by
  cases v with
  | non => cases (show u = Value.none from r); rfl
  | bl b => cases (show u = Value.bool b from r); rfl
  | int i => obtain ⟨t, e⟩ := (show ∃ t, u = Value.int i t from r); cases e; rfl
  | str x => obtain ⟨t, e⟩ := (show ∃ t, u = Value.str x t from r); cases e; rfl
  | byt b => obtain ⟨t, e⟩ := (show ∃ t, u = Value.bytes b t from r); cases e; rfl
  | flt b => obtain ⟨t, e⟩ := (show ∃ t, u = Value.float b t from r); cases e; rfl
  | ref a => cases (show u = Value.ref a from r); rfl
  | ty n => cases (show u = Value.type n from r); rfl
section
variable {P : Program} {w : World} {H H' : Hp} {h h' : Heap} {a C dx : Addr} {fs fs' : List (Str × V)}
theorem ins_get (hok : HOk P w H h) (e : H a = some (.ins C dx fs)) : ∃ mA, ObjM h a dx C mA ∧ (∀ f, RelO (fs.lookup f) (mA f)) ∧ PySem.Within mA (fs.map (·.1)) ∧ fs.length ≤ 1000 ∧ H dx = some (.own a) := by
  obtain ⟨d, z, ne, ob, mA, n, r, q⟩ := (show ObjOk P w H h a (.ins C dx fs) from hok a _ e)
  exact ⟨mA, ⟨ob, n, ne⟩, r, q, z, d⟩
end
structure Cls (K : PySem.W.Frag) (C : Addr) : Prop where
  pg : PySem.W.plainGet K C Str.empty = true
  hd : PySem.W.hasDictIn K C = true
  po : PySem.W.plainOver K C = true
  sa : PySem.W.findIn K (.ref C) "__setattr__" = some (some (.builtin "object.__setattr__"))
theorem Cls.get {K : PySem.W.Frag} {C : Addr} (c : Cls K C) (f : Str) : PySem.W.plainGet K C f = true := c.pg
def NoAttr (K : PySem.W.Frag) (C : Addr) (f : Str) : Prop := PySem.W.findIn K (.ref C) f = some none
theorem NoAttr.taker {K : PySem.W.Frag} {C : Addr} {f : Str} (n : NoAttr K C f) : PySem.W.takerIn K C f = some none := by
  unfold PySem.W.takerIn
  rw [show PySem.W.findIn K (.ref C) f = some none from n]
  rfl
structure Con (K : PySem.W.Frag) (C : Addr) (f : Str) (v : V) (u : Value) : Prop where
  at_ : PySem.W.findIn K (.ref C) f = some (some u)
  rel : RelV v u
  get : PySem.W.specialIn K u "__get__" = some none
  cp : PySem.W.copiedNames.contains f = false
structure Meth (K : PySem.W.Frag) (C : Addr) (m : Str) (f : Addr) : Prop where
  at_ : PySem.W.findIn K (.ref C) m = some (some (.ref f))
  fn : PySem.W.isFn K (.ref f) = true
  kp : PySem.W.keepIn K (.ref f) = true
section
variable {X : Cx} {pins : List (Addr × Obj)} {σ : St} {H : Hp} {s : Shared} {a C dx : Addr} {fs : List (Str × V)} {f : Str} {v : V} {A : Around} {E : Value → Shared → Prop}
theorem getattr_ok {b : Bool} {Q : Value → Shared → Prop} (I : Inv X pins σ H s) (e : H a = some (.ins C dx fs)) (c : Cls X.K C) (n : NoAttr X.K C f) (l : fs.lookup f = some v)
    (h : ∀ u s', Inv X pins σ H s' → RelV v u → Q u s') : wpAny (model X.prog X.w) A (getAttr (.ref a) f b) Q E s := by
  obtain ⟨mA, O, r, _, _, _⟩ := ins_get I.hok e
  obtain ⟨u, hu, ru⟩ := RelO.some_of (v := v) (o := mA f) (by rw [← l]; exact r f)
  exact get_map I.kIn O (c.get f) c.hd n hu (handed_of ru) (h u _ (I.tok _) ru)
theorem getmeth_ok {m : Str} {g : Addr} {pl : Sem Bool} {Q : Value × List Value → Shared → Prop} (I : Inv X pins σ H s) (e : H a = some (.ins C dx fs)) (c : Cls X.K C) (k : Meth X.K C m g) (l : fs.lookup m = none)
    (h : Q (.ref g, [.ref a]) s) : wpAny (model X.prog X.w) A (getMethod (.ref a) m pl) Q E s := by
  obtain ⟨mA, O, r, _, _, _⟩ := ins_get I.hok e
  have hn : mA m = none := RelO.none_of (by rw [← l]; exact r m)
  exact get_meth I.kIn O (c.get m) k.at_ k.fn hn h
theorem setattr_ok {y : V} {u : Value} {Q : Unit → Shared → Prop} (I : Inv X pins σ H s) (e : H a = some (.ins C dx fs)) (c : Cls X.K C) (n : NoAttr X.K C f) (hl : fs.length < 1000) (ry : RelV y u)
    (h : ∀ s', Inv X pins σ (upd H a (.ins C dx (putF f y fs))) s' → Q () s') : wpAny (model X.prog X.w) A (setAttr (.ref a) f u) Q E s := by
  obtain ⟨mA, O, r, wi, _, ho⟩ := ins_get I.hok e
  have hz : (fs.map (·.1)).length ≤ sizeLine := by rw [List.length_map, sizeLine_eq]; omega
  refine set_map I.kIn O c.sa c.po n.taker c.hd wi hz fun h' O' sb => h _ ?_
  have hd : ∃ o, h'.get? dx = some o := let ⟨o, _, _, e', _⟩ := O'.ns; ⟨o, e'⟩
  refine I.write (x := a) (e := dx) (by rw [e]; exact True.intro) (.inr ho) (fun b q hb z => (sb.2 b hb).trans z) hd ?_
  refine ⟨by rw [upd_ne O.ne]; exact ho, ?_, O.ne, O'.obj, _, O'.ns, fun g => ?_, fun g hg => ?_⟩
  · have := length_putF f y fs; omega
  · show RelO ((putF f y fs).lookup g) (if g = f then some u else mA g)
    rw [lookup_putF]
    by_cases q : g = f
    · rw [if_pos q, if_pos q]; exact ry
    · rw [if_neg q, if_neg q]; exact r g
  · by_cases q : g = f
    · rw [q]; exact (keys_putF f y fs).1
    · refine (keys_putF f y fs).2 g (wi g fun z => hg ?_)
      show (if g = f then some u else mA g) = none
      rw [if_neg q]; exact z
theorem Inv.made (I : Inv X pins σ H s) : Inv X pins σ (upd (upd H s.heap.objs.size (.own (s.heap.objs.size + 1))) (s.heap.objs.size + 1) (.ins C s.heap.objs.size []))
    { s with heap := (s.heap.push PySem.W.emptyDict).push (PySem.W.instObj C s.heap.objs.size) } := by
  have e1 : (s.heap.push PySem.W.emptyDict).get? s.heap.objs.size = some PySem.W.emptyDict := Heap.get?_push_size s.heap rfl
  have e2 : ((s.heap.push PySem.W.emptyDict).push (PySem.W.instObj C s.heap.objs.size)).get? (s.heap.objs.size + 1) = some (PySem.W.instObj C s.heap.objs.size) := by
    have := Heap.get?_push_size (s.heap.push PySem.W.emptyDict) (o := PySem.W.instObj C s.heap.objs.size) rfl
    rwa [Heap.size_push] at this
  have e3 : (s.heap.push PySem.W.emptyDict).Ns s.heap.objs.size (fun _ => none) := ⟨PySem.W.emptyDict, #[], _, e1, rfl, (fun e he => absurd he (by simp)), fun _ => rfl⟩
  have I1 := I.laid (a := s.heap.objs.size) (o := .own (s.heap.objs.size + 1)) (h' := s.heap.push PySem.W.emptyDict) (t' := s.toks) (fun b u q => Heap.get?_push_of_some _ q) (Nat.le_refl _) ⟨_, e1⟩
  refine I1.laid (a := s.heap.objs.size + 1) (o := .ins C s.heap.objs.size []) (t' := s.toks) (fun b u q => Heap.get?_push_of_some _ q) (Nat.le_of_eq (Heap.size_push _ _)) ?_
  have ne : s.heap.objs.size ≠ s.heap.objs.size + 1 := Nat.ne_of_lt (Nat.lt_succ_self _)
  refine ⟨by rw [upd_ne ne, upd_same], Nat.zero_le _, ne, e2, fun _ => none, (Heap.Ns1.of_empty e3).at fun o q => Heap.get?_push_of_some _ q, fun _ => True.intro, fun y hy => absurd rfl hy⟩
theorem attr_of {prog : Program} {w : World} {env : Env} {e : Expr} {f : Str} {pos : Pos} {s : Shared} {Q : Value → Shared → Prop} (hb : attributeBase e f env (eval e env) = eval e env)
    (h : wpAny (model prog w) A (eval e env) (fun o s₁ => wpAny (model prog w) A (getAttr o f true) Q E s₁) E s) : wpAny (model prog w) A (eval (.Attribute e f pos) env) Q E s :=
  Attribute_any_ h (by rw [arm_eval_Attribute, hb])
end
def tFld (K : PySem.W.Frag) (ta : TE) (f : Str) : TE := fun σ H Q => ta σ H fun x H1 => ∃ a C dx fs v, x = .ref a ∧ H1 a = some (.ins C dx fs) ∧ Cls K C ∧ NoAttr K C f ∧ fs.lookup f = some v ∧ Q v H1
def sFld (K : PySem.W.Frag) (ta tv : TE) (f : Str) : TS := fun D σ H => tv σ H fun y H1 => ta σ H1 fun x H2 => ∃ a C dx fs, x = .ref a ∧ H2 a = some (.ins C dx fs) ∧ Cls K C ∧ NoAttr K C f ∧ fs.length < 1000 ∧
  D.nx σ (upd H2 a (.ins C dx (putF f y fs)))
section
variable {X : Cx} {o e value : Expr} {f : Str} {pos pos' tpos : Pos} {ta tv : TE}
theorem pe_fld (he : PE X e ta) (hb : attributeBase e f X.env (eval e X.env) = eval e X.env) : PE X (.Attribute e f pos) (tFld X.K ta f) := by
  intro pins s σ H Q I h
  refine attr_of hb (thn (he pins s σ H _ I h) fun u s1 ⟨x, H1, I1, rx, a, C, dx, fs, v, ex, ea, c, n, l, q⟩ => ?_)
  subst ex
  obtain rfl : u = Value.ref a := rx
  exact getattr_ok I1 ea c n l fun u' s2 I2 ru => ⟨v, H1, I2, ru, q⟩
theorem ps_fld (ha : PE X o ta) (hv : PE X value tv) (hs : swapsWith value (some (.Attribute o f pos')) pos.line X.env = pure false) : PS X (.Assign [.Attribute o f pos'] value pos) (sFld X.K ta tv f) := by
  intro pins s σ H D I h
  refine plainObj_wpAny_Assign_Attribute (thn (hv pins s σ H _ I h) fun u s1 ⟨y, H1, I1, ry, q⟩ => thn (ha pins s1 σ H1 _ I1 q) fun ov s2 ⟨x, H2, I2, rx, a, C, dx, fs, ex, ea, c, n, l, q2⟩ => ?_) hs
  subst ex
  obtain rfl : ov = Value.ref a := rx
  exact setattr_ok I2 ea c n l ry fun s3 I3 => ⟨σ, _, I3, q2⟩
end
section
variable {X : Cx} {pins : List (Addr × Obj)} {σ : St} {H : Hp} {s : Shared} {A : Around} {E : Value → Shared → Prop} {Q : Value → Shared → Prop} {c : Value} {b : Bool}
inductive TyOf (K : PySem.W.Frag) (H : Hp) : V → Value → Prop where
  | non : TyOf K H .non (.type "NoneType")
  | bl (x : Bool) : TyOf K H (.bl x) (.type "bool")
  | int (i : Int) : TyOf K H (.int i) (.type "int")
  | str (x : Str) : TyOf K H (.str x) (.type "str")
  | flt (x : UInt64) : TyOf K H (.flt x) (.type "float")
  | lst {a : Addr} {xs : List V} (e : H a = some (.lst xs)) : TyOf K H (.ref a) (.type "list")
  | frz {a : Addr} {o : Obj} {xs : List V} (e : H a = some (.frz o (.lst xs))) : TyOf K H (.ref a) (.type "list")
  | tup {a : Addr} {xs : List V} (e : H a = some (.tup xs)) : TyOf K H (.ref a) (.type "tuple")
  | dK {a : Addr} {kvs : List (Key × V)} (e : H a = some (.dK kvs)) : TyOf K H (.ref a) (.type "dict")
  | dT {a : Addr} {kvs : List (List Key × V)} (e : H a = some (.dT kvs)) : TyOf K H (.ref a) (.type "dict")
  | ins {a C dx : Addr} {fs : List (Str × V)} (e : H a = some (.ins C dx fs)) (cl : Cls K C) (ha : PySem.W.findIn K (.ref C) "__class__" = some (some (.builtin "object.__class__")))
      (hn : PySem.W.specialIn K (.builtin "object.__class__") "__get__" = some (some (.builtin "getset_descriptor.__get__"))) (htk : PySem.W.takesIn K (.builtin "object.__class__") = some true)
      (hm : PySem.W.mroIn K C (.type "object") = some true) : TyOf K H (.ref a) (.ref C)
theorem isinst_ok {x : V} {u t : Value} (I : Inv X pins σ H s) (rx : RelV x u) (ty : TyOf X.K H x t) (e : PySem.W.kitOne X.K t c = some b) (h : ∀ tk, Q (.bool b) { s with toks := tk }) :
    wpAny (model X.prog X.w) A (call (.builtin "isinstance") [u, c]) Q E s := by
  cases ty with
  | non => cases (show u = Value.none from rx); exact PySem.W.kia_one PySem.W.kitx_none I.kIn True.intro e (fun z => nomatch z) h
  | bl y => cases (show u = Value.bool y from rx); exact PySem.W.kia_one PySem.W.kitx_bool I.kIn True.intro e (fun z => nomatch z) h
  | int i => obtain ⟨t, q⟩ := (show ∃ t, u = Value.int i t from rx); cases q; exact PySem.W.kia_one PySem.W.kitx_int I.kIn True.intro e (fun z => nomatch z) h
  | str y => obtain ⟨t, q⟩ := (show ∃ t, u = Value.str y t from rx); cases q; exact PySem.W.kia_one PySem.W.kitx_str I.kIn True.intro e (fun z => nomatch z) h
  | flt y => obtain ⟨t, q⟩ := (show ∃ t, u = Value.float y t from rx); cases q; exact PySem.W.kia_one PySem.W.kitx_float I.kIn True.intro e (fun z => nomatch z) h
  | @lst a xs ea =>
    cases (show u = Value.ref a from rx)
    obtain ⟨_, _, n, _, h1⟩ := (show ObjOk X.prog X.w H s.heap a (.lst xs) from I.hok a _ ea)
    exact PySem.W.kia_one PySem.W.kitx_list I.kIn ⟨_, h1, rfl⟩ e (fun z => nomatch z) h
  | @frz a ob xs ea =>
    cases (show u = Value.ref a from rx)
    obtain ⟨_, _, _, n, _, h1⟩ := (show ObjOk X.prog X.w H s.heap a (.frz ob (.lst xs)) from I.hok a _ ea)
    exact PySem.W.kia_one PySem.W.kitx_list I.kIn ⟨_, h1, rfl⟩ e (fun z => nomatch z) h
  | @tup a xs ea =>
    cases (show u = Value.ref a from rx)
    obtain ⟨_, _, _, p⟩ := (show ObjOk X.prog X.w H s.heap a (.tup xs) from I.hok a _ ea)
    obtain ⟨o, h1, h2, _⟩ := p
    exact PySem.W.kia_one PySem.W.kitx_tuple I.kIn ⟨o, h1, h2⟩ e (fun z => nomatch z) h
  | @dK a kvs ea =>
    cases (show u = Value.ref a from rx)
    obtain ⟨_, _, vs, _, p⟩ := (show ObjOk X.prog X.w H s.heap a (.dK kvs) from I.hok a _ ea)
    obtain ⟨o, es, ep, h1, h2, _⟩ := p
    exact PySem.W.kia_one PySem.W.kitx_dict I.kIn ⟨o, h1, h2.1⟩ e (fun z => nomatch z) h
  | @dT a kvs ea =>
    cases (show u = Value.ref a from rx)
    obtain ⟨_, _, xs, _, o, es, ep, h1, h2, _⟩ := (show ObjOk X.prog X.w H s.heap a (.dT kvs) from I.hok a _ ea)
    exact PySem.W.kia_one PySem.W.kitx_dict I.kIn ⟨o, h1, h2.1⟩ e (fun z => nomatch z) h
  | @ins a C dx fs ea cl ha hn htk hm =>
    cases (show u = Value.ref a from rx)
    obtain ⟨mA, O, _⟩ := ins_get I.hok ea
    obtain ⟨od, J, _⟩ := O.look
    exact PySem.W.kia_one (PySem.W.kitx_own (cl.get _) cl.hd ha hn htk hm) I.kIn J e (fun z => nomatch z) h
end
end L2
namespace L2
open PySem PySem.Spec PyProof.Rows
structure Room (k : Nat) (A : Around) : Prop where
  hd : A.handled = none
  dp : A.depth + 3 * k + 5 < recursionLimit
  un : A.units + 16 * k + 200 < cLine
theorem Room.mono {j k : Nat} {A : Around} (r : Room k A) (h : j ≤ k) : Room j A := ⟨r.hd, by have := r.dp; omega, by have := r.un; omega⟩
theorem Room.deeper {k : Nat} {A : Around} (r : Room (k + 1) A) (env : Env) : Room k (A.deeper env) :=
  ⟨r.hd, by have := r.dp; show A.depth + 1 + 3 * k + 5 < _; omega, by have := r.un; show A.units + 3 + 16 * k + 200 < _; omega⟩
theorem make_depth {A : Around} {C : Addr} {us : List Value} {kw : List (Str × Value)} : (A.under (.builtin "type.__call__" ⟨.ref C :: us, kw⟩)).depth = A.depth + 1 := by
  first | rfl | simp [Around.under, Code.weight, Code.isCreation, Code.isGuard, Code.isCaller, Code.frames, Code.isFrame, guardIds]
theorem make_units {A : Around} {C : Addr} {us : List Value} {kw : List (Str × Value)} : (A.under (.builtin "type.__call__" ⟨.ref C :: us, kw⟩)).units = A.units + 1 := by
  first | rfl | simp [Around.under, Code.cUnits, Code.frames, Code.isFrame]
theorem Room.make {k : Nat} {A : Around} (r : Room (k + 1) A) (C : Addr) (us : List Value) (kw : List (Str × Value)) : Room k (A.under (.builtin "type.__call__" ⟨.ref C :: us, kw⟩)) :=
  ⟨r.hd, by have := r.dp; rw [make_depth]; omega, by have := r.un; rw [make_units]; omega⟩
theorem Room.depth {k : Nat} {A : Around} (r : Room k A) : A.depth < recursionLimit := by have := r.dp; omega
theorem Room.units {k : Nat} {A : Around} (r : Room k A) : A.units + 64 < cLine := by have := r.un; omega
def tNil : TA := fun _ H Q => Q [] H
def tCons (ta : TE) (tr : TA) : TA := fun σ H Q => ta σ H fun x H1 => tr σ H1 fun xs H2 => Q (x :: xs) H2
section
variable {X : Cx} {e : Expr} {es : List Expr} {te : TE} {t : TA} {pos : Pos}
theorem pa_nil : PA X [] tNil := fun _ _ _ _ H Q I h => Calls.spliced_nil ⟨[], H, I, .nil, h⟩
theorem pa_cons (ha : PE X e te) (hr : PA X es t) (hs : starEach (e :: es) X.env = (false, eval e X.env) :: starEach es X.env := by rfl) : PA X (e :: es) (tCons te t) := by
  intro pos pins s σ H Q I h
  rw [hs]
  show wpAny _ _ (spliced ((false, eval e X.env) :: backTo pos (starEach es X.env))) _ _ s
  refine Calls.spliced_cons (thn (ha pins s σ H _ I h) fun u s1 ⟨x, H1, I1, r1, q1⟩ => ?_)
  exact thn (hr pos pins s1 σ H1 _ I1 q1) fun us s2 ⟨xs, H2, I2, r2, q2⟩ => ⟨x :: xs, H2, I2, .cons r1 r2, q2⟩
def tTup (t : TA) : TE := fun σ H Q => t σ H fun xs H1 => xs.length ≤ sizeLine ∧ ∀ p, H1 p = none → Q (.ref p) (upd H1 p (.tup xs))
def tLst (t : TA) : TE := fun σ H Q => t σ H fun xs H1 => xs.length ≤ sizeLine ∧ ∀ p, H1 p = none → Q (.ref p) (upd H1 p (.lst xs))
theorem pe_tup {x1} (h : PA X es t) : PE X (.Tuple es x1 pos) (tTup t) := by
  intro pins s σ H Q I hq
  refine wpAny_Tuple_spliced (thn (h pos pins s σ H _ I hq) fun us s1 ⟨xs, H1, I1, r, z, q⟩ => ⟨by rw [← r.length]; exact z, ?_⟩)
  have hf : H1 s1.heap.objs.size = none := I1.hok.fresh (Nat.le_refl _)
  refine ⟨.ref s1.heap.objs.size, upd H1 s1.heap.objs.size (.tup xs), I1.laid (t' := s1.toks) (fun b u e => Heap.get?_push_of_some _ e) (Nat.le_refl _) ?_, rfl, q _ hf⟩
  exact ⟨z, us, r, ⟨_, Heap.get?_push_size _ rfl, rfl, _, rfl⟩⟩
theorem pe_lst (h : PA X es t) : PE X (.List es pos) (tLst t) := by
  intro pins s σ H Q I hq
  refine wpAny_List_spliced (thn (h pos pins s σ H _ I hq) fun us s1 ⟨xs, H1, I1, r, z, q⟩ => ⟨by rw [← r.length]; exact z, ?_⟩)
  have hf : H1 s1.heap.objs.size = none := I1.hok.fresh (Nat.le_refl _)
  refine ⟨.ref s1.heap.objs.size, upd H1 s1.heap.objs.size (.lst xs), I1.laid (t' := s1.toks) (fun b u e => Heap.get?_push_of_some _ e) (Nat.le_refl _) ?_, rfl, q _ hf⟩
  exact ⟨z, us, 0, r, Heap.get?_push_size _ rfl⟩
end
abbrev Sp := List V → Hp → VK → XK → Prop
abbrev CXT := List Env → Hp → Shared → XK → Value → Shared → Prop
structure Env0 (P : Program) (w : World) (K : PySem.W.Frag) (mg : Str → Option Value) (base : Heap) (A : Around) (outer : List Env) (s : Shared) (H : Hp) : Prop where
  frames : A.frames = some outer
  mod : Mod K mg base
  bs : ∀ b o, base.get? b = some o → s.heap.get? b = some o ∧ H b = none
  bsz : base.objs.size ≤ s.heap.objs.size
  funs : s.heap.FunFrames base outer
  frf : ∀ b ∈ frs outer, H b = none
  hok : HOk P w H s.heap
  bare : AllBare s.gens
def CE (outer : List Env) (P : Program) (w : World) (H : Hp) (s : Shared) (Q : VK) (u : Value) (s' : Shared) : Prop :=
  ∃ v H', s'.os = s.os ∧ AllBare s'.gens ∧ Un (frs outer) [] H H' s.heap s'.heap ∧ HOk P w H' s'.heap ∧ RelV v u ∧ Q v H'
def CR (CX : CXT) (outer : List Env) (P : Program) (w : World) (H : Hp) (s : Shared) (Q : VK) (E : XK) (r : Result) (s' : Shared) : Prop :=
  match r with
  | .ok (.ret u) => CE outer P w H s Q u s'
  | .ok _ => False
  | .error e => CX outer H s E e s'
structure FnOk (P : Program) (w : World) (K : PySem.W.Frag) (mg : Str → Option Value) (base : Heap) (CX : CXT) (k : Nat) (f : Addr) (fd : FuncData) (ps : List Str) (sp : Sp) : Prop where
  len : ∀ vs H Q E, sp vs H Q E → vs.length = ps.length
  run : ∀ (A : Around) (outer : List Env) (s : Shared) (H : Hp) (args : Args) (us : List Value) (vs : List V) (Q : VK) (E : XK), Room k A → Env0 P w K mg base A outer s H → BindsTo s fd args (ps.zip us) → Vals vs us → sp vs H Q E →
    codeAny (model P w) A (.call (.ref f) args) (CR CX outer P w H s Q E) s
theorem FnOk.mono {P : Program} {w : World} {K : PySem.W.Frag} {mg : Str → Option Value} {base : Heap} {CX : CXT} {j k : Nat} {f : Addr} {fd : FuncData} {ps : List Str} {sp : Sp} (F : FnOk P w K mg base CX j f fd ps sp) (h : j ≤ k) :
    FnOk P w K mg base CX k f fd ps sp := ⟨F.len, fun A outer s H args us vs Q E hr => F.run A outer s H args us vs Q E (hr.mono h)⟩
theorem FnOk.imp {P : Program} {w : World} {K : PySem.W.Frag} {mg : Str → Option Value} {base : Heap} {CX : CXT} {k : Nat} {f : Addr} {fd : FuncData} {ps : List Str} {sp sp' : Sp} (F : FnOk P w K mg base CX k f fd ps sp)
    (h : ∀ vs H Q E, sp' vs H Q E → sp vs H Q E) : FnOk P w K mg base CX k f fd ps sp' :=
  ⟨fun vs H Q E q => F.len vs H Q E (h _ _ _ _ q), fun A outer s H args us vs Q E hr he hb hv hs => F.run A outer s H args us vs Q E hr he hb hv (h _ _ _ _ hs)⟩
theorem Env0.make {P : Program} {w : World} {K : PySem.W.Frag} {mg : Str → Option Value} {base : Heap} {A : Around} {outer : List Env} {s : Shared} {H : Hp} (e : Env0 P w K mg base A outer s H) (C : Addr) (us : List Value) (kw : List (Str × Value)) :
    Env0 P w K mg base (A.under (.builtin "type.__call__" ⟨.ref C :: us, kw⟩)) outer s H := ⟨by first | exact e.frames | (simpa [Around.under, Code.envs, Code.isFrame, pushEnvs] using e.frames), e.mod, e.bs, e.bsz, e.funs, e.frf, e.hok, e.bare⟩
section
variable {X : Cx} {pins : List (Addr × Obj)} {σ : St} {H : Hp} {s s' : Shared}
theorem Inv.env0 (I : Inv X pins σ H s) : Env0 X.prog X.w X.K X.mg X.base X.A X.stack s H :=
  ⟨I.ok.frames, I.ok.mod, I.bs, Nat.le_trans I.ok.bsz I.sz, I.stack, I.stkFree, I.hok, I.bare⟩
theorem Inv.after {Q : VK} {u : Value} (I : Inv X pins σ H s) (h : CE X.stack X.prog X.w H s Q u s') : EP X pins σ Q u s' := by
  obtain ⟨v, H', os, bare, un, hok, r, q⟩ := h
  obtain ⟨hh, g, d, t, os'⟩ := s'
  obtain rfl : os' = s.os := os
  exact ⟨v, H', I.call (h' := hh) (g' := g) (d' := d) (t' := t) (ch := []) un hok bare (fun b z => absurd z (by simp)), r, q⟩
end
def tCall (sp : Sp) (dvs : List V) (E : XK) (t : TA) : TE := fun σ H Q => t σ H fun vs H1 => sp (vs ++ dvs) H1 Q E
def tMeth (C : Addr) (m : Str) (sp : Sp) (dvs : List V) (E : XK) (ta : TE) (t : TA) : TE := fun σ H Q => ta σ H fun x H1 => ∃ a dx fs, x = .ref a ∧ H1 a = some (.ins C dx fs) ∧ fs.lookup m = none ∧
  t σ H1 fun vs H2 => sp (x :: (vs ++ dvs)) H2 Q E
def tMake (C : Addr) (sp : Sp) (dvs : List V) (E : XK) (t : TA) : TE := fun σ H Q => t σ H fun vs H1 => ∀ x dx, H1 x = none → H1 dx = none → dx ≠ x →
  sp (.ref x :: (vs ++ dvs)) (upd (upd H1 dx (.own x)) x (.ins C dx [])) (fun v H2 => v = .non ∧ Q (.ref x) H2) E
def Binds (K : PySem.W.Frag) (fd : FuncData) (ps : List Str) (ds : List Value) : Prop :=
  ∀ (s : Shared) (us : List Value), K.In s.heap → (us ++ ds).length = ps.length → BindsTo s fd ⟨us, []⟩ (ps.zip (us ++ ds))
theorem Binds.all {K : PySem.W.Frag} {fd : FuncData} {ps : List Str} (h : ∀ us : List Value, us.length = ps.length → bindArgs fd ⟨us, []⟩ = pure (ps.zip us)) : Binds K fd ps [] := fun s us _ hl => by
  rw [List.append_nil] at hl ⊢
  exact .of_eq (h us hl)
def Passes (CX : CXT) (X : Cx) (E : XK) : Prop := ∀ (pins : List (Addr × Obj)) (σ : St) (H : Hp) (s : Shared) (e : Value) (s' : Shared), Inv X pins σ H s → CX X.stack H s E e s' → X.xe e s'
section
variable {X : Cx} {CX : CXT} {k : Nat} {f C : Addr} {fd : FuncData} {ps : List Str} {sp : Sp} {dvs : List V} {ds : List Value} {E : XK} {x m : Str} {p pos apos : Pos} {e o : Expr} {es : List Expr} {ta : TE} {t : TA}
theorem run_fn {pins : List (Addr × Obj)} {σ : St} {H : Hp} {s : Shared} {Q : VK} {us : List Value} {vs : List V} (F : FnOk X.prog X.w X.K X.mg X.base CX k f fd ps sp) (hr : Room k X.A) (hb : Binds X.K fd ps ds) (hd : Vals dvs ds) (hx : Passes CX X E)
    (I : Inv X pins σ H s) (r : Vals vs us) (h : sp (vs ++ dvs) H Q E) : wpAny (model X.prog X.w) X.A (call (.ref f) us) (EP X pins σ Q) X.xe s := by
  have r2 : Vals (vs ++ dvs) (us ++ ds) := r.append hd
  have hl : (us ++ ds).length = ps.length := by rw [← r2.length]; exact F.len _ _ _ _ h
  refine wpAny_call (codeAny_mono (F.run X.A X.stack s H ⟨us, []⟩ (us ++ ds) (vs ++ dvs) Q E hr I.env0 (hb s us I.kIn hl) r2 h) fun r s' hq => ?_)
  cases r with
  | error e => exact hx pins σ H s e s' I hq
  | ok fl =>
    cases fl with
    | ret u => exact I.after hq
    | next => exact False.elim hq
    | brk => exact False.elim hq
    | cont => exact False.elim hq
theorem pe_call (F : FnOk X.prog X.w X.K X.mg X.base CX k f fd ps sp) (hr : Room k X.A) (hg : Gl X x) (hm : X.mg x = some (.ref f)) (hk : PySem.W.keepIn X.K (.ref f) = true) (hb : Binds X.K fd ps ds) (hd : Vals dvs ds) (hx : Passes CX X E)
    (ha : PA X (e :: es) t) (hdb : (x == ("__debug__" : Str)) = false := by decide) (he : starEach (e :: es) X.env = (false, eval e X.env) :: starEach es X.env := by rfl) (hpl : (backTo pos (starEach es X.env)).any (·.1) = false := by rfl) :
    PE X (.Call (.Name x p) (e :: es) [] pos) (tCall sp dvs E t) := by
  intro pins s σ H Q I h
  refine wpAny_Call_Name_kw (ld_glob I hg hm ?_ hdb)
  refine PySem.W.callWith_K (h₀ := X.base) I.ok.mod.kin hk (thn (ha pos pins s σ H _ I h) fun us s1 ⟨vs, H1, I1, r, q⟩ => ⟨I1.kIn, ?_⟩) he hpl
  exact run_fn F hr hb hd hx I1 r q
theorem pe_meth {pl : Sem Bool} (he : PE X o ta) (c : Cls X.K C) (hm : Meth X.K C m f) (F : FnOk X.prog X.w X.K X.mg X.base CX k f fd ps sp) (hr : Room k X.A) (hb : Binds X.K fd ps ds) (hd : Vals dvs ds) (hx : Passes CX X E) (ha : PA X (e :: es) t)
    (hst : starEach (e :: es) X.env = (false, eval e X.env) :: starEach es X.env := by rfl) (hpl : (backTo pos (starEach es X.env)).any (·.1) = false := by rfl)
    (ht : eval (.Call (.Attribute o m apos) (e :: es) [] pos) X.env = (do
      let ov ← eval o X.env
      standAt apos.atName
      let (f, first) ← holding [ov] (getMethod ov m pl)
      callWith pos f first (backTo pos (starEach (e :: es) X.env)) (backToKw pos (keywordEach [] X.env))) := by rfl) :
    PE X (.Call (.Attribute o m apos) (e :: es) [] pos) (tMeth C m sp dvs E ta t) := by
  intro pins s σ H Q I h
  refine PySem.W.methodCall_KW (pl := pl) (thn (he pins s σ H _ I h) fun u s1 ⟨x, H1, I1, rx, a, dx, fs, ex, ea, l, q⟩ => ?_) ht
  subst ex
  obtain rfl : u = Value.ref a := rx
  refine getmeth_ok I1 ea c hm l ?_
  refine PySem.W.callWith_K (first := [.ref a]) (h₀ := X.base) I.ok.mod.kin hm.kp (thn (ha pos pins s1 σ H1 _ I1 q) fun us s2 ⟨vs, H2, I2, r, q2⟩ => ⟨I2.kIn, ?_⟩) hst hpl
  exact run_fn (us := .ref a :: us) (vs := .ref a :: vs) F hr hb hd hx I2 (.cons rfl r) q2
theorem pe_meth0 {pl : Sem Bool} (he : PE X o ta) (c : Cls X.K C) (hm : Meth X.K C m f) (F : FnOk X.prog X.w X.K X.mg X.base CX k f fd ps sp) (hr : Room k X.A) (hb : Binds X.K fd ps ds) (hd : Vals dvs ds) (hx : Passes CX X E)
    (ht : eval (.Call (.Attribute o m apos) [] [] pos) X.env = (do
      let ov ← eval o X.env
      standAt apos.atName
      let (f, first) ← holding [ov] (getMethod ov m pl)
      callWith pos f first (backTo pos (starEach [] X.env)) (backToKw pos (keywordEach [] X.env))) := by rfl) :
    PE X (.Call (.Attribute o m apos) [] [] pos) (tMeth C m sp dvs E ta tNil) := by
  intro pins s σ H Q I h
  refine PySem.W.methodCall_KW (pl := pl) (thn (he pins s σ H _ I h) fun u s1 ⟨x, H1, I1, rx, a, dx, fs, ex, ea, l, q⟩ => ?_) ht
  subst ex
  obtain rfl : u = Value.ref a := rx
  refine getmeth_ok I1 ea c hm l ?_
  exact PySem.W.callWith_K0 (first := [.ref a]) I1.kIn hm.kp (run_fn (us := [.ref a]) (vs := [.ref a]) F hr hb hd hx I1 (.cons rfl .nil) q)
structure Mk (K : PySem.W.Frag) (C f : Addr) : Prop where
  makes : PySem.W.makesIn K C = true
  init : PySem.W.findIn K (.ref C) "__init__" = some (some (.ref f))
  fn : PySem.W.isFn K (.ref f) = true
  kp : PySem.W.keepIn K (.ref C) = true
theorem run_make {pins : List (Addr × Obj)} {σ : St} {H : Hp} {s : Shared} {Q : VK} {us : List Value} {vs : List V} (M : Mk X.K C f) (F : FnOk X.prog X.w X.K X.mg X.base CX k f fd ps sp) (hr : Room (k + 1) X.A) (hb : Binds X.K fd ps ds) (hd : Vals dvs ds)
    (hx : Passes CX X E) (I : Inv X pins σ H s) (r : Vals vs us)
    (h : ∀ x dx, H x = none → H dx = none → dx ≠ x → sp (.ref x :: (vs ++ dvs)) (upd (upd H dx (.own x)) x (.ins C dx [])) (fun v H2 => v = .non ∧ Q (.ref x) H2) E) :
    wpAny (model X.prog X.w) X.A (call (.ref C) us) (EP X pins σ Q) X.xe s := by
  have hq := h (s.heap.objs.size + 1) s.heap.objs.size (I.hok.fresh (Nat.le_succ _)) (I.hok.fresh (Nat.le_refl _)) (Nat.ne_of_lt (Nat.lt_succ_self _))
  have I2 := Inv.made (C := C) I
  have r2 : Vals (V.ref (s.heap.objs.size + 1) :: (vs ++ dvs)) (Value.ref (s.heap.objs.size + 1) :: (us ++ ds)) := .cons rfl (r.append hd)
  have hl : (Value.ref (s.heap.objs.size + 1) :: us ++ ds).length = ps.length := by
    have e := r2.length
    rw [F.len _ _ _ _ hq] at e
    exact e.symm
  refine wpAny_call (make_map (f := f) I.kIn M.makes M.init (beq_iff_eq.mp M.fn) (codeAny_mono (F.run _ X.stack _ _ ⟨Value.ref (s.heap.objs.size + 1) :: us, []⟩ (Value.ref (s.heap.objs.size + 1) :: (us ++ ds)) _ _ E (hr.make C us [])
    (I2.env0.make C us []) (hb _ (Value.ref (s.heap.objs.size + 1) :: us) I2.kIn hl) r2 hq) fun r s' hq' => ?_))
  cases r with
  | error e => exact hx pins σ _ _ e s' I2 hq'
  | ok fl =>
    cases fl with
    | ret u =>
      obtain ⟨v, H', I3, rv, ev, q3⟩ := I2.after hq'
      subst ev
      exact ⟨rv, ⟨V.ref (s.heap.objs.size + 1), H', I3, rfl, q3⟩⟩
    | next => exact False.elim hq'
    | brk => exact False.elim hq'
    | cont => exact False.elim hq'
theorem pe_make (M : Mk X.K C f) (F : FnOk X.prog X.w X.K X.mg X.base CX k f fd ps sp) (hr : Room (k + 1) X.A) (hg : Gl X x) (hm : X.mg x = some (.ref C)) (hb : Binds X.K fd ps ds) (hd : Vals dvs ds) (hx : Passes CX X E)
    (ha : PA X (e :: es) t) (hdb : (x == ("__debug__" : Str)) = false := by decide) (he : starEach (e :: es) X.env = (false, eval e X.env) :: starEach es X.env := by rfl) (hpl : (backTo pos (starEach es X.env)).any (·.1) = false := by rfl) :
    PE X (.Call (.Name x p) (e :: es) [] pos) (tMake C sp dvs E t) := by
  intro pins s σ H Q I h
  refine wpAny_Call_Name_kw (ld_glob I hg hm ?_ hdb)
  refine PySem.W.callWith_K (h₀ := X.base) I.ok.mod.kin M.kp (thn (ha pos pins s σ H _ I h) fun us s1 ⟨vs, H1, I1, r, q⟩ => ⟨I1.kIn, ?_⟩) he hpl
  exact run_make M F hr hb hd hx I1 r q
end
section
variable {X : Cx} {CX : CXT} {k : Nat} {f C : Addr} {fd : FuncData} {ps ks : List Str} {sp : Sp} {E : XK} {x m : Str} {p pos apos kpos : Pos} {e o : Expr} {es : List Expr} {kws : List Keyword} {te ta : TE} {t tk : TA} {nm : Option Str}
structure KBinds (K : PySem.W.Frag) (fd : FuncData) (ps ks : List Str) (g : List Value → List Value → List Value) (gV : List V → List V → List V) : Prop where
  to : ∀ (s : Shared) (us ws : List Value), K.In s.heap → (g us ws).length = ps.length → BindsTo s fd ⟨us, ks.zip ws⟩ (ps.zip (g us ws))
  rel : ∀ {vs : List V} {us : List Value} {zs : List V} {ws : List Value}, Vals vs us → Vals zs ws → Vals (gV vs zs) (g us ws)
variable {g : List Value → List Value → List Value} {gV : List V → List V → List V}
end
structure FnScope (N P : List Str) (sc : Scope) : Prop where
  kind : sc.kind = .function
  co : sc.isCoroutine = false
  gen : sc.isGenerator = false
  nd : N.Nodup
  pre : N.take P.length = P
  par : ∀ x ∈ P, sc.names.lookup x = some .local ∨ sc.names.lookup x = some .cell
  nofree : ∀ y ∈ sc.names, y.2 ≠ .free
theorem bindL_out {kindOf : Str → Option NameKind} {x : Str} : ∀ {binds : List (Str × Value)} {m : Str → Option Value}, (∀ v, (x, v) ∉ binds) → bindL kindOf binds m x = m x
  | [], _, _ => rfl
  | (n, v) :: r, m, h => by
    unfold bindL
    rw [bindL_out fun w hw => h w (List.mem_cons_of_mem _ hw)]
    split
    · have : x ≠ n := by rintro rfl; exact h v List.mem_cons_self
      simp [this]
    · rfl
theorem bindC_out {kindOf : Str → Option NameKind} {x : Str} : ∀ {binds : List (Str × Value)} {m : Str → Option Value}, (∀ v, (x, v) ∉ binds) → bindC kindOf binds m x = m x
  | [], _, _ => rfl
  | (n, v) :: r, m, h => by
    unfold bindC
    rw [bindC_out fun w hw => h w (List.mem_cons_of_mem _ hw)]
    split
    · rfl
    · have : x ≠ n := by rintro rfl; exact h v List.mem_cons_self
      simp [this]
theorem bindL_get {kindOf : Str → Option NameKind} {x : Str} {v : Value} : ∀ {P : List Str} {vs : List Value} {i : Nat} {m : Str → Option Value}, P.Nodup → P[i]? = some x → vs[i]? = some v → kindOf x = some .local →
    bindL kindOf (P.zip vs) m x = some v
  | [], _, _, _, _, h, _, _ => by simp at h
  | _ :: _, [], _, _, _, _, h, _ => by simp at h
  | p :: P, w :: vs, 0, m, nd, h1, h2, hk => by
    simp at h1 h2; subst h1; subst h2
    show bindL kindOf ((p, w) :: P.zip vs) m p = _
    unfold bindL
    rw [bindL_out fun v hv => (List.nodup_cons.mp nd).1 (List.of_mem_zip hv).1, if_pos hk]
    simp
  | p :: P, w :: vs, i + 1, m, nd, h1, h2, hk => by
    show bindL kindOf ((p, w) :: P.zip vs) m x = _
    unfold bindL
    exact bindL_get (i := i) (List.nodup_cons.mp nd).2 (by simpa using h1) (by simpa using h2) hk
theorem bindC_get {kindOf : Str → Option NameKind} {x : Str} {v : Value} : ∀ {P : List Str} {vs : List Value} {i : Nat} {m : Str → Option Value}, P.Nodup → P[i]? = some x → vs[i]? = some v → kindOf x ≠ some .local →
    bindC kindOf (P.zip vs) m x = some v
  | [], _, _, _, _, h, _, _ => by simp at h
  | _ :: _, [], _, _, _, _, h, _ => by simp at h
  | p :: P, w :: vs, 0, m, nd, h1, h2, hk => by
    simp at h1 h2; subst h1; subst h2
    show bindC kindOf ((p, w) :: P.zip vs) m p = _
    unfold bindC
    rw [bindC_out fun v hv => (List.nodup_cons.mp nd).1 (List.of_mem_zip hv).1, if_neg hk]
    simp
  | p :: P, w :: vs, i + 1, m, nd, h1, h2, hk => by
    show bindC kindOf ((p, w) :: P.zip vs) m x = _
    unfold bindC
    exact bindC_get (i := i) (List.nodup_cons.mp nd).2 (by simpa using h1) (by simpa using h2) hk
def start (N : List Str) (vs : List V) : St := vs.map some ++ List.replicate (N.length - vs.length) none
def cxOf (CX : CXT) (P : Program) (w : World) (K : PySem.W.Frag) (mg : Str → Option Value) (base : Heap) (N : List Str) (qual : Str) (scope : Scope) (f : Addr) (cd : Value) (A : Around) (outer : List Env) (s : Shared) (H : Hp) (E : XK) : Cx where
  prog := P
  w := w
  K := K
  mg := mg
  base := base
  A := A.deeper (envOfC qual scope s.heap.objs.size f cd)
  N := N
  s₀ := s
  H₀ := H
  env := envOfC qual scope s.heap.objs.size f cd
  outer := outer
  stack := envOfC qual scope s.heap.objs.size f cd :: outer
  ex := []
  calm := true
  fn := fun _ => true
  pn := []
  xe := fun e s' => wpAny (model P w) (A.deeper (envOfC qual scope s.heap.objs.size f cd)) (leaving (envOfC qual scope s.heap.objs.size f cd) e) (fun _ s'' => CX outer H s E e s'') (fun e' s'' => CX outer H s E e' s'') s'
theorem cell_has {sc : Scope} {n : Nat} {x : Str} (h : sc.names.lookup x = some .cell) : ∃ c, (cellsFrom n sc.names []).lookup x = some c := by
  have q := PySem.W.cellsFrom_some sc.names n [] (.inl h)
  exact Option.isSome_iff_exists.mp q
theorem inv_start {CX : CXT} {P : Program} {w : World} {K : PySem.W.Frag} {mg : Str → Option Value} {base : Heap} {N ps : List Str} {qual : Str} {scope : Scope} {f : Addr} {cd : Value} {A : Around} {outer : List Env} {s s1 : Shared} {H : Hp} {E : XK} {us : List Value} {vs : List V}
    (S : FnScope N ps scope) (hd : A.handled = none) (e0 : Env0 P w K mg base A outer s H) (hl : vs.length = ps.length) (r : Vals vs us)
    (x : InCallC s s.heap.objs.size (bindL (envOfC qual scope s.heap.objs.size f cd).kindOf (ps.zip us) fun _ => none) (cellsFrom (s.heap.objs.size + 1) scope.names []) (bindC (envOfC qual scope s.heap.objs.size f cd).kindOf (ps.zip us) fun _ => none) s1) :
    Inv (cxOf CX P w K mg base N qual scope f cd A outer s H E) [] (start N vs) H s1 := by
  have hpl : ps.length ≤ N.length := by have := congrArg List.length S.pre; rw [List.length_take] at this; omega
  obtain ⟨h1, tk, rfl, hk⟩ := x.done
  have noA : ∀ b : Addr, b ∉ (cxOf CX P w K mg base N qual scope f cd A outer s H E).ex := fun b z => absurd (show b ∈ ([] : List Addr) from z) (by simp)
  refine ⟨⟨e0.mod, S.kind, rfl, rfl, Nat.le_refl _, fun y z c h1 h2 => ?_, fun y hy => ?_, fun y c _ h => ?_, fun _ => hd, Around.frames_deeper e0.frames, .inr ⟨rfl, rfl⟩, fun b z => absurd z (noA b), e0.bs, e0.bsz, fun b _ _ => noA b, fun b z => absurd z (noA b), e0.funs, e0.frf⟩,
    rfl, e0.bare, Un.kept hk, ⟨_, x.toInCall.ns, fun i y v h1 h2 h3 => ?_⟩, fun y c h => ⟨_, x.cell y c h⟩, e0.hok.fresh (Nat.le_refl _), fun y c h => ?_, fun p hp => absurd (show p ∈ ([] : List (Addr × Obj)) from hp) (by simp), e0.hok.kept hk, ?_⟩
  · exact name_of_addr x.apart (PySem.mem_of_lookup h1) (PySem.mem_of_lookup h2)
  · have hy : scope.names.lookup y = some .cell ∨ scope.names.lookup y = some .free := hy
    rcases hy with hy | hy
    · exact cell_has hy
    · exact absurd rfl (S.nofree _ (PySem.mem_of_lookup hy))
  · exact Nat.le_of_lt (x.above y c (PySem.mem_of_lookup h))
  · have hi : i < vs.length := by
      unfold start at h2
      by_cases hi : i < vs.length
      · exact hi
      · rw [List.getElem?_append_right (by simpa using hi)] at h2
        rw [List.getElem?_replicate] at h2
        split at h2 <;> cases h2
    have ha : vs[i]? = some v := by
      unfold start at h2
      rw [List.getElem?_append_left (by simpa using hi), List.getElem?_map] at h2
      cases e : vs[i]? with
      | none => rw [e] at h2; cases h2
      | some a => rw [e] at h2; cases h2; rfl
    obtain ⟨u, hu, rv⟩ := r.get ha
    have hp : ps[i]? = some y := by
      rw [← S.pre, List.getElem?_take_of_lt (by omega)]; exact h1
    have ndP : ps.Nodup := by rw [← S.pre]; exact S.nd.sublist (List.take_sublist _ _)
    refine ⟨u, rv, ?_⟩
    rcases S.par y (List.mem_of_getElem? hp) with k | k
    · exact .inl ⟨k, bindL_get ndP hp hu k⟩
    · obtain ⟨c, e⟩ := cell_has (n := s.heap.objs.size + 1) k
      refine .inr ⟨.inl k, c, e, ?_⟩
      have q := x.cell y c e
      rw [bindC_get ndP hp hu (by show scope.names.lookup y ≠ _; rw [k]; decide)] at q
      exact q
  · exact e0.hok.fresh (Nat.le_of_lt (x.above y c (PySem.mem_of_lookup h)))
  · unfold start
    show _ = N.length
    rw [List.length_append, List.length_map, List.length_replicate]
    omega
theorem fn_of {CX : CXT} {P : Program} {w : World} {K : PySem.W.Frag} {mg : Str → Option Value} {base : Heap} {k : Nat} {f : Addr} {name qual : Str} {params : Arguments} {body : List Stmt} {scope : Scope} {dV kV doc pm cdv ct oc : Value} {an od : Option Addr}
    {osl : Array (Option Value)} {N ps : List Str} {sp : Sp} (lk : K.lookup f = some ⟨oc, od, .func (PySem.W.fnOf name qual params body scope dV kV doc pm an cdv ct), osl⟩) (hcd : PySem.W.codeIn K cdv qual = true) (S : FnScope N ps scope)
    (len : ∀ vs H Q E, sp vs H Q E → vs.length = ps.length)
    (hbody : ∀ (A : Around) (outer : List Env) (s : Shared) (H : Hp) (vs : List V) (Q : VK) (E : XK), Room k (A.deeper (envOfC qual scope s.heap.objs.size f cdv)) → sp vs H Q E →
      ∃ t, PSs (cxOf CX P w K mg base N qual scope f cdv A outer s H E) body t ∧ t { nx := fun _ H' => Q .non H', rt := Q } (start N vs) H) :
    FnOk P w K mg base CX (k + 1) f (PySem.W.fnOf name qual params body scope dV kV doc pm an cdv ct) ps sp := by
  refine ⟨len, fun A outer s H args us vs Q E hr e0 hb r hsp => ?_⟩
  have hl := len _ _ _ _ hsp
  have KX : K.In s.heap := e0.mod.kin.keeps fun b o e => (e0.bs b o e).1
  have lim : s.heap.NoLimit := e0.mod.nolimit.keeps fun b o e => (e0.bs b o e).1
  have hkind : ∀ y ∈ ps.zip us, scope.names.lookup y.1 = some .local ∨ (scope.names.lookup y.1 = some .cell ∧ ((cellsFrom (s.heap.objs.size + 1) scope.names []).lookup y.1).isSome = true) := fun ⟨n, v⟩ hy => by
    rcases S.par n (List.of_mem_zip hy).1 with q | q
    · exact .inl q
    · exact .inr ⟨q, PySem.W.cellsFrom_some _ _ _ (.inl q)⟩
  refine codeAny_call_function hr.depth (KX _ _ lk) rfl S.co S.gen rfl (PySem.W.codeRec_of KX hcd) (hb _ _ _ _ ?_)
  refine wpAny_newFunctionEnv_cells S.kind hkind fun env he s1 x => ?_
  subst he
  refine ⟨lim.keeps x.toInCall.keep, codeAny_func ?_⟩
  obtain ⟨t, ht, hq⟩ := hbody A outer s H vs Q E (hr.deeper _) hsp
  have I : Inv (cxOf CX P w K mg base N qual scope f cdv A outer s H E) [] (start N vs) H s1 := inv_start S hr.hd e0 hl r x
  refine wpAny_mono (ht [] s1 (start N vs) H _ I hq) (fun fl s' hs => ?_) fun e s' hs => hs
  have fin : ∀ {σ' : St} {H' : Hp} {v : V} {u : Value}, Inv (cxOf CX P w K mg base N qual scope f cdv A outer s H E) [] σ' H' s' → RelV v u → Q v H' → CE outer P w H s Q u s' :=
    fun {σ' H' v u} J rv q => ⟨v, H', J.os, J.bare, J.base, J.hok, rv, q⟩
  cases fl with
  | ret u =>
    obtain ⟨v, σ', H', J, rv, q⟩ := hs
    exact fin J rv q
  | next =>
    obtain ⟨σ', H', J, q⟩ := hs
    exact fin (v := V.non) (u := Value.none) J rfl q
  | brk =>
    obtain ⟨_, _, _, q⟩ := hs
    exact False.elim q
  | cont =>
    obtain ⟨_, _, _, q⟩ := hs
    exact False.elim q
end L2
namespace L2
open PySem PySem.Spec PyProof.Rows
section
variable {X : Cx} {x : Str} {p pos : Pos} {e : Expr} {es : List Expr} {t : TA} {id T : String} {r : List V → Hp → VK → Prop}
def tCB (r : List V → Hp → VK → Prop) (t : TA) : TE := fun σ H Q => t σ H fun vs H1 => r vs H1 Q
theorem pe_callB (hc : CallR X (.builtin id) r) (hg : Gl X x) (hm : X.mg x = none) (hv : bootBuiltins x = some (.builtin id)) (ha : PA X (e :: es) t) (hn : x ≠ "__name__" := by decide) (hdb : (x == ("__debug__" : Str)) = false := by decide)
    (he : starEach (e :: es) X.env = (false, eval e X.env) :: starEach es X.env := by rfl) (hpl : (backTo pos (starEach es X.env)).any (·.1) = false := by rfl) : PE X (.Call (.Name x p) (e :: es) [] pos) (tCB r t) := by
  intro pins s σ H Q I h
  refine wpAny_Call_Name_kw (ld_blt I hg hm hv ?_ hn hdb)
  exact PyProof.Rows.callWith_builtin1 (thn (ha pos pins s σ H _ I h) fun us s1 ⟨vs, H1, I1, r1, q1⟩ => hc pins s1 σ H1 vs us Q I1 r1 q1) he hpl
theorem pe_callTy (hc : CallR X (.type T) r) (hg : Gl X x) (hm : X.mg x = none) (hv : bootBuiltins x = some (.type T)) (ha : PA X (e :: es) t) (hn : x ≠ "__name__" := by decide) (hdb : (x == ("__debug__" : Str)) = false := by decide)
    (he : starEach (e :: es) X.env = (false, eval e X.env) :: starEach es X.env := by rfl) (hpl : (backTo pos (starEach es X.env)).any (·.1) = false := by rfl) : PE X (.Call (.Name x p) (e :: es) [] pos) (tCB r t) := by
  intro pins s σ H Q I h
  refine wpAny_Call_Name_kw (ld_blt I hg hm hv ?_ hn hdb)
  exact PyProof.Rows.callWith_type1 (thn (ha pos pins s σ H _ I h) fun us s1 ⟨vs, H1, I1, r1, q1⟩ => hc pins s1 σ H1 vs us Q I1 r1 q1) he hpl
end
end L2
namespace HT
open PySem PyProof.Rows
section
open PySem.SeqAt
open PySem.AutoSeq1 (wpAny_loadPart')
open PySem.MeetsSeq PySem.MeetsSeq2 PySem.MeetsSeq3
end
section
variable {prog : Program} {w : World} {A : Around} {E : Value → Shared → Prop} {s : Shared}
def sIx (n d : Nat) : Option Int → Nat
  | none => d
  | some v => if v < 0 then (v + (n : Int)).toNat else min v.toNat n
end
end HT
namespace L2
open PySem PySem.Spec PyProof.Rows
abbrev TO := St → Hp → (Option Int → Hp → Prop) → Prop
def PO (X : Cx) (e : Option Expr) (t : TO) : Prop :=
  ∀ (pins : List (Addr × Obj)) (s : Shared) (σ : St) (H : Hp) (Q : Option Int → Hp → Prop), Inv X pins σ H s → t σ H Q →
    wpAny (model X.prog X.w) X.A (evalPart e X.env) (fun u s' => ∃ o H', Inv X pins σ H' s' ∧ IsPart u o ∧ Q o H') X.xe s
def tPart (t : TE) : TO := fun σ H Q => t σ H fun x H1 => ∃ i, x = .int i ∧ Q (some i) H1
section
variable {X : Cx} {e : Expr} {te : TE} {lo hi : Option Expr} {tl th : TO} {pos p2 : Pos}
theorem po_some (h : PE X e te) : PO X (some e) (tPart te) := by
  intro pins s σ H Q I hw
  rw [evalPart_some]
  refine thn (h pins s σ H _ I hw) fun u s1 ⟨x, H1, I1, r1, q1⟩ => ?_
  obtain ⟨i, rfl, q⟩ := q1
  obtain ⟨t, rfl⟩ := r1
  exact ⟨some i, H1, I1, .int i t, q⟩
def SlR (X : Cx) (r : V → Option Int → Option Int → Hp → VK → Prop) : Prop :=
  ∀ (pins : List (Addr × Obj)) (s : Shared) (σ : St) (H : Hp) (x : V) (v vl vu : Value) (lo hi : Option Int) (sl : Addr) (Q : VK), Inv X pins σ H s → RelV x v → s.heap.IsSliceOf sl vl vu .none → IsPart vl lo → IsPart vu hi → r x lo hi H Q →
    ∃ T id, typeLookup (.type T) "__getitem__" = pure (some (.builtin id)) ∧ s.TypeIs v T ∧ wpAny (model X.prog X.w) X.A (getItem v (.ref sl)) (EP X pins σ Q) X.xe s
def tSl (r : V → Option Int → Option Int → Hp → VK → Prop) (te : TE) (tl th : TO) : TE := fun σ H Q => te σ H fun x H1 => tl σ H1 fun l H2 => th σ H2 fun u H3 => r x l u H3 Q
theorem pe_slice {r : V → Option Int → Option Int → Hp → VK → Prop} (hr : SlR X r) (he : PE X e te) (hl : PO X lo tl) (hu : PO X hi th) : PE X (.Subscript e (.Slice lo hi none p2) pos) (tSl r te tl th) := by
  intro pins s σ H Q I h
  refine Subscript_ (thn (he pins s σ H _ I h) fun v s1 ⟨x, H1, I1, r1, q1⟩ => ?_)
  refine wpAny_Slice (thn (hl pins s1 σ H1 _ I1 q1) fun vl s2 ⟨l, H2, I2, pl, q2⟩ => thn (hu pins s2 σ H2 _ I2 q2) fun vu s3 ⟨u, H3, I3, pu, q3⟩ => ?_)
  rw [evalPart_none]
  refine wpAny_pure ?_
  have I4 : Inv X pins σ H3 { s3 with heap := s3.heap.push { cls := .type "slice", data := .fields #[vl, vu, .none] } } := I3.kept (t' := s3.toks) fun b ob q => Heap.get?_push_of_some _ q
  obtain ⟨T, id, hT, ht, hg⟩ := hr pins { s3 with heap := s3.heap.push { cls := .type "slice", data := .fields #[vl, vu, .none] } } σ H3 x v vl vu l u s3.heap.objs.size Q I4 r1 (Heap.IsSliceOf.new ..) pl pu q3
  show wpAny (model X.prog X.w) X.A (subscriptTail e (.Slice lo hi none p2) v (.ref s3.heap.objs.size)) (EP X pins σ Q) X.xe { s3 with heap := s3.heap.push { cls := .type "slice", data := .fields #[vl, vu, .none] } }
  exact tail_any (ops := [.ref s3.heap.objs.size, v]) ht hT hg (by with_unfolding_all rfl)
def cutV (xs : List V) (lo hi : Option Int) : List V := (xs.drop (HT.sIx xs.length 0 lo)).take (HT.sIx xs.length xs.length hi - HT.sIx xs.length 0 lo)
theorem cutV_length (xs : List V) (lo hi : Option Int) : (cutV xs lo hi).length ≤ xs.length := by
  unfold cutV
  rw [List.length_take, List.length_drop]
  omega
end
end L2
namespace L2
open PySem PySem.Spec PyProof.Rows
def ixN (n : Nat) (i : Int) : Option Nat := if 0 ≤ i then (if i < n then some i.toNat else none) else if -(n : Int) ≤ i then some (i + n).toNat else none
def atI {α : Type} (xs : List α) (i : Int) : Option α := (ixN xs.length i).bind fun j => xs[j]?
theorem ixN_seq {n : Nat} {i : Int} {j : Nat} (h : ixN n i = some j) : seqIndex? i n = some j ∧ j < n ∧ -(n : Int) ≤ i ∧ i < n := by
  unfold ixN at h
  by_cases h0 : 0 ≤ i
  · rw [if_pos h0] at h
    by_cases h1 : i < n
    · rw [if_pos h1] at h
      have e : i.toNat = j := Option.some.inj h
      exact ⟨by rw [seqIndex_of h0 h1, e], by omega, by omega, h1⟩
    · rw [if_neg h1] at h; cases h
  · rw [if_neg h0] at h
    by_cases h1 : -(n : Int) ≤ i
    · rw [if_pos h1] at h
      have e : (i + n).toNat = j := Option.some.inj h
      exact ⟨by rw [seqIndex_neg (by omega) h1, e], by omega, h1, by omega⟩
    · rw [if_neg h1] at h; cases h
theorem atI_get {α : Type} {xs : List α} {i : Int} {v : α} (h : atI xs i = some v) : ∃ j, seqIndex? i xs.length = some j ∧ xs[j]? = some v ∧ j < xs.length ∧ -(xs.length : Int) ≤ i ∧ i < xs.length := by
  unfold atI at h
  cases e : ixN xs.length i with
  | none => rw [e] at h; cases h
  | some j =>
    rw [e] at h
    obtain ⟨h1, h2, h3, h4⟩ := ixN_seq e
    exact ⟨j, h1, h, h2, h3, h4⟩
theorem atI_nat {α : Type} {xs : List α} {j : Nat} {v : α} (h : xs[j]? = some v) : atI xs (j : Int) = some v := by
  have hj : j < xs.length := (List.getElem?_eq_some_iff.mp h).1
  have e : ixN xs.length (j : Int) = some j := by
    unfold ixN
    rw [if_pos (by omega), if_pos (by omega)]; simp
  unfold atI; rw [e]; exact h
theorem atI_last {α : Type} (xs : List α) (v : α) : atI (xs ++ [v]) (-1) = some v := by
  have hl : (xs ++ [v]).length = xs.length + 1 := by simp
  have e : ixN (xs ++ [v]).length (-1) = some xs.length := by
    unfold ixN
    rw [hl, if_neg (by decide), if_pos (by omega)]
    congr 1
    omega
  unfold atI
  rw [e]
  show (xs ++ [v])[xs.length]? = some v
  simp
def PlainIx (b : Expr) : Prop := ∀ o i, subscripted b false o i = operate [o, i] (getItem o i)
def IxR (X : Cx) (r : R2) : Prop :=
  ∀ (value slice : Expr) (pins : List (Addr × Obj)) (s : Shared) (σ : St) (H : Hp) (x y : V) (v u : Value) (Q : VK), Inv X pins σ H s → RelV x v → RelV y u → r x y H Q →
    subscripted slice false v u = operate [v, u] (getItem v u) → wpAny (model X.prog X.w) X.A (subscriptTail value slice v u) (EP X pins σ Q) X.xe s
section
variable {X : Cx} {a b : Expr} {ta tb : TE} {pos : Pos}
theorem pe_ix {r : R2} (hr : IxR X r) (ha : PE X a ta) (hb : PE X b tb) (hs : PlainIx b) : PE X (.Subscript a b pos) (tOp r ta tb) := by
  intro pins s σ H Q I h
  exact Subscript_ (binT ha hb I h fun v u s2 x y H2 I2 rx ry q => hr a b pins s2 σ H2 x y v u Q I2 rx ry q (hs _ _))
def rIxL (K : PySem.W.Frag) : R2 := fun x y H Q => ∃ p xs i v, x = .ref p ∧ y = .int i ∧ SqL K H p xs ∧ atI xs i = some v ∧ Q v H
def rIxT (K : PySem.W.Frag) : R2 := fun x y H Q => ∃ p xs i v, x = .ref p ∧ y = .int i ∧ SqT K H p xs ∧ atI xs i = some v ∧ Q v H
theorem ix_list : IxR X (rIxL X.K) := by
  intro value slice pins s σ H x y v u Q I rx ry h hs
  obtain ⟨p, xs, i, z, rfl, rfl, hq, he, q⟩ := h
  cases rx
  obtain ⟨t, rfl⟩ := ry
  obtain ⟨its, r, pl, hz⟩ := I.list hq
  obtain ⟨j, h1, h2, h3, h4, h5⟩ := atI_get he
  obtain ⟨w, ew, rw'⟩ := r.get h2
  have hl := r.length
  have hn := line63
  have fin : EP X pins σ Q w s := ⟨z, H, I, rw', q⟩
  by_cases h0 : 0 ≤ i
  · have hj : i.toNat = j := by
      rw [seqIndex_of h0 h5] at h1
      exact Option.some.inj h1
    exact item_listR pl.isList h0 (by omega) (by rw [hj]; simpa using ew) fin hs
  · have hj : (i + (its.toArray.size : Int)).toNat = j := by
      rw [seqIndex_neg (by omega) h4] at h1
      rw [List.size_toArray, ← hl]
      exact Option.some.inj h1
    exact subscriptTail_builtinR (x := w) pl.isList.typeIs slot_list_getitem.lookup
      (wpAny_getItem_list_neg (Q := fun r s' => r = w ∧ EP X pins σ Q r s') pl.isList (by omega) (by rw [List.size_toArray] <;> omega) (by omega) (by rw [hj]; simpa using ew) ⟨rfl, fin⟩) hs
theorem ix_tup : IxR X (rIxT X.K) := by
  intro value slice pins s σ H x y v u Q I rx ry h hs
  obtain ⟨p, xs, i, z, rfl, rfl, hq, he, q⟩ := h
  cases rx
  obtain ⟨t, rfl⟩ := ry
  obtain ⟨its, r, pl, hz⟩ := I.tuple hq
  obtain ⟨j, h1, h2, h3, h4, h5⟩ := atI_get he
  obtain ⟨w, ew, rw'⟩ := r.get h2
  have hl := r.length
  have hn := line63
  have fin : EP X pins σ Q w s := ⟨z, H, I, rw', q⟩
  exact subscriptTail_builtinR (x := w) pl.typeIs slot_tuple_getitem.lookup
    (getItem_tuple (j := j) (Q := fun r s' => r = w ∧ EP X pins σ Q r s') pl (by omega) (by omega) (by rw [List.size_toArray, ← hl]; exact h1) (by simpa using ew) ⟨rfl, fin⟩) hs
theorem mapSeq_set (its : List Value) (n j : Nat) (u : Value) : Obj.mapSeq (·.setIfInBounds j u) { cls := .type "list", data := .seq its.toArray n } = { cls := .type "list", data := .seq (its.set j u).toArray n } := by
  simp [Obj.mapSeq]
theorem Inv.lst {pins : List (Addr × Obj)} {σ : St} {H : Hp} {s : Shared} {p : Addr} {xs : List V} (I : Inv X pins σ H s) (h : H p = some (.lst xs)) :
    ∃ (its : List Value) (n : Nat), Vals xs its ∧ s.heap.get? p = some { cls := .type "list", data := .seq its.toArray n } ∧ xs.length ≤ sizeLine := by
  obtain ⟨z, its, n, r, e⟩ := I.hok p _ h
  exact ⟨its, n, r, e, z⟩
theorem Inv.lstUpd {pins : List (Addr × Obj)} {σ : St} {H : Hp} {s : Shared} {p : Addr} {xs ys : List V} {its its' : List Value} {n n' : Nat} {f : Obj → Obj} (I : Inv X pins σ H s) (h : H p = some (.lst xs))
    (ho : s.heap.get? p = some { cls := .type "list", data := .seq its.toArray n }) (hf : f { cls := .type "list", data := .seq its.toArray n } = { cls := .type "list", data := .seq its'.toArray n' }) (r : Vals ys its') (hz : ys.length ≤ sizeLine) (t : Nat) :
    Inv X pins σ (upd H p (.lst ys)) { s with heap := s.heap.update p f, toks := t } := by
  have e : (s.heap.update p f).get? p = some { cls := .type "list", data := .seq its'.toArray n' } := by
    rw [Heap.get?_update_self f ho (by rw [hf] <;> rfl), hf]
  refine I.write (x := p) (e := p) (by rw [h]; trivial) (.inl rfl) (fun b u hb q => (Heap.get?_update_other _ _ (Ne.symm hb)).trans q) ⟨_, e⟩ ?_
  exact ⟨hz, its', n', r, e⟩
def rSetL : V → V → V → Hp → (Hp → Prop) → Prop := fun o i v H Q => ∃ p xs k j, o = .ref p ∧ i = .int k ∧ H p = some (.lst xs) ∧ ixN xs.length k = some j ∧ Q (upd H p (.lst (xs.set j v)))
theorem set_list : PSet X rSetL := by
  intro pins s σ H o i v ov iv u Q I ro ri rv h
  obtain ⟨p, xs, k, j, rfl, rfl, hp, hj, q⟩ := h
  cases ro
  obtain ⟨t, rfl⟩ := ri
  obtain ⟨its, n, r, ho, hz⟩ := I.lst hp
  obtain ⟨h1, h2, h3, h4⟩ := ixN_seq hj
  have hl := r.length
  have hn := line63
  have I' : Inv X pins σ (upd H p (.lst (xs.set j v))) { s with heap := s.heap.update p (Obj.mapSeq (·.setIfInBounds j u)) } :=
    I.lstUpd hp ho (mapSeq_set its n j u) (r.set rv j) (by rw [List.length_set]; exact hz) s.toks
  by_cases h0 : 0 ≤ k
  · have hk : k.toNat = j := by
      rw [seqIndex_of h0 h4] at h1
      exact Option.some.inj h1
    exact PySem.W.ki_setAt ho h0 (by omega) (by rw [List.size_toArray, ← hl]; exact h4) (by rw [hk]; exact ⟨_, I', q⟩)
  · have hk : (k + (its.toArray.size : Int)).toNat = j := by
      rw [seqIndex_neg (by omega) h3] at h1
      rw [List.size_toArray, ← hl]
      exact Option.some.inj h1
    exact PySem.W.ki_setBack ho (by omega) (by rw [List.size_toArray, ← hl]; exact h3) (by omega) (by rw [hk]; exact ⟨_, I', q⟩)
theorem slice_bounds (lo hi : Option Int) (n : Nat) : (sliceBounds lo hi none n).1 = ((HT.sIx n 0 lo : Nat) : Int) ∧ (sliceBounds lo hi none n).2.1 = ((HT.sIx n n hi : Nat) : Int) ∧ (sliceBounds lo hi none n).2.2 = 1 := by
  refine ⟨?_, ?_, rfl⟩
  · cases lo with
    | none => simp [sliceBounds, HT.sIx]
    | some i =>
      simp only [sliceBounds, HT.sIx, Option.getD_none, show (1 : Int) > 0 by decide, if_true]
      by_cases h : i < 0
      · simp only [h, if_true] <;> omega
      · simp only [h, if_false] <;> omega
  · cases hi with
    | none => simp [sliceBounds, HT.sIx]
    | some i =>
      simp only [sliceBounds, HT.sIx, Option.getD_none, show (1 : Int) > 0 by decide, if_true]
      by_cases h : i < 0
      · simp only [h, if_true] <;> omega
      · simp only [h, if_false] <;> omega
theorem slicePick_cut (its : List Value) (lo hi : Option Int) : slicePick its.toArray lo hi none = ((its.drop (HT.sIx its.length 0 lo)).take (HT.sIx its.length its.length hi - HT.sIx its.length 0 lo)).toArray := by
  obtain ⟨h1, h2, h3⟩ := slice_bounds lo hi its.toArray.size
  unfold slicePick
  rw [h1, h2, h3]
  simp only [sliceRange_one, pick_run, List.size_toArray] <;> rfl
def rSlL (K : PySem.W.Frag) : V → Option Int → Option Int → Hp → VK → Prop := fun x lo hi H Q => ∃ a xs, x = .ref a ∧ SqL K H a xs ∧ ∀ p, H p = none → Q (.ref p) (upd H p (.lst (cutV xs lo hi)))
theorem sl_list : SlR X (rSlL X.K) := by
  intro pins s σ H x v vl vu lo hi sl Q I rx hs pl pu h
  obtain ⟨a, xs, rfl, hx, q⟩ := h
  cases rx
  obtain ⟨its, r, ht, hz⟩ := I.list hx
  have hlen := r.length
  refine ⟨"list", _, slot_list_getitem.lookup, ht.isList.typeIs, ?_⟩
  refine wpAny_getItem_list_slice ht.isList hs pl pu .none (by simp) ?_ (by rw [List.size_toArray] <;> omega)
  rw [slicePick_cut, ← hlen]
  refine ⟨.ref s.heap.objs.size, _, I.laid (t' := s.toks) (o := .lst (cutV xs lo hi)) (fun b ob q => Heap.get?_push_of_some _ q) (Nat.le_refl _) ?_, rfl, q _ (I.hok.fresh (Nat.le_refl _))⟩
  exact ⟨Nat.le_trans (cutV_length xs lo hi) hz, _, 0, (r.drop (HT.sIx xs.length 0 lo)).take (HT.sIx xs.length xs.length hi - HT.sIx xs.length 0 lo), Heap.get?_push_size _ rfl⟩
def flatV : V → Bool
  | .non => true
  | .bl _ => true
  | .int _ => true
  | .str _ => true
  | _ => false
def eqV : V → V → Bool
  | .non, .non => true
  | .bl a, .bl b => a == b
  | .bl a, .int b => (if a then 1 else 0) == b
  | .int a, .bl b => a == (if b then 1 else 0)
  | .int a, .int b => a == b
  | .str a, .str b => a == b
  | _, _ => false
theorem eqAt_V {A : Around} {s : Shared} {y x : V} {u v : Value} (ry : RelV y u) (rx : RelV x v) (fy : flatV y = true) (fx : flatV x = true) : SeqAt.EqAt A s u v (eqV y x) := by
  cases y with
  | non =>
    cases ry
    cases x with
    | non => cases rx; exact SeqAt.EqAt.same _
    | bl b => cases rx; exact SeqAt.EqAt.none_bool b
    | int b => obtain ⟨t, rfl⟩ := rx; exact SeqAt.EqAt.none_int b t
    | str b => obtain ⟨t, rfl⟩ := rx; exact SeqAt.EqAt.none_str b t
    | _ => exact absurd (show false = true from fx) Bool.false_ne_true
  | bl a =>
    cases ry
    cases x with
    | non => cases rx; exact SeqAt.EqAt.bool_none a
    | bl b => cases rx; exact SeqAt.EqAt.bool_bool a b
    | int b => obtain ⟨t, rfl⟩ := rx; exact SeqAt.EqAt.bool_int a b t
    | str b => obtain ⟨t, rfl⟩ := rx; exact SeqAt.EqAt.bool_str a b t
    | _ => exact absurd (show false = true from fx) Bool.false_ne_true
  | int a =>
    obtain ⟨t', rfl⟩ := ry
    cases x with
    | non => cases rx; exact SeqAt.EqAt.int_none a t'
    | bl b => cases rx; exact SeqAt.EqAt.int_bool a t' b
    | int b => obtain ⟨t, rfl⟩ := rx; exact SeqAt.EqAt.int_int a t' b t
    | str b => obtain ⟨t, rfl⟩ := rx; exact SeqAt.EqAt.int_str a t' b t
    | _ => exact absurd (show false = true from fx) Bool.false_ne_true
  | str a =>
    obtain ⟨t', rfl⟩ := ry
    cases x with
    | non => cases rx; exact SeqAt.EqAt.str_none a t'
    | bl b => cases rx; exact SeqAt.EqAt.str_bool a t' b
    | int b => obtain ⟨t, rfl⟩ := rx; exact SeqAt.EqAt.str_int a t' b t
    | str b => obtain ⟨t, rfl⟩ := rx; exact SeqAt.EqAt.str_str a t' b t
    | _ => exact absurd (show false = true from fx) Bool.false_ne_true
  | _ => exact absurd (show false = true from fy) Bool.false_ne_true
def eqU (x : V) (u : Value) : Bool := match u with
  | .none => eqV .non x
  | .bool b => eqV (.bl b) x
  | .int i _ => eqV (.int i) x
  | .str z _ => eqV (.str z) x
  | _ => false
theorem eqU_of {x y : V} {u : Value} (r : RelV y u) (f : flatV y = true) : eqU x u = eqV y x := by
  cases y with
  | non => cases r; rfl
  | bl b => cases r; rfl
  | int i => obtain ⟨t, rfl⟩ := r; rfl
  | str z => obtain ⟨t, rfl⟩ := r; rfl
  | _ => exact absurd (show false = true from f) Bool.false_ne_true
theorem any_eqU {x : V} : ∀ {xs : List V} {us : List Value}, Vals xs us → xs.all flatV = true → us.any (eqU x) = xs.any fun y => eqV y x
  | _, _, .nil, _ => rfl
  | y :: xs, u :: us, .cons r t, f => by
    rw [List.all_cons, Bool.and_eq_true] at f
    rw [List.any_cons, List.any_cons, eqU_of r f.1, any_eqU t f.2]
theorem mem_eqAt {A : Around} {s : Shared} {x : V} {v : Value} (rx : RelV x v) (fx : flatV x = true) : ∀ {xs : List V} {us : List Value}, Vals xs us → xs.all flatV = true → ∀ u ∈ us, SeqAt.EqAt A s u v (eqU x u)
  | _, _, .nil, _ => fun u hu => by cases hu
  | y :: xs, u :: us, .cons r t, f => fun u' hu => by
    rw [List.all_cons, Bool.and_eq_true] at f
    rcases List.mem_cons.mp hu with rfl | hu
    · rw [eqU_of r f.1]; exact eqAt_V r rx f.1 fx
    · exact mem_eqAt rx fx t f.2 u' hu
def inV (x : V) (xs : List V) : Bool := xs.any fun y => eqV y x
def rIn (K : PySem.W.Frag) (neg : Bool) : R2 := fun x y H Q => ∃ p xs, y = .ref p ∧ (SqL K H p xs ∨ SqT K H p xs) ∧ flatV x = true ∧ xs.all flatV = true ∧ Q (.bl (if neg then !inV x xs else inV x xs)) H
theorem op_in_seq : OpR X (compareOp .In) (rIn X.K false) := by
  intro pins s σ H x y v u Q I rx ry h
  obtain ⟨p, xs, rfl, hq, fx, fs, q⟩ := h
  cases ry
  rcases hq with hq | hq
  · obtain ⟨its, r, pl, hz⟩ := I.list hq
    refine SeqAt.in_listAt (eqU x) pl.isList (fun w hw => mem_eqAt rx fx r fs w (by simpa using hw)) ⟨.bl _, H, I, rfl, ?_⟩
    rw [show its.toArray.any (eqU x) = its.any (eqU x) by simp, any_eqU r fs]
    exact q
  · obtain ⟨its, r, pl, hz⟩ := I.tuple hq
    refine SeqAt.in_tupleAt (eqU x) pl (fun w hw => mem_eqAt rx fx r fs w (by simpa using hw)) ⟨.bl _, H, I, rfl, ?_⟩
    rw [show its.toArray.any (eqU x) = its.any (eqU x) by simp, any_eqU r fs]
    exact q
theorem call_len_seq : CallR X (.builtin "len") (fun xs H Q => ∃ p ys, xs = [.ref p] ∧ (SqL X.K H p ys ∨ SqT X.K H p ys) ∧ Q (.int ys.length) H) := by
  intro pins s σ H xs us Q I r h
  obtain ⟨p, ys, rfl, hq, q⟩ := h
  obtain ⟨u, rfl, rx⟩ := vals1 r
  cases rx
  have hn := line63
  rcases hq with hq | hq
  · obtain ⟨its, r', pl, hz⟩ := I.list hq
    have hlen := r'.length
    exact Calls.call_len_list pl.isList (by simp only [List.size_toArray] <;> omega) ⟨.int ys.length, H, I.tok _, ⟨s.toks + 1, by rw [List.size_toArray, hlen]⟩, q⟩
  · obtain ⟨its, r', pl, hz⟩ := I.tuple hq
    have hlen := r'.length
    exact len_tuple pl (by simp only [List.size_toArray] <;> omega) ⟨.int ys.length, H, I.tok _, ⟨s.toks + 1, by rw [List.size_toArray, hlen]⟩, q⟩
theorem call_list_of : CallR X (.type "list") (fun xs H Q => ∃ p ys, xs = [.ref p] ∧ (SqL X.K H p ys ∨ SqT X.K H p ys) ∧ ∀ l, H l = none → Q (.ref l) (upd H l (.lst ys))) := by
  intro pins s σ H xs us Q I r h
  obtain ⟨p, ys, rfl, hq, q⟩ := h
  obtain ⟨u, rfl, rx⟩ := vals1 r
  cases rx
  have fin : ∀ (its : List Value), Vals ys its → ys.length ≤ sizeLine → ∀ (h' : Heap) (c' : Nat), (∀ b o', s.heap.get? b = some o' → h'.get? b = some o') →
      h'.get? s.heap.objs.size = some { cls := .type "list", dict := none, data := .seq its.toArray c', slots := #[] } → EP X pins σ Q (.ref s.heap.objs.size) { s with heap := h' } := fun its r' hz h' c' kp e =>
    ⟨.ref s.heap.objs.size, _, I.laid (t' := s.toks) kp (Nat.le_refl _) (show ObjOk X.prog X.w _ h' _ (.lst ys) from ⟨hz, its, c', r', e⟩), rfl, q _ (I.hok.fresh (Nat.le_refl _))⟩
  rcases hq with hq | hq
  · obtain ⟨its, r', pl, hz⟩ := I.list hq
    have hlen := r'.length
    obtain ⟨o, ho, hc, n, hd⟩ := pl.isList
    exact call_list_seq p (.inl rfl) ho hc hd (fun h' c' kp e => fin its r' hz h' c' kp e) (by simp only [List.size_toArray] <;> omega)
  · obtain ⟨its, r', pl, hz⟩ := I.tuple hq
    have hlen := r'.length
    obtain ⟨o, ho, hc, n, hd⟩ := pl
    exact call_list_seq p (.inr rfl) ho hc hd (fun h' c' kp e => fin its r' hz h' c' kp e) (by simp only [List.size_toArray] <;> omega)
variable {o e : Expr} {es : List Expr} {to : TE} {t : TA} {name : Str} {apos cpos : Pos} {T id : String} {r : V → List V → Hp → VK → Prop}
/- xs.append(e), list.index on a module's tuple .. are MtR facts of 06m -/
end
end L2
namespace L2
open PySem PySem.Spec PyProof.Rows
def MtM (X : Cx) (id : String) (r : V → List V → Hp → VK → Prop) : Prop :=
  ∀ (pins : List (Addr × Obj)) (s : Shared) (σ : St) (H : Hp) (x : V) (xs : List V) (v : Value) (us : List Value) (Q : VK), Inv X pins σ H s → RelV x v → Vals xs us → r x xs H Q →
    wpAny (model X.prog X.w) X.A (call (.builtin id) (v :: us)) (EP X pins σ Q) X.xe s
theorem Vals.one : ∀ {x : V} {us : List Value}, Vals [x] us → ∃ u, us = [u] ∧ RelV x u
  | _, _, .cons r .nil => ⟨_, rfl, r⟩
theorem Vals.two : ∀ {x y : V} {us : List Value}, Vals [x, y] us → ∃ u v, us = [u, v] ∧ RelV x u ∧ RelV y v
  | _, _, _, .cons r (.cons q .nil) => ⟨_, _, rfl, r, q⟩
section
variable {X : Cx} {pins : List (Addr × Obj)} {σ : St} {H : Hp} {s : Shared} {l b : Addr} {xs ys zs : List V}
theorem Inv.lset {its its' : List Value} {n : Nat} {f : Array Value → Array Value} {t' : Nat} (I : Inv X pins σ H s) (hH : H l = some (.lst xs))
    (e : s.heap.get? l = some { cls := .type "list", data := .seq its.toArray n }) (hf : f its.toArray = its'.toArray) (hv : Vals ys its') (hz : ys.length ≤ sizeLine) :
    Inv X pins σ (upd H l (.lst ys)) { s with heap := s.heap.update l (Obj.mapSeq f), toks := t' } := by
  have q := PySem.IsL.update e f
  rw [hf] at q
  refine I.write (x := l) (e := l) (by rw [hH]; exact trivial) (.inl rfl) (fun b' u hb hu => (Heap.get?_update_other s.heap (Obj.mapSeq f) (Ne.symm hb)).trans hu) ⟨_, q⟩ ?_
  exact ⟨hz, its', _, hv, q⟩
theorem Inv.lnew {its : List Value} {t' : Nat} (I : Inv X pins σ H s) (hv : Vals ys its) (hz : ys.length ≤ sizeLine) :
    Inv X pins σ (upd H s.heap.objs.size (.lst ys)) { s with heap := s.heap.push { cls := .type "list", data := .seq its.toArray }, toks := t' } :=
  I.laid (fun _ _ q => Heap.get?_push_of_some _ q) (Nat.le_refl _) ⟨hz, its, 0, hv, Heap.get?_push_size _ rfl⟩
theorem Inv.fresh (I : Inv X pins σ H s) : H s.heap.objs.size = none := I.hok.fresh (Nat.le_refl _)
theorem Inv.lstM (I : Inv X pins σ H s) (hH : H l = some (.lst xs)) : xs.length ≤ sizeLine ∧ ∃ (its : List Value) (n : Nat), Vals xs its ∧ xs.length = its.length ∧ s.heap.get? l = some { cls := .type "list", data := .seq its.toArray n } := by
  obtain ⟨z, its, n, r, e⟩ := I.hok l _ hH
  exact ⟨z, its, n, r, r.length, e⟩
end
section
variable {X : Cx}
def rAppend : V → List V → Hp → VK → Prop := fun x vs H Q => ∃ l xs y, x = .ref l ∧ vs = [y] ∧ H l = some (.lst xs) ∧ xs.length < sizeLine ∧ Q .non (upd H l (.lst (xs ++ [y])))
theorem mt_append : MtM X "list.append" rAppend := by
  intro pins s σ H x vs v us Q I rx rv h
  obtain ⟨l, xs, y, rfl, rfl, hH, hz, q⟩ := h
  cases rx
  obtain ⟨u, rfl, ru⟩ := rv.one
  obtain ⟨z, its, n, r, hl, e⟩ := I.lstM hH
  refine call_meets F.slot_list_append ⟨_, e, rfl⟩ F.entry_list_append (F.args_list_append_2 _ _) (PySem.list_append l its.toArray n u (by rw [List.size_toArray]; omega)) ⟨e, ?_⟩
  refine ⟨.non, _, I.lset (its' := its ++ [u]) hH e (by simp) (r.append (.cons ru .nil)) ?_, rfl, q⟩
  rw [List.length_append, List.length_singleton]
  omega
def rCat : R2 := fun x y H Q => ∃ l b xs zs, x = .ref l ∧ y = .ref b ∧ H l = some (.lst xs) ∧ H b = some (.lst zs) ∧ xs.length + zs.length ≤ sizeLine ∧ ∀ p, H p = none → Q (.ref p) (upd H p (.lst (xs ++ zs)))
theorem op_cat : OpR X (binaryOp .Add) rCat := by
  intro pins s σ H x y v u Q I rx ry h
  obtain ⟨l, b, xs, zs, rfl, rfl, hH, hB, hz, q⟩ := h
  cases rx
  cases ry
  obtain ⟨z, its, n, r, hl, e⟩ := I.lstM hH
  obtain ⟨z2, its2, n2, r2, hl2, e2⟩ := I.lstM hB
  refine PySem.P.add_list e e2 ?_ (by rw [List.size_toArray, List.size_toArray]; omega)
  have ea : its.toArray ++ its2.toArray = (its ++ its2).toArray := by simp
  rw [ea]
  exact ⟨.ref _, _, I.lnew (t' := s.toks) (r.append r2) (by rw [List.length_append]; omega), rfl, q _ I.fresh⟩
end
section
variable {prog : Program} {w : World} {A : Around} {E : Value → Shared → Prop} {s : Shared}
set_option maxRecDepth 100000 in
end
section
variable {X : Cx}
end
end L2
namespace Att
open PySem PySem.W PySem.Calls PyProof.Rows
theorem ints_of_wellAll {P : Params} {h : Heap} : ∀ (ns : List Int) (vs : List Value), WellAll P h vs (ns.map WData.int) → IntsAre vs ns := by
  intro ns
  induction ns with
  | nil =>
    intro vs w
    rw [List.map_nil] at w
    cases w
    exact .nil
  | cons n ns ih =>
    intro vs w
    rw [List.map_cons] at w
    cases w with
    | cons a b =>
      cases a
      exact .cons _ _ (ih _ b)
theorem script_of {l : OpenLaw} {n : Nat} (hn : l.most = some n) {P : Params} {h : Heap} {args : List WData} {vals : List Value}
    (hpre : l.row.toRowW.claim.pre args = true) (hwl : WellAll P h vals args) :
    ∃ a vs ns, vals = [Value.ref a] ∧ args = [WData.list (ns.map WData.int)] ∧ h.get? a = some { cls := .type "list", data := .seq vs.toArray } ∧ IntsAre vs ns ∧ ns.length ≤ n := by
  have hsh : WShape.hasAll [] args [.list .int] = true := (pre_splitW hpre).1
  have hc : l.pre.holds [] { args := args } = true := (pre_splitW hpre).2
  obtain ⟨d, r, rfl, h1, h2⟩ := hasAllW_cons hsh
  obtain rfl := hasAllW_nil h2
  obtain ⟨xs, rfl, h3⟩ := hasW_list h1
  obtain ⟨ns, rfl⟩ := items_int h3
  have hlen : ns.length ≤ n := by
    unfold OpenLaw.pre at hc
    have h4 : (WTm.not (.lt (.lit (.int (n : Int))) (.len (.arg 0)))).holds [] { args := [.list (ns.map .int)] } = true := by
      have h4 := (holds_andW hc).1
      rw [hn] at h4
      exact h4
    have h5 := condW_of h4 (w_not (w_lt w_lit (w_len_list (w_arg rfl))))
    rw [List.length_map] at h5
    refine Nat.le_of_not_lt fun q => ?_
    have q' : (n : Int) < ((ns.length : Nat) : Int) := by omega
    first
      | (rw [decide_eq_true q'] at h5; exact absurd h5 (by decide))
      | (simp at h5; omega)
  cases hwl with
  | cons w1 w2 =>
    cases w2
    cases w1 with
    | list ho hall => exact ⟨_, _, ns, rfl, rfl, ho, ints_of_wellAll ns _ hall, hlen⟩
theorem post_true (l : OpenLaw) (args : List WData) : l.row.toRowW.claim.post args (.bool true) args = true :=
  postW_of (r := l.row.toRowW) (X := (true == true))
    (show WShape.has [] (.bool true) .bool = true by first | rfl | decide | simp [WShape.has, WShape.arms, WShape.armsAll])
    (show (WTm.eq .res (.lit (.bool true))).value [] { args := args, res := some (.bool true), after := args } = some (.bool (true == true)) from w_eq_bool (w_res rfl) w_lit) rfl
theorem attach_call {l : OpenLaw} {n : Nat} {q : Program} {loose : List Str} {XP : (Str → Option Value) → Heap → Prop} {YP : World → Heap → Prop} {d : DefRec}
    (hn : l.most = some n) (hdf : d.params.defaults = [])
    (call : ∀ (w : World) (s₀ s₁ : Shared) (mg mb : Str → Option Value) (fa : Addr) (o : Obj) (pm cd doc : Value) (a : Addr) (vs : List Value) (ns : List Int),
      Ground q loose [] XP w s₀ mg mb s₁.heap → YP w s₁.heap →
      s₁.heap.get? fa = some o → o.data = .func (docDef d.name d.params d.body d.scope pm cd doc) → s₁.heap.CodeRec cd d.name → mg d.name = some (.ref fa) →
      s₁.heap.get? a = some { cls := .type "list", data := .seq vs.toArray } → IntsAre vs ns → ns.length ≤ n → s₁.gens = #[] →
      codeAny (model l.prog w) callerA (.call (.ref fa) ⟨[.ref a], []⟩) (fun r s' => r = .ok (.ret (.bool true)) ∧ OldK s₁.heap s'.heap ∧ s'.os = s₁.os ∧ AllBare s'.gens) s₁) :
    WalkO q loose XP YP l.row.toRowW d [] (fun f vs => PySem.call f vs) := by
  intro w s₀ s₁ mg mb G Y fa o pm cd doc dV kV ho hd hcd hD hmg hg args vals as hpre hlay hrd hwl hlo
  obtain rfl : dV = .none := Dflts.none hD hdf
  obtain rfl : kV = .none := Dflts.noKw hD
  obtain ⟨a, vs, ns, rfl, rfl, hobj, hints, hlen⟩ := script_of hn hpre hwl
  refine enter_call (codeAny_mono (call w s₀ s₁ mg mb fa o pm cd doc a vs ns G Y ho (fd_plain hd) hcd hmg hobj hints hlen hg) fun r s' hq => ?_)
  obtain ⟨rfl, h2, h3, h4⟩ := hq
  exact ⟨.inl ⟨.bool true, .bool true, [], rfl, fun _ => rfl, .bool true, post_true l _, fun _ => ⟨List.Pairwise.nil, fun _ hm => (nomatch hm)⟩⟩, h2, h3, h4⟩
section
variable {prog : Program} {w : World} {A : Around} {E : Value → Shared → Prop} {s : Shared} {K : Frag}
end
end Att
namespace L2
open PySem PySem.Spec PyProof.Rows
theorem vals_ints : ∀ {vs : List Value} {ns : List Int}, IntsAre vs ns → Vals (ns.map V.int) vs
  | _, _, .nil => .nil
  | _, _, .cons n t h => .cons ⟨t, rfl⟩ (vals_ints h)
def Only (H : Hp) : Prop := ∀ b, H b = none ∨ ∃ o xs, H b = some (.frz o (.lst xs))
theorem law_call {P : Program} {w : World} {K : PySem.W.Frag} {mg mb : Str → Option Value} {CX : CXT} {k : Nat} {fa a : Addr} {fd : FuncData} {x : Str} {sp : Sp} {s₁ : Shared} {vs : List Value} {ns : List Int}
    (KX : K.In s₁.heap) (hns : s₁.heap.Ns mainGlobals mg) (hb : s₁.heap.Ns builtinsNs mb) (hbb : ∀ x : Str, x ≠ "__name__" → mb x = bootBuiltins x) (hlim : s₁.heap.NoLimit) (hg : s₁.gens = #[])
    (ha : s₁.heap.get? a = some { cls := .type "list", data := .seq vs.toArray }) (hi : IntsAre vs ns) (hl : ns.length ≤ sizeLine) (hr : Room k callerA)
    (F : ∀ base : Heap, K.In base → base.Ns mainGlobals mg → FnOk P w K mg base CX k fa fd [x] sp) (hbind : ∀ (s : Shared) (u : Value), BindsTo s fd ⟨[u], []⟩ [(x, u)])
    (hsp : ∀ H : Hp, Only H → SqL K H a (ns.map V.int) → sp [.ref a] H (fun v _ => v = .bl true) fun _ _ _ => False)
    (hCX : ∀ H e s', CX [] H s₁ (fun _ _ _ => False) e s' → False) :
    codeAny (model P w) callerA (.call (.ref fa) ⟨[.ref a], []⟩) (fun r s' => r = .ok (.ret (.bool true)) ∧ OldK s₁.heap s'.heap ∧ s'.os = s₁.os ∧ AllBare s'.gens) s₁ := by
  have rv := vals_ints hi
  have lenV := hi.length
  have core : ∀ H : Hp, Only H → SqL K H a (ns.map V.int) → HOk P w H s₁.heap → (∀ b, H b ≠ none → b = a) → (H a ≠ none → K.lookup a = none) →
      codeAny (model P w) callerA (.call (.ref fa) ⟨[.ref a], []⟩) (fun r s' => r = .ok (.ret (.bool true)) ∧ OldK s₁.heap s'.heap ∧ s'.os = s₁.os ∧ AllBare s'.gens) s₁ := by
    intro H hO hS hok hA hK
    have base_of : ∀ {b : Addr} {o : Obj}, s₁.heap.get? b = some o → H b = none → (hidT s₁.heap H).get? b = some o := fun e n => hidT_get e n
    have noA : ∀ {b : Addr} {o : Obj} {es : Array DictEntry} {ep : Nat}, s₁.heap.get? b = some o → o.data = .dict es ep → H b = none := fun {b o es ep} e d => by
      cases q : H b with
      | none => rfl
      | some u =>
        have e' : b = a := hA b (by rw [q]; simp)
        subst e'
        rw [ha] at e; cases e
        have d' : Data.seq vs.toArray _ = Data.dict es ep := d
        cases d'
    have nsK : ∀ {b : Addr} {m : Str → Option Value}, s₁.heap.Ns b m → (hidT s₁.heap H).Ns b m := fun {b m} ⟨o, es, ep, e, d, r⟩ => ⟨o, es, ep, base_of e (noA e d), d, r⟩
    have hKb : K.In (hidT s₁.heap H) := fun b o e => base_of (KX b o e) (by
      cases q : H b with
      | none => rfl
      | some u =>
        have e' : b = a := hA b (by rw [q]; simp)
        subst e'
        rw [hK (by rw [q]; simp)] at e; cases e)
    have hM : Mod K mg (hidT s₁.heap H) := ⟨hKb, nsK hns, ⟨mb, nsK hb, hbb⟩, let ⟨mc, h1, h2⟩ := hlim; ⟨mc, nsK h1, h2⟩⟩
    have e0 : Env0 P w K mg (hidT s₁.heap H) callerA [] s₁ H := ⟨rfl, hM, fun b o e => of_hidT e, Nat.le_of_eq (hidT_size _ _), trivial, fun b hb => absurd (show b ∈ ([] : List Addr) from hb) (by simp), hok, .of_eq hg⟩
    refine codeAny_mono ((F _ hKb (nsK hns)).run callerA [] s₁ H ⟨[.ref a], []⟩ [.ref a] [.ref a] _ _ hr e0 (hbind s₁ (.ref a)) (.cons rfl .nil) (hsp H hO hS)) fun r s' h => ?_
    cases r with
    | error e => exact (hCX H e s' h).elim
    | ok fl =>
      cases fl with
      | next => exact False.elim h
      | brk => exact False.elim h
      | cont => exact False.elim h
      | ret u =>
        obtain ⟨v, H', os, bare, un, hok', r', q⟩ := h
        have q' : v = .bl true := q
        subst q'
        obtain rfl : u = Value.bool true := r'
        refine ⟨rfl, OldK.of_keep fun b o e => ?_, os, bare⟩
        cases q : H b with
        | none => exact un.keep b o e q (by intro z; exact absurd (show b ∈ ([] : List Addr) from z) (by simp)) (by simp)
        | some u =>
          rcases hO b with z | ⟨ob, xs, z⟩
          · rw [q] at z; cases z
          · have z2 := un.frzs b ob _ z
            obtain ⟨e1, _⟩ := hok b _ z
            obtain ⟨e2, _⟩ := hok' b _ z2
            rw [e] at e1; cases e1
            exact e2
  cases hk : K.lookup a with
  | some o =>
    have e := KX a o hk
    rw [ha] at e
    cases e
    refine core (fun _ => none) (fun _ => .inl rfl) (.inr ⟨_, vs.toArray, _, hk, rfl, rfl, rfl, by rw [List.size_toArray, lenV]; exact hl, by simpa using rv⟩) (fun b u z => by have z' : (none : Option HO) = some u := z; cases z') (fun b z => absurd rfl z) fun z => absurd rfl z
  | none =>
    refine core (fun b => if b = a then some (.frz { cls := .type "list", data := .seq vs.toArray } (.lst (ns.map V.int))) else none) (fun b => ?_) (.inl (.inr ⟨{ cls := .type "list", data := .seq vs.toArray }, if_pos rfl⟩)) (fun b u z => ?_) (fun b z => ?_) fun _ => hk
    · by_cases hb : b = a
      · exact .inr ⟨_, _, if_pos hb⟩
      · exact .inl (if_neg hb)
    · by_cases hb : b = a
      · have z' := (if_pos hb).symm.trans z
        cases z'
        subst hb
        exact ⟨ha, by rw [List.length_map]; exact hl, vs, _, rv, ha⟩
      · have z' := (if_neg hb).symm.trans z
        cases z'
    · by_cases hb : b = a
      · exact hb
      · exact absurd (if_neg hb) z
end L2
namespace L2
open PySem PySem.Spec PyProof.Rows
theorem walk_of {l : PySem.W.OpenLaw} {n k : Nat} {q : Program} {loose : List Str} {XP : (Str → Option Value) → Heap → Prop} {YP : World → Heap → Prop} {d : DefRec} {K : Params → PySem.W.Frag} {CX : World → CXT} {sp : World → Sp} {x : Str}
    (hn : l.most = some n) (hn2 : n ≤ sizeLine) (hdf : d.params.defaults = []) (hr : Room k callerA)
    (hY : ∀ (w : World) (h : Heap), YP w h → (K w.params).In h)
    (F : ∀ (w : World) (mg : Str → Option Value) (fa : Addr) (h : Heap), (K w.params).In h → h.Ns mainGlobals mg → mg d.name = some (.ref fa) →
      ∃ fd : FuncData, (∀ (s : Shared) (u : Value), BindsTo s fd ⟨[u], []⟩ [(x, u)]) ∧
        ∀ base : Heap, (K w.params).In base → base.Ns mainGlobals mg → FnOk l.prog w (K w.params) mg base (CX w) k fa fd [x] (sp w))
    (hsp : ∀ (w : World) (H : Hp) (a : Addr) (ns : List Int), ns.length ≤ n → Only H → SqL (K w.params) H a (ns.map V.int) → sp w [.ref a] H (fun v _ => v = .bl true) fun _ _ _ => False)
    (hCX : ∀ (w : World) (H : Hp) (s : Shared) (e : Value) (s' : Shared), CX w [] H s (fun _ _ _ => False) e s' → False) :
    PySem.W.WalkO q loose XP YP l.row.toRowW d [] (fun f vs => PySem.call f vs) := by
  refine Att.attach_call hn hdf fun w s₀ s₁ mg mb fa o pm cd doc a vs ns G Y ho hd hcd hmg hobj hints hlen hg => ?_
  have KX := hY w _ Y
  obtain ⟨fd, hb, hF⟩ := F w mg fa _ KX G.T.g hmg
  exact law_call KX G.T.g G.T.b G.T.builtins G.T.nolimit hg hobj hints (Nat.le_trans hlen hn2) hr hF hb (fun H hO hS => hsp w H a ns hlen hO hS) fun H e s' => hCX w H s₁ e s'
end L2
/- THE LAST THEOREM (shape; LID, My.* are yours):
   My.Adr: a structure of the addresses that your layer names (classes, functions); My.Txt K t: a structure (Prop) of the equations over K;
   My.txt_mk : {K} {implicit addresses ..} (e1 : nsIn K mainGlobals "law" = some (some (.ref f))) (e2 : K.lookup f = some ⟨oc, od, .func (fnOf "law" "law" params body scope dV kV doc pm an cdv ct), sl⟩) (e3 : codeIn K cdv "law" = true) .. : ∃ t, My.Txt K t
set_option maxRecDepth 100000 in
set_option maxHeartbeats 0 in
theorem PySem.Challenge.cw_LID_holds : PySem.Challenge.rw_LID.Holds := by
  w_on; o_law; k_head; (case hw => w_witness2)
  k_fill
  refine L2.walk_of (l := PySem.Challenge.rw_LID) (n := 63) (k := 40) (x := "script") (CX := fun w => ..) (sp := fun _ => My.sp_law) rfl (by decide) rfl ⟨rfl, by decide, by decide⟩ (fun w h Y => PySem.W.kIn_of Y) ?F ?S ?C
  case F =>
    intro w mg fa h KX G hmg
    have T : ∃ t, My.Txt (L2.KOf KX) t := by
      dsimp only [L2.KOf]                          -- K must stand as «<heap const> w.params» for k_is
      refine' My.txt_mk ?e1 ?e2 ?e3 ..
      (case e1 => PySem.W.k_is)                    -- in the order: a name -> its address -> its object -> its parts
      (case e2 => PySem.W.k_is)
      ..
    obtain ⟨t, T⟩ := T
    have e0 := hmg.symm.trans (PySem.W.mg_of KX G T.law)
    cases e0                                       -- fa is the law's own address
    exact ⟨_, fun s u => .of_eq rfl, fun base kb nb => My.law_fn T kb nb⟩     -- if «.of_eq rfl» comes too early: refine' ⟨_, ?b, fun base kb nb => My.law_fn T kb nb⟩; exact fun s u => .of_eq rfl
  case S => exact fun w H a ns hl hO hS => ..
  case C => exact ..
(the tactic k_is has no namespace: write k_is) -/
namespace L2
open PySem PySem.Spec PyProof.Rows
abbrev CX0 : CXT := fun _ _ _ _ _ _ => False
abbrev E0 : XK := fun _ _ _ => False
theorem pass0 {X : Cx} : Passes CX0 X E0 := fun _ _ _ _ _ _ _ h => h.elim
structure Fun (K : PySem.W.Frag) (x qual : Str) (st : Stmt) (f : Addr) (fd : FuncData) : Prop where
  ex : ∃ (oc : Value) (od : Option Addr) (kV doc pm : Value) (an : Option Addr) (cdv ct : Value) (osl : Array (Option Value)),
    fd = PySem.W.fnOf x qual (defArgs st) (defBody st) (defScope st) .none kV doc pm an cdv ct ∧ K.lookup f = some ⟨oc, od, .func fd, osl⟩ ∧ PySem.W.codeIn K cdv qual = true
  kp : PySem.W.keepIn K (.ref f) = true
section
variable {P : Program} {w : World} {K : PySem.W.Frag} {mg : Str → Option Value} {base : Heap}
theorem Fun.ok {x qual : Str} {st : Stmt} {f : Addr} {fd : FuncData} {N ps : List Str} {k : Nat} {sp : Sp} (F : Fun K x qual st f fd) (S : FnScope N ps (defScope st)) (len : ∀ vs H Q E, sp vs H Q E → vs.length = ps.length)
    (hbody : ∀ (cdv : Value) (A : Around) (outer : List Env) (s : Shared) (H : Hp) (vs : List V) (Q : VK) (E : XK), Room k (A.deeper (envOfC qual (defScope st) s.heap.objs.size f cdv)) → sp vs H Q E →
      ∃ t, PSs (cxOf CX0 P w K mg base N qual (defScope st) f cdv A outer s H E).nox (defBody st) t ∧ t { nx := fun _ H' => Q .non H', rt := Q } (start N vs) H) : FnOk P w K mg base CX0 (k + 1) f fd ps sp := by
  obtain ⟨oc, od, kV, doc, pm, an, cdv, ct, osl, rfl, lk, hcd⟩ := F.ex
  refine fn_of lk hcd S len fun A outer s H vs Q E hr hsp => ?_
  obtain ⟨t, h, q⟩ := hbody cdv A outer s H vs Q E hr hsp
  exact ⟨t, h.nox, q⟩
theorem Fun.binds {x qual : Str} {st : Stmt} {f : Addr} {fd : FuncData} {ps : List Str} (F : Fun K x qual st f fd)
    (h : ∀ (kV doc pm : Value) (an : Option Addr) (cdv ct : Value) (us : List Value), us.length = ps.length → bindArgs (PySem.W.fnOf x qual (defArgs st) (defBody st) (defScope st) .none kV doc pm an cdv ct) ⟨us, []⟩ = pure (ps.zip us)) : Binds K fd ps [] := by
  obtain ⟨oc, od, kV, doc, pm, an, cdv, ct, osl, rfl, lk, hcd⟩ := F.ex
  exact .all (h kV doc pm an cdv ct)
theorem fun_mk {x qual : Str} {st : Stmt} {f : Addr} {oc : Value} {od an : Option Addr} {osl : Array (Option Value)} {kV doc pm cdv ct : Value} (l : K.lookup f = some ⟨oc, od, .func (PySem.W.fnOf x qual (defArgs st) (defBody st) (defScope st) .none kV doc pm an cdv ct), osl⟩)
    (c : PySem.W.codeIn K cdv qual = true) (k : PySem.W.keepIn K (.ref f) = true) : Fun K x qual st f (PySem.W.fnOf x qual (defArgs st) (defBody st) (defScope st) .none kV doc pm an cdv ct) := ⟨⟨oc, od, kV, doc, pm, an, cdv, ct, osl, rfl, l, c⟩, k⟩
end
section
variable {X : Cx}
theorem pv (i : Nat) {x : Str} {pos : Pos} (hN : X.N[i]? = some x := by rfl) (hv : Vis X.env.scope x := by first | exact Or.inl rfl | exact Or.inr (Or.inl rfl) | exact Or.inr (Or.inr rfl)) (hd : (x == ("__debug__" : Str)) = false := by decide)
    (hcd : (x == ("__classdict__" : Str)) = false := by decide) : PE X (.Name x pos) (tVar i) := pe_var hN hv hd hcd
end
theorem iteF {A B : Prop} (h : B) : if false = true then A else B := by
  rw [if_neg Bool.false_ne_true]
  exact h
theorem iteT {A B : Prop} (h : A) : if true = true then A else B := by
  rw [if_pos rfl]
  exact h
theorem ite2 {c A B : Prop} [Decidable c] (h1 : c → A) (h2 : ¬ c → B) : if c then A else B := by
  by_cases h : c
  · rw [if_pos h]
    exact h1 h
  · rw [if_neg h]
    exact h2 h
def Same (H H' : Hp) : Prop := ∀ b o, H b = some o → H' b = some o
theorem Same.refl (H : Hp) : Same H H := fun _ _ h => h
theorem Same.trans {H H1 H2 : Hp} (a : Same H H1) (b : Same H1 H2) : Same H H2 := fun c o h => b c o (a c o h)
theorem Same.free {H H' : Hp} (e : Same H H') {l : Addr} (h : H' l = Option.none) : H l = Option.none := by
  cases q : H l with
  | none => rfl
  | some o =>
    rw [e l o q] at h
    cases h
theorem Same.seq {K : PySem.W.Frag} {H H' : Hp} {a : Addr} {xs : List V} (e : Same H H') (h : SqL K H a xs) : SqL K H' a xs := by
  rcases h with (h | ⟨o, h⟩) | h
  · exact .inl (.inl (e _ _ h))
  · exact .inl (.inr ⟨o, e _ _ h⟩)
  · exact .inr h
end L2
end
section
open PySem PySem.W PyProof.Rows PySem.Calls PySem.Spec
open Builtin Builtin.ObjectAttr Builtin.Getset_descriptor
namespace EX
section
variable {prog : Program} {w : World} {A : Around} {E : Value → Shared → Prop} {s : Shared} {K : Frag} {x C D : Addr}
theorem ty {M : Model} {h : Heap} {ox : Obj} (hx : h.get? x = some ox) (hc : ox.cls = .ref C) : Looks M h (typeOf (.ref x)) (.ref C) := hc ▸ (Looks.ld hx).andThen .now
theorem check_ga {M : Model} {nameV : Value} {Q : Unit → Shared → Prop} (X : K.In s.heap) (L0 : Looks M s.heap (typeOf (.ref x)) (.ref C)) (hm : mroIn K C (.type "BaseException") = some true) (hq : Q () s) :
    wpAny M A (checkBuiltinCall "BaseException.__getattribute__" ⟨[.ref x, nameV], []⟩) Q E s := by
  obtain ⟨hh, g, dr, t, os⟩ := s
  have L1 := looks_mroIn (M := M) X hm
  have hk : builtinKind "BaseException.__getattribute__" = some .slot := by decide +kernel
  have hsplit : splitId "BaseException.__getattribute__" = some ("BaseException", "__getattribute__") := by decide +kernel
  have ha := F.args_bexc_ga (.ref x) nameV
  simp only [checkBuiltinCall, hk, hsplit]
  refine wpAny_bind ?_
  unfold isInstance
  repeat (first | lk | wp_step)
  exact hq
structure Cls (K : Frag) (D : Addr) : Prop where
  ga : findIn K (.ref D) "__getattribute__" = some (some (.builtin "BaseException.__getattribute__"))
  noHook : findIn K (.ref D) "__getattr__" = some none
  kind : findIn K (.ref D) "__class__" = some (some (.builtin "object.__class__"))
  get : specialIn K (.builtin "object.__class__") "__get__" = some (some (.builtin "getset_descriptor.__get__"))
  takes : takesIn K (.builtin "object.__class__") = some true
  obj : mroIn K D (.type "object") = some true
  exc : mroIn K D (.type "BaseException") = some true
variable {ox : Obj} {Q : Value → Shared → Prop} {h₀ : Heap} {L : Addr} {news : List (Addr × Obj)} {T : String}
end
end EX
end
section
namespace L2
open PySem
abbrev xo (C t : Addr) (od : Option Addr) : Obj := { cls := .ref C, dict := od, data := .fields #[.ref t, .none, .none, .none, .bool false, .none] }
section
variable {prog : Program} {w : World} {A : Around} {E : Value → Shared → Prop} {h : Heap} {g : Array GenState} {d : Drawn} {tk : Nat} {os : OsState}
variable {nm q : Str} {C N fI : Addr} {bs bm bmB : List Value} {hdct : Bool} {sn : List Str} {sub : List Value} {ab : Bool} {col : Option Bool} {dd : Option Addr} {k0 k1 k2 k3 k5 : Option Value} {B newId initId : String}
  {mN : Str → Option Value} {rest : List Value} {oI : Obj}
theorem tcall_init (F : ExcBaseFacts B newId initId bmB) (T : OwnTail h bmB bm) {Q : Fin → Shared → Prop}
    (hC : h.get? C = some (excClassObj nm q C N bs bm hdct sn sub ab col dd k0 k1 k2 k3 k5 newId))
    (hn : h.Ns N mN) (hi : mN "__init__" = some (.ref fI)) (hfI : h.get? fI = some oI) (hfc : oI.cls = .type "function")
    (hq : ∀ h' e, Heap.MadeExcOf h h' e (.ref C) rest → wpAny (model prog w) A (call (.ref fI) (.ref e :: rest)) (fun r s' => r = .none ∧ Q (.done (.ret (.ref e))) s') E ⟨h', g, d, tk, os⟩)
    (hrest : rest.length ≤ sizeLine) : wpAny (model prog w) A (Builtin.«type.__call__» ⟨.ref C :: rest, []⟩) Q E ⟨h, g, d, tk, os⟩ := by
  repeat (first
    | with_reducible refine wpAny_loadPart_at hC ?_
    | with_reducible refine wpAny_madeBy_exc hC ?_
    | wp_step)
  refine codeAny_call_builtin_code (Code.quiet_builtin _ F.quiet) (wpAny_check_new_subT F T hC (codeAny_exc_new_subT F T hC ?_ hrest))
  show wpAny _ _ _ _ _ _
  let tu : Obj := { cls := .type "tuple", data := .seq rest.toArray }
  let h2 : Heap := (h.push tu).push (xo C h.objs.size none)
  have up : ∀ b o, h.get? b = some o → h2.get? b = some o := fun b o z => Heap.get?_push_of_some _ (Heap.get?_push_of_some _ z)
  have hget : h2.get? (h.objs.size + 1) = some (xo C h.objs.size none) := by heap_get
  have hC2 := up _ _ hC
  have hn2 : h2.Ns N mN := by
    obtain ⟨o, es, ep, z, r⟩ := hn
    exact ⟨o, es, ep, up _ _ z, r⟩
  have T2 := T.keeps (h' := h2) up
  have hcC : (Value.ref C :: bm).contains (.ref C) = true := by simp
  show wpAny _ _ _ _ _ ⟨h2, g, d, tk, os⟩
  unfold isInstance
  repeat (first
    | with_reducible refine wpAny_loadPart_at hget ?_
    | (with_reducible refine wpAny_isSubtype_exc hC2 ?_; rw [hcC])
    | wp_step)
  show wpAny _ _ (typeLookup (.ref C) _) _ _ _
  refine wpAny_typeLookup_tail hC2 hn2 T2 F.mroIs F.init.lookup ?_
  rw [hi]
  refine wpAny_holding (wpAny_bind ?_)
  unfold bindSpecial
  refine wpAny_bind (wpAny_typeOf (T := "function") ⟨_, up _ _ hfI, hfc⟩ ?_)
  rw [if_pos (by decide)]
  have M : Heap.MadeExcOf h h2 (h.objs.size + 1) (.ref C) rest := by
    refine ⟨up, Heap.get?_none_of_le (Nat.le_succ _), h.objs.size, hget, Heap.get?_none_of_le (Nat.le_refl _), ?_⟩
    exact Heap.get?_push_of_some _ (Heap.get?_push_at rfl rfl)
  refine wpAny_pure (wpAny_bind (wpAny_mono (hq _ _ M) (fun r s' hr => ?_) fun _ _ z => z))
  obtain ⟨rfl, hQ⟩ := hr
  wp_walk
  exact hQ
theorem call_init (F : ExcBaseFacts B newId initId bmB) (T : OwnTail h bmB bm) {Q : Value → Shared → Prop}
    (hC : h.get? C = some (excClassObj nm q C N bs bm hdct sn sub ab col dd k0 k1 k2 k3 k5 newId))
    (hn : h.Ns N mN) (hi : mN "__init__" = some (.ref fI)) (hfI : h.get? fI = some oI) (hfc : oI.cls = .type "function")
    (hq : ∀ h' e, Heap.MadeExcOf h h' e (.ref C) rest →
      wpAny (model prog w) (A.under (.builtin "type.__call__" ⟨.ref C :: rest, []⟩)) (call (.ref fI) (.ref e :: rest)) (fun r s' => r = .none ∧ Q (.ref e) s') E ⟨h', g, d, tk, os⟩)
    (hrest : rest.length ≤ sizeLine) : wpAny (model prog w) A (call (.ref C) rest) Q E ⟨h, g, d, tk, os⟩ := by
  have e1 := tc_lookup
  have e2 := tc_bind (.ref C)
  have e3 : (⟨h, g, d, tk, os⟩ : Shared).TypeIs (.ref C) "type" := ⟨_, hC, rfl⟩
  refine wpAny_call (codeAny_of_tree ?_)
  show wpAny _ _ (callAny (.ref C) _) _ _ _
  repeat (any_goals (first
    | assumption
    | with_reducible refine wpAny_loadPart_at hC ?_
    | wp_step))
  refine ⟨rfl, codeAny_call_builtin_at (Code.quiet_builtin _ (by decide +kernel)) entry_typeCall (wpAny_check_type_call_sub hC ?_)⟩
  exact tcall_init F T hC hn hi hfI hfc (fun h' e hm => hq h' e hm) hrest
end
section
variable {prog : Program} {w : World} {M : Model} {A : Around} {E : Value → Shared → Prop} {s : Shared} {env : Env}
variable {nm q : Str} {C N fI : Addr} {bs bm bmB : List Value} {hdct : Bool} {sn : List Str} {sub : List Value} {ab : Bool} {col : Option Bool} {dd : Option Addr} {k0 k1 k2 k3 k5 : Option Value} {B newId initId : String}
theorem raiseStmt_of {x : Sem Value} {Q : Flow → Shared → Prop} (hbase : bm.contains (.type "BaseException") = true) (hh : A.handled = none)
    (h : wpAny M A x (fun v s₁ => ∃ e t od, v = .ref e ∧ s₁.heap.get? C = some (excClassObj nm q C N bs bm hdct sn sub ab col dd k0 k1 k2 k3 k5 newId) ∧ s₁.heap.get? e = some (xo C t od) ∧ E (.ref e) s₁) E s) :
    wpAny M A (raiseStmt env (some x) none) Q E s := by
  have hcB : (Value.ref C :: bm).contains (.type "BaseException") = true := by rw [List.contains_cons, hbase, Bool.or_true]
  unfold raiseStmt
  refine wpAny_bind (wpAny_mono h (fun v s₁ h₁ => ?_) fun _ _ z => z)
  obtain ⟨e, t, od, rfl, hC, he, hE⟩ := h₁
  obtain ⟨hp, g, d, tk, os⟩ := s₁
  repeat (first
    | with_reducible refine wpAny_loadPart_at he ?_
    | with_reducible refine wpAny_loadPart_at hC ?_
    | (with_reducible refine wpAny_isSubtype_exc hC ?_; rw [hcB])
    | wp_step)
  exact wpAny_raiseNew_none hh hE
theorem Raise_init (F : ExcBaseFacts B newId initId bmB) {mN : Str → Option Value} {x : Str} {np cpos pos : Pos} {args : List Expr} {Q : Flow → Shared → Prop}
    (hbase : bm.contains (.type "BaseException") = true) (hh : A.handled = none) (hplain : (backTo cpos (starEach args env)).any (·.1) = false) (hi : mN "__init__" = some (.ref fI))
    (h : wpAny (model prog w) A (eval (.Name x np) env) (fun f s₁ => f = .ref C ∧ wpAny (model prog w) A (evalArgs (.ref C) true (backTo cpos (starEach args env)) [])
      (fun a s₂ => a.kw = [] ∧ a.pos.length ≤ sizeLine ∧ s₂.heap.get? C = some (excClassObj nm q C N bs bm hdct sn sub ab col dd k0 k1 k2 k3 k5 newId) ∧ s₂.heap.Ns N mN ∧ OwnTail s₂.heap bmB bm ∧ (∃ oI, s₂.heap.get? fI = some oI ∧ oI.cls = .type "function") ∧
        ∀ h' e, Heap.MadeExcOf s₂.heap h' e (.ref C) a.pos → wpAny (model prog w) (A.under (.builtin "type.__call__" ⟨.ref C :: a.pos, []⟩)) (call (.ref fI) (.ref e :: a.pos))
          (fun r s' => r = .none ∧ s'.heap.get? C = some (excClassObj nm q C N bs bm hdct sn sub ab col dd k0 k1 k2 k3 k5 newId) ∧ (∃ t od, s'.heap.get? e = some (xo C t od)) ∧ E (.ref e) s') E { s₂ with heap := h' }) E s₁) E s) :
    wpAny (model prog w) A (exec (.Raise (some (.Call (.Name x np) args [] cpos)) none pos) env) Q E s := by
  rw [arm_exec_Raise]
  simp only [evalOpt, Option.map]
  refine wpAny_bind (wpAny_standAt (raiseStmt_of (C := C) (nm := nm) (q := q) (N := N) (bs := bs) (bm := bm) (hdct := hdct) (sn := sn) (sub := sub) (ab := ab) (col := col) (dd := dd) (k0 := k0) (k1 := k1) (k2 := k2) (k3 := k3) (k5 := k5) (newId := newId) hbase hh ?_))
  refine wpAny_bind (wpAny_mono (wpAny_Call_ofName (wpAny_mono h (fun f s₁ h₁ => ?_) fun _ _ z => z)) (fun v s₃ h₃ => wpAny_bind (wpAny_standAt (wpAny_pure h₃))) fun _ _ z => z)
  obtain ⟨rfl, h₁⟩ := h₁
  unfold callWith
  refine wpAny_bind (wpAny_holding (wpAny_mono h₁ (fun a s₂ h₂ => wpAny_bind (wpAny_standAt ?_)) fun _ _ z => z))
  obtain ⟨apos, akw⟩ := a
  obtain ⟨hkw, hlen, hC, hn, T, ⟨oI, hfI, hfc⟩, h₂⟩ := h₂
  obtain rfl : akw = [] := hkw
  obtain ⟨hp, g, d, tk, os⟩ := s₂
  simp only [hplain]
  refine wpAny_bind (wpAny_keeperOf_exc hC ?_)
  refine wpAny_bind (call_init F T hC hn hi hfI hfc (fun h' e hm => wpAny_mono (h₂ h' e hm) (fun r s' z => ⟨z.1, ?_⟩) fun _ _ z => z) hlen)
  obtain ⟨_, zC, ⟨t, od, ze⟩, zE⟩ := z
  exact wpAny_bind (wpAny_holding (wpAny_point (wpAny_pure ⟨e, t, od, rfl, zC, ze, zE⟩)))
end
end L2
end
section
namespace L2
open PySem
section
variable {M : Model} {A : Around} {E : Value → Shared → Prop} {s : Shared} {base : Heap} {env : Env} {outer l : List Env} {L e : Addr} {cls a0 fl : Value} {od : Option Addr}
def Dc (h : Heap) (e : Addr) (od : Option Addr) : Prop := ∃ o, h.get? e = some o ∧ o.dict = od
theorem dict_mapFields (o : Obj) (f : Array Value → Array Value) : (Obj.mapFields f o).dict = o.dict := by
  unfold Obj.mapFields
  split <;> rfl
theorem upd_other {h : Heap} {T b : Addr} {f : Obj → Obj} (n : b ≠ T) : (h.update T f).get? b = h.get? b := Heap.get?_update_other _ _ (Ne.symm n)
theorem Dc.upd {h : Heap} {T : Addr} {oT : Obj} {ts : Array Value} {f : Array Value → Array Value} (x : Dc h e od) (hT : h.get? T = some oT) (hd : oT.data = .fields ts) : Dc (h.update T (Obj.mapFields f)) e od := by
  obtain ⟨o, ho, hod⟩ := x
  by_cases n : e = T
  · subst n
    rw [hT] at ho
    cases ho
    exact ⟨_, Heap.get?_update_self _ hT (Obj.isFreed_of_fields (Obj.data_mapFields hd f)), (dict_mapFields _ _).trans hod⟩
  · exact ⟨o, (upd_other n).trans ho, hod⟩
theorem entryD {oe : Obj} {vs : Array Value} {head : Value} {hadNext : Bool} {Q : Unit → Shared → Prop} (hfr : A.frames = some (env :: outer)) (hl : s.heap.FunFrames base (env :: outer)) (hf : env.frame = some L)
    (he : s.heap.get? e = some oe) (hkb : base.StaysIn s.heap) (hen : base.get? e = none) (hd : oe.data = .fields vs) (hsz : 1 < vs.size) (h0 : vs[0]? = some a0)
    (k : ∀ h', Heap.NotedW base (env :: outer) e oe.cls a0 (rawInt L) s.heap h' → Dc h' e oe.dict → Q () { s with heap := h' }) :
    wpAny M A (do
      let a ← frameOf env
      let pl ← entryPlaceOf L hadNext
      let b ← EntryCells.newEntry head a .none (rawInt L) .none pl
      setField (.ref e) 1 b) Q E s := by
  have nin : e ∉ (env :: outer).filterMap (·.frame) := fun hm => by
    obtain ⟨_, o, ho, hnf⟩ := hl.mem hm
    rw [he] at ho
    cases ho
    exact hnf vs hd
  refine wpAny_bind (wpAny_frameOf_fun hfr hl hf fun h1 hs1 => wpAny_bind (wpAny_entryPlaceOf fun pl hpl => ?_))
  unfold EntryCells.newEntry newFields
  refine wpAny_bind (wpAny_newObj_type ?_ (hpl.sizeOk5 _ _ _ _ _))
  generalize htb : ([head, .ref L, .none, rawInt L, .none] ++ (if pl.isEmpty then List.replicate 6 Value.none else pl)) = tb
  have h3 : tb.toArray[3]? = some (rawInt L) := by rw [← htb]; simp
  have e1 : h1.get? e = some oe := (hs1.2.1 e nin).trans he
  have b1 : base.StaysIn h1 := fun b o z => (hs1.2.1 b fun hm => by rw [(hl.mem hm).1] at z; cases z).trans (hkb b o z)
  have pu : ∀ b o, h1.get? b = some o → (h1.push { cls := .type "traceback", dict := none, data := .fields tb.toArray }).get? b = some o := fun b o z => Heap.get?_push_of_some _ z
  have hT : (h1.push { cls := .type "traceback", dict := none, data := .fields tb.toArray }).get? h1.objs.size = some { cls := .type "traceback", dict := none, data := .fields tb.toArray } := Heap.get?_push_size h1 rfl
  have fr : base.get? h1.objs.size = none := b1.fresh
  have nT : h1.objs.size ≠ e := Nat.ne_of_gt (Heap.lt_size e1)
  have lt : ∀ b o, h1.get? b = some o → b ≠ h1.objs.size := fun b o z => Nat.ne_of_lt (Heap.lt_size z)
  refine wpAny_setField (pu _ _ e1) hd hsz ?_
  have e2 := pu _ _ e1
  generalize h1.push { cls := .type "traceback", dict := none, data := .fields tb.toArray } = h2 at *
  generalize h1.objs.size = T at *
  have d3 := Obj.data_mapFields hd (·.setIfInBounds 1 (Value.ref T))
  have e3 := Heap.get?_update_self (Obj.mapFields (·.setIfInBounds 1 (Value.ref T))) e2 (Obj.isFreed_of_fields d3)
  have noR : ∀ b o, s.heap.get? b = some o → (∀ ws, o.data ≠ .fields ws) → b ≠ e := fun b o z hnf y => by
    rw [y, he] at z
    cases z
    exact hnf vs hd
  refine k _ ⟨fun b o z => ?_, hl.of_keeps fun b o z hnf => ?_, ?_, fun b o z hnf => ?_⟩ ⟨_, e3, dict_mapFields _ _⟩
  · rw [upd_other (fun y => by rw [y, hen] at z; cases z)]
    exact pu _ _ (b1 b o z)
  · obtain ⟨sl, y⟩ := hs1.2.2 b o z
    exact ⟨_, (upd_other (noR b o z hnf)).trans (pu _ _ y), rfl⟩
  · exact ⟨_, _, T, _, _, e3, ⟨Obj.cls_mapFields _ _, by rw [Array.getElem?_setIfInBounds_ne (by decide)]; exact h0⟩, d3, by simp [hsz], fr, nT, (upd_other nT).trans hT, rfl, h3⟩
  · obtain ⟨sl, y⟩ := hs1.2.2 b o z
    exact ⟨sl, (upd_other (noR b o z hnf)).trans (pu _ _ y)⟩
theorem landD {Q : Unit → Shared → Prop} (hkb : base.StaysIn s.heap) (hl : s.heap.FunFrames base l) (ht : s.heap.TracedAtW base e cls a0 fl) (hc : Dc s.heap e od)
    (k : ∀ h', base.StaysIn h' → h'.FunFrames base l → h'.TracedW base e cls a0 → s.heap.UpToSlots h' → Dc h' e od → Q () { s with heap := h' }) : wpAny M A (setFlight (.ref e) none) Q E s := by
  obtain ⟨oe, vs, T, oT, ts, he, hcls, hd, h1, hnT, hTe, hT, hdT, h3⟩ := ht
  have z3 : 3 < ts.size := (Array.getElem?_eq_some_iff.mp h3).1
  have noR : ∀ b o, s.heap.get? b = some o → (∀ ws, o.data ≠ .fields ws) → b ≠ T := fun b o z hnf y => by
    rw [y, hT] at z
    cases z
    exact hnf ts hdT
  unfold setFlight
  refine wpAny_bind (wpAny_field he hd h1 ?_)
  rw [if_pos (show (Value.ref T != Value.none) = true from by simp)]
  refine wpAny_setField hT hdT z3 (k _ (fun b o z => ?_) (hl.of_keeps fun b o z hnf => ⟨o, (upd_other (noR b o z hnf)).trans z, rfl⟩) ?_ (fun b o z hnf => ⟨o.slots, (upd_other (noR b o z hnf)).trans z⟩) (hc.upd hT hdT))
  · rw [upd_other (fun y => by rw [y, hnT] at z; cases z)]
    exact hkb b o z
  · exact ⟨oe, vs, T, _, _, (upd_other (Ne.symm hTe)).trans he, hcls, hd, h1, hnT, hTe, Heap.get?_update_self _ hT (Obj.isFreed_of_fields (Obj.data_mapFields hdT _)), Obj.data_mapFields hdT _, by simp [z3]⟩
theorem noteD {Q : Unit → Shared → Prop} (hfr : A.frames = some (env :: outer)) (hf : env.frame = some L) (x : Heap.FlyingW base (env :: outer) e cls a0 s.heap) (hc : Dc s.heap e od)
    (k : ∀ h', Heap.HeldW base (env :: outer) e cls a0 L h' → s.heap.UpToSlots h' → Dc h' e od → Q () { s with heap := h' }) : wpAny M A (noteFrame (.ref e) env) Q E s := by
  obtain ⟨hkb, hen, hl, oe, vs, T, oT, ts, he, ⟨hcls, h0⟩, hd, h1, hnT, hTe, hT, hdT, h3⟩ := x
  subst hcls
  unfold noteFrame
  simp only [hf]
  refine wpAny_bind (wpAny_field he hd h1 ?_)
  rw [if_pos (show (Value.ref T != Value.none) = true from by simp)]
  refine wpAny_bind (wpAny_field hT hdT h3 ?_)
  rw [if_neg (show ¬ ((Value.none == rawInt L) = true) from by simp [rawInt])]
  have noR : ∀ b o, s.heap.get? b = some o → (∀ ws, o.data ≠ .fields ws) → b ≠ T := fun b o z hnf y => by
    rw [y, hT] at z
    cases z
    exact hnf ts hdT
  have hod : oe.dict = od := by
    obtain ⟨o, ho, q⟩ := hc
    rw [he] at ho
    cases ho
    exact q
  refine wpAny_bind (wpAny_setField hT hdT (Array.getElem?_eq_some_iff.mp h3).1 ?_)
  refine entryD hfr (hl.of_keeps fun b o z hnf => ⟨o, (upd_other (noR b o z hnf)).trans z, rfl⟩) hf ((upd_other (Ne.symm hTe)).trans he) (fun b o z => ?_) hen hd (Array.getElem?_eq_some_iff.mp h1).1 h0 fun h' N D => ?_
  · rw [upd_other (fun y => by rw [y, hnT] at z; cases z)]
    exact hkb b o z
  · obtain ⟨x1, x2, x3, x4⟩ := N
    exact k h' ⟨x1, hen, x2, x3⟩ (fun b o z hnf => x4 b o ((upd_other (noR b o z hnf)).trans z) hnf) (hod ▸ D)
theorem landsD {Q : Unit → Shared → Prop} (x : Heap.HeldW base l e cls a0 L s.heap) (hc : Dc s.heap e od)
    (k : ∀ h', Heap.FlyingW base l e cls a0 h' → s.heap.UpToSlots h' → Dc h' e od → Q () { s with heap := h' }) : wpAny M A (setFlight (.ref e) none) Q E s := by
  obtain ⟨f1, f2, f3, f4⟩ := x
  exact landD f1 f3 f4 hc fun h' k1 k2 k3 k4 k5 => k h' ⟨k1, f2, k2, k3⟩ k4 k5
theorem againD {Q : Unit → Shared → Prop} (x : Heap.FlyingW base l e cls a0 s.heap) (hc : Dc s.heap e od)
    (k : ∀ h', Heap.FlyingW base l e cls a0 h' → s.heap.UpToSlots h' → Dc h' e od → Q () { s with heap := h' }) : wpAny M A (setFlight (.ref e) none) Q E s := by
  obtain ⟨f1, f2, f3, f4⟩ := x
  exact landD f1 f3 f4.at hc fun h' k1 k2 k3 k4 k5 => k h' ⟨k1, f2, k2, k3⟩ k4 k5
theorem leavesD {Q : Unit → Shared → Prop} (hfr : A.frames = some (env :: outer)) (hf : env.frame = some L) (x : Heap.FlyingW base (env :: outer) e cls a0 s.heap) (hc : Dc s.heap e od)
    (k : ∀ h', Heap.FlyingW base outer e cls a0 h' → s.heap.UpToSlots h' → Dc h' e od → Q () { s with heap := h' }) : wpAny M A (leaving env (.ref e)) Q E s := by
  unfold leaving
  refine wpAny_bind (noteD hfr hf x hc fun h1 H1 u1 c1 => landsD (s := { s with heap := h1 }) H1 c1 fun h2 F2 u2 c2 => ?_)
  obtain ⟨g1, g2, ⟨_, _, g3⟩, g4⟩ := F2
  exact k h2 ⟨g1, g2, g3, g4⟩ (u1.trans u2) c2
theorem firstD {C t : Addr} {Q : Unit → Shared → Prop} (hfr : A.frames = some (env :: outer)) (hf : env.frame = some L) (hkb : base.StaysIn s.heap) (hen : base.get? e = none) (hl : s.heap.FunFrames base (env :: outer)) (he : s.heap.get? e = some (xo C t od))
    (k : ∀ h', Heap.FlyingW base outer e (.ref C) (.ref t) h' → s.heap.UpToSlots h' → Dc h' e od → Q () { s with heap := h' }) : wpAny M A (leaving env (.ref e)) Q E s := by
  unfold leaving noteFrame
  simp only [hf]
  refine wpAny_bind (wpAny_bind (wpAny_field he rfl (x := .none) rfl ?_))
  rw [if_neg (by decide)]
  refine entryD (a0 := .ref t) hfr hl hf he hkb hen rfl (by show (1 : Nat) < 6; decide) rfl fun h1 N D => ?_
  obtain ⟨x1, x2, x3, x4⟩ := N
  refine landD (s := { s with heap := h1 }) x1 x2 x3 D fun h2 k1 k2 k3 k4 k5 => ?_
  obtain ⟨_, _, k2⟩ := k2
  exact k h2 ⟨k1, hen, k2, k3⟩ (Heap.UpToSlots.trans x4 k4) k5
end
end L2
end
section
namespace L2
open PySem PySem.Spec PyProof.Rows
def VB : List Value := [.type "ValueError", .type "Exception", .type "BaseException", .type "object"]
def nsPlain (K : PySem.W.Frag) (N : Addr) : Bool := match K.lookup N with
  | some ⟨_, _, .dict es _, _⟩ => es.toList.all fun e => match e.key with | .str _ _ => true | _ => false
  | _ => false
def noInit (K : PySem.W.Frag) (N : Addr) : Bool := nsPlain K N && (match PySem.W.nsIn K N "__init__" with | some none => true | _ => false)
theorem noInit_ns {K : PySem.W.Frag} {N : Addr} {h₀ : Heap} (X₀ : K.In h₀) (e : noInit K N = true) : ∃ mN : Str → Option Value, mN "__init__" = none ∧ ∀ h : Heap, K.In h → h.Ns N mN := by
  unfold noInit at e
  simp only [Bool.and_eq_true] at e
  obtain ⟨e1, e2⟩ := e
  unfold nsPlain at e1
  split at e1
  · rename_i c d es ep sl hl
    have sk : StrKeys es := fun en hen => by
      have q := (List.all_eq_true.mp e1) en (by simpa using hen)
      split at q
      · rename_i n t hk
        exact ⟨n, t, hk⟩
      · cases q
    have hN : ∀ h : Heap, K.In h → h.Ns N (nsFind es) := fun h X => ⟨_, es, ep, X _ _ hl, rfl, sk, fun _ => rfl⟩
    refine ⟨nsFind es, ?_, hN⟩
    split at e2
    · rename_i q
      exact PySem.W.ns_none_of X₀ (hN h₀ X₀) q
    · cases e2
  · cases e1
def tailOk (K : PySem.W.Frag) : List Value → Bool
  | [] => false
  | v :: tl => match v with
    | .ref A => (match K.lookup A with | some ⟨_, _, .cls cd, _⟩ => noInit K cd.ns | _ => false) && tailOk K tl
    | _ => (v :: tl) == VB
theorem tail_own {K : PySem.W.Frag} {h₀ : Heap} (X₀ : K.In h₀) : ∀ {l : List Value}, tailOk K l = true → ∀ h : Heap, K.In h → OwnTail h VB l
  | [], e, _, _ => by cases e
  | v :: tl, e, h, X => by
    unfold tailOk at e
    split at e
    · rename_i A
      simp only [Bool.and_eq_true] at e
      obtain ⟨e1, e2⟩ := e
      split at e1
      · rename_i c0 dd cd sl hl
        obtain ⟨mN, hi, hN⟩ := noInit_ns X₀ e1
        exact .own (X _ _ hl) (hN h X) hi (tail_own X₀ e2 h X)
      · cases e1
    · rw [beq_iff_eq.mp e]
      exact .base
def excIn (K : PySem.W.Frag) (C : Addr) : Bool := match K.lookup C with
  | some ⟨.type "type", _, .cls cd, sl⟩ => (match cd.mro, sl.toList with
    | .ref C' :: bm, [_, _, _, _, some (.builtin n), _] => C' == C && !cd.hasDel && n == "ValueError.__new__" && noInit K cd.ns && tailOk K bm
    | _, _ => false)
  | _ => false
theorem excIn_obj {K : PySem.W.Frag} {h₀ : Heap} {C : Addr} (X₀ : K.In h₀) (q : excIn K C = true) : ∃ bm N nm qn bs hdct sn sub ab col dd k0 k1 k2 k3 k5 mN, mN "__init__" = none ∧
    ∀ h : Heap, K.In h → h.get? C = some (excClassObj nm qn C N bs bm hdct sn sub ab col dd k0 k1 k2 k3 k5 "ValueError.__new__") ∧ h.Ns N mN ∧ OwnTail h VB bm := by
  unfold excIn at q
  split at q
  · rename_i dd cd sl ho
    split at q
    · rename_i C' bm k0 k1 k2 k3 n k5 hm hs
      simp only [Bool.and_eq_true, beq_iff_eq, Bool.not_eq_true'] at q
      obtain ⟨⟨⟨⟨rfl, hdel⟩, rfl⟩, hi⟩, ht⟩ := q
      obtain ⟨nm, bs, mro, ns, qn, hd, sn, sub, ab, col, del⟩ := cd
      dsimp only at hm hdel hi
      subst hm hdel
      have hsl : sl = #[k0, k1, k2, k3, some (.builtin "ValueError.__new__"), k5] := by
        obtain ⟨l⟩ := sl
        simp only at hs
        rw [hs]
      subst hsl
      obtain ⟨mN, hi, hN⟩ := noInit_ns X₀ hi
      exact ⟨bm, ns, nm, qn, bs, hd, sn, sub, ab, col, dd, k0, k1, k2, k3, k5, mN, hi, fun h X => ⟨X _ _ ho, hN h X, tail_own X₀ ht h X⟩⟩
    · cases q
  · cases q
theorem ObjOk.is {P : Program} {w : World} {H : Hp} {h : Heap} {a : Addr} {o : HO} (x : ObjOk P w H h a o) : ∃ ob, h.get? a = some ob := by
  cases o with
  | lst xs => obtain ⟨_, _, _, _, e⟩ := x; exact ⟨_, e⟩
  | tup xs => obtain ⟨_, _, _, ob, e, _⟩ := x; exact ⟨_, e⟩
  | dK kvs => obtain ⟨_, _, _, _, o, _, _, e, _⟩ := x; exact ⟨_, e⟩
  | dT kvs => obtain ⟨_, _, _, _, o, _, _, e, _⟩ := x; exact ⟨_, e⟩
  | set S n => obtain ⟨o, _, _, _, e, _⟩ := x; exact ⟨_, e⟩
  | ins C dx fs => obtain ⟨_, _, _, e, _⟩ := x; exact ⟨_, e⟩
  | own y => obtain ⟨_, e⟩ := x; exact ⟨_, e⟩
  | xd fs => obtain ⟨_, ⟨_, _, _, e, _⟩, _⟩ := x; exact ⟨_, e⟩
  | rng lo hi => obtain ⟨_, _, _, e⟩ := x; exact ⟨_, e⟩
  | frz ob u => obtain ⟨e, _⟩ := x; exact ⟨_, e⟩
  | tbl ps => exact ⟨_, (show h.get? a = some _ from x)⟩
  | met f y => exact ⟨_, (show h.get? a = some _ from x)⟩
  | ext φ => obtain ⟨_, ⟨_, e⟩, _⟩ := x; exact ⟨_, e⟩
def CXr (P : Program) (w : World) : CXT := fun outer H s E x s' => ∃ (e : Addr) (C a0 : Value) (H' : Hp) (B : Heap), x = .ref e ∧ s'.os = s.os ∧ AllBare s'.gens ∧ Un (frs outer) [] H H' s.heap s'.heap ∧ HOk P w H' s'.heap ∧
  Heap.FlyingW B outer e C a0 s'.heap ∧ (∀ b u, H' b = some u → ∃ o, B.get? b = some o) ∧ (∀ b o, s.heap.get? b = some o → b ∉ frs outer → ∃ o', B.get? b = some o' ∧ (H b = none → o' = o)) ∧ ∃ od, Dc s'.heap e od ∧ E C od H'
def Raises (X : Cx) (E : XK) : Prop := ∀ (pins : List (Addr × Obj)) (σ : St) (H : Hp) (s : Shared) (e C : Addr) (vs : List Value) (h' : Heap), Inv X pins σ H s → Heap.MadeExcOf s.heap h' e (.ref C) vs → E (.ref C) none H →
  X.xe (.ref e) { s with heap := h' }
section
variable {P : Program} {w : World} {K : PySem.W.Frag} {mg : Str → Option Value} {base : Heap} {N : List Str} {qual : Str} {scope : Scope} {f : Addr} {cd : Value} {A : Around} {outer : List Env} {s₀ : Shared} {H₀ : Hp} {E : XK}
abbrev cxR (P : Program) (w : World) (K : PySem.W.Frag) (mg : Str → Option Value) (base : Heap) (N : List Str) (qual : Str) (scope : Scope) (f : Addr) (cd : Value) (A : Around) (outer : List Env) (s : Shared) (H : Hp) (E : XK) : Cx :=
  cxOf (CXr P w) P w K mg base N qual scope f cd A outer s H E
theorem passesOwnR : PassesOwn (model P w) (cxR P w K mg base N qual scope f cd A outer s₀ H₀ E).A (cxR P w K mg base N qual scope f cd A outer s₀ H₀ E).env (cxR P w K mg base N qual scope f cd A outer s₀ H₀ E).xe := PassesOwn.leaving
theorem hok_stays {H : Hp} {h h' B : Heap} (ok : HOk P w H h) (k : ∀ b u, H b = some u → ∃ o, B.get? b = some o) (s1 : ∀ b o, B.get? b = some o → h.get? b = some o) (s2 : ∀ b o, B.get? b = some o → h'.get? b = some o) : HOk P w H h' := fun a u e =>
  (ok a u e).stay (fun b v hb q => by
    obtain ⟨o, z⟩ : ∃ o, B.get? b = some o := by
      rcases hb with rfl | hb
      · exact k _ _ e
      · exact k _ _ hb
    have z1 := s1 b o z
    rw [q] at z1
    cases z1
    exact s2 b _ z) (fun _ q => q) fun _ _ q => q
theorem raisesG {pins : List (Addr × Obj)} {σ : St} {H : Hp} {s : Shared} {e C t : Addr} {od : Option Addr} (I : Inv (cxR P w K mg base N qual scope f cd A outer s₀ H₀ E) pins σ H s) (he : s.heap.get? e = some (xo C t od)) (hn : s₀.heap.get? e = none) (hH : H e = none) (q : E (.ref C) od H) : (cxR P w K mg base N qual scope f cd A outer s₀ H₀ E).xe (.ref e) s := by
  have noA : ∀ b : Addr, b ∉ (cxR P w K mg base N qual scope f cd A outer s₀ H₀ E).ex := fun b z => absurd (show b ∈ ([] : List Addr) from z) (by simp)
  have lt0 : ∀ b o, s₀.heap.get? b = some o → b ≠ (cxR P w K mg base N qual scope f cd A outer s₀ H₀ E).env.locals := fun b o z => Nat.ne_of_lt (Nat.lt_of_lt_of_le (Heap.lt_size z) I.ok.above)
  have hin : ∀ env ∈ (cxR P w K mg base N qual scope f cd A outer s₀ H₀ E).stack, ∀ b, env.frame = some b → b ∈ e :: frs (cxR P w K mg base N qual scope f cd A outer s₀ H₀ E).stack := fun env he b hb => List.mem_cons_of_mem _ (List.mem_filterMap.mpr ⟨env, he, hb⟩)
  have nin : ∀ b o, s₀.heap.get? b = some o → b ∉ frs outer → b ∉ e :: frs (cxR P w K mg base N qual scope f cd A outer s₀ H₀ E).stack := fun b o z h1 y => by
    rcases List.mem_cons.mp y with y | y
    · rw [y, hn] at z; cases z
    · rcases List.mem_cons.mp (I.stkSub b y) with y | y
      · exact lt0 b o z y
      · exact h1 y
  show wpAny (model P w) (A.deeper (envOfC qual scope s₀.heap.objs.size f cd)) (leaving (envOfC qual scope s₀.heap.objs.size f cd) (.ref e)) _ _ _
  refine firstD (base := PySem.W.hideAll s.heap (e :: frs (cxR P w K mg base N qual scope f cd A outer s₀ H₀ E).stack)) (L := s₀.heap.objs.size) I.ok.frames rfl (fun b o z => PySem.W.of_hideAll _ z) (PySem.W.hideAll_none _ (List.mem_cons_self ..)) (PySem.W.funFrames_hide I.stack hin) he fun h'' x1 x4 x5 => ?_
  have st : ∀ b o, s.heap.get? b = some o → b ∉ e :: frs (cxR P w K mg base N qual scope f cd A outer s₀ H₀ E).stack → (PySem.W.hideAll s.heap (e :: frs (cxR P w K mg base N qual scope f cd A outer s₀ H₀ E).stack)).get? b = some o := fun b o z n => PySem.W.hideAll_get _ z n
  have c1 : ∀ b u, H b = some u → ∃ o, (PySem.W.hideAll s.heap (e :: frs (cxR P w K mg base N qual scope f cd A outer s₀ H₀ E).stack)).get? b = some o := fun b u z => by
    obtain ⟨ob, zb⟩ := (I.hok b u z).is
    refine ⟨ob, st b ob zb fun m => ?_⟩
    rcases List.mem_cons.mp m with m | m
    · rw [m, hH] at z; cases z
    · rw [I.stkFree b m] at z; cases z
  refine ⟨e, .ref C, .ref t, H, _, rfl, I.os, I.bare, ⟨fun b o z n hb _ => ?_, fun b o z n hb _ => ?_, fun b o z n _ => I.base.free b o z n (noA b), fun b o z _ => ?_, I.base.tups, I.base.frzs, I.base.tbls⟩, ?_, x1, c1, fun b o z hb => ?_, od, x5, q⟩
  · exact x1.1 b o (st b o (I.base.keep b o z n hb (noA b)) (nin b o z hb))
  · obtain ⟨sl, e1⟩ := I.base.slot b o z n hb (noA b)
    obtain ⟨o2, ho2, hd2⟩ := (I.ok.funs.mem hb).2
    have z2 : s₀.heap.get? b = some o2 := ho2
    rw [z] at z2
    cases z2
    obtain ⟨sl', e2⟩ := x4 b _ e1 hd2
    exact ⟨sl', e2⟩
  · by_cases hb : b ∈ frs outer
    · obtain ⟨sl, e1⟩ := I.base.slot b o z (I.ok.frf b hb) hb (noA b)
      obtain ⟨o2, ho2, hd2⟩ := (I.ok.funs.mem hb).2
      have z2 : s₀.heap.get? b = some o2 := ho2
      rw [z] at z2
      cases z2
      obtain ⟨sl', e2⟩ := x4 b _ e1 hd2
      exact ⟨_, e2⟩
    · obtain ⟨o1, e1⟩ := I.base.there b o z (noA b)
      exact ⟨o1, x1.1 b o1 (st b o1 e1 (nin b o z hb))⟩
  · exact hok_stays I.hok c1 (fun b o z => PySem.W.of_hideAll _ z) x1.1
  · obtain ⟨o1, e1⟩ := I.base.there b o z (noA b)
    refine ⟨o1, st b o1 e1 (nin b o z hb), fun n => ?_⟩
    have e2 := I.base.keep b o z n hb (noA b)
    rw [e1] at e2
    exact Option.some.inj e2
theorem raisesR : Raises (cxR P w K mg base N qual scope f cd A outer s₀ H₀ E) E := by
  intro pins σ H s e C vs h' I M q
  obtain ⟨t, he, _, _⟩ := M.there
  refine raisesG (t := t) (od := none) (I.kept (t' := s.toks) M.keeps) he ?_ ?_ q
  · cases z : s₀.heap.get? e with
    | none => rfl
    | some o =>
      obtain ⟨o1, e1⟩ := I.base.there e o z (fun y => absurd (show e ∈ ([] : List Addr) from y) (by simp))
      rw [M.new] at e1
      cases e1
  · cases z : H e with
    | none => rfl
    | some u =>
      obtain ⟨ob, zb⟩ := (I.hok e u z).is
      rw [M.new] at zb
      cases zb
theorem passR : Passes (CXr P w) (cxR P w K mg base N qual scope f cd A outer s₀ H₀ E) E := by
  intro pins σ H s x s' I hx
  obtain ⟨e, C, a0, H', B, rfl, os, bare, un, hok, fl, c1, c2, od, hdc, q⟩ := hx
  have noA : ∀ b : Addr, b ∉ (cxR P w K mg base N qual scope f cd A outer s₀ H₀ E).ex := fun b z => absurd (show b ∈ ([] : List Addr) from z) (by simp)
  have lt0 : ∀ b o, s₀.heap.get? b = some o → b ≠ (cxR P w K mg base N qual scope f cd A outer s₀ H₀ E).env.locals := fun b o z => Nat.ne_of_lt (Nat.lt_of_lt_of_le (Heap.lt_size z) I.ok.above)
  have nin : ∀ b, b ∉ frs outer → b ≠ (cxR P w K mg base N qual scope f cd A outer s₀ H₀ E).env.locals → b ∉ frs (cxR P w K mg base N qual scope f cd A outer s₀ H₀ E).stack := fun b h1 h2 z => by
    rcases List.mem_cons.mp (I.stkSub b z) with z | z
    · exact h2 z
    · exact h1 z
  have J : Inv (cxR P w K mg base N qual scope f cd A outer s₀ H₀ E) pins σ H' s' := I.call' os un hok bare (ch := []) (fun b z => absurd z (by simp))
  show wpAny (model P w) (A.deeper (envOfC qual scope s₀.heap.objs.size f cd)) (leaving (envOfC qual scope s₀.heap.objs.size f cd) (.ref e)) _ _ _
  refine leavesD (L := s₀.heap.objs.size) I.ok.frames rfl fl hdc fun h'' fl' sm hdc2 => ?_
  refine ⟨e, C, a0, H', B, rfl, os.trans I.os, bare, ⟨fun b o z n hb _ => ?_, fun b o z n hb _ => ?_, fun b o z n _ => J.base.free b o z n (noA b), fun b o z _ => ?_, J.base.tups, J.base.frzs, J.base.tbls⟩, hok_stays hok c1 fl.1 fl'.1, fl', c1, fun b o z hb => ?_, od, hdc2, q⟩
  · obtain ⟨o', z1, z2⟩ := c2 b o (I.base.keep b o z n hb (noA b)) (nin b hb (lt0 b o z))
    rw [z2 (I.base.free b o z n (noA b))] at z1
    exact fl'.1 b o z1
  · obtain ⟨sl, e1⟩ := J.base.slot b o z n hb (noA b)
    obtain ⟨o2, ho2, hd2⟩ := (I.ok.funs.mem hb).2
    have z2 : s₀.heap.get? b = some o2 := ho2
    rw [z] at z2
    cases z2
    obtain ⟨sl', e2⟩ := sm b _ e1 hd2
    exact ⟨sl', e2⟩
  · by_cases hb : b ∈ frs outer
    · obtain ⟨sl, e1⟩ := J.base.slot b o z (I.ok.frf b hb) hb (noA b)
      obtain ⟨o2, ho2, hd2⟩ := (I.ok.funs.mem hb).2
      have z2 : s₀.heap.get? b = some o2 := ho2
      rw [z] at z2
      cases z2
      obtain ⟨sl', e2⟩ := sm b _ e1 hd2
      exact ⟨_, e2⟩
    · obtain ⟨o1, e1⟩ := I.base.there b o z (noA b)
      obtain ⟨o', z1, _⟩ := c2 b o1 e1 (nin b hb (lt0 b o z))
      exact ⟨o', fl'.1 b o' z1⟩
  · obtain ⟨o1, e1⟩ := I.base.there b o z (noA b)
    obtain ⟨o', z1, z2⟩ := c2 b o1 e1 (nin b hb (lt0 b o z))
    refine ⟨o', z1, fun n => ?_⟩
    rw [z2 (I.base.free b o z n (noA b))]
    have e2 := I.base.keep b o z n hb (noA b)
    rw [e1] at e2
    exact Option.some.inj e2
theorem Fun.okR {x : Str} {st : Stmt} {fd : FuncData} {ps : List Str} {k : Nat} {sp : Sp} (F : Fun K x qual st f fd) (S : FnScope N ps (defScope st)) (len : ∀ vs H Q E, sp vs H Q E → vs.length = ps.length)
    (hbody : ∀ (cdv : Value) (A : Around) (outer : List Env) (s : Shared) (H : Hp) (vs : List V) (Q : VK) (E : XK), Room k (A.deeper (envOfC qual (defScope st) s.heap.objs.size f cdv)) → sp vs H Q E →
      ∃ t, PSs (cxR P w K mg base N qual (defScope st) f cdv A outer s H E) (defBody st) t ∧ t { nx := fun _ H' => Q .non H', rt := Q } (start N vs) H) : FnOk P w K mg base (CXr P w) (k + 1) f fd ps sp := by
  obtain ⟨oc, od, kV, doc, pm, an, cdv, ct, osl, rfl, lk, hcd⟩ := F.ex
  exact fn_of lk hcd S len fun A outer s H vs Q E hr hsp => hbody cdv A outer s H vs Q E hr hsp
end
section
variable {X : Cx} {x : Str} {C : Addr} {E : XK} {e₀ : Expr} {rest : List Expr} {t : TA} {np cpos pos : Pos}
def tRaise (C : Addr) (E : XK) (t : TA) : TS := fun _ σ H => t σ H fun vs H1 => vs.length ≤ sizeLine ∧ E (.ref C) none H1
theorem ps_raise (hK : excIn X.K C = true) (hm : X.mg x = some (.ref C)) (hR : Raises X E) (hA : X.calm = true) (ha : PA X (e₀ :: rest) t) (hg : Gl X x := by rfl) (hd : (x == ("__debug__" : Str)) = false := by decide)
    (he : starEach (e₀ :: rest) X.env = (false, eval e₀ X.env) :: starEach rest X.env := by rfl) (hpl : (backTo cpos (starEach rest X.env)).any (·.1) = false := by rfl) :
    PS X (.Raise (some (.Call (.Name x np) (e₀ :: rest) [] cpos)) none pos) (tRaise C E t) := by
  intro pins s σ H D I h
  obtain ⟨bm, N, nm, q, bs, hdct, sn, sub, ab, col, dd, k0, k1, k2, k3, k5, mN, hni, hK⟩ := excIn_obj I.kIn hK
  obtain ⟨_, _, T₀⟩ := hK _ I.kIn
  refine wpAny_Raise_call_subT (C := C) (nm := nm) (q := q) (N := N) (bs := bs) (bm := bm) (hdct := hdct) (sn := sn) (sub := sub) (ab := ab) (col := col) (dd := dd) (k0 := k0) (k1 := k1) (k2 := k2) (k3 := k3) (k5 := k5)
    PySem.F.excBase_ValueError (mN := mN) (T₀.hasType PySem.F.excBase_ValueError.hasBase) (I.ok.hd hA) (by rw [he]; show (false || (backTo cpos (starEach rest X.env)).any (·.1)) = false; rw [hpl]; rfl) hni (ld_glob I hg hm ⟨rfl, ?_⟩ hd)
  have h1 := ha cpos pins s σ H _ I h
  rw [he] at h1 ⊢
  refine Calls.evalArgs_plain (wpAny_mono h1 (fun us s₂ h₂ => ?_) fun _ _ y => y)
  obtain ⟨vs, H1, I1, r, z, q⟩ := h₂
  obtain ⟨g1, g2, g3⟩ := hK _ I1.kIn
  exact ⟨rfl, by rw [← r.length]; exact z, g1, g2, g3, fun h' e M => hR pins σ H1 s₂ e C us h' I1 M q⟩
end
end L2
end
section
namespace L2
open PySem PySem.Spec PyProof.Rows
def xob (e : Addr) (C : Value) (od : Option Addr) : HO := .ext fun h => ∃ oe, h.get? e = some oe ∧ oe.cls = C ∧ oe.dict = od ∧ PySem.W.notCls oe = true
section
variable {X : Cx} {pins : List (Addr × Obj)} {σ : St} {H H' : Hp} {s s' : Shared} {e : Addr} {C a0 : Value} {B h : Heap}
theorem Inv.flown {tk : Nat} {od : Option Addr} (I : Inv X pins σ H s) (os : s'.os = s.os) (bare : AllBare s'.gens) (un : Un (frs X.stack) [] H H' s.heap s'.heap) (hok : HOk X.prog X.w H' s'.heap) (fl : Heap.FlyingW B X.stack e C a0 s'.heap)
    (c1 : ∀ b u, H' b = some u → ∃ o, B.get? b = some o) (c2 : ∀ b o, s.heap.get? b = some o → b ∉ frs X.stack → ∃ o', B.get? b = some o' ∧ (H b = none → o' = o))
    (fl' : Heap.FlyingW B X.stack e C a0 h) (sm : s'.heap.UpToSlots h) (hdc : Dc h e od) : H' e = none ∧ Inv X pins σ (upd H' e (xob e C od)) { s' with heap := h, toks := tk } := by
  have he : H' e = none := by
    cases q : H' e with
    | none => rfl
    | some u =>
      obtain ⟨o, z⟩ := c1 e u q
      rw [fl.2.1] at z
      cases z
  obtain ⟨oe, ws, hoe, hoec, hoed, _⟩ := fl'.first
  have ne : ∀ b o, s.heap.get? b = some o → b ≠ e := fun b o z q => by
    subst q
    by_cases hb : b ∈ frs X.stack
    · obtain ⟨_, o2, ho2, hd2⟩ := fl'.2.2.1.mem hb
      rw [hoe] at ho2
      cases ho2
      exact hd2 _ hoed
    · obtain ⟨o', z1, _⟩ := c2 b o z hb
      rw [fl.2.1] at z1
      cases z1
  have ne' : ∀ b u, H' b = some u → b ≠ e := fun b u z q => by
    subst q
    rw [he] at z
    cases z
  refine ⟨he, ?_⟩
  refine I.call' (s' := { s' with heap := h, toks := tk }) (H' := upd H' e (xob e C od)) (ch := []) os ⟨fun b o z n hb _ => ?_, fun b o z n hb _ => ?_, fun b o z n _ => ?_, fun b o z _ => ?_, fun b xs z => ?_, fun b o u z => ?_, fun b ps z => ?_⟩ (fun a u q => ?_) bare (fun b z => absurd z (by simp))
  · obtain ⟨o', z1, z2⟩ := c2 b o z hb
    rw [z2 n] at z1
    exact fl'.1 b o z1
  · obtain ⟨sl, e1⟩ := un.slot b o z n hb (by simp)
    obtain ⟨_, o2, ho2, hd2⟩ := fl.2.2.1.mem hb
    rw [e1] at ho2
    cases ho2
    obtain ⟨sl', e2⟩ := sm b _ e1 hd2
    exact ⟨sl', e2⟩
  · rw [upd_ne (ne b o z)]
    exact un.free b o z n (by simp)
  · by_cases hb : b ∈ frs X.stack
    · obtain ⟨_, o2, ho2, _⟩ := fl'.2.2.1.mem hb
      exact ⟨o2, ho2⟩
    · obtain ⟨o', z1, _⟩ := c2 b o z hb
      exact ⟨o', fl'.1 b o' z1⟩
  · have z1 := un.tups b xs z
    rw [upd_ne (ne' b _ z1)]
    exact z1
  · have z1 := un.frzs b o u z
    rw [upd_ne (ne' b _ z1)]
    exact z1
  · obtain ⟨more, z1⟩ := un.tbls b ps z
    exact ⟨more, by rw [upd_ne (ne' b _ z1)]; exact z1⟩
  · by_cases ha : a = e
    · subst ha
      rw [upd_same] at q
      cases q
      obtain ⟨o3, ho3, hd3⟩ := hdc
      rw [hoe] at ho3
      cases ho3
      exact ⟨⟨oe, hoe, hoec, hd3, by unfold PySem.W.notCls; rw [hoed]⟩, ⟨oe, hoe⟩, fun h1 h2 ⟨o1, g1, g2⟩ k => ⟨o1, k o1 g1, g2⟩⟩
    · rw [upd_ne ha] at q
      refine (hok a u q).stay (fun b v hb z => ?_) (fun b z => by rw [upd_ne (ne' b _ z)]; exact z) fun b xs z => by rw [upd_ne (ne' b _ z)]; exact z
      obtain ⟨o, z0⟩ : ∃ o, B.get? b = some o := by
        rcases hb with rfl | hb
        · exact c1 _ _ q
        · exact c1 _ _ hb
      have z1 := fl.1 b o z0
      rw [z] at z1
      cases z1
      exact fl'.1 b _ z0
end
abbrev Cx.hand (X : Cx) (e : Addr) : Cx := { X with A := X.A.mark (some (.ref e)), calm := false, xe := fun _ _ => False }
theorem Cx.Ok.hand {X : Cx} (ok : X.Ok) (e : Addr) : (X.hand e).Ok :=
  ⟨ok.mod, ok.kind, ok.glob, ok.blt, ok.above, ok.inj, ok.has, ok.cab, (fun z => nomatch z), ok.frames, ok.stk, ok.exf, ok.bs, ok.bsz, ok.noex, ok.exfs, ok.funs, ok.frf⟩
section
variable {X : Cx} {pins : List (Addr × Obj)} {σ : St} {H : Hp} {s : Shared} {e : Addr}
theorem Inv.hand (I : Inv X pins σ H s) (e : Addr) : Inv (X.hand e) pins σ H s := ⟨I.ok.hand e, I.os, I.bare, I.base, I.loc, I.cell, I.free, I.freeC, I.pin, I.hok, I.len⟩
theorem Inv.unhand (ok : X.Ok) (I : Inv (X.hand e) pins σ H s) : Inv X pins σ H s := ⟨ok, I.os, I.bare, I.base, I.loc, I.cell, I.free, I.freeC, I.pin, I.hok, I.len⟩
theorem unbind_ok {M : Model} {A : Around} {E : Value → Shared → Prop} {i : Nat} {x : Str} {v : V} {Q : Unit → Shared → Prop} (I : Inv X pins σ H s) (hN : X.N.Nodup) (hi : X.N[i]? = some x) (hk : X.env.scope.names.lookup x = some .local) (hv : σ[i]? = some (some v))
    (h : ∀ s', Inv X pins (σ.set i none) H s' → Q () s') : wpAny M A (unbindName X.env x) Q E s := by
  obtain ⟨m, hn, hl⟩ := id I.loc
  have hcls : (X.env.scope.kind == .class || (X.env.scope.kind == .module && X.env.locals != X.env.globals)) = false := by rw [I.ok.kind]; rfl
  have hiσ : i < σ.length := by rw [I.len]; exact (List.getElem?_eq_some_iff.mp hi).1
  have cne := I.cne
  obtain ⟨u, _, l⟩ := hl i x v hi hv (.inl hk)
  have hm : m x = some u := by
    rcases l with ⟨_, z⟩ | ⟨z, _⟩
    · exact z
    · have z' : X.env.scope.names.lookup x = some .cell ∨ X.env.scope.names.lookup x = some .free := z
      rw [hk] at z'
      rcases z' with z' | z' <;> cases z'
  have tracked : ∀ {a : Addr} {h' : Heap}, (∃ o, s.heap.get? a = some o ∧ H a = none) → Heap.SameBut a s.heap h' → HOk X.prog X.w H h' := fun {a h'} ha hs b ob e => by
    obtain ⟨_, _, hfree⟩ := ha
    refine (I.hok b ob e).stay (fun c w' hc q => (hs.2 c ?_).trans q) (fun _ q => q) fun _ _ q => q
    rintro rfl
    rcases hc with rfl | hc
    · rw [hfree] at e; cases e
    · rw [hfree] at hc; cases hc
  refine wpAny_unbindName_local hk hn hm hcls fun h' u' hn' hs => ?_
  obtain ⟨oL, _, _, hoL, _⟩ := id hn
  refine h _ ⟨I.ok, I.os, I.bare, ⟨fun b o e n hb hx => ?_, fun b o e n hb hx => ?_, I.base.free, fun b o e hx => ?_, I.base.tups, I.base.frzs, I.base.tbls⟩, ⟨_, hn', fun j y v' e1 e2 e3 => ?_⟩, fun y c e => ?_, I.free, I.freeC, fun p hp => ?_, tracked ⟨oL, hoL, I.free⟩ hs, by simpa using I.len⟩
  · exact (hs.2 b (Nat.ne_of_lt (Nat.lt_of_lt_of_le (Heap.lt_size e) I.ok.above))).trans (I.base.keep b o e n hb hx)
  · obtain ⟨sl, e1⟩ := I.base.slot b o e n hb hx
    exact ⟨sl, (hs.2 b (Nat.ne_of_lt (Nat.lt_of_lt_of_le (Heap.lt_size e) I.ok.above))).trans e1⟩
  · obtain ⟨o', e1⟩ := I.base.there b o e hx
    exact ⟨o', (hs.2 b (Nat.ne_of_lt (Nat.lt_of_lt_of_le (Heap.lt_size e) I.ok.above))).trans e1⟩
  · by_cases hj : j = i
    · subst hj
      rw [List.getElem?_set_self hiσ] at e2
      cases e2
    · rw [List.getElem?_set_ne (Ne.symm hj)] at e2
      obtain ⟨u', r', q⟩ := hl j y v' e1 e2 e3
      refine ⟨u', r', ?_⟩
      rcases q with ⟨k, e⟩ | ⟨k, c, e, z⟩
      · refine .inl ⟨k, ?_⟩
        have : y ≠ x := fun e => hj (nodup_ix hN e1 (e ▸ hi))
        simp [this, e]
      · exact .inr ⟨k, c, e, z.sameBut hs (cne y c e)⟩
  · obtain ⟨w', z⟩ := I.cell y c e
    exact ⟨w', z.sameBut hs (cne y c e)⟩
  · obtain ⟨e, n, ne, nf, d⟩ := I.pin p hp
    exact ⟨(hs.2 p.1 ne).trans e, n, ne, nf, d⟩
end
def XE (X : Cx) (pins : List (Addr × Obj)) (σ : St) (E : XK) (x : Value) (s' : Shared) : Prop := ∃ H1 s1, Inv X pins σ H1 s1 ∧ CXr X.prog X.w X.stack H1 s1 E x s'
def XP (X : Cx) (pins : List (Addr × Obj)) (E : St → XK) (x : Value) (s' : Shared) : Prop := ∃ σ', XE X pins σ' (E σ') x s'
abbrev TSX := Ends → (St → XK) → St → Hp → Prop
abbrev TEX := St → Hp → VK → XK → Prop
def PSX (X : Cx) (sts : List Stmt) (t : TSX) : Prop :=
  ∀ (pins : List (Addr × Obj)) (s : Shared) (σ : St) (H : Hp) (D : Ends) (E : St → XK), Inv X pins σ H s → t D E σ H → wpAny (model X.prog X.w) X.A (execs sts X.env) (SP X pins D) (XP X pins E) s
def PEX (X : Cx) (e : Expr) (t : TEX) : Prop :=
  ∀ (pins : List (Addr × Obj)) (s : Shared) (σ : St) (H : Hp) (Q : VK) (E : XK), Inv X pins σ H s → t σ H Q E → wpAny (model X.prog X.w) X.A (eval e X.env) (EP X pins σ Q) (XE X pins σ E) s
section
variable {X : Cx} {e : Expr} {te : TEX} {pos : Pos} {a b : List Stmt} {t u : TSX}
end
section
variable {X : Cx} {k : Nat} {f C : Addr} {fd : FuncData} {ps : List Str} {sp : Sp} {dvs : List V} {ds : List Value} {x m : Str} {p pos apos : Pos} {e o : Expr} {es : List Expr} {ta : TE} {t : TA}
theorem run_fnX {pins : List (Addr × Obj)} {σ : St} {H : Hp} {s : Shared} {Q : VK} {E : XK} {us : List Value} {vs : List V} (F : FnOk X.prog X.w X.K X.mg X.base (CXr X.prog X.w) k f fd ps sp) (hr : Room k X.A) (hb : Binds X.K fd ps ds) (hd : Vals dvs ds)
    (I : Inv X pins σ H s) (r : Vals vs us) (h : sp (vs ++ dvs) H Q E) : wpAny (model X.prog X.w) X.A (call (.ref f) us) (EP X pins σ Q) (XE X pins σ E) s := by
  have r2 : Vals (vs ++ dvs) (us ++ ds) := r.append hd
  have hl : (us ++ ds).length = ps.length := by rw [← r2.length]; exact F.len _ _ _ _ h
  refine wpAny_call (codeAny_mono (F.run X.A X.stack s H ⟨us, []⟩ (us ++ ds) (vs ++ dvs) Q E hr I.env0 (hb s us I.kIn hl) r2 h) fun r s' hq => ?_)
  cases r with
  | error e => exact ⟨H, s, I, hq⟩
  | ok fl =>
    cases fl with
    | ret u => exact I.after hq
    | next => exact False.elim hq
    | brk => exact False.elim hq
    | cont => exact False.elim hq
def tCallX (sp : Sp) (dvs : List V) (t : TA) : TEX := fun σ H Q E => t σ H fun vs H1 => sp (vs ++ dvs) H1 Q E
theorem pex_call (F : FnOk X.prog X.w X.K X.mg X.base (CXr X.prog X.w) k f fd ps sp) (hr : Room k X.A) (hg : Gl X x) (hm : X.mg x = some (.ref f)) (hk : PySem.W.keepIn X.K (.ref f) = true) (hb : Binds X.K fd ps ds) (hd : Vals dvs ds)
    (ha : PA X.nox (e :: es) t) (hdb : (x == ("__debug__" : Str)) = false := by decide) (he : starEach (e :: es) X.env = (false, eval e X.env) :: starEach es X.env := by rfl) (hpl : (backTo pos (starEach es X.env)).any (·.1) = false := by rfl) :
    PEX X (.Call (.Name x p) (e :: es) [] pos) (tCallX sp dvs t) := by
  intro pins s σ H Q E I h
  refine wpAny_Call_Name_kw (ld_glob I hg hm ?_ hdb)
  refine PySem.W.callWith_K (h₀ := X.base) I.ok.mod.kin hk (wpAny_mono (ha pos pins s σ H _ (I.wish _) h) (fun us s1 q => ?_) fun _ _ z => z.elim) he hpl
  obtain ⟨vs, H1, I1, r, q⟩ := q
  exact ⟨I1.kIn, run_fnX F hr hb hd I1.unwish r q⟩
end
section
variable {X : Cx} {x n : Str} {HC : Addr} {i : Nat} {body suite : List Stmt} {b₀ : Stmt} {tb : TSX} {ts : TS} {np hpos pos : Pos}
def tTry (K : PySem.W.Frag) (HC : Addr) (i : Nat) (tb : TSX) (ts : TS) : TS := fun D σ H => tb D (fun σ' C od H1 => PySem.W.exmOne K C (.ref HC) = some true ∧
  ∀ e, H1 e = none → ts { nx := fun σ2 H2 => D.nx (σ2.set i none) H2, rt := D.rt, bk := fun σ2 H2 => D.bk (σ2.set i none) H2, ct := fun σ2 H2 => D.ct (σ2.set i none) H2 } (σ'.set i (some (.ref e))) (upd H1 e (xob e C od))) σ H
theorem ps_try (hN : X.N.Nodup) (hi : X.N[i]? = some n) (hn : X.env.scope.names.lookup n = some .local) (hst : X.stack = X.env :: X.outer) (hf : X.env.frame = some X.env.locals) (hm : X.mg x = some (.ref HC)) (hb : PSX X body tb)
    (hs : ∀ e, PSs (X.hand e) (b₀ :: suite) ts) (hg : Gl X x := by rfl) (hd : (x == ("__debug__" : Str)) = false := by decide) :
    PS X (.Try body [.ExceptHandler (some (.Name x np)) (some n) (b₀ :: suite) hpos] [] [] pos) (tTry X.K HC i tb ts) := by
  intro pins s σ H D I h
  have hfr : X.A.frames = some (X.env :: X.outer) := by rw [← hst]; exact I.ok.frames
  refine wpAny_Try_except (wpAny_mono (hb pins s σ H D _ I h) (fun f s1 q => ?_) fun xv s1 hx => ?_)
  · cases f with
    | next => exact wpAny_execs_nil q
    | ret v => exact q
    | brk => exact q
    | cont => exact q
  · obtain ⟨σ', H1, s0, I1, e, C, a0, H', B, rfl, os, bare, un, hok, fl, c1, c2, od, hdc, hex, hq⟩ := hx
    have fl1 : Heap.FlyingW B (X.env :: X.outer) e C a0 s1.heap := by rw [← hst]; exact fl
    refine noteD hfr hf fl1 hdc fun h₄ held₄ sm₄ dc₄ => ?_
    refine landsD (s := { s1 with heap := h₄ }) held₄ dc₄ fun h₅ fl₅ sm₅ dc₅ => ?_
    have fl₅' : Heap.FlyingW B X.stack e C a0 h₅ := by rw [hst]; exact fl₅
    obtain ⟨_, I₅⟩ := I1.flown (tk := s1.toks) os bare un hok fl c1 c2 fl₅' (sm₄.trans sm₅) dc₅
    refine wpAny_handleBy_cons (codeAny_handlers_test ?_) (by intro q; cases q)
    refine ld_glob (X := X.hand e) (I₅.hand e) hg hm ?_ hd
    obtain ⟨ob, hob, hobc⟩ := fl₅.there
    have LT : PySem.W.Looks (model X.prog X.w) h₅ (typeOf (.ref e)) C := by
      subst hobc
      exact (PySem.W.Looks.ld hob).andThen .now
    refine (PySem.W.exm_one I₅.kIn LT hex).here ?_
    refine codeAny_handlers_suite_as ?_
    refine againD fl₅ dc₅ fun h₆ fl₆ sm₆ dc₆ => ?_
    have fl₆' : Heap.FlyingW B X.stack e C a0 h₆ := by rw [hst]; exact fl₆
    obtain ⟨he, I₆⟩ := I1.flown (tk := s1.toks) os bare un hok fl c1 c2 fl₆' ((sm₄.trans sm₅).trans sm₆) dc₆
    refine store_ok (X := X.hand e) (I₆.hand e) hN hi (.inl hn) (show RelV (.ref e) (.ref e) from rfl) (fun s₇ I₇ => ?_) (.inr hn)
    refine wpAny_mono (hs e pins s₇ _ _ _ I₇ (hq e he)) (fun f s₈ q => ?_) fun _ _ z => z.elim
    have back : ∀ (f : Flow) (σ2 : St) (H2 : Hp) (s₈ : Shared), Inv (X.hand e) pins σ2 H2 s₈ → (∀ s10, Inv X pins (σ2.set i none) H2 s10 → SP X pins D f s10) →
        wpAny (model X.prog X.w) X.A (do bindName X.env n .none; unbindBehindTheSuite X.env n hpos) (fun _ s₃ => SP X pins D f s₃) X.xe s₈ := fun f σ2 H2 s₈ I2 k => by
      have I2 := I2.unhand I.ok
      refine wpAny_bind (wpAny_bindName (store_ok I2 hN hi (.inl hn) (show RelV .non .none from rfl) (fun s9 I9 => ?_) (.inr hn)))
      unfold unbindBehindTheSuite
      refine wpAny_onRaise (unbind_ok (v := .non) I9 hN hi hn ?_ fun s10 I10 => ?_)
      · rw [List.getElem?_set_self (by rw [I2.len]; exact (List.getElem?_eq_some_iff.mp hi).1)]
      · rw [List.set_set] at I10
        exact k s10 I10
    cases f with
    | next =>
      obtain ⟨σ2, H2, I2, q2⟩ := q
      exact back .next σ2 H2 s₈ I2 fun s10 I10 => ⟨_, _, I10, q2⟩
    | ret v =>
      obtain ⟨v', σ2, H2, I2, r2, q2⟩ := q
      exact back (.ret v) σ2 H2 s₈ I2 fun s10 I10 => ⟨v', _, _, I10, r2, q2⟩
    | brk =>
      obtain ⟨σ2, H2, I2, q2⟩ := q
      exact back .brk σ2 H2 s₈ I2 fun s10 I10 => ⟨_, _, I10, q2⟩
    | cont =>
      obtain ⟨σ2, H2, I2, q2⟩ := q
      exact back .cont σ2 H2 s₈ I2 fun s10 I10 => ⟨_, _, I10, q2⟩
end
structure RoomQ (k : Nat) (A : Around) : Prop where
  dp : A.depth + 3 * k + 5 < recursionLimit
  un : A.units + 16 * k + 200 < cLine
structure FnOkQ (P : Program) (w : World) (K : PySem.W.Frag) (mg : Str → Option Value) (base : Heap) (k : Nat) (f : Addr) (fd : FuncData) (ps : List Str) (sp : Sp) : Prop where
  len : ∀ vs H Q, sp vs H Q E0 → vs.length = ps.length
  run : ∀ (A : Around) (outer : List Env) (s : Shared) (H : Hp) (args : Args) (us : List Value) (vs : List V) (Q : VK), RoomQ k A → Env0 P w K mg base A outer s H → BindsTo s fd args (ps.zip us) → Vals vs us → sp vs H Q E0 →
    codeAny (model P w) A (.call (.ref f) args) (CR CX0 outer P w H s Q E0) s
section
variable {P : Program} {w : World} {K : PySem.W.Frag} {mg : Str → Option Value} {base : Heap} {N ps : List Str} {qual : Str} {f : Addr} {k : Nat} {sp : Sp}
end
section
variable {X : Cx} {k : Nat} {f : Addr} {fd : FuncData} {ps : List Str} {sp : Sp} {x : Str} {p pos : Pos} {e : Expr} {es : List Expr} {t : TA}
end
end L2
end
section
namespace L2
open PySem PySem.Spec PyProof.Rows PySem.SeqAt
inductive Th (H : Hp) : V → Prop where
  | non : Th H .non
  | bl (b : Bool) : Th H (.bl b)
  | int (i : Int) : Th H (.int i)
  | str (x : Str) : Th H (.str x)
  | lst {a : Addr} {xs : List V} (e : H a = some (.lst xs)) : Th H (.ref a)
  | frz {a : Addr} {o : Obj} {xs : List V} (e : H a = some (.frz o (.lst xs))) : Th H (.ref a)
  | tup {a : Addr} {xs : List V} (e : H a = some (.tup xs)) : Th H (.ref a)
  | dic {a : Addr} {kvs : List (Key × V)} (e : H a = some (.dK kvs)) : Th H (.ref a)
def isI : V → Bool
  | .int _ => true
  | _ => false
def isB : V → Bool
  | .bl _ => true
  | _ => false
section
variable {K : PySem.W.Frag}
theorem kit_int_non : PySem.W.kitOne K (.type "NoneType") (.type "int") = some false := by kernel_rfl
theorem kit_int_bl : PySem.W.kitOne K (.type "bool") (.type "int") = some true := by kernel_rfl
theorem kit_int_int : PySem.W.kitOne K (.type "int") (.type "int") = some true := by kernel_rfl
theorem kit_int_str : PySem.W.kitOne K (.type "str") (.type "int") = some false := by kernel_rfl
theorem kit_int_lst : PySem.W.kitOne K (.type "list") (.type "int") = some false := by kernel_rfl
theorem kit_int_tup : PySem.W.kitOne K (.type "tuple") (.type "int") = some false := by kernel_rfl
theorem kit_int_dic : PySem.W.kitOne K (.type "dict") (.type "int") = some false := by kernel_rfl
theorem kit_bool_non : PySem.W.kitOne K (.type "NoneType") (.type "bool") = some false := by kernel_rfl
theorem kit_bool_bl : PySem.W.kitOne K (.type "bool") (.type "bool") = some true := by kernel_rfl
theorem kit_bool_int : PySem.W.kitOne K (.type "int") (.type "bool") = some false := by kernel_rfl
theorem kit_bool_str : PySem.W.kitOne K (.type "str") (.type "bool") = some false := by kernel_rfl
theorem kit_bool_lst : PySem.W.kitOne K (.type "list") (.type "bool") = some false := by kernel_rfl
theorem kit_bool_tup : PySem.W.kitOne K (.type "tuple") (.type "bool") = some false := by kernel_rfl
theorem kit_bool_dic : PySem.W.kitOne K (.type "dict") (.type "bool") = some false := by kernel_rfl
theorem kit_tup_tup : PySem.W.kitOne K (.type "tuple") (.type "tuple") = some true := by kernel_rfl
theorem kit_lst_lst : PySem.W.kitOne K (.type "list") (.type "list") = some true := by kernel_rfl
theorem kit_lst_non : PySem.W.kitOne K (.type "NoneType") (.type "list") = some false := by kernel_rfl
theorem kit_lst_bl : PySem.W.kitOne K (.type "bool") (.type "list") = some false := by kernel_rfl
theorem kit_lst_int : PySem.W.kitOne K (.type "int") (.type "list") = some false := by kernel_rfl
theorem kit_lst_str : PySem.W.kitOne K (.type "str") (.type "list") = some false := by kernel_rfl
theorem kit_lst_tup : PySem.W.kitOne K (.type "tuple") (.type "list") = some false := by kernel_rfl
theorem kit_lst_dic : PySem.W.kitOne K (.type "dict") (.type "list") = some false := by kernel_rfl
end
section
variable {X : Cx}
theorem call_isint : CallR X (.builtin "isinstance") (fun xs H Q => ∃ x, xs = [x, .ty "int"] ∧ Th H x ∧ Q (.bl (isI x || isB x)) H) := by
  intro pins s σ H xs us Q I r h
  obtain ⟨x, rfl, th, q⟩ := h
  obtain ⟨u, v, rfl, rx, rt⟩ := r.two
  obtain rfl : v = Value.type "int" := rt
  cases th with
  | non => exact isinst_ok I rx .non kit_int_non fun tk => ⟨.bl _, H, I.tok tk, rfl, q⟩
  | bl b => exact isinst_ok I rx (.bl b) kit_int_bl fun tk => ⟨.bl _, H, I.tok tk, rfl, q⟩
  | int i => exact isinst_ok I rx (.int i) kit_int_int fun tk => ⟨.bl _, H, I.tok tk, rfl, q⟩
  | str z => exact isinst_ok I rx (.str z) kit_int_str fun tk => ⟨.bl _, H, I.tok tk, rfl, q⟩
  | lst e => exact isinst_ok I rx (.lst e) kit_int_lst fun tk => ⟨.bl _, H, I.tok tk, rfl, q⟩
  | frz e => exact isinst_ok I rx (.frz e) kit_int_lst fun tk => ⟨.bl _, H, I.tok tk, rfl, q⟩
  | tup e => exact isinst_ok I rx (.tup e) kit_int_tup fun tk => ⟨.bl _, H, I.tok tk, rfl, q⟩
  | dic e => exact isinst_ok I rx (.dK e) kit_int_dic fun tk => ⟨.bl _, H, I.tok tk, rfl, q⟩
theorem call_isbool : CallR X (.builtin "isinstance") (fun xs H Q => ∃ x, xs = [x, .ty "bool"] ∧ Th H x ∧ Q (.bl (isB x)) H) := by
  intro pins s σ H xs us Q I r h
  obtain ⟨x, rfl, th, q⟩ := h
  obtain ⟨u, v, rfl, rx, rt⟩ := r.two
  obtain rfl : v = Value.type "bool" := rt
  cases th with
  | non => exact isinst_ok I rx .non kit_bool_non fun tk => ⟨.bl _, H, I.tok tk, rfl, q⟩
  | bl b => exact isinst_ok I rx (.bl b) kit_bool_bl fun tk => ⟨.bl _, H, I.tok tk, rfl, q⟩
  | int i => exact isinst_ok I rx (.int i) kit_bool_int fun tk => ⟨.bl _, H, I.tok tk, rfl, q⟩
  | str z => exact isinst_ok I rx (.str z) kit_bool_str fun tk => ⟨.bl _, H, I.tok tk, rfl, q⟩
  | lst e => exact isinst_ok I rx (.lst e) kit_bool_lst fun tk => ⟨.bl _, H, I.tok tk, rfl, q⟩
  | frz e => exact isinst_ok I rx (.frz e) kit_bool_lst fun tk => ⟨.bl _, H, I.tok tk, rfl, q⟩
  | tup e => exact isinst_ok I rx (.tup e) kit_bool_tup fun tk => ⟨.bl _, H, I.tok tk, rfl, q⟩
  | dic e => exact isinst_ok I rx (.dK e) kit_bool_dic fun tk => ⟨.bl _, H, I.tok tk, rfl, q⟩
def isLst (H : Hp) : V → Bool
  | .ref a => match H a with | some (.lst _) => true | some (.frz _ (.lst _)) => true | _ => false
  | _ => false
theorem call_islist : CallR X (.builtin "isinstance") (fun xs H Q => ∃ x, xs = [x, .ty "list"] ∧ Th H x ∧ Q (.bl (isLst H x)) H) := by
  intro pins s σ H xs us Q I r h
  obtain ⟨x, rfl, th, q⟩ := h
  obtain ⟨u, v, rfl, rx, rt⟩ := r.two
  obtain rfl : v = Value.type "list" := rt
  cases th with
  | non => exact isinst_ok I rx .non kit_lst_non fun tk => ⟨.bl _, H, I.tok tk, rfl, q⟩
  | bl b => exact isinst_ok I rx (.bl b) kit_lst_bl fun tk => ⟨.bl _, H, I.tok tk, rfl, q⟩
  | int i => exact isinst_ok I rx (.int i) kit_lst_int fun tk => ⟨.bl _, H, I.tok tk, rfl, q⟩
  | str z => exact isinst_ok I rx (.str z) kit_lst_str fun tk => ⟨.bl _, H, I.tok tk, rfl, q⟩
  | lst e => exact isinst_ok I rx (.lst e) kit_lst_lst fun tk => ⟨.bl _, H, I.tok tk, rfl, by simp only [isLst, e] at q; exact q⟩
  | frz e => exact isinst_ok I rx (.frz e) kit_lst_lst fun tk => ⟨.bl _, H, I.tok tk, rfl, by simp only [isLst, e] at q; exact q⟩
  | tup e => exact isinst_ok I rx (.tup e) kit_lst_tup fun tk => ⟨.bl _, H, I.tok tk, rfl, by simp only [isLst, e] at q; exact q⟩
  | dic e => exact isinst_ok I rx (.dK e) kit_lst_dic fun tk => ⟨.bl _, H, I.tok tk, rfl, by simp only [isLst, e] at q; exact q⟩
end
mutual
inductive DatR (K : PySem.W.Frag) (H : Hp) : V → PyData → Prop
  | non : DatR K H .non .none
  | bl (b : Bool) : DatR K H (.bl b) (.bool b)
  | int (i : Int) : DatR K H (.int i) (.int i)
  | str (x : Str) : DatR K H (.str x) (.str x)
  | lst {a : Addr} {xs : List V} {ds : List PyData} : SqL K H a xs → DatsR K H xs ds → DatR K H (.ref a) (.list ds)
  | tup {a : Addr} {xs : List V} {ds : List PyData} : SqT K H a xs → DatsR K H xs ds → DatR K H (.ref a) (.tuple ds)
inductive DatsR (K : PySem.W.Frag) (H : Hp) : List V → List PyData → Prop
  | nil : DatsR K H [] []
  | cons {x : V} {d : PyData} {xs : List V} {ds : List PyData} : DatR K H x d → DatsR K H xs ds → DatsR K H (x :: xs) (d :: ds)
end
section
variable {X : Cx} {pins : List (Addr × Obj)} {σ : St} {H : Hp} {s : Shared}
mutual
theorem DatR.reads (I : Inv X pins σ H s) : ∀ {v : V} {d : PyData} {u : Value}, DatR X.K H v d → RelV v u → ∃ as, Reads s.heap u d as
  | _, _, _, .non, r => ⟨[], by cases (show _ = Value.none from r); exact .none⟩
  | _, _, _, .bl b, r => ⟨[], by cases (show _ = Value.bool b from r); exact .bool b⟩
  | _, _, _, .int i, r => ⟨[], by obtain ⟨t, rfl⟩ := r; exact .int i t⟩
  | _, _, _, .str x, r => ⟨[], by obtain ⟨t, rfl⟩ := r; exact .str x t⟩
  | _, _, _, .lst (a := a) sq ds, r => by
    cases (show _ = Value.ref a from r)
    obtain ⟨its, rv, ⟨o, n, e, hc, _, hd⟩, _⟩ := I.list sq
    obtain ⟨as, ra⟩ := DatsR.reads I ds rv
    exact ⟨_, .list e hc hd (by simpa using ra)⟩
  | _, _, _, .tup (a := a) sq ds, r => by
    cases (show _ = Value.ref a from r)
    obtain ⟨its, rv, ⟨o, e, hc, n, hd⟩, _⟩ := I.tuple sq
    obtain ⟨as, ra⟩ := DatsR.reads I ds rv
    exact ⟨_, .tuple e hc hd (by simpa using ra)⟩
theorem DatsR.reads (I : Inv X pins σ H s) : ∀ {vs : List V} {ds : List PyData} {us : List Value}, DatsR X.K H vs ds → Vals vs us → ∃ as, ReadsAll s.heap us ds as
  | _, _, _, .nil, .nil => ⟨[], .nil⟩
  | _, _, _, .cons d ds, .cons r rs => by
    obtain ⟨as, ra⟩ := DatR.reads I d r
    obtain ⟨bs, rb⟩ := DatsR.reads I ds rs
    exact ⟨_, .cons ra rb⟩
end
end
section
variable {X : Cx}
def rEqD (K : PySem.W.Frag) : R2 := fun x y H Q => ∃ da db, DatR K H x da ∧ DatR K H y db ∧ shaped da = true ∧ shaped db = true ∧ Q (.bl (PyData.eqv da db)) H
def rNeD (K : PySem.W.Frag) : R2 := fun x y H Q => ∃ da db, DatR K H x da ∧ DatR K H y db ∧ shaped da = true ∧ shaped db = true ∧ Q (.bl (!PyData.eqv da db)) H
theorem op_eqD (hu : X.A.units + 64 < cLine) : OpR X (compareOp .Eq) (rEqD X.K) := by
  intro pins s σ H x y v u Q I rx ry h
  obtain ⟨da, db, ra, rb, ha, hb, q⟩ := h
  obtain ⟨as, r1⟩ := ra.reads I rx
  obtain ⟨bs, r2⟩ := rb.reads I ry
  exact eq_dataH r1 r2 ha hb hu ⟨.bl _, H, I, rfl, q⟩
theorem op_neD (hu : X.A.units + 64 < cLine) : OpR X (compareOp .NotEq) (rNeD X.K) := by
  intro pins s σ H x y v u Q I rx ry h
  obtain ⟨da, db, ra, rb, ha, hb, q⟩ := h
  obtain ⟨as, r1⟩ := ra.reads I rx
  obtain ⟨bs, r2⟩ := rb.reads I ry
  exact ne_dataH r1 r2 ha hb hu ⟨.bl _, H, I, rfl, q⟩
end
end L2
end
section
namespace L2
open PySem PySem.Spec PyProof.Rows
def compN (x : Str) (N : List Str) : List Str := x :: N.map fun y => if y = x then ("" : Str) else y
def CapOk (X : Cx) (x : Str) (cl : List (Str × Addr)) : List (Str × NameKind) → Prop
  | [] => True
  | (n, k) :: r => (((n = x ∨ n = ".0") ∧ k = .local) ∨ (k ≠ .local ∧ k ≠ .cell ∧ k ≠ .free) ∨ (k = .cell ∧ n ≠ x ∧ n ≠ "" ∧ X.env.scope.names.lookup n = some .cell ∧ cl.lookup n = X.env.cells.lookup n)) ∧ CapOk X x cl r
def ClOk (X : Cx) : List (Str × Addr) → Prop
  | [] => True
  | (n, c) :: r => X.env.cells.lookup n = some c ∧ ClOk X r
theorem CapOk.at {X : Cx} {x : Str} {cl : List (Str × Addr)} {y : Str} {k : NameKind} : ∀ {l : List (Str × NameKind)}, CapOk X x cl l → l.lookup y = some k →
    ((y = x ∨ y = ".0") ∧ k = .local) ∨ (k ≠ .local ∧ k ≠ .cell ∧ k ≠ .free) ∨ (k = .cell ∧ y ≠ x ∧ y ≠ "" ∧ X.env.scope.names.lookup y = some .cell ∧ cl.lookup y = X.env.cells.lookup y)
  | [], _, h => by simp at h
  | (n, k') :: r, ⟨h1, h2⟩, h => by
    rw [List.lookup_cons] at h
    split at h
    · rename_i e
      cases h
      rw [beq_iff_eq.mp e]
      exact h1
    · exact CapOk.at h2 h
theorem ClOk.at {X : Cx} {y : Str} {c : Addr} : ∀ {l : List (Str × Addr)}, ClOk X l → l.lookup y = some c → X.env.cells.lookup y = some c
  | [], _, h => by simp at h
  | (n, k') :: r, ⟨h1, h2⟩, h => by
    rw [List.lookup_cons] at h
    split at h
    · rename_i e
      cases h
      rw [beq_iff_eq.mp e]
      exact h1
    · exact ClOk.at h2 h
abbrev cxC (X : Cx) (x : Str) (scope : Scope) (cl : List (Str × Addr)) (C : Addr) (s₂ : Shared) (H₂ : Hp) (fp : List Addr) : Cx :=
  { X with N := compN x X.N, s₀ := s₂, H₀ := H₂, env := compEnvC scope cl C X.env, outer := X.stack, ex := fp, fn := fun _ => false, pn := [], xe := fun _ _ => False }
section
variable {X : Cx} {pins : List (Addr × Obj)} {σ : St} {H₂ : Hp} {s₂ : Shared} {fp : List Addr} {x : Str} {scope : Scope} {cl : List (Str × Addr)} {C : Addr}
theorem okC (I : Inv X pins σ H₂ s₂) (hf : ∀ b ∈ fp, FpOk X pins H₂ b) (ho : ∀ b ∈ fp, ∃ o, s₂.heap.get? b = some o) (hkind : scope.kind = .function) (hc : CapOk X x cl (relabel scope X.env).names) (hcl : ClOk X cl) (hC : s₂.heap.objs.size ≤ C) :
    (cxC X x scope cl C s₂ H₂ fp).Ok where
  mod := I.ok.mod
  kind := hkind
  glob := I.ok.glob
  blt := I.ok.blt
  above := hC
  inj := fun y z c h1 h2 => I.ok.inj y z c (hcl.at h1) (hcl.at h2)
  has := fun y hy => by
    have hy' : (relabel scope X.env).names.lookup y = some .cell ∨ (relabel scope X.env).names.lookup y = some .free := hy
    rcases hy' with h | h
    · rcases hc.at h with ⟨_, z⟩ | ⟨_, z, _⟩ | ⟨_, _, _, z1, z2⟩
      · cases z
      · exact absurd rfl z
      · obtain ⟨c, e⟩ := I.ok.has y (.inl z1)
        exact ⟨c, z2.trans e⟩
    · rcases hc.at h with ⟨_, z⟩ | ⟨_, _, z⟩ | ⟨z, _⟩
      · cases z
      · exact absurd rfl z
      · cases z
  cab := fun y c h _ => absurd (show false = true from h) Bool.false_ne_true
  hd := I.ok.hd
  frames := I.ok.frames
  stk := .inl rfl
  exf := fun b hb => by
    obtain ⟨o, e⟩ := ho b hb
    exact ⟨Nat.ne_of_lt (Nat.lt_of_lt_of_le (Heap.lt_size e) hC), fun y c h => (hf b hb).2.2.2.2.1 y c (hcl.at h)⟩
  bs := I.bs
  bsz := Nat.le_trans I.ok.bsz I.sz
  noex := fun b o e hb => by
    rcases (hf b hb).2.2.2.1 with z | z
    · exact I.ok.noex b o e z
    · exact absurd (Nat.lt_of_lt_of_le (Heap.lt_size (I.ok.bs b o e).1) z) (Nat.lt_irrefl _)
  exfs := fun b hb z => by
    rcases List.mem_cons.mp (I.stkSub b z) with q | q
    · exact (hf b hb).2.1 q
    · exact (hf b hb).2.2.1 q
  funs := I.stack
  frf := I.stkFree
theorem invC {h₁ : Heap} {tk : Nat} (I : Inv X pins σ H₂ s₂) (hf : ∀ b ∈ fp, FpOk X pins H₂ b) (ho : ∀ b ∈ fp, ∃ o, s₂.heap.get? b = some o) (hkind : scope.kind = .function) (hc : CapOk X x cl (relabel scope X.env).names) (hcl : ClOk X cl) (hx0 : x ≠ "") (hdot : (".0" : Str) ∉ X.N)
    (hC : C = s₂.heap.objs.size + 1) (hns : h₁.Ns C fun _ => none) (old : ∀ b o, s₂.heap.get? b = some o → h₁.get? b = some o) (hD : ∃ n, h₁.get? s₂.heap.objs.size = some { cls := .type "list", data := .seq #[] n }) :
    Inv (cxC X x scope cl C s₂ H₂ fp) [] (none :: σ) (upd H₂ s₂.heap.objs.size (.lst [])) { s₂ with heap := h₁, toks := tk } := by
  have hn : H₂ s₂.heap.objs.size = none := I.hok.fresh (Nat.le_refl _)
  refine ⟨okC I hf ho hkind hc hcl (by rw [hC]; exact Nat.le_succ _), rfl, I.bare, Un.laid old (Nat.le_refl _) hn, ⟨_, hns, fun i y v h1 h2 h3 => ?_⟩, fun y c e => ?_, ?_, fun y c e => ?_, fun p hp => absurd (show p ∈ ([] : List (Addr × Obj)) from hp) (by simp), ?_, ?_⟩
  · cases i with
    | zero =>
      have h2' : some (none : Option V) = some (some v) := h2
      cases h2'
    | succ i =>
      have h1' : (X.N.map fun y => if y = x then ("" : Str) else y)[i]? = some y := h1
      have h2' : σ[i]? = some (some v) := h2
      rw [List.getElem?_map] at h1'
      cases e : X.N[i]? with
      | none => rw [e] at h1'; cases h1'
      | some z =>
        rw [e] at h1'
        have h1'' : (if z = x then ("" : Str) else z) = y := Option.some.inj h1'
        have cap : ∀ k, (relabel scope X.env).names.lookup y = some k → k = .local ∨ k = .cell ∨ k = .free → X.env.scope.names.lookup y = some .cell ∧ cl.lookup y = X.env.cells.lookup y ∧ k = .cell ∧ z = y := fun k hk hv => by
          rcases hc.at hk with ⟨q, _⟩ | ⟨q1, q2, q3⟩ | ⟨q0, q1, q2, q3, q4⟩
          · exfalso
            rcases q with q | q
            · subst q
              by_cases hz : z = y
              · rw [if_pos hz] at h1''
                exact hx0 h1''.symm
              · rw [if_neg hz] at h1''
                exact hz h1''
            · subst q
              by_cases hz : z = x
              · rw [if_pos hz] at h1''
                exact absurd h1'' (by decide +kernel)
              · rw [if_neg hz] at h1''
                subst h1''
                exact hdot (List.mem_of_getElem? e)
          · rcases hv with q | q | q
            · exact absurd q q1
            · exact absurd q q2
            · exact absurd q q3
          · refine ⟨q3, q4, q0, ?_⟩
            by_cases hz : z = x
            · rw [if_pos hz] at h1''
              exact absurd h1''.symm q2
            · rw [if_neg hz] at h1''
              exact h1''
        have h3' : (relabel scope X.env).names.lookup y = some .local ∨ (relabel scope X.env).names.lookup y = some .cell ∨ (relabel scope X.env).names.lookup y = some .free := h3
        obtain ⟨k, hk, hv⟩ : ∃ k, (relabel scope X.env).names.lookup y = some k ∧ (k = .local ∨ k = .cell ∨ k = .free) := by
          rcases h3' with q | q | q
          · exact ⟨_, q, .inl rfl⟩
          · exact ⟨_, q, .inr (.inl rfl)⟩
          · exact ⟨_, q, .inr (.inr rfl)⟩
        obtain ⟨c1, c2, c3, rfl⟩ := cap k hk hv
        subst c3
        obtain ⟨m, _, hl⟩ := I.loc
        obtain ⟨u, r, l⟩ := hl i z v e h2' (.inr (.inl c1))
        refine ⟨u, r, ?_⟩
        rcases l with ⟨q, _⟩ | ⟨_, c, q1, q2⟩
        · have q' : X.env.scope.names.lookup z = some .local := q
          rw [c1] at q'
          cases q'
        · refine .inr ⟨.inl hk, c, c2.trans q1, ?_⟩
          obtain ⟨oc, g1, g2⟩ := q2
          exact ⟨oc, old _ _ g1, g2⟩
  · obtain ⟨v, oc, g1, g2⟩ := I.cell y c (hcl.at e)
    exact ⟨v, oc, old _ _ g1, g2⟩
  · show (upd H₂ s₂.heap.objs.size (.lst [])) C = none
    rw [upd_ne (by rw [hC]; exact Nat.ne_of_gt (Nat.lt_succ_self _))]
    exact I.hok.fresh (by rw [hC]; exact Nat.le_succ _)
  · obtain ⟨v, oc, g1, g2⟩ := I.cell y c (hcl.at e)
    rw [upd_ne (Nat.ne_of_lt (Heap.lt_size g1))]
    exact I.freeC y c (hcl.at e)
  · obtain ⟨n, e⟩ := hD
    exact I.hok.laid old (Nat.le_refl _) ⟨Nat.zero_le _, [], n, .nil, e⟩
  · show (none :: σ).length = (compN x X.N).length
    simp [compN, I.len]
theorem fpC (I : Inv X pins σ H₂ s₂) (hf : ∀ b ∈ fp, FpOk X pins H₂ b) (ho : ∀ b ∈ fp, ∃ o, s₂.heap.get? b = some o) (hcl : ClOk X cl) (hC : s₂.heap.objs.size ≤ C) {H : Hp} (hn : ∀ b ∈ fp, H b = none) : ∀ b ∈ fp, FpOk (cxC X x scope cl C s₂ H₂ fp) [] H b := fun b hb => by
  obtain ⟨o, e⟩ := ho b hb
  refine ⟨hn b hb, Nat.ne_of_lt (Nat.lt_of_lt_of_le (Heap.lt_size e) hC), fun z => ?_, .inl hb, fun y c h => (hf b hb).2.2.2.2.1 y c (hcl.at h), fun p hp => absurd (show p ∈ ([] : List (Addr × Obj)) from hp) (by simp)⟩
  rcases List.mem_cons.mp (I.stkSub b z) with q | q
  · exact (hf b hb).2.1 q
  · exact (hf b hb).2.2.1 q
end
theorem compLoop_go {prog : Program} {w : World} {A : Around} {R : Result → Shared → Prop} {s : Shared} {elt target iter : Expr} {ifs : List Expr} {scope : Scope} {pos : Pos} {it acc : Value} {env : Env} (I : Nat → Shared → Prop)
    (turn : ∀ n s, I n s → wpAny (model prog w) A (pyNext it) (fun r s₁ => match r with
      | none => R (.ok .next) s₁
      | some v => wpAny (model prog w) A (letOwnedTupleGo target it v) (fun _ s₀ => wpAny (model prog w) A (assign target env v) (fun _ s₂ =>
          wpAny (model prog w) A (forIn ifs true fun c r => if r = true then do let ok ← isTrue c env (eval c env); pure (ForInStep.yield ok) else pure (ForInStep.yield r)) (fun ok s₃ =>
            if ok = true then wpAny (model prog w) A (eval elt env) (fun x s₄ =>
              wpAny (model prog w) A (call (.builtin "list.append") [acc, x]) (fun _ s₅ => ∃ m, m < n ∧ I m s₅) (fun _ _ => False) s₄) (fun _ _ => False) s₃
            else ∃ m, m < n ∧ I m s₃) (fun _ _ => False) s₂) (fun _ _ => False) s₀) (fun _ _ => False) s₁) (fun _ _ => False) s)
    (n : Nat) (h : I n s) :
    codeAny (model prog w) A (.compLoop (.ListComp elt [⟨target, iter, ifs, 0⟩] scope pos) 0 it acc env) R s := by
  refine codeAny_loop rfl I (fun n s hI => ?_) n h
  show wpAny _ A ((compTurn (.ListComp elt [⟨target, iter, ifs, 0⟩] scope pos) 0 it acc env).onRaise (fun x => do noteFrame x env; theTreesLotGoes x)) _ _ s
  refine wpAny_noted ?_
  refine wpAny_noRaise ?_
  rw [compTurn_list]
  refine wpAny_bind (wpAny_standAt (wpAny_bind (wpAny_mono (turn n s hI) (fun r s₁ h₁ => ?_) fun _ _ h' => h')))
  cases r with
  | none => exact wpAny_pure h₁
  | some v =>
    refine wpAny_bind (wpAny_mono h₁ (fun _ s₀ h₀ => wpAny_bind (wpAny_mono h₀ (fun _ s₂ h₂ => wpAny_bind (wpAny_mono h₂ (fun ok s₃ h₃ => ?_) fun _ _ h' => h')) fun _ _ h' => h')) fun _ _ h' => h')
    cases ok with
    | false => exact wpAny_pure ⟨rfl, h₃⟩
    | true =>
      exact wpAny_bind (wpAny_bind (wpAny_mono h₃ (fun x s₄ h₄ => wpAny_bind (wpAny_mono h₄ (fun _ s₅ h₅ => wpAny_pure (wpAny_pure ⟨rfl, h₅⟩)) fun _ _ h' => h')) fun _ _ h' => h'))
inductive Ifs (PTc : Expr → TT → Prop) : List Expr → TT → Prop
  | nil : Ifs PTc [] (fun _ H Q => Q true H)
  | one {c : Expr} {t : TT} : PTc c t → Ifs PTc [c] t
def tComp (wi : TI) (tc : TT) (te : TE) : TE := fun σ H Q => wi σ H fun J H1 => ∀ D, H1 D = none → ∃ W : Nat → Nat → List V → Hp → Prop, (∃ m, W 0 m [] (upd H1 D (.lst []))) ∧ ∀ i m ys H, W i m ys H → H D = some (.lst ys) ∧
  ((J.stop i H ∧ Q (.ref D) H) ∨ (J.go i H ∧ ∃ N : List V → Hp → Prop, (∀ zs H', N zs H' → ∃ m', m' < m ∧ W (i + 1) m' zs H') ∧ ∀ x H', J.yld i H x H' → tc (some x :: σ) H' fun b H2 => if b = true then te (some x :: σ) H2 fun y H3 => H3 D = some (.lst ys) ∧ ys.length < sizeLine ∧ N (ys ++ [y]) (upd H3 D (.lst (ys ++ [y])))
    else N ys H2))
section
variable {X : Cx} {x : Str} {px pos : Pos} {scope : Scope} {cl : List (Str × Addr)} {elt iter : Expr} {ifs : List Expr} {wi : TI} {tc : TT} {te : TE}
theorem comp_block (hcalm : X.calm = true) (hkind : scope.kind = .function) (hnc : ∀ y ∈ scope.names, y.2 ≠ .cell) (hc : CapOk X x cl (relabel scope X.env).names) (hcl : ClOk X cl) (hx0 : x ≠ "") (hdot : (".0" : Str) ∉ X.N) (hxl : scope.names.lookup x = some .local) (hN : (compN x X.N).Nodup)
    (ht : ∀ C s₂ H₂ fp, Ifs (PT (cxC X x scope cl C s₂ H₂ fp)) ifs tc) (he : ∀ C s₂ H₂ fp, PE (cxC X x scope cl C s₂ H₂ fp) elt te)
    {pins : List (Addr × Obj)} {σ : St} {H₂ : Hp} {s₂ : Shared} {Q : VK} {it : Addr} {fp : List Addr} {tn : Nat → Heap → Prop} {J : It} {RR : Value → Addr → Result → Shared → Prop} {E : Value → Shared → Prop} (I : Inv X pins σ H₂ s₂) (T : Turn X.prog X.w X.K (.Name x px) J fp it tn) (st : tn 0 s₂.heap)
    (hf : ∀ b ∈ fp, FpOk X pins H₂ b)
    (hq : ∀ D, H₂ D = none → ∃ W : Nat → Nat → List V → Hp → Prop, (∃ m, W 0 m [] (upd H₂ D (.lst []))) ∧ ∀ i m ys H, W i m ys H → H D = some (.lst ys) ∧
      ((J.stop i H ∧ Q (.ref D) H) ∨ (J.go i H ∧ ∃ N : List V → Hp → Prop, (∀ zs H', N zs H' → ∃ m', m' < m ∧ W (i + 1) m' zs H') ∧ ∀ x H', J.yld i H x H' → tc (some x :: σ) H' fun b H2 => if b = true then te (some x :: σ) H2 fun y H3 => H3 D = some (.lst ys) ∧ ys.length < sizeLine ∧ N (ys ++ [y]) (upd H3 D (.lst (ys ++ [y])))
        else N ys H2)))
    (hRR : ∀ D C s' H', Inv X pins σ H' s' → Q (.ref D) H' → H' C = none → C ≠ X.env.locals → X.s₀.heap.objs.size ≤ C → (∀ y c, X.env.cells.lookup y = some c → c ≠ C) → (∀ p ∈ X.pn ++ pins, p.1 ≠ C) → (∃ m, s'.heap.Ns C m) → RR (.ref D) C (.ok .next) s') :
    wpAny (model X.prog X.w) X.A (newList []) (fun acc s₃ => wpAny (model X.prog X.w) X.A (newFunctionEnv scope X.env.globals cl [] X.env.qual none .none (some X.env)) (fun cenv s₄ =>
      codeAny (model X.prog X.w) X.A (.compStart (.ListComp elt [⟨.Name x px, iter, ifs, 0⟩] scope pos) 0 (.ref it) acc { cenv with scope := relabel scope X.env }) (RR acc cenv.locals) s₄) E s₃) E s₂ := by
  refine wpAny_newObj_type (wpAny_newFunctionEnv hnc (by intro y hy; simp at hy) (fun h₁ hns₁ hsb₁ => ?_) hkind)
  dsimp only at hns₁ hsb₁ ⊢
  have ho : ∀ b ∈ fp, ∃ o, s₂.heap.get? b = some o := fun b hb => let ⟨o, e, _⟩ := T.obj 0 _ st b hb; ⟨o, e⟩
  generalize hH2 : s₂.heap.push { cls := .type "list", dict := none, data := .seq ([] : List Value).toArray } = P2 at hns₁ hsb₁ ⊢
  have hC : P2.objs.size = s₂.heap.objs.size + 1 := by rw [← hH2, Heap.size_push]
  have old : ∀ b o, s₂.heap.get? b = some o → h₁.get? b = some o := fun b o e => hsb₁.extBut b o (by rw [hC]; exact Nat.ne_of_lt (Nat.lt_succ_of_lt (Heap.lt_size e))) (Heap.get?_push_of_some _ (hH2 ▸ Heap.get?_push_of_some _ e))
  have hD : ∃ n, h₁.get? s₂.heap.objs.size = some { cls := .type "list", data := .seq #[] n } := ⟨_, hsb₁.extBut _ _ (by rw [hC]; exact Nat.ne_of_lt (Nat.lt_succ_self _)) (Heap.get?_push_of_some _ (hH2 ▸ Heap.get?_push_size _ rfl))⟩
  have hns' : h₁.Ns P2.objs.size fun _ => none := by
    have e : (fun x : Str => ([] : List (Str × Value)).reverse.lookup x) = fun _ => none := by funext y; rfl
    rw [← e]
    exact hns₁
  have I0 := invC (tk := s₂.toks + ([] : List (Str × Value)).length) I hf ho hkind hc hcl hx0 hdot hC hns' old hD
  obtain ⟨W, ⟨m0, w0⟩, turn⟩ := hq _ (I.hok.fresh (Nat.le_refl _))
  have hCs : X.s₀.heap.objs.size ≤ P2.objs.size := by rw [hC]; exact Nat.le_succ_of_le I.sz
  have loop : ∀ s₃ : Shared, s₃ = { s₂ with heap := h₁, toks := s₂.toks + ([] : List (Str × Value)).length } →
      codeAny (model X.prog X.w) X.A (.compLoop (.ListComp elt [⟨.Name x px, iter, ifs, 0⟩] scope pos) 0 (.ref it) (.ref s₂.heap.objs.size) (compEnvC scope cl P2.objs.size X.env)) (RR (.ref s₂.heap.objs.size) P2.objs.size) s₃ := by
    rintro s₃ rfl
    refine compLoop_go (fun n s' => ∃ i ys v H, Inv (cxC X x scope cl P2.objs.size s₂ H₂ fp) [] (v :: σ) H s' ∧ tn i s'.heap ∧ (∀ b ∈ fp, H b = none) ∧ W i n ys H) ?_ m0
      ⟨0, [], none, _, I0, T.keep _ _ _ st fun b _ o e => old b o e, fun b hb => by rw [upd_ne (by obtain ⟨o, e⟩ := ho b hb; exact Nat.ne_of_lt (Heap.lt_size e))]; exact (hf b hb).1, w0⟩
    rintro n s' ⟨i, ys, v, H, I', st', fr', w'⟩
    have fpn : ∀ {H : Hp}, (∀ b ∈ fp, H b = none) → ∀ b ∈ fp, FpOk (cxC X x scope cl P2.objs.size s₂ H₂ fp) [] H b := fun hn => fpC I hf ho hcl (by rw [hC]; exact Nat.le_succ _) hn
    obtain ⟨hDl, go⟩ := turn i n ys H w'
    rcases go with ⟨stop, qn⟩ | ⟨go, Nx, hNx, step⟩
    · refine wpAny_mono (T.done (cxC X x scope cl P2.objs.size s₂ H₂ fp) rfl rfl rfl hcalm i [] s' (v :: σ) H (fun _ _ => False) I' (fpn fr') st' stop) (fun r s4 z => ?_) fun _ _ z => z
      obtain ⟨hr, I4⟩ := z
      subst hr
      obtain ⟨m4, hm4, _⟩ := I4.loc
      refine hRR _ _ s4 H (I.call' I4.os I4.base I4.hok I4.bare fun b hb => ?_) qn I4.free ?_ hCs (fun y c e z => ?_) (fun p hp z => ?_) ⟨m4, hm4⟩
      · obtain ⟨f0, f1, f2, f3, f4, f5⟩ := hf b hb
        exact ⟨f3, f1, f4, f5⟩
      · rw [hC]
        exact Nat.ne_of_gt (Nat.lt_succ_of_lt I.lt)
      · obtain ⟨v', oc, g1, _⟩ := I.cell y c e
        have := Heap.lt_size g1
        rw [z, hC] at this
        exact absurd (Nat.lt_of_succ_lt this) (Nat.lt_irrefl _)
      · have := Heap.lt_size (I.pin p hp).1
        rw [z, hC] at this
        exact absurd (Nat.lt_of_succ_lt this) (Nat.lt_irrefl _)
    · refine wpAny_mono (T.item (cxC X x scope cl P2.objs.size s₂ H₂ fp) rfl rfl rfl hcalm i [] s' (v :: σ) H (fun _ _ => False) I' (fpn fr') st' go) (fun r s4 z => ?_) fun _ _ z => z
      obtain ⟨u, hr, h4⟩ := z
      subst hr
      refine wpAny_mono h4 (fun _ s5 z => ?_) fun _ _ z => z
      obtain ⟨y, H5, I5, r5, y5, st5, fr5⟩ := z
      have I5' := I5.pinned (fpn fr5) (T.obj _ _ st5)
      have hxl' : (relabel scope X.env).names.lookup x = some .local := lookup_relabel_local hxl
      have hs := step y H5 y5
      refine wpAny_mono (pg_name (X := cxC X x scope cl P2.objs.size s₂ H₂ fp) (i := 0) (pos := px) hN rfl (.inl hxl') (.inr hxl') _ s5 (v :: σ) H5 y u (fun σ6 H6 => σ6 = some y :: σ ∧ H6 = H5) I5' r5 ⟨rfl, rfl⟩) (fun _ s6 z => ?_) fun _ _ z => z
      obtain ⟨σ6, H6, I6, rfl, rfl⟩ := z
      have again : ∀ {H7 : Hp} {s7 : Shared} {zs : List V}, Inv (cxC X x scope cl P2.objs.size s₂ H₂ fp) ([] ++ pinsAt fp s5.heap) (some y :: σ) H7 s7 → Nx zs H7 →
          ∃ m, m < n ∧ ∃ i ys v H, Inv (cxC X x scope cl P2.objs.size s₂ H₂ fp) [] (v :: σ) H s7 ∧ tn i s7.heap ∧ (∀ b ∈ fp, H b = none) ∧ W i m ys H := fun {H7 s7 zs} I7 w7 => by
        obtain ⟨m', hm, w7⟩ := hNx _ _ w7
        refine ⟨m', hm, i + 1, zs, some y, H7, I7.unpinned, T.keep _ _ _ st5 fun b hb o e => (I7.pin (b, o) (List.mem_append_right _ (List.mem_append_right _ (mem_pinsAt hb e)))).1, fun b hb => ?_, w7⟩
        obtain ⟨o, e, d⟩ := T.obj _ _ st5 b hb
        exact (I7.pin (b, o) (List.mem_append_right _ (List.mem_append_right _ (mem_pinsAt hb e)))).2.1
      have elts : ∀ {H7 : Hp} {s7 : Shared}, Inv (cxC X x scope cl P2.objs.size s₂ H₂ fp) ([] ++ pinsAt fp s5.heap) (some y :: σ) H7 s7 →
          (te (some y :: σ) H7 fun y' H3 => H3 s₂.heap.objs.size = some (.lst ys) ∧ ys.length < sizeLine ∧ Nx (ys ++ [y']) (upd H3 s₂.heap.objs.size (.lst (ys ++ [y'])))) →
          wpAny (model X.prog X.w) X.A (eval elt (compEnvC scope cl P2.objs.size X.env)) (fun xv s₄ =>
              wpAny (model X.prog X.w) X.A (call (.builtin "list.append") [.ref s₂.heap.objs.size, xv]) (fun _ s₅ => ∃ m, m < n ∧ ∃ i ys v H, Inv (cxC X x scope cl P2.objs.size s₂ H₂ fp) [] (v :: σ) H s₅ ∧ tn i s₅.heap ∧ (∀ b ∈ fp, H b = none) ∧ W i m ys H) (fun _ _ => False) s₄) (fun _ _ => False) s7 := fun {H7 s7} I7 q7 => by
        refine wpAny_mono (he P2.objs.size s₂ H₂ fp _ s7 (some y :: σ) H7 _ I7 q7) (fun u8 s8 z => ?_) fun _ _ z => z
        obtain ⟨y', H8, I8, r8, hD8, hz8, w8⟩ := z
        refine wpAny_mono (mt_append (X := cxC X x scope cl P2.objs.size s₂ H₂ fp) _ s8 (some y :: σ) H8 (.ref s₂.heap.objs.size) [y'] (.ref s₂.heap.objs.size) [u8] (fun _ H9 => H9 = upd H8 s₂.heap.objs.size (.lst (ys ++ [y']))) I8 rfl (.cons r8 .nil) ⟨_, ys, y', rfl, rfl, hD8, hz8, rfl⟩) (fun _ s9 z => ?_) fun _ _ z => z
        obtain ⟨_, H9, I9, _, rfl⟩ := z
        exact again I9 w8
      cases ht P2.objs.size s₂ H₂ fp with
      | nil => exact wpAny_tests_nil (elts I6 hs)
      | one hc1 =>
        refine wpAny_tests_one (wpAny_mono (hc1 _ s6 (some y :: σ) _ _ I6 hs) (fun b s7 z => ?_) fun _ _ z => z)
        obtain ⟨H7, I7, q7⟩ := z
        cases b with
        | true => exact elts I7 q7
        | false => exact again I7 q7
  exact codeAny_compStart_list (loop _ rfl) (T.self _ 0 _ _ _ (T.keep _ _ _ st fun b _ o e => old b o e) (loop _ rfl))
theorem pe_comp (hcalm : X.calm = true) (hi : PI X (.Name x px) iter wi) (hclos : closureFor scope X.env = pure cl) (hc : CapOk X x cl (relabel scope X.env).names) (hcl : ClOk X cl)
    (ht : ∀ C s₂ H₂ fp, Ifs (PT (cxC X x scope cl C s₂ H₂ fp)) ifs tc) (he : ∀ C s₂ H₂ fp, PE (cxC X x scope cl C s₂ H₂ fp) elt te) (hN : (compN x X.N).Nodup)
    (hkind : scope.kind = .function := by rfl) (hnc : ∀ y ∈ scope.names, y.2 ≠ .cell := by decide +kernel) (hnm : ∀ y ∈ scope.names, y.2 = .local → scope.names.lookup y.1 = some .local := by decide +kernel) (hx0 : x ≠ "" := by decide +kernel) (hdot : (".0" : Str) ∉ X.N := by decide +kernel) (hxl : scope.names.lookup x = some .local := by rfl)
    (hs : ∀ x, foldedSetIterable iter X.env x = pure x := by intro _; rfl) : PE X (.ListComp elt [⟨.Name x px, iter, ifs, 0⟩] scope pos) (tComp wi tc te) := by
  intro pins s σ H Q I h
  rw [eval_ListComp]
  refine wpAny_comprehension_free (use := none) rfl hs hclos hkind hnm (wpAny_mono (hi pins s σ H _ I h) (fun xv s₁ h₁ => wpAny_mono h₁ (fun itv s₂ h₂ => ?_) fun _ _ e => e) fun _ _ e => e)
  obtain ⟨it, fp, tn, J, H2, e, I2, T, st2, f2, hq⟩ := h₂
  subst e
  refine comp_block (RR := fun acc C => compPost (model X.prog X.w) X.A X.xe none (EP X pins σ Q) acc C) hcalm hkind hnc hc hcl hx0 hdot hxl hN ht he I2 T st2 f2 hq fun D C s' H' I' q' n1 n2 n3 n4 n5 n6 => ?_
  obtain ⟨m, hm⟩ := n6
  refine ⟨m, hm, fun h' hs' => ?_⟩
  exact ⟨.ref D, H', I'.turned (t' := s'.toks) (fun b o hb e => (hs'.2 b hb).trans e) n1 n2 (.inr n3) n4 n5, rfl, q'⟩
theorem ps_setC {i : Nat} {y : Str} {py spos : Pos} (hN0 : X.N.Nodup) (hy : X.N[i]? = some y) (hyl : X.env.scope.names.lookup y = some .local) (hsw : swapsWith (.ListComp elt [⟨.Name x px, iter, ifs, 0⟩] scope pos) (some (.Name y py)) spos.line X.env = pure true) (hcalm : X.calm = true) (hi : PI X (.Name x px) iter wi) (hclos : closureFor scope X.env = pure cl) (hc : CapOk X x cl (relabel scope X.env).names) (hcl : ClOk X cl)
    (ht : ∀ C s₂ H₂ fp, Ifs (PT (cxC X x scope cl C s₂ H₂ fp)) ifs tc) (he : ∀ C s₂ H₂ fp, PE (cxC X x scope cl C s₂ H₂ fp) elt te) (hN : (compN x X.N).Nodup)
    (hkind : scope.kind = .function := by rfl) (hnc : ∀ y ∈ scope.names, y.2 ≠ .cell := by decide +kernel) (hnm : ∀ y ∈ scope.names, y.2 = .local → scope.names.lookup y.1 = some .local := by decide +kernel) (hx0 : x ≠ "" := by decide +kernel) (hdot : (".0" : Str) ∉ X.N := by decide +kernel) (hxl : scope.names.lookup x = some .local := by rfl)
    (hs : ∀ x, foldedSetIterable iter X.env x = pure x := by intro _; rfl) : PS X (.Assign [.Name y py] (.ListComp elt [⟨.Name x px, iter, ifs, 0⟩] scope pos) spos) (tAsg (tComp wi tc te) (gName i)) := by
  intro pins s σ H D I h
  rw [exec_Assign_Name_used _ _ _ _ hsw]
  refine wpAny_bind (wpAny_standAt (wpAny_bind ?_))
  show wpAny _ _ (do let _ ← comprehension (.ListComp elt [⟨.Name x px, iter, ifs, 0⟩] scope pos) scope X.env _ (newList []) false (eval iter X.env) (some (assign (.Name y py) X.env))) _ _ s
  refine wpAny_bind (wpAny_mono (wpAny_comprehension_free (use := some (assign (.Name y py) X.env)) (Q := fun _ s' => SP X pins D .next s') rfl hs hclos hkind hnm
    (wpAny_mono (hi pins s σ H _ I h) (fun xv s₁ h₁ => wpAny_mono h₁ (fun itv s₂ h₂ => ?_) fun _ _ e => e) fun _ _ e => e)) (fun _ s' hq => wpAny_pure (wpAny_pure hq)) fun _ _ e => e)
  obtain ⟨it, fp, tn, J, H2, e, I2, T, st2, f2, hq⟩ := h₂
  subst e
  refine comp_block (Q := fun x H1 => gName i x σ H1 D.nx) (RR := fun acc C => compPost (model X.prog X.w) X.A X.xe (some (assign (.Name y py) X.env)) (fun _ s' => SP X pins D .next s') acc C) hcalm hkind hnc hc hcl hx0 hdot hxl hN ht he I2 T st2 f2 hq fun D' C s' H' I' q' n1 n2 n3 n4 n5 n6 => ?_
  obtain ⟨m, hm⟩ := n6
  show wpAny _ _ (assign (.Name y py) X.env (.ref D')) _ _ _
  refine wpAny_assign_Name (store_ok2 I' hN0 hy (.inl hyl) (show RelV (.ref D') (.ref D') from rfl) (fun s7 I7 z => ?_) (.inr hyl))
  obtain ⟨a, sb, ha⟩ := z
  have hCa : C ≠ a := by
    rcases ha with rfl | ha
    · exact n2
    · exact (n4 y a ha).symm
  refine ⟨m, hm.sameBut sb hCa, fun h' hs' => ?_⟩
  exact ⟨_, H', I7.turned (t' := s7.toks) (fun b o hb e => (hs'.2 b hb).trans e) n1 n2 (.inr n3) n4 n5, q'⟩
end
abbrev tYes : TT := fun _ H Q => Q true H
theorem comp_list {K : PySem.W.Frag} {a : Addr} {xs : List V} {tc : TT} {te : TE} {σ : St} {H1 : Hp} {Q : Addr → Hp → Prop} (Pv : Addr → Nat → List V → Hp → Prop) (h0 : ∀ D, H1 D = none → Pv D 0 [] (upd H1 D (.lst []))) (hl : ∀ D i ys H, i ≤ xs.length → Pv D i ys H → SqL K H a xs ∧ H D = some (.lst ys))
    (hs : ∀ D i x ys H, xs[i]? = some x → Pv D i ys H → tc (some x :: σ) H fun b H2 => if b = true then te (some x :: σ) H2 fun y H3 => H3 D = some (.lst ys) ∧ ys.length < sizeLine ∧ Pv D (i + 1) (ys ++ [y]) (upd H3 D (.lst (ys ++ [y]))) else Pv D (i + 1) ys H2)
    (hd : ∀ D ys H, Pv D xs.length ys H → Q D H) :
    ∀ D, H1 D = none → ∃ W : Nat → Nat → List V → Hp → Prop, (∃ m, W 0 m [] (upd H1 D (.lst []))) ∧ ∀ i m ys H, W i m ys H → H D = some (.lst ys) ∧
      (((Itl K a).stop i H ∧ Q D H) ∨ ((Itl K a).go i H ∧ ∃ N : List V → Hp → Prop, (∀ zs H', N zs H' → ∃ m', m' < m ∧ W (i + 1) m' zs H') ∧ ∀ x H', (Itl K a).yld i H x H' → tc (some x :: σ) H' fun b H2 => if b = true then te (some x :: σ) H2 fun y H3 => H3 D = some (.lst ys) ∧ ys.length < sizeLine ∧ N (ys ++ [y]) (upd H3 D (.lst (ys ++ [y])))
        else N ys H2)) := fun D hD => by
  refine ⟨fun i m ys H => m = xs.length - i ∧ i ≤ xs.length ∧ Pv D i ys H, ⟨xs.length, by simp, Nat.zero_le _, h0 D hD⟩, ?_⟩
  rintro i m ys H ⟨rfl, hi, p⟩
  obtain ⟨q, qd⟩ := hl D i ys H hi p
  refine ⟨qd, ?_⟩
  by_cases hlt : i < xs.length
  · refine .inr ⟨⟨xs, xs[i], q, by simp [hlt]⟩, Pv D (i + 1), fun zs H' p' => ⟨xs.length - (i + 1), by omega, rfl, hlt, p'⟩, fun x H' y => ?_⟩
    obtain ⟨e, y⟩ := y
    subst e
    exact hs D i x ys _ (y xs q) p
  · have e : i = xs.length := by omega
    subst e
    exact .inl ⟨⟨xs, q, Nat.le_refl _⟩, hd D ys H p⟩
theorem comp_range {lo : Int} {n : Nat} {tc : TT} {te : TE} {σ : St} {H1 : Hp} {Q : Addr → Hp → Prop} (Pv : Addr → Nat → List V → Hp → Prop) (h0 : ∀ D, H1 D = none → Pv D 0 [] (upd H1 D (.lst []))) (hl : ∀ D i ys H, i ≤ n → Pv D i ys H → H D = some (.lst ys))
    (hs : ∀ D i ys H, i < n → Pv D i ys H → tc (some (.int (lo + i)) :: σ) H fun b H2 => if b = true then te (some (.int (lo + i)) :: σ) H2 fun y H3 => H3 D = some (.lst ys) ∧ ys.length < sizeLine ∧ Pv D (i + 1) (ys ++ [y]) (upd H3 D (.lst (ys ++ [y]))) else Pv D (i + 1) ys H2)
    (hd : ∀ D ys H, Pv D n ys H → Q D H) :
    ∀ D, H1 D = none → ∃ W : Nat → Nat → List V → Hp → Prop, (∃ m, W 0 m [] (upd H1 D (.lst []))) ∧ ∀ i m ys H, W i m ys H → H D = some (.lst ys) ∧
      (((Itr lo n).stop i H ∧ Q D H) ∨ ((Itr lo n).go i H ∧ ∃ N : List V → Hp → Prop, (∀ zs H', N zs H' → ∃ m', m' < m ∧ W (i + 1) m' zs H') ∧ ∀ x H', (Itr lo n).yld i H x H' → tc (some x :: σ) H' fun b H2 => if b = true then te (some x :: σ) H2 fun y H3 => H3 D = some (.lst ys) ∧ ys.length < sizeLine ∧ N (ys ++ [y]) (upd H3 D (.lst (ys ++ [y])))
        else N ys H2)) := fun D hD => by
  refine ⟨fun i m ys H => m = n - i ∧ i ≤ n ∧ Pv D i ys H, ⟨n, by simp, Nat.zero_le _, h0 D hD⟩, ?_⟩
  rintro i m ys H ⟨rfl, hi, p⟩
  refine ⟨hl D i ys H hi p, ?_⟩
  by_cases hlt : i < n
  · refine .inr ⟨hlt, Pv D (i + 1), fun zs H' p' => ⟨n - (i + 1), by omega, rfl, hlt, p'⟩, fun x H' y => ?_⟩
    obtain ⟨e, y⟩ := y
    subst e y
    exact hs D i ys _ hlt p
  · have e : i = n := by omega
    subst e
    exact .inl ⟨Nat.le_refl _, hd D ys H p⟩
end L2
end
section
namespace L2
open PySem PySem.Spec PyProof.Rows
theorem iteTS {c : Bool} {A B : Prop} (hc : c = true) (h : A) : if c = true then A else B := by
  rw [if_pos hc]
  exact h
theorem iteFS {c : Bool} {A B : Prop} (hc : c = false) (h : B) : if c = true then A else B := by
  rw [hc]
  exact iteF h
theorem call_allB {X : Cx} (hc : X.calm = true) : CallR X (.builtin "all") (fun xs H Q => ∃ (l : Addr) (bs : List Bool), xs = [.ref l] ∧ H l = some (.lst (bs.map V.bl)) ∧ Q (.bl (bs.all id)) H) := by
  intro pins s σ H xs us Q I r h
  obtain ⟨l, bs, rfl, hl, q⟩ := h
  obtain ⟨u, rfl, ru⟩ := r.one
  obtain rfl : u = Value.ref l := ru
  obtain ⟨its, rv, p, hz⟩ := I.list (SqL.of hl)
  have hlt : l < s.heap.objs.size := by obtain ⟨_, _, e, _⟩ := p; exact Heap.lt_size e
  refine call_all_walk (wpAny_pyIter_list p.isList ?_)
  refine ⟨s.heap.objs.size, [s.heap.objs.size, l], [s.heap.objs.size], its.toArray.size, _, _, fun i => (bs[i]?).getD true, rfl, Walks.list (A := X.A.in1) (I.ok.hd hc) _ l (Nat.ne_of_lt hlt) its.toArray,
    ⟨⟨_, Heap.get?_push_size _ rfl, rfl, rfl⟩, p.isList.push _⟩, fun i v s' Q' E' hP hQ => ?_, fun h' tk hk => ?_⟩
  · have hi : its[i]? = some v := by simpa using hP
    have hlen := rv.length
    have hib : i < its.length := (List.getElem?_eq_some_iff.mp hi).1
    obtain ⟨u, e1, e2⟩ := rv.get (i := i) (x := V.bl ((bs[i]?).getD true)) (by
      rw [List.getElem?_map, List.getElem?_eq_getElem (by rw [List.length_map] at hlen; omega)]
      rfl)
    rw [hi] at e1
    cases e1
    cases e2
    exact wpAny_truthy_bool hQ
  · have e : ((List.range its.toArray.size).all fun i => (bs[i]?).getD true) = bs.all id := by
      have hlen := rv.length
      rw [List.length_map] at hlen
      rw [List.size_toArray, ← hlen]
      exact PyProof.Rows.LSm.range_all bs
    rw [e]
    exact ⟨.bl _, H, I.kept (t' := tk) fun b o z => hk b o (by have := Heap.lt_size z; intro q; rw [List.mem_singleton] at q; rw [q] at this; exact Nat.lt_irrefl _ this) (Heap.get?_push_of_some _ z), rfl, q⟩
theorem isLst_of {H : Hp} {p : Addr} {xs : List V} (h : H p = some (.lst xs)) : isLst H (.ref p) = true := by
  unfold isLst
  dsimp only
  rw [h]
abbrev Pgs := List (Option (Addr × List Int))
def pgV : Option (Addr × List Int) → V
  | none => .non
  | some (p, _) => .ref p
def cont (ps : Pgs) : List (Option (List Int)) := ps.map (Option.map (·.2))
structure Pg (H : Hp) (a : Addr) (ps : Pgs) : Prop where
  top : H a = some (.lst (ps.map pgV))
  each : ∀ (i : Nat) (p : Addr) (ws : List Int), ps[i]? = some (some (p, ws)) → H p = some (.lst (ws.map V.int)) ∧ p ≠ a
  nd : ∀ (i j : Nat) (p : Addr) (ws ws' : List Int), ps[i]? = some (some (p, ws)) → ps[j]? = some (some (p, ws')) → i = j
def At (a : Addr) (ps : Pgs) (b : Addr) : Prop := b = a ∨ ∃ (i : Nat) (ws : List Int), ps[i]? = some (some (b, ws))
theorem Pg.same {H H' : Hp} {a : Addr} {ps : Pgs} (g : Pg H a ps) (s : Same H H') : Pg H' a ps := ⟨s _ _ g.top, fun i p ws e => ⟨s _ _ (g.each i p ws e).1, (g.each i p ws e).2⟩, g.nd⟩
theorem Pg.keep {H H' : Hp} {a : Addr} {ps : Pgs} (g : Pg H a ps) (s : ∀ b, At a ps b → H' b = H b) : Pg H' a ps :=
  ⟨(s a (.inl rfl)).trans g.top, fun i p ws e => ⟨(s p (.inr ⟨i, ws, e⟩)).trans (g.each i p ws e).1, (g.each i p ws e).2⟩, g.nd⟩
theorem Pg.at {H : Hp} {a b : Addr} {ps : Pgs} (g : Pg H a ps) (h : At a ps b) : ∃ o, H b = some o := by
  rcases h with rfl | ⟨i, ws, e⟩
  · exact ⟨_, g.top⟩
  · exact ⟨_, (g.each i b ws e).1⟩
theorem atI_pg {ps : Pgs} {i : Nat} (h : i < ps.length) : ∃ o, ps[i]? = some o ∧ atI (ps.map pgV) (i : Int) = some (pgV o) := by
  refine ⟨ps[i], List.getElem?_eq_getElem h, atI_nat ?_⟩
  rw [List.getElem?_map, List.getElem?_eq_getElem h]
  rfl
theorem atI_word {ws : List Int} {j : Nat} (h : j < ws.length) : atI (ws.map V.int) (j : Int) = some (.int (ws.getD j 0)) := by
  refine atI_nat ?_
  rw [List.getElem?_map, List.getElem?_eq_getElem h, List.getD_eq_getElem?_getD, List.getElem?_eq_getElem h]
  rfl
theorem ixN_nat {n j : Nat} (h : j < n) : ixN n (j : Int) = some j := by
  unfold ixN
  rw [if_pos (Int.natCast_nonneg j), if_pos (by omega), Int.toNat_natCast]
def setW (ps : Pgs) (i j : Nat) (w : Int) : Pgs := ps.set i ((ps[i]?).getD none |>.map fun q => (q.1, q.2.set j w))
theorem setW_at {ps : Pgs} {i j : Nat} {w : Int} {p : Addr} {ws : List Int} (h : ps[i]? = some (some (p, ws))) : setW ps i j w = ps.set i (some (p, ws.set j w)) := by
  unfold setW
  rw [h]
  rfl
theorem setW_len (ps : Pgs) (i j : Nat) (w : Int) : (setW ps i j w).length = ps.length := List.length_set ..
theorem Pg.setW {H : Hp} {a : Addr} {ps : Pgs} {i j : Nat} {w : Int} {p : Addr} {ws : List Int} (g : Pg H a ps) (h : ps[i]? = some (some (p, ws))) : Pg (upd H p (.lst ((ws.map V.int).set j (.int w)))) a (setW ps i j w) := by
  have hi : i < ps.length := (List.getElem?_eq_some_iff.mp h).1
  have hp := g.each i p ws h
  rw [setW_at h]
  refine ⟨?_, fun k q vs e => ?_, fun k l q vs vs' e1 e2 => ?_⟩
  · rw [upd_ne (Ne.symm hp.2), g.top, List.map_set]
    congr 2
    refine (List.ext_getElem? fun k => ?_).symm
    by_cases hk : i = k
    · subst hk
      rw [List.getElem?_set_self (by rw [List.length_map]; exact hi), List.getElem?_map, h]
      rfl
    · rw [List.getElem?_set_ne hk]
  · by_cases hk : i = k
    · subst hk
      rw [List.getElem?_set_self hi] at e
      cases e
      refine ⟨?_, hp.2⟩
      rw [upd_same, List.map_set]
    · rw [List.getElem?_set_ne hk] at e
      have hq := g.each k q vs e
      refine ⟨?_, hq.2⟩
      rw [upd_ne (fun z => hk (by subst z; exact g.nd i k _ _ _ h e))]
      exact hq.1
  · have back : ∀ (k : Nat) (vs : List Int), (ps.set i (some (p, ws.set j w)))[k]? = some (some (q, vs)) → ∃ vs', ps[k]? = some (some (q, vs')) := fun k vs e => by
      by_cases hk : i = k
      · subst hk
        rw [List.getElem?_set_self hi] at e
        cases e
        exact ⟨_, h⟩
      · rw [List.getElem?_set_ne hk] at e
        exact ⟨_, e⟩
    obtain ⟨_, f1⟩ := back k vs e1
    obtain ⟨_, f2⟩ := back l vs' e2
    exact g.nd k l q _ _ f1 f2
theorem cont_setW {ps qs : Pgs} (h : cont ps = cont qs) (i j : Nat) (w : Int) : cont (setW ps i j w) = cont (setW qs i j w) := by
  have e : ∀ ps : Pgs, cont (setW ps i j w) = (cont ps).set i ((((cont ps)[i]?).getD none).map fun ws => ws.set j w) := fun ps => by
    unfold cont setW
    rw [List.map_set, List.getElem?_map]
    congr 1
    cases e : ps[i]? with
    | none => rfl
    | some o => cases o <;> rfl
  rw [e, e, h]
theorem cont_len {ps qs : Pgs} (h : cont ps = cont qs) : ps.length = qs.length := by
  have := congrArg List.length h
  unfold cont at this
  rw [List.length_map, List.length_map] at this
  exact this
theorem cont_at {ps qs : Pgs} (h : cont ps = cont qs) (i : Nat) : (ps[i]?).map (Option.map (·.2)) = (qs[i]?).map (Option.map (·.2)) := by
  have := congrArg (fun l => l[i]?) h
  unfold cont at this
  simpa using this
theorem cont_some {ps qs : Pgs} (h : cont ps = cont qs) {i : Nat} {p : Addr} {ws : List Int} (e : ps[i]? = some (some (p, ws))) : ∃ q, qs[i]? = some (some (q, ws)) := by
  have z := cont_at h i
  rw [e] at z
  cases f : qs[i]? with
  | none => rw [f] at z; cases z
  | some o =>
    rw [f] at z
    cases o with
    | none => cases z
    | some x =>
      obtain ⟨q, vs⟩ := x
      have z' : ws = vs := by simpa using z
      subst z'
      exact ⟨q, rfl⟩
theorem same_new {H : Hp} {p : Addr} {o : HO} (h : H p = none) : Same H (upd H p o) := fun b u e => by
  rw [upd_ne (ne_of_none e h)]
  exact e
theorem Same.set {H H' : Hp} {t : Addr} {o : HO} (s : Same H H') (h : H t = none) : Same H (upd H' t o) := fun b u e => by
  rw [upd_ne (ne_of_none e h)]
  exact s b u e
def Good (ps : Pgs) : Prop := ∀ (i : Nat) (p : Addr) (ws : List Int), ps[i]? = some (some (p, ws)) → ws.length = 8 ∧ ∀ w ∈ ws, 0 ≤ w ∧ w < 281474976710656
def tCopy (K : PySem.W.Frag) : TE := tIf (tTest (tOp (fun x y H Q => y = .non ∧ Q (.bl (decide (x = .non))) H) (tVar 0) (tC .non))) (tC .non) (tCB (fun xs H Q => ∃ p ys, xs = [.ref p] ∧ (SqL K H p ys ∨ SqT K H p ys) ∧ ∀ l, H l = none → Q (.ref l) (upd H l (.lst ys))) (tCons (tVar 0) tNil))
theorem copy_pages {K : PySem.W.Frag} {a : Addr} {ps : Pgs} {σ : St} {H : Hp} {Q : Addr → Hp → Prop} (g : Pg H a ps) (hl : ps.length ≤ 1000)
    (q : ∀ D H' qs, Same H H' → Pg H' D qs → cont qs = cont ps → (∀ b, At D qs b → H b = none) → Q D H') :
    ∀ D, H D = none → ∃ W : Nat → Nat → List V → Hp → Prop, (∃ m, W 0 m [] (upd H D (.lst []))) ∧ ∀ i m ys H, W i m ys H → H D = some (.lst ys) ∧
      (((Itl K a).stop i H ∧ Q D H) ∨ ((Itl K a).go i H ∧ ∃ N : List V → Hp → Prop, (∀ zs H', N zs H' → ∃ m', m' < m ∧ W (i + 1) m' zs H') ∧ ∀ x H', (Itl K a).yld i H x H' → tYes (some x :: σ) H' fun b H2 => if b = true then tCopy K (some x :: σ) H2 fun y H3 => H3 D = some (.lst ys) ∧ ys.length < sizeLine ∧ N (ys ++ [y]) (upd H3 D (.lst (ys ++ [y])))
        else N ys H2)) := by
  refine comp_list (xs := ps.map pgV) (fun D i ys H' => ∃ qs : Pgs, H D = none ∧ Same H H' ∧ Pg H' D qs ∧ ys = qs.map pgV ∧ qs.length = i ∧ cont qs = cont (ps.take i) ∧ ∀ b, At D qs b → H b = none) ?_ ?_ ?_ ?_
  · intro D hD
    refine ⟨[], hD, same_new hD, ⟨upd_same, fun i p ws e => by simp at e, fun i j p ws ws' e => by simp at e⟩, rfl, rfl, rfl, fun b h => ?_⟩
    rcases h with rfl | ⟨i, ws, e⟩
    · exact hD
    · simp at e
  · rintro D i ys H' _ ⟨qs, _, ss, g', rfl, _, _, _⟩
    exact ⟨SqL.of (ss _ _ g.top), g'.top⟩
  · rintro D i x ys H' hi ⟨qs, hD, ss, g', rfl, hq, hc, hfr⟩
    rw [List.getElem?_map] at hi
    cases e : ps[i]? with
    | none => rw [e] at hi; cases hi
    | some o =>
      rw [e] at hi
      have hi' : pgV o = x := Option.some.inj hi
      subst hi'
      have hil : i < ps.length := (List.getElem?_eq_some_iff.mp e).1
      have hlen : (qs.map pgV).length < sizeLine := by
        rw [List.length_map, hq]
        exact Nat.lt_of_lt_of_le (by omega : i < 1001) (by decide)
      have htake : ps.take (i + 1) = ps.take i ++ [o] := by
        rw [List.take_add_one, e]
        rfl
      refine iteT ?_
      have more : ∀ (o' : Option (Addr × List Int)) (H2 : Hp), o'.map (·.2) = o.map (·.2) → Same H' H2 → (∀ p ws, o' = some (p, ws) → H2 p = some (.lst (ws.map V.int)) ∧ H' p = none) →
          H2 D = some (.lst (qs.map pgV)) ∧ (qs.map pgV).length < sizeLine ∧ ∃ qs' : Pgs, H D = none ∧ Same H (upd H2 D (.lst (qs.map pgV ++ [pgV o']))) ∧ Pg (upd H2 D (.lst (qs.map pgV ++ [pgV o']))) D qs' ∧ qs.map pgV ++ [pgV o'] = qs'.map pgV ∧ qs'.length = i + 1 ∧ cont qs' = cont (ps.take (i + 1)) ∧ ∀ b, At D qs' b → H b = none := fun o' H2 ho s2 hn => by
        refine ⟨s2 _ _ g'.top, hlen, qs ++ [o'], hD, Same.set (ss.trans s2) hD, ⟨by rw [upd_same, List.map_append]; rfl, fun k p ws z => ?_, fun k l p ws ws' z1 z2 => ?_⟩, by rw [List.map_append]; rfl, by rw [List.length_append, hq]; rfl, ?_, fun b hb => ?_⟩
        · rcases Nat.lt_or_ge k qs.length with hk | hk
          · rw [List.getElem?_append_left hk] at z
            have := g'.each k p ws z
            refine ⟨?_, this.2⟩
            rw [upd_ne this.2]
            exact s2 _ _ this.1
          · rw [List.getElem?_append_right hk] at z
            have hk' : k - qs.length = 0 := by
              rcases Nat.eq_zero_or_pos (k - qs.length) with h | h
              · exact h
              · rw [List.getElem?_eq_none (by simp; omega)] at z
                cases z
            rw [hk'] at z
            obtain ⟨z1, z2⟩ := hn p ws (Option.some.inj z)
            have ne : p ≠ D := fun q => by rw [q, g'.top] at z2; cases z2
            refine ⟨?_, ne⟩
            rw [upd_ne ne]
            exact z1
        · have split : ∀ (k : Nat) (vs : List Int), (qs ++ [o'])[k]? = some (some (p, vs)) → (k < qs.length ∧ qs[k]? = some (some (p, vs))) ∨ (k = qs.length ∧ o' = some (p, vs)) := fun k vs z => by
            rcases Nat.lt_or_ge k qs.length with hk | hk
            · rw [List.getElem?_append_left hk] at z
              exact .inl ⟨hk, z⟩
            · rw [List.getElem?_append_right hk] at z
              have hk' : k - qs.length = 0 := by
                rcases Nat.eq_zero_or_pos (k - qs.length) with h | h
                · exact h
                · rw [List.getElem?_eq_none (by simp; omega)] at z
                  cases z
              rw [hk'] at z
              exact .inr ⟨by omega, Option.some.inj z⟩
          have old : ∀ (k : Nat) (vs vs' : List Int), qs[k]? = some (some (p, vs)) → o' = some (p, vs') → False := fun k vs vs' z1 z2 => by
            have h1 := (g'.each k p vs z1).1
            rw [(hn p vs' z2).2] at h1
            cases h1
          rcases split k ws z1 with ⟨_, a1⟩ | ⟨rfl, a1⟩ <;> rcases split l ws' z2 with ⟨_, a2⟩ | ⟨rfl, a2⟩
          · exact g'.nd k l p ws ws' a1 a2
          · exact (old _ _ _ a1 a2).elim
          · exact (old _ _ _ a2 a1).elim
          · rfl
        · rw [htake]
          unfold cont at hc ⊢
          rw [List.map_append, List.map_append, hc]
          congr 1
          simp [ho]
        · rcases hb with rfl | ⟨k, ws, z⟩
          · exact hD
          · rcases Nat.lt_or_ge k qs.length with hk | hk
            · rw [List.getElem?_append_left hk] at z
              exact hfr b (.inr ⟨k, ws, z⟩)
            · rw [List.getElem?_append_right hk] at z
              have hk' : k - qs.length = 0 := by
                rcases Nat.eq_zero_or_pos (k - qs.length) with h | h
                · exact h
                · rw [List.getElem?_eq_none (by simp; omega)] at z
                  cases z
              rw [hk'] at z
              exact ss.free (hn b ws (Option.some.inj z)).2
      cases o with
      | none =>
        refine ⟨_, rfl, rfl, _, rfl, iteT ?_⟩
        exact more none H' rfl (Same.refl _) fun p ws z => by cases z
      | some x =>
        obtain ⟨p, ws⟩ := x
        refine ⟨_, rfl, rfl, _, rfl, iteF ⟨_, rfl, p, _, rfl, .inl (SqL.of (ss _ _ (g.each i p ws e).1)), fun l hl => ?_⟩⟩
        refine more (some (l, ws)) _ rfl (same_new hl) fun p' ws' z => ?_
        cases z
        exact ⟨upd_same, hl⟩
  · rintro D ys H' ⟨qs, _, ss, g', rfl, hq, hc, hfr⟩
    rw [List.length_map, List.take_length] at hc
    exact q D H' qs ss g' hc hfr
end L2
end
section
namespace L2
open PySem PySem.Spec PyProof.Rows
theorem Inv.turnedN {X : Cx} {pins : List (Addr × Obj)} {σ : St} {H : Hp} {s : Shared} {h' : Heap} {t' : Nat} {fp : List Addr} (I : Inv X pins σ H s) (k : ∀ b o, b ∉ fp → s.heap.get? b = some o → h'.get? b = some o) (hf : ∀ b ∈ fp, FpOk X pins H b) : Inv X pins σ H { s with heap := h', toks := t' } := by
  have nit : ∀ b u, H b = some u → b ∉ fp := fun b u e z => by rw [(hf b z).1] at e; cases e
  refine I.step (g' := s.gens) (d' := s.drawn) (ch := fp) (fun b hb => ?_) (fun b o _ _ hc e _ => k b o hc e) (fun b o _ _ hc e _ => ⟨o.slots, k b o hc e⟩) (fun _ _ _ _ n => n)
    (fun b o hc e => ⟨o, k b o hc e⟩) (fun _ _ e => e) (fun _ _ _ e => e) (fun b ps e => ⟨#[], by rw [e]; simp⟩) (fun m hm => ?_) (fun b u e => ?_) I.bare
  · obtain ⟨f0, f1, f2, f3, f4, f5⟩ := hf b hb
    exact ⟨f3, f1, f4, f5⟩
  · obtain ⟨o, es, ep, ho, r⟩ := hm
    exact ⟨o, es, ep, k _ o (fun z => (hf _ z).2.1 rfl) ho, r⟩
  · refine (I.hok b u e).stay (fun c v hc q => k c v ?_ q) (fun _ q => q) fun _ _ q => q
    rcases hc with z | z
    · rw [z]; exact nit b u e
    · exact nit c _ z
def Ite (K : PySem.W.Frag) (a : Addr) : It :=
  ⟨fun i H => ∃ xs x, SqL K H a xs ∧ xs[i]? = some x, fun i H x H' => ∃ t v, H t = none ∧ x = .ref t ∧ (∀ xs, SqL K H a xs → xs[i]? = some v) ∧ H' = upd H t (.tup [.int (i : Int), v]), fun i H => ∃ xs, SqL K H a xs ∧ xs.length ≤ i⟩
theorem turn_enum {P : Program} {w : World} {K : PySem.W.Frag} {elts : List Expr} {x1 : Nat} {pos : Pos} (a e it : Addr) (hne : e ≠ it) : Turn P w K (.Tuple elts x1 pos) (Ite K a) [e, it] e (fun i h => (∃ old, IsEnum h e it i old) ∧ h.IsListIter it a i) where
  mem := by simp
  obj := fun i h st b hb => by
    obtain ⟨⟨old, he⟩, o, ho, c, d⟩ := st
    rcases List.mem_cons.mp hb with z | z
    · subst z
      exact ⟨_, he, fun v z => by cases z⟩
    · rw [List.mem_singleton.mp z]
      exact ⟨o, ho, fun v z => by rw [d] at z; cases z⟩
  keep := fun i h h' st k => ⟨⟨_, k e (by simp) _ st.1.choose_spec⟩, st.2.at fun o z => k it (by simp) o z⟩
  item := by
    intro X hP hw hK hc i pins s σ H E I hf st hg
    subst hP hw hK
    obtain ⟨xs, x, hq, hx⟩ := hg
    obtain ⟨its, rv, p, hz⟩ := I.list hq
    obtain ⟨u, hu, ru⟩ := rv.get hx
    obtain ⟨⟨old, he⟩, hit⟩ := st
    have hel : e < s.heap.objs.size := Heap.lt_size he
    have hil : it < s.heap.objs.size := by obtain ⟨o, ho, _⟩ := id hit; exact Heap.lt_size ho
    refine wpAny_pyNext_enum_item he hit p.isList (x := u) (by simpa using hu) hne fun h1 ho hit1 ht hsz hk => ⟨_, rfl, ?_⟩
    refine wpAny_letOwnedTupleGo_enum ho fun h2 he2 hs2 => ?_
    have hs2 : Heap.SameBut e h1 h2 := hs2
    have hT : H s.heap.objs.size = none := I.hok.fresh (Nat.le_refl _)
    have I1 : Inv X pins σ (upd H s.heap.objs.size (.tup [.int (i : Int), x])) { s with heap := s.heap.push { cls := .type "tuple", data := .seq #[.int i s.toks, u] }, toks := s.toks + 1 } := by
      refine I.laid (fun b o z => Heap.get?_push_of_some _ z) (Nat.le_refl _) ?_
      exact ⟨by show 2 ≤ sizeLine; decide, [.int i s.toks, u], .cons ⟨_, rfl⟩ (.cons ru .nil), _, Heap.get?_push_size _ rfl, rfl, _, rfl⟩
    have hf1 : ∀ b ∈ [e, it], FpOk X pins (upd H s.heap.objs.size (.tup [.int (i : Int), x])) b := fun b hb => by
      obtain ⟨f0, f⟩ := hf b hb
      refine ⟨?_, f⟩
      have hbl : b < s.heap.objs.size := by
        rcases List.mem_cons.mp hb with z | z
        · rw [z]; exact hel
        · rw [List.mem_singleton.mp z]; exact hil
      rw [upd_ne (Nat.ne_of_lt hbl)]
      exact f0
    have I2 : Inv X pins σ (upd H s.heap.objs.size (.tup [.int (i : Int), x])) { s with heap := h2, toks := s.toks + 1 } := by
      refine Inv.turnedN (s := { s with heap := s.heap.push { cls := .type "tuple", data := .seq #[.int i s.toks, u] }, toks := s.toks + 1 }) (h' := h2) (t' := s.toks + 1) (fp := [e, it]) I1 (fun b o hb z => ?_) hf1
      have n1 : b ≠ e := fun q => hb (by simp [q])
      have n2 : b ≠ it := fun q => hb (by simp [q])
      rw [hs2.2 b n1]
      by_cases hbT : b = s.heap.objs.size
      · subst hbT
        have z' : some _ = some o := (Heap.get?_push_size s.heap (o := { cls := .type "tuple", data := .seq #[.int i s.toks, u] }) rfl).symm.trans z
        rw [← z']
        exact ht
      · refine hk b o n1 n2 ?_
        have hlt : b < (s.heap.push { cls := .type "tuple", data := .seq #[.int i s.toks, u] }).objs.size := Heap.lt_size z
        rw [Heap.size_push] at hlt
        rwa [show (s.heap.push { cls := .type "tuple", data := .seq #[.int i s.toks, u] }).get? b = s.heap.get? b from Heap.get?_push_ne _ _ _ hbT] at z
    refine ⟨.ref s.heap.objs.size, _, I2, rfl, ⟨_, x, hT, rfl, fun ys hy => by rw [I.list_inj hy hq]; exact hx, rfl⟩, ⟨⟨u, by simpa using he2⟩, hit1.at fun o z => (hs2.2 it hne.symm).trans z⟩, fun b hb => (hf1 b hb).1⟩
  done := by
    intro X hP hw hK hc i pins s σ H E I hf st hg
    subst hP hw hK
    obtain ⟨xs, hq, hx⟩ := hg
    obtain ⟨its, rv, p, hz⟩ := I.list hq
    obtain ⟨⟨old, he⟩, hit⟩ := st
    have hl := rv.length
    exact wpAny_pyNext_enum_end (I.ok.hd hc) he hit p.isList (by simp; omega) fun h' eb => ⟨rfl, I.turnedN (t' := s.toks) (fp := [e, it]) (fun b o hb z => eb b o (fun q => hb (by simp [q])) z) hf⟩
  self := fun _ _ _ _ _ st h => wpAny_pyIter_enum st.1.choose_spec h
def iEnum (K : PySem.W.Frag) (ta : TA) : TI := fun σ H R => ta σ H fun vs H1 => ∃ a xs, vs = [.ref a] ∧ SqL K H1 a xs ∧ R (Ite K a) H1
theorem pi_enum {X : Cx} {elts : List Expr} {x1 : Nat} {tpos p pos : Pos} {l : Expr} {ta : TA} (hg : Gl X "enumerate") (hm : X.mg "enumerate" = none) (ha : PA X [l] ta) (hs : starEach [l] X.env = [(false, eval l X.env)] := by rfl) : PI X (.Tuple elts x1 tpos) (.Call (.Name "enumerate" p) [l] [] pos) (iEnum X.K ta) := by
  intro pins s σ H R I h
  refine Call_ (ld_blt I hg hm boot_enumerate (PyProof.Rows.callWith_type1 (thn (ha pos pins s σ H _ I h) fun us s1 ⟨vs, H1, I1, r1, q1⟩ => ?_) hs rfl))
  obtain ⟨a, xs, e, hq, q⟩ := q1
  subst e
  cases r1 with
  | cons r rr =>
    cases rr
    cases r
    obtain ⟨its, rv, p, hz⟩ := I1.list hq
    refine call_enumerate_list p.isList fun h' hE hI hsz hk => ?_
    refine wpAny_pyIter_enum hE ?_
    refine ⟨_, [s1.heap.objs.size + 1, s1.heap.objs.size], _, _, H1, rfl, I1.kept (t' := s1.toks) hk, turn_enum a _ _ (Nat.succ_ne_self _), ⟨⟨_, hE⟩, hI⟩, fun b hb => ?_, q⟩
    have hb' : s1.heap.objs.size ≤ b := by
      rcases List.mem_cons.mp hb with z | z
      · rw [z]; exact Nat.le_succ _
      · rw [List.mem_singleton.mp z]; exact Nat.le_refl _
    exact I1.fpOk hb' (I1.hok.fresh hb')
theorem for_enum {K : PySem.W.Frag} {a : Addr} {xs : List V} {g : TG} {tb : TS} {D : Ends} {σ : St} {H : Hp} (Pv : Nat → St → Hp → Prop) (h0 : Pv 0 σ H) (hl : ∀ i σ H, i ≤ xs.length → Pv i σ H → SqL K H a xs)
    (hs : ∀ i x σ H t, xs[i]? = some x → Pv i σ H → H t = none → g (.ref t) σ (upd H t (.tup [.int (i : Int), x])) fun σ2 H2 => tb { D with nx := Pv (i + 1), ct := Pv (i + 1), bk := D.nx } σ2 H2) (hd : ∀ σ H, Pv xs.length σ H → D.nx σ H) :
    ∃ W : Nat → Nat → St → Hp → Prop, (∃ m, W 0 m σ H) ∧ ∀ i m σ H, W i m σ H →
      ((Ite K a).stop i H ∧ D.nx σ H) ∨ ((Ite K a).go i H ∧ ∃ N : St → Hp → Prop, (∀ σ' H', N σ' H' → ∃ m', m' < m ∧ W (i + 1) m' σ' H') ∧ ∀ x H', (Ite K a).yld i H x H' → g x σ H' fun σ2 H2 => tb { D with nx := N, ct := N, bk := D.nx } σ2 H2) := by
  refine ⟨fun i m σ H => m = xs.length - i ∧ i ≤ xs.length ∧ Pv i σ H, ⟨xs.length, by simp, Nat.zero_le _, h0⟩, ?_⟩
  rintro i m σ H ⟨rfl, hi, p⟩
  have q := hl i σ H hi p
  by_cases hlt : i < xs.length
  · refine .inr ⟨⟨xs, xs[i], q, by simp [hlt]⟩, Pv (i + 1), fun σ' H' p' => ⟨xs.length - (i + 1), by omega, rfl, hlt, p'⟩, fun x H' y => ?_⟩
    obtain ⟨t, v, ht, rfl, hv, rfl⟩ := y
    exact hs i v σ H t (hv xs q) p ht
  · have e : i = xs.length := by omega
    subst e
    exact .inl ⟨⟨xs, q, Nat.le_refl _⟩, hd σ H p⟩
end L2
end
section
namespace L2
open PySem PySem.Spec PyProof.Rows
theorem app_at {ps : Pgs} {o : Option (Addr × List Int)} {p : Addr} {vs : List Int} {k : Nat} (z : (ps ++ [o])[k]? = some (some (p, vs))) : (k < ps.length ∧ ps[k]? = some (some (p, vs))) ∨ (k = ps.length ∧ o = some (p, vs)) := by
  rcases Nat.lt_or_ge k ps.length with hk | hk
  · rw [List.getElem?_append_left hk] at z
    exact .inl ⟨hk, z⟩
  · rw [List.getElem?_append_right hk] at z
    have hk' : k - ps.length = 0 := by
      rcases Nat.eq_zero_or_pos (k - ps.length) with h | h
      · exact h
      · rw [List.getElem?_eq_none (by simp; omega)] at z
        cases z
    rw [hk'] at z
    exact .inr ⟨by omega, Option.some.inj z⟩
theorem Pg.app {H H2 : Hp} {D : Addr} {qs : Pgs} {o : Option (Addr × List Int)} (g : Pg H D qs) (s2 : Same H H2) (hn : ∀ (p : Addr) (ws : List Int), o = some (p, ws) → H2 p = some (.lst (ws.map V.int)) ∧ H p = none) :
    Pg (upd H2 D (.lst (qs.map pgV ++ [pgV o]))) D (qs ++ [o]) := by
  refine ⟨by rw [upd_same, List.map_append]; rfl, fun k p ws z => ?_, fun k l p ws ws' z1 z2 => ?_⟩
  · rcases app_at z with ⟨_, z⟩ | ⟨_, z⟩
    · have := g.each k p ws z
      refine ⟨?_, this.2⟩
      rw [upd_ne this.2]
      exact s2 _ _ this.1
    · obtain ⟨z1, z2⟩ := hn p ws z
      have ne : p ≠ D := fun q => by rw [q, g.top] at z2; cases z2
      refine ⟨?_, ne⟩
      rw [upd_ne ne]
      exact z1
  · have old : ∀ (k : Nat) (vs vs' : List Int), qs[k]? = some (some (p, vs)) → o = some (p, vs') → False := fun k vs vs' z1 z2 => by
      have h1 := (g.each k p vs z1).1
      rw [(hn p vs' z2).2] at h1
      cases h1
    rcases app_at z1 with ⟨_, a1⟩ | ⟨rfl, a1⟩ <;> rcases app_at z2 with ⟨_, a2⟩ | ⟨rfl, a2⟩
    · exact g.nd k l p ws ws' a1 a2
    · exact (old _ _ _ a1 a2).elim
    · exact (old _ _ _ a2 a1).elim
    · rfl
theorem At.app {D b : Addr} {qs : Pgs} {o : Option (Addr × List Int)} (h : At D (qs ++ [o]) b) : At D qs b ∨ ∃ ws, o = some (b, ws) := by
  rcases h with rfl | ⟨k, ws, z⟩
  · exact .inl (.inl rfl)
  · rcases app_at z with ⟨_, z⟩ | ⟨_, z⟩
    · exact .inl (.inr ⟨k, ws, z⟩)
    · exact .inr ⟨ws, z⟩
theorem Good.app {qs : Pgs} {o : Option (Addr × List Int)} (g : Good qs) (h : ∀ (p : Addr) (ws : List Int), o = some (p, ws) → ws.length = 8 ∧ ∀ w ∈ ws, 0 ≤ w ∧ w < 281474976710656) : Good (qs ++ [o]) := fun k p ws z => by
  rcases app_at z with ⟨_, z⟩ | ⟨_, z⟩
  · exact g k p ws z
  · exact h p ws z
theorem datsI {K : PySem.W.Frag} {H : Hp} : ∀ ws : List Int, DatsR K H (ws.map V.int) (ws.map PyData.int)
  | [] => .nil
  | b :: bs => .cons (.int b) (datsI bs)
theorem layI : ∀ ws : List Int, PyData.canLayAll0 (ws.map PyData.int) = true ∧ PyData.depthAll (ws.map PyData.int) = 0
  | [] => ⟨rfl, rfl⟩
  | b :: bs => by
    obtain ⟨h1, h2⟩ := layI bs
    constructor
    · simp only [List.map_cons, PyData.canLayAll0, PyData.canLay0, h1, Bool.and_self]
    · simp only [List.map_cons, PyData.depthAll, PyData.depth, h2, Nat.max_self]
theorem eqvI : ∀ ws : List Int, PyData.eqvAll (ws.map PyData.int) (ws.map PyData.int) = true
  | [] => rfl
  | b :: bs => by simp only [List.map_cons, PyData.eqvAll, PyData.eqv, eqvI bs, beq_self_eq_true, Bool.and_self]
theorem comp_words {lo : Int} {n : Nat} {te : TE} {σ : St} {H : Hp} {Q : Addr → Hp → Prop} (hn : n ≤ 1000)
    (ht : ∀ (i : Nat) (H' : Hp) (R : VK), i < n → Same H H' → (∀ (w : Int) (H2 : Hp), 0 ≤ w → w < 281474976710656 → Same H' H2 → R (.int w) H2) → te (some (.int (lo + i)) :: σ) H' R)
    (q : ∀ (D : Addr) (H' : Hp) (ws : List Int), H D = none → Same H H' → H' D = some (.lst (ws.map V.int)) → ws.length = n → (∀ w ∈ ws, 0 ≤ w ∧ w < 281474976710656) → Q D H') :
    ∀ D, H D = none → ∃ W : Nat → Nat → List V → Hp → Prop, (∃ m, W 0 m [] (upd H D (.lst []))) ∧ ∀ i m ys H, W i m ys H → H D = some (.lst ys) ∧
      (((Itr lo n).stop i H ∧ Q D H) ∨ ((Itr lo n).go i H ∧ ∃ N : List V → Hp → Prop, (∀ zs H', N zs H' → ∃ m', m' < m ∧ W (i + 1) m' zs H') ∧ ∀ x H', (Itr lo n).yld i H x H' → tYes (some x :: σ) H' fun b H2 => if b = true then te (some x :: σ) H2 fun y H3 => H3 D = some (.lst ys) ∧ ys.length < sizeLine ∧ N (ys ++ [y]) (upd H3 D (.lst (ys ++ [y])))
        else N ys H2)) := by
  refine comp_range (fun D i ys H' => H D = none ∧ Same H H' ∧ H' D = some (.lst ys) ∧ ∃ ws : List Int, ys = ws.map V.int ∧ ws.length = i ∧ ∀ w ∈ ws, 0 ≤ w ∧ w < 281474976710656) ?_ ?_ ?_ ?_
  · exact fun D hD => ⟨hD, same_new hD, upd_same, [], rfl, rfl, fun w hw => by cases hw⟩
  · rintro D i ys H' _ ⟨_, _, hy, _⟩
    exact hy
  · rintro D i ys H' hi ⟨hD, ss, hy, ws, rfl, hl, hw⟩
    refine iteT (ht i H' _ hi ss fun w H2 w0 w1 s2 => ?_)
    refine ⟨s2 _ _ hy, ?_, hD, Same.set (ss.trans s2) hD, upd_same, ws ++ [w], by rw [List.map_append]; rfl, by rw [List.length_append, hl]; rfl, fun v hv => ?_⟩
    · rw [List.length_map, hl]
      exact Nat.lt_of_lt_of_le (by omega : i < 1001) (by decide)
    · rcases List.mem_append.mp hv with z | z
      · exact hw v z
      · rw [List.mem_singleton.mp z]
        exact ⟨w0, w1⟩
  · rintro D ys H' ⟨hD, ss, hy, ws, rfl, hl, hw⟩
    exact q D H' ws hD ss hy hl hw
end L2
end
section
namespace L2
open PySem PySem.Spec PyProof.Rows Builtin Builtin.ObjectAttr
def overV : List Value → Bool
  | [] => false
  | v :: r => match v with
    | .ref _ => overV r
    | _ => (v :: r) == VB
theorem overV_refuse (self : Value) : ∀ {l : List Value}, overV l = true → refuseLoop self "__setattr__" l = pure ()
  | [], e => by cases e
  | v :: r, e => by
    unfold overV at e
    split at e
    · rw [refuseLoop_ref]; exact overV_refuse self e
    · rw [beq_iff_eq.mp e]; exact PySem.F.store_ValueError.passes self
theorem overV_has : ∀ {l : List Value}, overV l = true → l.contains (.type "object") = true
  | [], e => by cases e
  | v :: r, e => by
    unfold overV at e
    split at e
    · rw [List.contains_cons, overV_has e, Bool.or_true]
    · rw [beq_iff_eq.mp e]; decide
def overIn (K : PySem.W.Frag) (C : Addr) : Bool := (PySem.W.clsIn K C).any fun cd => overV cd.mro
structure XCls (K : PySem.W.Frag) (C : Addr) : Prop where
  sa : PySem.W.findIn K (.ref C) "__setattr__" = some (some (.builtin "object.__setattr__"))
  ov : overIn K C = true
  hd : PySem.W.hasDictIn K C = true
  ga : PySem.W.findIn K (.ref C) "__getattribute__" = some (some (.builtin "BaseException.__getattribute__"))
  gh : PySem.W.findIn K (.ref C) "__getattr__" = some none
  mb : PySem.W.mroIn K C (.type "BaseException") = some true
section
variable {prog : Program} {w : World} {A : Around} {s : Shared} {K : PySem.W.Frag} {x C : Addr} {R : Result → Shared → Prop}
theorem xsa_open {name : Str} {tk : Tok} {v : Value} (X : K.In s.heap) (L0 : PySem.W.Looks (model prog w) s.heap (typeOf (.ref x)) (.ref C)) (hp : overIn K C = true) (ht : PySem.W.findIn K (.ref C) name = some none)
    (h : wpAny (model prog w) A.in1 (storeInOwnDict (.ref x) (.ref C) (.str name tk) name v false)
      (fun fin s' => match fin with | .done f => R (.ok f) s' | .again c' => c'.quiet = true ∧ codeAny (model prog w) A c' R s') (fun e s' => R (.error e) s') s) :
    codeAny (model prog w) A (.call (.builtin "object.__setattr__") ⟨[.ref x, .str name tk, v], []⟩) R s := by
  have SF := PySem.F.store_object
  obtain ⟨cd, hc, ho⟩ := PySem.W.any_some hp
  have ne : cd.mro.isEmpty = false := by
    cases q : cd.mro with
    | nil => rw [q] at ho; cases ho
    | cons _ _ => rfl
  have sub : PySem.W.Looks (model prog w) s.heap (isInstance (.ref x) (.type "object")) true := L0.andThen (PySem.W.looks_mroIn X (by
    unfold PySem.W.mroIn
    rw [hc, Option.bind_some, if_neg (by rw [ne]; decide), overV_has ho]))
  refine codeAny_call_builtin SF.slot.plain SF.entry (@PySem.W.check_slot (model prog w) _ _ s "object.__setattr__" "object" "__setattr__" (.ref x) [.str name tk, v] [] _ SF.kind SF.split sub (SF.args (.ref x) (.str name tk) v) ?_)
  have hm : PySem.W.Looks (model prog w) s.heap (mroOf (.ref C)) cd.mro := (PySem.W.looks_clsIn X hc).andThen .now
  rw [PySem.W.osa_eq, refuse_eq]
  refine wpAny_bind (wpAny_bind (L0.here (wpAny_bind (hm.here ?_))))
  rw [overV_refuse _ ho]
  exact wpAny_pure (wpAny_bind (L0.here (wpAny_bind ((PySem.W.looks_findIn X ht).here (wpAny_bind (wpAny_pure h))))))
end
def xnw (e C t : Addr) (od : Option Addr) : HO := .ext fun h => h.get? e = some (xo C t od)
def xdo (d : Addr) (fs : List (Str × V)) : HO := .ext fun h => ∃ mA, h.Ns1 d mA ∧ (∀ f, RelO (fs.lookup f) (mA f)) ∧ PySem.Within mA (fs.map (·.1))
theorem xnw_ok {P : Program} {w : World} {H : Hp} {h : Heap} {e C t : Addr} {od : Option Addr} (x : h.get? e = some (xo C t od)) : ObjOk P w H h e (xnw e C t od) := ⟨x, ⟨_, x⟩, fun h1 h2 z k => k _ z⟩
theorem xdo_ok {P : Program} {w : World} {H : Hp} {h : Heap} {d : Addr} {fs : List (Str × V)} {mA : Str → Option Value} (x : h.Ns1 d mA) (y : ∀ f, RelO (fs.lookup f) (mA f)) (z : PySem.Within mA (fs.map (·.1))) : ObjOk P w H h d (xdo d fs) :=
  ⟨⟨mA, x, y, z⟩, (by obtain ⟨o, _, _, e, _⟩ := x; exact ⟨o, e⟩), fun h1 h2 ⟨m, ⟨o, es, ep, e, r⟩, y, z⟩ k => ⟨m, ⟨o, es, ep, k _ e, r⟩, y, z⟩⟩
section
variable {X : Cx} {pins : List (Addr × Obj)} {σ : St} {H : Hp} {s : Shared} {e C t d : Addr} {fs : List (Str × V)} {f : Str} {y : V} {u : Value} {A : Around} {E : Value → Shared → Prop} {Q : Unit → Shared → Prop}
theorem xset0 (I : Inv X pins σ H s) (e0 : H e = some (xnw e C t none)) (c : XCls X.K C) (n : NoAttr X.K C f) (ry : RelV y u)
    (h : ∀ d H' s', H d = none → d ≠ e → H' e = some (xnw e C t (some d)) → H' d = some (xdo d [(f, y)]) → (∀ b, b ≠ e → b ≠ d → H' b = H b) → Inv X pins σ H' s' → Q () s') :
    wpAny (model X.prog X.w) A (setAttr (.ref e) f u) Q E s := by
  have hx : s.heap.get? e = some (xo C t none) := (show ObjOk X.prog X.w H s.heap e (xnw e C t none) from I.hok e _ e0).1
  have IA : PySem.W.InstAt s.heap e (xo C t none) C none := ⟨hx, rfl, rfl, trivial⟩
  refine PySem.W.set_plain I.kIn IA c.sa (xsa_open (s := { s with toks := s.toks + 1 }) I.kIn (EX.ty hx rfl) c.ov n ?_)
  obtain ⟨cd, hc, hd'⟩ := PySem.W.any_some c.hd
  refine wpAny_bind (wpAny_pure (wpAny_bind (wpAny_bind (wpAny_loadPart hx (wpAny_bind (PySem.W.Looks.here (s := { s with toks := s.toks + 1 }) (PySem.W.looks_clsIn I.kIn hc) ?_))))))
  rw [hd']
  have hxs : e ≠ s.heap.objs.size := Nat.ne_of_lt (Heap.lt_size hx)
  have I1 := I.laid (a := s.heap.objs.size) (o := xdo s.heap.objs.size []) (t' := s.toks + 1) (h' := s.heap.push { cls := .type "dict", data := .dict #[] }) (fun b o z => Heap.get?_push_of_some _ z) (Nat.le_refl _)
    (xdo_ok (mA := fun _ => none) (Heap.Ns1.of_empty ⟨_, #[], _, Heap.get?_push_at rfl rfl, rfl, fun q hq => absurd hq (by simp), fun _ => rfl⟩) (fun _ => trivial) PySem.Within.nil)
  rw [if_neg (by decide), if_neg (by show ¬ ((!true || !true) = true); decide)]
  have e1 : (s.heap.push { cls := .type "dict", data := .dict #[] }).get? e = some (xo C t none) := Heap.get?_push_of_some _ hx
  refine wpAny_bind (wpAny_alloc' (wpAny_bind (wpAny_update' e1 (wpAny_pure ?_))))
  have he1 : upd H s.heap.objs.size (xdo s.heap.objs.size []) e = some (xnw e C t none) := by rw [upd_ne hxs]; exact e0
  have hd0 : H s.heap.objs.size = none := I.hok.fresh (Nat.le_refl _)
  have e2 : ((s.heap.push { cls := .type "dict", data := .dict #[] }).update e fun o => { cls := o.cls, dict := some s.heap.objs.size, data := o.data, slots := o.slots }).get? e = some (xo C t (some s.heap.objs.size)) := Heap.get?_update_self _ e1 rfl
  have I2 := I1.write (x := e) (e := e) (o := xnw e C t (some s.heap.objs.size)) (t' := s.toks + 1) (h' := (s.heap.push { cls := .type "dict", data := .dict #[] }).update e fun o => { cls := o.cls, dict := some s.heap.objs.size, data := o.data, slots := o.slots })
    (by rw [he1]; exact True.intro) (.inl rfl) (fun b o z q => (upd_other z).trans q) ⟨_, e2⟩ (xnw_ok e2)
  have hd2 : ((s.heap.push { cls := .type "dict", data := .dict #[] }).update e fun o => { cls := o.cls, dict := some s.heap.objs.size, data := o.data, slots := o.slots }).Ns1 s.heap.objs.size (fun _ => none) :=
    Heap.Ns1.of_empty ⟨_, #[], _, (upd_other hxs.symm).trans (Heap.get?_push_at rfl rfl), rfl, fun q hq => absurd hq (by simp), fun _ => rfl⟩
  generalize ((s.heap.push { cls := .type "dict", data := .dict #[] }).update e fun o => { cls := o.cls, dict := some s.heap.objs.size, data := o.data, slots := o.slots }) = h2 at *
  generalize s.heap.objs.size = d at *
  have hd3 : upd (upd H d (xdo d [])) e (xnw e C t (some d)) d = some (xdo d []) := by rw [upd_ne hxs.symm, upd_same]
  show wpAny _ _ (storeInDict d (.str f s.toks) f u) _ _ _
  unfold storeInDict newKeyGuard
  refine wpAny_bind (wpAny_pure (wpAny_bind (wpAny_nsSet1 hd2 fun h' hn' hs => ?_)))
  obtain ⟨oD, esD, epD, hoD, hdD, hcD⟩ := hn'.count (PySem.Within.cons f u PySem.Within.nil)
  refine wpAny_bind (wpAny_lookBehind hoD (by rw [hdD]; exact pastItsLine_dict (Nat.le_trans hcD (by rw [List.length_cons, List.length_nil, sizeLine_eq]; omega))) (wpAny_pure ?_))
  refine h d _ _ hd0 hxs.symm ?_ ?_ ?_ (I2.write (x := d) (e := d) (o := xdo d [(f, y)]) (by rw [hd3]; exact True.intro) (.inl rfl) (fun b o z q => (hs.2 b z).trans q) ⟨_, hoD⟩ (xdo_ok hn' (fun g => ?_) (fun g hg => ?_)))
  · rw [upd_ne hxs, upd_same]
  · rw [upd_same]
  · intro b z1 z2
    rw [upd_ne z2, upd_ne z1, upd_ne z2]
  · show RelO (List.lookup g [(f, y)]) (if g = f then some u else none)
    by_cases q : g = f
    · rw [q, if_pos rfl, List.lookup_cons_self]; exact ry
    · rw [if_neg q, List.lookup_cons, beq_false_of_ne q]; exact True.intro
  · by_cases q : g = f
    · rw [q]; exact List.mem_cons_self ..
    · exact absurd (if_neg q) hg
theorem xset (I : Inv X pins σ H s) (e0 : H e = some (xnw e C t (some d))) (d0 : H d = some (xdo d fs)) (c : XCls X.K C) (n : NoAttr X.K C f) (ry : RelV y u) (hl : fs.length < 1000)
    (h : ∀ s', Inv X pins σ (upd H d (xdo d (putF f y fs))) s' → Q () s') : wpAny (model X.prog X.w) A (setAttr (.ref e) f u) Q E s := by
  have hx : s.heap.get? e = some (xo C t (some d)) := (show ObjOk X.prog X.w H s.heap e (xnw e C t (some d)) from I.hok e _ e0).1
  obtain ⟨⟨mA, hn, hr, hw⟩, ⟨od, hod⟩, _⟩ := (show ObjOk X.prog X.w H s.heap d (xdo d fs) from I.hok d _ d0)
  have IA : PySem.W.InstAt s.heap e (xo C t (some d)) C (some od) := ⟨hx, rfl, rfl, hod⟩
  refine PySem.W.set_plain I.kIn IA c.sa (xsa_open (s := { s with toks := s.toks + 1 }) I.kIn (EX.ty hx rfl) c.ov n ?_)
  obtain ⟨cd, hc, hd'⟩ := PySem.W.any_some c.hd
  refine wpAny_bind (wpAny_pure (wpAny_bind (wpAny_bind (wpAny_loadPart hx (wpAny_bind (PySem.W.Looks.here (s := { s with toks := s.toks + 1 }) (PySem.W.looks_clsIn I.kIn hc) ?_))))))
  rw [hd']
  refine wpAny_pure (a := some d) ?_
  show wpAny _ _ (storeInDict d (.str f s.toks) f u) _ _ _
  unfold storeInDict newKeyGuard
  refine wpAny_bind (wpAny_pure (wpAny_bind (wpAny_nsSet1 (s := { s with toks := s.toks + 1 }) hn fun h' hn' hs => ?_)))
  obtain ⟨oD, esD, epD, hoD, hdD, hcD⟩ := hn'.count (PySem.Within.cons f u hw)
  refine wpAny_bind (wpAny_lookBehind hoD (by rw [hdD]; exact pastItsLine_dict (Nat.le_trans hcD (by rw [List.length_cons, List.length_map, sizeLine_eq]; omega))) (wpAny_pure ?_))
  refine h _ (I.write (x := d) (e := d) (by rw [d0]; exact True.intro) (.inl rfl) (fun b o z q => (hs.2 b z).trans q) ⟨_, hoD⟩ (xdo_ok hn' (fun g => ?_) (fun g hg => ?_)))
  · show RelO ((putF f y fs).lookup g) (if g = f then some u else mA g)
    rw [lookup_putF]
    by_cases q : g = f
    · rw [if_pos q, if_pos q]; exact ry
    · rw [if_neg q, if_neg q]; exact hr g
  · by_cases q : g = f
    · rw [q]; exact (keys_putF f y fs).1
    · refine (keys_putF f y fs).2 g (hw g fun z => hg ?_)
      show (if g = f then some u else mA g) = none
      rw [if_neg q]; exact z
end
section
variable {prog : Program} {w : World} {A : Around} {s : Shared} {K : PySem.W.Frag} {x C : Addr} {E : Value → Shared → Prop}
theorem xga {name : Str} {v : Value} {b : Bool} {Q : Value → Shared → Prop} (X : K.In s.heap) (c : XCls K C) (L0 : PySem.W.Looks (model prog w) s.heap (typeOf (.ref x)) (.ref C)) (Lf : PySem.W.Looks (model prog w) s.heap (find (.ref x) (.ref C) name) (.value v)) (hv : PySem.W.handedIn v = true)
    (h : Q v { s with toks := s.toks + 1 }) : wpAny (model prog w) A (getAttr (.ref x) name b) Q E s := by
  obtain ⟨hh, g, d, t, os⟩ := s
  have L1 := PySem.W.looks_findIn (M := model prog w) X c.ga
  have L2 := PySem.W.looks_findIn (M := model prog w) X c.gh
  have hx2 : (Value.builtin "BaseException.__getattribute__" == Value.builtin "object.__getattribute__") = false := by decide +kernel
  unfold getAttr getAttrBy
  refine wpAny_bind (wpAny_mkText (wpAny_holding (wpAny_bind (L0.at (wpAny_bind (L1.at ?_))))))
  dsimp only
  rw [if_neg (by rw [hx2, Bool.and_false]; exact Bool.false_ne_true)]
  unfold getAttrByItsOwn hookBefore
  refine wpAny_bind (L2.at ?_)
  refine wpAny_bind (wpAny_attempt (wpAny_holding ?_))
  unfold callGetattribute boundAndCalled
  rw [if_neg (by cases b <;> decide)]
  rw [PySem.F.attr_ValueError.ga.bind (.ref x)]
  refine wpAny_bind (wpAny_pure (wpAny_call ?_))
  refine codeAny_call_builtin PySem.F.attr_ValueError.ga.plain F.entry_bexc_ga (EX.check_ga X L0 c.mb ?_)
  refine wpAny_bind (wpAny_pure (a := (Value.ref x, [Value.str name _])) ?_)
  refine wpAny_bind (wpAny_pure (a := name) ?_)
  refine wpAny_bind (L0.at ?_)
  refine wpAny_bind (Lf.at ?_)
  refine wpAny_pure ?_
  exact PySem.W.handed_on hv h
end
end L2
end
section
namespace L2
open PySem PySem.Spec PyProof.Rows Builtin Builtin.ObjectAttr
section
variable {X : Cx} {pins : List (Addr × Obj)} {σ : St} {H : Hp} {s : Shared} {e C t d : Addr} {fs : List (Str × V)} {f : Str} {v : V}
theorem xget {A : Around} {E : Value → Shared → Prop} {b : Bool} {Q : Value → Shared → Prop} (I : Inv X pins σ H s) (e0 : H e = some (xob e (.ref C) (some d))) (d0 : H d = some (xdo d fs)) (c : XCls X.K C) (n : NoAttr X.K C f) (l : fs.lookup f = some v)
    (h : ∀ u s', Inv X pins σ H s' → RelV v u → Q u s') : wpAny (model X.prog X.w) A (getAttr (.ref e) f b) Q E s := by
  obtain ⟨⟨oe, h1, h2, h3, h4⟩, _, _⟩ := (show ObjOk X.prog X.w H s.heap e (xob e (.ref C) (some d)) from I.hok e _ e0)
  obtain ⟨⟨mA, hn, hr, _⟩, _, _⟩ := (show ObjOk X.prog X.w H s.heap d (xdo d fs) from I.hok d _ d0)
  obtain ⟨od, ho, hl⟩ := lookIn_ns hn
  obtain ⟨u, hu, ru⟩ := RelO.some_of (v := v) (o := mA f) (by rw [← l]; exact hr f)
  have IA : PySem.W.InstAt s.heap e oe C (some od) := ⟨h1, h2, h4, by rw [h3]; exact ho⟩
  have Lf := PySem.W.looks_find (M := model X.prog X.w) I.kIn IA (PySem.W.findObj_own c.hd n rfl (by rw [hl, hu]))
  exact xga I.kIn c (EX.ty h1 h2) Lf (handed_of ru) (h u _ (I.tok _) ru)
end
def tXFld (K : PySem.W.Frag) (ta : TE) (f : Str) : TE := fun σ H Q => ta σ H fun x H1 => ∃ e C d fs v, x = .ref e ∧ H1 e = some (xob e (.ref C) (some d)) ∧ H1 d = some (xdo d fs) ∧ XCls K C ∧ NoAttr K C f ∧ fs.lookup f = some v ∧ Q v H1
def sXf0 (K : PySem.W.Frag) (ta tv : TE) (f : Str) : TS := fun D σ H => tv σ H fun y H1 => ta σ H1 fun x H2 => ∃ e C t, x = .ref e ∧ H2 e = some (xnw e C t none) ∧ XCls K C ∧ NoAttr K C f ∧
  ∀ d H', H2 d = none → d ≠ e → H' e = some (xnw e C t (some d)) → H' d = some (xdo d [(f, y)]) → (∀ b, b ≠ e → b ≠ d → H' b = H2 b) → D.nx σ H'
def sXf (K : PySem.W.Frag) (ta tv : TE) (f : Str) : TS := fun D σ H => tv σ H fun y H1 => ta σ H1 fun x H2 => ∃ e C t d fs, x = .ref e ∧ H2 e = some (xnw e C t (some d)) ∧ H2 d = some (xdo d fs) ∧ XCls K C ∧ NoAttr K C f ∧ fs.length < 1000 ∧ D.nx σ (upd H2 d (xdo d (putF f y fs)))
section
variable {X : Cx} {o e value : Expr} {f : Str} {pos pos' tpos : Pos} {ta tv : TE}
theorem pe_xfld (he : PE X e ta) (hb : attributeBase e f X.env (eval e X.env) = eval e X.env) : PE X (.Attribute e f pos) (tXFld X.K ta f) := by
  intro pins s σ H Q I h
  refine attr_of hb (thn (he pins s σ H _ I h) fun u s1 ⟨x, H1, I1, rx, a, C, d, fs, v, ex, ea, ed, c, n, l, q⟩ => ?_)
  subst ex
  obtain rfl : u = Value.ref a := rx
  exact xget I1 ea ed c n l fun u' s2 I2 ru => ⟨v, H1, I2, ru, q⟩
theorem pe_xfldK {K : PySem.W.Frag} (hK : X.K = K) (he : PE X e ta) (hb : attributeBase e f X.env (eval e X.env) = eval e X.env) : PE X (.Attribute e f pos) (tXFld K ta f) := by
  subst hK
  exact pe_xfld he hb
theorem ps_xf0 (ha : PE X o ta) (hv : PE X value tv) (hs : swapsWith value (some (.Attribute o f pos')) pos.line X.env = pure false) : PS X (.Assign [.Attribute o f pos'] value pos) (sXf0 X.K ta tv f) := by
  intro pins s σ H D I h
  refine plainObj_wpAny_Assign_Attribute (thn (hv pins s σ H _ I h) fun u s1 ⟨y, H1, I1, ry, q⟩ => thn (ha pins s1 σ H1 _ I1 q) fun ov s2 ⟨x, H2, I2, rx, a, C, t, ex, ea, c, n, q2⟩ => ?_) hs
  subst ex
  obtain rfl : ov = Value.ref a := rx
  exact xset0 I2 ea c n ry fun d H' s3 h1 h2 h3 h4 h5 I3 => ⟨σ, H', I3, q2 d H' h1 h2 h3 h4 h5⟩
theorem ps_xf (ha : PE X o ta) (hv : PE X value tv) (hs : swapsWith value (some (.Attribute o f pos')) pos.line X.env = pure false) : PS X (.Assign [.Attribute o f pos'] value pos) (sXf X.K ta tv f) := by
  intro pins s σ H D I h
  refine plainObj_wpAny_Assign_Attribute (thn (hv pins s σ H _ I h) fun u s1 ⟨y, H1, I1, ry, q⟩ => thn (ha pins s1 σ H1 _ I1 q) fun ov s2 ⟨x, H2, I2, rx, a, C, t, d, fs, ex, ea, ed, c, n, l, q2⟩ => ?_) hs
  subst ex
  obtain rfl : ov = Value.ref a := rx
  exact xset I2 ea ed c n ry l fun s3 I3 => ⟨σ, _, I3, q2⟩
end
def excInI (K : PySem.W.Frag) (C fI : Addr) : Bool := match K.lookup C with
  | some ⟨.type "type", _, .cls cd, sl⟩ => (match cd.mro, sl.toList with
    | .ref C' :: bm, [_, _, _, _, some (.builtin n), _] => C' == C && !cd.hasDel && n == "ValueError.__new__" && nsPlain K cd.ns && (PySem.W.nsIn K cd.ns "__init__" == some (some (.ref fI))) && tailOk K bm
    | _, _ => false)
  | _ => false
theorem ns_some_of {K : PySem.W.Frag} {h : Heap} {N : Addr} {mg : Str → Option Value} {n : Str} {v : Value} (X : K.In h) (G : h.Ns N mg) (e : PySem.W.nsIn K N n = some (some v)) : mg n = some v := by
  obtain ⟨o, es, ep, ho, hd, _, hf⟩ := G
  unfold PySem.W.nsIn at e
  split at e
  · rename_i c d es' n' sl q
    have z := X _ _ q
    rw [ho] at z
    cases z
    cases hd
    revert e
    cases hx : List.find? (fun y => y.key.isStr n) es.toList with
    | none =>
      dsimp only
      split <;> exact nofun
    | some en =>
      intro e
      cases e
      rw [← hf]
      unfold nsFind findBy
      rw [← Array.find?_toList, hx]
      rfl
  · cases e
theorem excInI_obj {K : PySem.W.Frag} {h₀ : Heap} {C fI : Addr} (X₀ : K.In h₀) (q : excInI K C fI = true) : ∃ bm N nm qn bs hdct sn sub ab col dd k0 k1 k2 k3 k5 mN, mN "__init__" = some (.ref fI) ∧
    ∀ h : Heap, K.In h → h.get? C = some (excClassObj nm qn C N bs bm hdct sn sub ab col dd k0 k1 k2 k3 k5 "ValueError.__new__") ∧ h.Ns N mN ∧ OwnTail h VB bm := by
  unfold excInI at q
  split at q
  · rename_i dd cd sl ho
    split at q
    · rename_i C' bm k0 k1 k2 k3 n k5 hm hs
      simp only [Bool.and_eq_true, beq_iff_eq, Bool.not_eq_true'] at q
      obtain ⟨⟨⟨⟨⟨rfl, hdel⟩, rfl⟩, hp⟩, hi⟩, ht⟩ := q
      obtain ⟨nm, bs, mro, ns, qn, hd, sn, sub, ab, col, del⟩ := cd
      dsimp only at hm hdel hi hp
      subst hm hdel
      have hsl : sl = #[k0, k1, k2, k3, some (.builtin "ValueError.__new__"), k5] := by
        obtain ⟨l⟩ := sl
        simp only at hs
        rw [hs]
      subst hsl
      unfold nsPlain at hp
      split at hp
      · rename_i c1 d1 es ep sl1 hl
        have sk : StrKeys es := fun en hen => by
          have y := (List.all_eq_true.mp hp) en (by simpa using hen)
          split at y
          · rename_i n t hk
            exact ⟨n, t, hk⟩
          · cases y
        have hN : ∀ h : Heap, K.In h → h.Ns ns (nsFind es) := fun h X => ⟨_, es, ep, X _ _ hl, rfl, sk, fun _ => rfl⟩
        exact ⟨bm, ns, nm, qn, bs, hd, sn, sub, ab, col, dd, k0, k1, k2, k3, k5, nsFind es, ns_some_of X₀ (hN h₀ X₀) hi, fun h X => ⟨X _ _ ho, hN h X, tail_own X₀ ht h X⟩⟩
      · cases hp
    · cases q
  · cases q
def spXI (C : Addr) (n : Nat) (ff : List V → List (Str × V)) : Sp := fun vs H Q _ => ∃ (e t : Addr) (xs : List V), vs = .ref e :: xs ∧ xs.length = n ∧ H e = some (xnw e C t none) ∧
  ∀ (d : Addr) (H' : Hp), H d = none → d ≠ e → H' e = some (xnw e C t (some d)) → H' d = some (xdo d (ff xs)) → (∀ b, b ≠ e → b ≠ d → H' b = H b) → Q .non H'
def RaisesG (X : Cx) (E : XK) : Prop := ∀ (pins : List (Addr × Obj)) (σ : St) (H : Hp) (s : Shared) (e C t : Addr) (od : Option Addr), Inv X pins σ H s → s.heap.get? e = some (xo C t od) → (∀ o, X.s₀.heap.get? e = some o → e ∈ X.ex) → H e = none → E (.ref C) od H → X.xe (.ref e) s
theorem raisesGR {P : Program} {w : World} {K : PySem.W.Frag} {mg : Str → Option Value} {base : Heap} {N : List Str} {qual : Str} {scope : Scope} {f : Addr} {cd : Value} {A : Around} {outer : List Env} {s₀ : Shared} {H₀ : Hp} {E : XK} : RaisesG (cxR P w K mg base N qual scope f cd A outer s₀ H₀ E) E := fun pins σ H s e C t od I he hn hH q => by
  refine raisesG I he ?_ hH q
  cases z : s₀.heap.get? e with
  | none => rfl
  | some o => exact absurd (show e ∈ ([] : List Addr) from hn o z) (by simp)
section
variable {X : Cx} {pins : List (Addr × Obj)} {σ : St} {H : Hp} {s : Shared} {e C t : Addr}
theorem Inv.lay {h' : Heap} {us : List Value} (I : Inv X pins σ H s) (M : Heap.MadeExcOf s.heap h' e (.ref C) us) : H e = none ∧ ∃ t, h'.get? e = some (xo C t none) ∧ Inv X pins σ (upd H e (xnw e C t none)) { s with heap := h' } := by
  obtain ⟨t, he, _, _⟩ := M.there
  have hH : H e = none := by
    cases z : H e with
    | none => rfl
    | some u =>
      obtain ⟨ob, zb⟩ := (I.hok e u z).is
      rw [M.new] at zb
      cases zb
  have ne : ∀ b o, s.heap.get? b = some o → b ≠ e := fun b o z y => by rw [y, M.new] at z; cases z
  refine ⟨hH, t, he, I.un (t' := s.toks) ⟨fun b o z _ _ _ => M.keeps b o z, fun b o z _ _ _ => ⟨o.slots, M.keeps b o z⟩, fun b o z n _ => by rw [upd_ne (ne b o z)]; exact n, fun b o z _ => ⟨o, M.keeps b o z⟩, fun b xs z => by rw [upd_ne (ne_of_none z hH)]; exact z, fun b o u z => by rw [upd_ne (ne_of_none z hH)]; exact z, fun b ps z => ⟨#[], by rw [upd_ne (ne_of_none z hH), z]; simp⟩⟩ fun a u q => ?_⟩
  by_cases ha : a = e
  · subst ha
    rw [upd_same] at q
    cases q
    exact xnw_ok he
  · rw [upd_ne ha] at q
    exact (I.hok a u q).stay (fun b o _ z => M.keeps b o z) (fun b z => by rw [upd_ne (ne_of_none z hH)]; exact z) fun b xs z => by rw [upd_ne (ne_of_none z hH)]; exact z
theorem Inv.let {od : Option Addr} (I : Inv X pins σ H s) (e0 : H e = some (xnw e C t od)) : Inv X pins σ (fun b => if b = e then none else H b) s := by
  have k : ∀ b u, H b = some u → (∀ φ, u ≠ .ext φ) → (fun b => if b = e then none else H b) b = some u := fun b u z n => by
    show (if b = e then none else H b) = some u
    rw [if_neg (fun y => by rw [y, e0] at z; cases z; exact n _ rfl)]
    exact z
  refine I.un (h' := s.heap) (t' := s.toks) ⟨fun b o z _ _ _ => z, fun b o z _ _ _ => ⟨o.slots, z⟩, fun b o z n _ => ?_, fun b o z _ => ⟨o, z⟩, fun b xs z => k b _ z nofun, fun b o u z => k b _ z nofun, fun b ps z => ⟨#[], (k b _ z nofun).trans (by simp)⟩⟩ fun a u q => ?_
  · show (if b = e then none else H b) = none
    split
    · rfl
    · exact n
  · by_cases ha : a = e
    · rw [if_pos ha] at q; cases q
    · rw [if_neg ha] at q
      exact (I.hok a u q).stay (fun b o _ z => z) (fun b z => k b _ z nofun) fun b xs z => k b _ z nofun
end
section
variable {X : Cx} {x : Str} {C fI : Addr} {fdI : FuncData} {psI : List Str} {k n : Nat} {ff : List V → List (Str × V)} {E : XK} {e₀ : Expr} {rest : List Expr} {t : TA} {np cpos pos : Pos}
def tRaiseI (C : Addr) (n : Nat) (ff : List V → List (Str × V)) (E : XK) (t : TA) : TS := fun _ σ H => t σ H fun vs H1 => vs.length = n ∧ ∀ d, H1 d = none → E (.ref C) (some d) (upd H1 d (xdo d (ff vs)))
theorem ps_raiseI (hK : excInI X.K C fI = true) (hf : PySem.W.isFn X.K (.ref fI) = true) (hm : X.mg x = some (.ref C)) (hR : RaisesG X E) (hA : X.calm = true) (F : FnOk X.prog X.w X.K X.mg X.base CX0 k fI fdI psI (spXI C n ff)) (hr : Room (k + 1) X.A) (hb : Binds X.K fdI psI []) (hz : n ≤ 100)
    (ha : PA X (e₀ :: rest) t) (hg : Gl X x := by rfl) (hd : (x == ("__debug__" : Str)) = false := by decide)
    (he : starEach (e₀ :: rest) X.env = (false, eval e₀ X.env) :: starEach rest X.env := by rfl) (hpl : (backTo cpos (starEach rest X.env)).any (·.1) = false := by rfl) :
    PS X (.Raise (some (.Call (.Name x np) (e₀ :: rest) [] cpos)) none pos) (tRaiseI C n ff E t) := by
  intro pins s σ H D I h
  obtain ⟨bm, N, nm, q, bs, hdct, sn, sub, ab, col, dd, k0, k1, k2, k3, k5, mN, hi, hK⟩ := excInI_obj I.kIn hK
  obtain ⟨_, _, T₀⟩ := hK _ I.kIn
  refine Raise_init (C := C) (fI := fI) (nm := nm) (q := q) (N := N) (bs := bs) (bm := bm) (hdct := hdct) (sn := sn) (sub := sub) (ab := ab) (col := col) (dd := dd) (k0 := k0) (k1 := k1) (k2 := k2) (k3 := k3) (k5 := k5)
    PySem.F.excBase_ValueError (mN := mN) (T₀.hasType PySem.F.excBase_ValueError.hasBase) (I.ok.hd hA) (by rw [he]; show (false || (backTo cpos (starEach rest X.env)).any (·.1)) = false; rw [hpl]; rfl) hi (ld_glob I hg hm ⟨rfl, ?_⟩ hd)
  have h1 := ha cpos pins s σ H _ I h
  rw [he] at h1 ⊢
  refine Calls.evalArgs_plain (wpAny_mono h1 (fun us s₂ h₂ => ?_) fun _ _ y => y)
  obtain ⟨vs, H1, I1, r, hl, q⟩ := h₂
  obtain ⟨g1, g2, g3⟩ := hK _ I1.kIn
  have hsz : us.length ≤ sizeLine := by rw [← r.length, hl]; exact Nat.le_trans hz (by decide)
  refine ⟨rfl, hsz, g1, g2, g3, ?_, fun h' e M => ?_⟩
  · have y := beq_iff_eq.mp hf
    unfold PySem.W.typeIn at y
    obtain ⟨oI, y1, y2⟩ := Option.map_eq_some_iff.mp y
    exact ⟨oI, I1.kIn _ _ y1, y2⟩
  obtain ⟨H1e, t0, he0, I2⟩ := I1.lay M
  have hsp : spXI C n ff (V.ref e :: vs) (upd H1 e (xnw e C t0 none)) (fun v H2 => v = .non ∧ ∃ d, H1 d = none ∧ d ≠ e ∧ H2 e = some (xnw e C t0 (some d)) ∧ H2 d = some (xdo d (ff vs)) ∧ ∀ b, b ≠ e → b ≠ d → H2 b = H1 b) E0 :=
    ⟨e, t0, vs, rfl, hl, upd_same, fun d H' d1 d2 d3 d4 d5 => ⟨rfl, d, by rw [upd_ne d2] at d1; exact d1, d2, d3, d4, fun b b1 b2 => by rw [d5 b b1 b2, upd_ne b1]⟩⟩
  have r2 : Vals (V.ref e :: vs) (Value.ref e :: us) := .cons rfl r
  have hlen : (Value.ref e :: us ++ []).length = psI.length := by
    have z := r2.length
    rw [F.len _ _ _ _ hsp] at z
    rw [List.append_nil]
    exact z.symm
  have hbb := hb _ (Value.ref e :: us) I2.kIn hlen
  rw [List.append_nil] at hbb
  refine wpAny_call (codeAny_mono (F.run _ X.stack _ _ ⟨Value.ref e :: us, []⟩ (Value.ref e :: us) _ _ E0 (hr.make C us []) (I2.env0.make C us []) hbb r2 hsp) fun r s' hq => ?_)
  cases r with
  | error x => exact hq.elim
  | ok fl =>
    cases fl with
    | ret u =>
      obtain ⟨v, H', I3, rv, ev, d, d1, d2, d3, d4, d5⟩ := I2.after hq
      subst ev
      have he3 : s'.heap.get? e = some (xo C t0 (some d)) := (show ObjOk X.prog X.w H' s'.heap e (xnw e C t0 (some d)) from I3.hok e _ d3).1
      have I4 := I3.let d3
      have eH : (fun b => if b = e then none else H' b) = upd H1 d (xdo d (ff vs)) := by
        funext b
        by_cases b1 : b = e
        · rw [if_pos b1, b1, upd_ne d2.symm, H1e]
        · rw [if_neg b1]
          by_cases b2 : b = d
          · rw [b2, d4, upd_same]
          · rw [d5 b b1 b2, upd_ne b2]
      rw [eH] at I4
      refine ⟨rv, (hK _ I3.kIn).1, ⟨t0, some d, he3⟩, hR pins σ _ s' e C t0 (some d) I4 he3 (fun o z => ?_) (by rw [upd_ne d2.symm]; exact H1e) (q d d1)⟩
      by_cases hx : e ∈ X.ex
      · exact hx
      · obtain ⟨o', z'⟩ := I1.base.there e o z hx
        rw [M.new] at z'
        cases z'
    | next => exact False.elim hq
    | brk => exact False.elim hq
    | cont => exact False.elim hq
end
end L2
end
section
namespace L2
open PySem
structure CMeth (K : PySem.W.Frag) (C : Addr) (m : Str) (f : Addr) : Prop where
  sp : PySem.W.specialIn K (.ref C) "__getattribute__" = some (some (.builtin "type.__getattribute__"))
  rd : PySem.W.readsIn K C (.type "type") = true
  at_ : PySem.W.findCls K (.ref C) (.type "type") m = some (.val (.ref f))
  kp : PySem.W.keepIn K (.ref f) = true
section
variable {X : Cx} {CX : CXT} {k : Nat} {f C : Addr} {fd : FuncData} {ps : List Str} {sp : Sp} {dvs : List V} {ds : List Value} {E : XK} {x m : Str} {p pos apos : Pos} {e o : Expr} {es : List Expr} {t : TA}
end
end L2
end
section
namespace L2
open PySem PySem.Spec PyProof.Rows
end L2
namespace L2
open PySem PySem.Spec PyProof.Rows
section
variable (P : Program) (w : World)
end
section
variable {P : Program} {w : World} {H H' : Hp} {h h' : Heap} {a : Addr} {o : HO}
end
section
variable {P : Program} {w : World} {H : Hp} {h h' : Heap} {x e : Addr} {o' : HO}
end
section
variable {fs fs' ex ex' : List Addr} {H H1 H2 : Hp} {h h1 h2 h' : Heap} {a x e : Addr} {o : HO}
end
end L2
namespace L2
open PySem PySem.Spec PyProof.Rows
section
variable {X : Cx} {pins : List (Addr × Obj)} {σ : List (Option V)} {H H' : Hp} {s : Shared} {h' : Heap}
end
end L2
namespace L2
open PySem PySem.Spec PyProof.Rows
section
variable {X : Cx}
variable {a b : Expr} {ta tb : TE} {pos : Pos}
variable {tA tB' : TT} {rest : List Expr}
end
end L2
namespace L2
open PySem PySem.Spec PyProof.Rows
section
variable {X : Cx} {pins : List (Addr × Obj)} {σ : St} {H : Hp} {s : Shared} {a : Addr} {xs ys : List V}
end
section
variable {X : Cx} {pins : List (Addr × Obj)} {σ : St} {H : Hp} {s : Shared} {E : Value → Shared → Prop}
end
section
variable {X : Cx} {st : Stmt} {rest : List Stmt} {t u : TS} {e : Expr} {te : TE} {pos : Pos}
end
section
variable {X : Cx} {pos : Pos}
end
section
variable {X : Cx} {pos : Pos}
end
end L2
namespace L2
open PySem PySem.Spec PyProof.Rows
section
variable {X : Cx} {tg : Expr}
end
end L2
namespace L2
open PySem PySem.Spec PyProof.Rows
section
variable {X : Cx} {a b c : Expr} {ta tb tc : TE} {pos : Pos}
end
section
variable {X : Cx} {a b c : Expr} {ta tb tc : TE} {pos : Pos}
end
end L2
namespace L2
open PySem PySem.Spec PyProof.Rows
section
variable {prog : Program} {w : World} {A : Around} {E : Value → Shared → Prop} {s : Shared} {K : PySem.W.Frag} {x dx C f : Addr} {mA : Str → Option Value} {name : Str} {v : Value}
end
section
variable {P : Program} {w : World} {H H' : Hp} {h h' : Heap} {a C dx : Addr} {fs fs' : List (Str × V)}
end
section
variable {X : Cx} {pins : List (Addr × Obj)} {σ : St} {H : Hp} {s : Shared} {a C dx : Addr} {fs : List (Str × V)} {f : Str} {v : V} {A : Around} {E : Value → Shared → Prop}
end
section
variable {X : Cx} {o e value : Expr} {f : Str} {pos pos' tpos : Pos} {ta tv : TE}
end
section
variable {X : Cx} {pins : List (Addr × Obj)} {σ : St} {H : Hp} {s : Shared} {A : Around} {E : Value → Shared → Prop} {Q : Value → Shared → Prop} {c : Value} {b : Bool}
end
end L2
namespace L2
open PySem PySem.Spec PyProof.Rows
section
variable {X : Cx} {e : Expr} {es : List Expr} {te : TE} {t : TA} {pos : Pos}
end
section
variable {X : Cx} {pins : List (Addr × Obj)} {σ : St} {H : Hp} {s s' : Shared}
end
section
variable {X : Cx} {CX : CXT} {k : Nat} {f C : Addr} {fd : FuncData} {ps : List Str} {sp : Sp} {dvs : List V} {ds : List Value} {E : XK} {x m : Str} {p pos apos : Pos} {e o : Expr} {es : List Expr} {ta : TE} {t : TA}
end
section
variable {X : Cx} {CX : CXT} {k : Nat} {f C : Addr} {fd : FuncData} {ps ks : List Str} {sp : Sp} {E : XK} {x m : Str} {p pos apos kpos : Pos} {e o : Expr} {es : List Expr} {kws : List Keyword} {te ta : TE} {t tk : TA} {nm : Option Str}
variable {g : List Value → List Value → List Value} {gV : List V → List V → List V}
end
end L2
namespace L2
open PySem PySem.Spec PyProof.Rows
section
variable {X : Cx} {x : Str} {p pos : Pos} {e : Expr} {es : List Expr} {t : TA} {id T : String} {r : List V → Hp → VK → Prop}
end
end L2
namespace L2
open PySem PySem.Spec PyProof.Rows
section
variable {κ : Type} [DecidableEq κ]
end
section
variable {P : Program} {w : World} {H : Hp} {h : Heap} {a : Addr}
end
section
variable {X : Cx} {pins : List (Addr × Obj)} {σ : St} {H : Hp} {s : Shared} {a : Addr} {y v : V} {u r : Value} {o : Option V} {A : Around} {E : Value → Shared → Prop}
end
section
variable {X : Cx} {pins : List (Addr × Obj)} {σ : St} {H : Hp} {s : Shared} {a : Addr} {kvs : List (Key × V)} {k : Key} {u : Value} {A : Around} {E : Value → Shared → Prop}
end
section
variable {X : Cx} {o i e value : Expr} {pos pos' tpos : Pos} {td ty tv : TE}
end
section
variable {X : Cx} {pos : Pos}
end
structure M1 (X : Cx) (o : Expr) (m : Str) (apos : Pos) (e : Expr) (cpos : Pos) : Prop where
  base : attributeBase o m X.env (eval o X.env) = eval o X.env
  few : ((backTo cpos (starEach [e] X.env)).all (fun x => !x.1) && (backToKw cpos (keywordEach [] X.env)).all (fun x => x.1.isSome)
    && decide (([e] : List Expr).length + ([] : List Keyword).length + (if ([] : List Keyword).isEmpty then 0 else 1) < 30)) = true
  line : (apos.endLine == cpos.line) = true
  trees : backTo cpos (starEach [e] X.env) = [(false, eval e X.env)]
structure M2 (X : Cx) (o : Expr) (m : Str) (apos : Pos) (e f : Expr) (cpos : Pos) : Prop where
  base : attributeBase o m X.env (eval o X.env) = eval o X.env
  few : ((backTo cpos (starEach [e, f] X.env)).all (fun x => !x.1) && (backToKw cpos (keywordEach [] X.env)).all (fun x => x.1.isSome)
    && decide (([e, f] : List Expr).length + ([] : List Keyword).length + (if ([] : List Keyword).isEmpty then 0 else 1) < 30)) = true
  line : (apos.endLine == cpos.line) = true
  trees : backTo cpos (starEach [e, f] X.env) = [(false, eval e X.env), (false, eval f X.env)]
section
variable {X : Cx} {pins : List (Addr × Obj)} {σ : St} {H : Hp} {s : Shared} {a : Addr} {y d : V} {u r : Value} {o : Option V} {A : Around} {E : Value → Shared → Prop}
end
section
variable {X : Cx} {o e f : Expr} {apos cpos : Pos} {td ty tx : TE}
end
section
variable {X : Cx} {pins : List (Addr × Obj)} {σ : St} {H : Hp} {s : Shared} {a : Addr} {kvs : List (Key × V)} {A : Around} {E : Value → Shared → Prop}
end
section
variable {X : Cx} {pins : List (Addr × Obj)} {σ : St} {H : Hp} {s : Shared} {a : Addr} {y : V} {u : Value} {A : Around} {E : Value → Shared → Prop}
end
end L2
namespace Att
open PySem PySem.W PySem.Calls PyProof.Rows
section
variable {prog : Program} {w : World} {A : Around} {E : Value → Shared → Prop} {s : Shared} {K : Frag}
end
end Att
namespace L2
open PySem PySem.Spec PyProof.Rows
end L2
namespace L2
open PySem PySem.Spec PyProof.Rows
end L2
namespace L2
open PySem PySem.Spec PyProof.Rows
section
variable {P : Program} {w : World} {K : PySem.W.Frag} {mg : Str → Option Value} {base : Heap}
end
section
variable {X : Cx}
end
section
variable {κ : Type} [DecidableEq κ]
end
end L2
end
section
namespace L2
open PySem PySem.Spec PyProof.Rows
section
variable {X : Cx} {pins : List (Addr × Obj)} {σ σ0 : St} {H H0 : Hp} {s s0 : Shared} {d : Addr} {ob : Obj} {kvs : List (Key × V)}
end
theorem kit_tup_int {K : PySem.W.Frag} : PySem.W.kitOne K (.type "int") (.type "tuple") = some false := by kernel_rfl
section
variable {X : Cx} {pins : List (Addr × Obj)} {σ : St} {H₂ : Hp} {s₂ : Shared} {fp : List Addr} {x y : Str} {scope : Scope} {C : Addr}
end
section
variable {X : Cx} {x y : Str} {px py pos tpos : Pos} {scope : Scope} {elt iter : Expr} {ti te : TE} {k1 : Nat}
end
end L2
end
section
namespace L2
open PySem
def dP : Option (List Int) → PyData
  | none => .none
  | some ws => .list (ws.map PyData.int)
def dC (c : List (Option (List Int))) : PyData := .list (c.map dP)
theorem dP_ok (o : Option (List Int)) : (dP o).canLay0 = true ∧ (dP o).depth ≤ 1 ∧ PyData.eqv (dP o) (dP o) = true := by
  cases o with
  | none => exact ⟨rfl, by decide, rfl⟩
  | some ws =>
    obtain ⟨h1, h2⟩ := layI ws
    exact ⟨by simp only [dP, PyData.canLay0, h1], by simp only [dP, PyData.depth, h2]; decide, eqvI ws⟩
theorem dC_all : ∀ c : List (Option (List Int)), PyData.canLayAll0 (c.map dP) = true ∧ PyData.depthAll (c.map dP) ≤ 1 ∧ PyData.eqvAll (c.map dP) (c.map dP) = true
  | [] => ⟨rfl, by decide, rfl⟩
  | o :: r => by
    obtain ⟨h1, h2, h3⟩ := dC_all r
    obtain ⟨g1, g2, g3⟩ := dP_ok o
    refine ⟨?_, ?_, ?_⟩
    · simp only [List.map_cons, PyData.canLayAll0, h1, g1, Bool.and_self]
    · simp only [List.map_cons, PyData.depthAll]
      omega
    · simp only [List.map_cons, PyData.eqvAll, h3, g3, Bool.and_self]
theorem shapedC (c : List (Option (List Int))) : SeqAt.shaped (dC c) = true := by
  obtain ⟨h1, h2, _⟩ := dC_all c
  simp only [dC, SeqAt.shaped, PyData.canLay0, PyData.depth, h1, Bool.true_and]
  exact decide_eq_true (by omega)
theorem eqvC (c : List (Option (List Int))) : PyData.eqv (dC c) (dC c) = true := by
  simp only [dC, PyData.eqv]
  exact (dC_all c).2.2
theorem datP {K : PySem.W.Frag} {H : Hp} : ∀ ps : Pgs, (∀ (p : Addr) (ws : List Int), some (p, ws) ∈ ps → H p = some (.lst (ws.map V.int))) → DatsR K H (ps.map pgV) ((cont ps).map dP)
  | [], _ => .nil
  | none :: r, h => .cons .non (datP r fun p ws m => h p ws (List.mem_cons_of_mem _ m))
  | some (p, ws) :: r, h => .cons (.lst (SqL.of (h p ws (List.mem_cons_self ..))) (datsI ws)) (datP r fun p ws m => h p ws (List.mem_cons_of_mem _ m))
theorem datPg {K : PySem.W.Frag} {H : Hp} {a : Addr} {ps : Pgs} (g : Pg H a ps) : DatR K H (.ref a) (dC (cont ps)) := .lst (SqL.of g.top) (datP ps fun p ws m => by
  obtain ⟨i, e⟩ := List.getElem?_of_mem m
  exact (g.each i p ws e).1)
structure PEq (X : Cx) (e : Expr) (t : TE) : Prop where
  h : PE X e t
structure PAq (X : Cx) (es : List Expr) (t : TA) : Prop where
  h : PA X es t
structure PSq (X : Cx) (st : Stmt) (t : TS) : Prop where
  h : PS X st t
structure PSsq (X : Cx) (st : List Stmt) (t : TS) : Prop where
  h : PSs X st t
structure PTq (X : Cx) (c : Expr) (t : TT) : Prop where
  h : PT X c t
structure PIq (X : Cx) (tg iter : Expr) (w : TI) : Prop where
  h : PI X tg iter w
structure PGq (X : Cx) (tg : Expr) (g : TG) : Prop where
  h : PG X tg g
section
variable {X : Cx} {st : Stmt} {rest : List Stmt} {t u : TS} {e tg iter : Expr} {te : TE} {pos : Pos}
end
inductive IntCs : List Expr → List Int → Prop
  | nil : IntCs [] []
  | cons {z : Int} {j : Nat} {p : Pos} {es : List Expr} {zs : List Int} : IntCs es zs → IntCs (.Constant (.int z) j p :: es) (z :: zs)
end L2
end
section
namespace L2
open PySem PySem.Spec PyProof.Rows
def isTup (H : Hp) : V → Bool
  | .ref a => match H a with | some (.tup _) => true | _ => false
  | _ => false
section
variable {K : PySem.W.Frag}
theorem kit_tup_non : PySem.W.kitOne K (.type "NoneType") (.type "tuple") = some false := by kernel_rfl
theorem kit_tup_bl : PySem.W.kitOne K (.type "bool") (.type "tuple") = some false := by kernel_rfl
theorem kit_tup_str : PySem.W.kitOne K (.type "str") (.type "tuple") = some false := by kernel_rfl
theorem kit_tup_lst : PySem.W.kitOne K (.type "list") (.type "tuple") = some false := by kernel_rfl
theorem kit_tup_dic : PySem.W.kitOne K (.type "dict") (.type "tuple") = some false := by kernel_rfl
end
section
variable {X : Cx}
theorem call_istupT : CallR X (.builtin "isinstance") (fun xs H Q => ∃ x, xs = [x, .ty "tuple"] ∧ Th H x ∧ Q (.bl (isTup H x)) H) := by
  intro pins s σ H xs us Q I r h
  obtain ⟨x, rfl, th, q⟩ := h
  obtain ⟨u, v, rfl, rx, rt⟩ := r.two
  obtain rfl : v = PySem.Value.type "tuple" := rt
  cases th with
  | non => exact isinst_ok I rx .non kit_tup_non fun tk => ⟨.bl _, H, I.tok tk, rfl, q⟩
  | bl b => exact isinst_ok I rx (.bl b) kit_tup_bl fun tk => ⟨.bl _, H, I.tok tk, rfl, q⟩
  | int i => exact isinst_ok I rx (.int i) kit_tup_int fun tk => ⟨.bl _, H, I.tok tk, rfl, q⟩
  | str z => exact isinst_ok I rx (.str z) kit_tup_str fun tk => ⟨.bl _, H, I.tok tk, rfl, q⟩
  | lst e => exact isinst_ok I rx (.lst e) kit_tup_lst fun tk => ⟨.bl _, H, I.tok tk, rfl, by simp only [isTup, e] at q; exact q⟩
  | frz e => exact isinst_ok I rx (.frz e) kit_tup_lst fun tk => ⟨.bl _, H, I.tok tk, rfl, by simp only [isTup, e] at q; exact q⟩
  | tup e => exact isinst_ok I rx (.tup e) kit_tup_tup fun tk => ⟨.bl _, H, I.tok tk, rfl, by simp only [isTup, e] at q; exact q⟩
  | dic e => exact isinst_ok I rx (.dK e) kit_tup_dic fun tk => ⟨.bl _, H, I.tok tk, rfl, by simp only [isTup, e] at q; exact q⟩
end
end L2
end
section
namespace L2
open PySem PySem.Spec PyProof.Rows
section
variable {X : Cx} {e : Expr} {te : TEX} {pos : Pos}
def tSetX (i : Nat) (te : TEX) : TSX := fun D E σ H => te σ H (fun v H1 => D.nx (σ.set i (some v)) H1) (E σ)
theorem psx_set {i : Nat} {x : Str} {pos' : Pos} (hN : X.N.Nodup) (hi : X.N[i]? = some x) (hx : Loc X.env.scope x) (he : PEX X e te) (hs : swapsWith e (some (.Name x pos')) pos.line X.env = pure false := by rfl) (hf : X.fn x = true ∨ X.env.scope.names.lookup x = some .local := by first | exact .inl rfl | exact .inr rfl | assumption) : PSX X [.Assign [.Name x pos'] e pos] (tSetX i te) := by
  intro pins s σ H D E I h
  refine wpAny_execs_cons ?_
  refine wpAny_Assign_Name (wpAny_mono (he pins s σ H _ (E σ) I h) (fun v s1 q => ?_) fun x s1 q => ⟨σ, q⟩) hs
  obtain ⟨y, H1, I1, r1, q1⟩ := q
  exact store_ok I1 hN hi hx r1 (fun s2 I2 => wpAny_execs_nil (show SP X pins D .next s2 from ⟨_, H1, I2, q1⟩)) hf
end
end L2
end
section
namespace K17
open PySem L2
abbrev sWhole : Stmt := top 15
abbrev sBelow : Stmt := top 16
abbrev sWord : Stmt := top 17
abbrev sEight : Stmt := top 37
abbrev sImage : Stmt := top 38
abbrev sCWord : Stmt := top 39
abbrev sRead : Stmt := inClass (top 40) 4
abbrev sWrite : Stmt := inClass (top 40) 5
abbrev sSpot : Stmt := inClass (top 40) 7
abbrev sCPage : Stmt := inClass (top 40) 8
abbrev sInit : Stmt := inClass (top 41) 0
abbrev sSize : Stmt := inClass (top 41) 1
abbrev sHas : Stmt := inClass (top 41) 2
abbrev sWordAt : Stmt := inClass (top 41) 3
abbrev sPutWord : Stmt := inClass (top 41) 4
abbrev sTold : Stmt := inClass (top 41) 7
def below : V → Int → Bool
  | .int i, b => decide (0 ≤ i) && decide (i < b)
  | _, _ => false
theorem below_int {x : V} {b : Int} (h : below x b = true) : ∃ i, x = .int i ∧ 0 ≤ i ∧ i < b := by
  cases x with
  | int i =>
    simp only [below, Bool.and_eq_true, decide_eq_true_eq] at h
    exact ⟨i, rfl, h.1, h.2⟩
  | _ => cases h
theorem below_of {i b : Int} (h0 : 0 ≤ i) (h1 : i < b) : below (.int i) b = true := by simp [below, h0, h1]
structure Dn (K : PySem.W.Frag) (mg : Str → Option Value) (x : Str) (st : Stmt) (ps : List Str) (f : Addr) (fd : FuncData) : Prop where
  F : Fun K x x st f fd
  m : mg x = some (.ref f)
  b : Binds K fd ps []
structure Me (K : PySem.W.Frag) (C : Addr) (x qual : Str) (st : Stmt) (ps : List Str) (f : Addr) (fd : FuncData) : Prop where
  F : Fun K x qual st f fd
  m : Meth K C x f
  b : Binds K fd ps []
structure Txt (K : PySem.W.Frag) (mg : Str → Option Value) : Prop where
  isi : mg "isinstance" = none
  int : mg "int" = none
  boo : mg "bool" = none
  lst : mg "list" = none
  len : mg "len" = none
  all : mg "all" = none
  rng : mg "range" = none
structure Sto (K : PySem.W.Frag) (mg : Str → Option Value) (C NP NL NW NI : Addr) : Prop where
  cl : Cls K C
  nh : NoAttr K C "held"
  words : ∃ t, mg "WORDS" = some (.int 281474976710656 t)
  cells : ∃ t, mg "CELLS" = some (.int 8 t)
  most : ∃ t, mg "MOST_PAGES" = some (.int 24 t)
  np : mg "NoPage" = some (.ref NP)
  xp : L2.excIn K NP = true
  nl : mg "NoPlace" = some (.ref NL)
  xl : L2.excIn K NL = true
  nw : mg "NoWord" = some (.ref NW)
  xw : L2.excIn K NW = true
  ni : mg "NoImage" = some (.ref NI)
  xi : L2.excIn K NI = true
def flds (h : Addr) : List (Str × V) := putF "held" (.ref h) []
theorem flds_held (h : Addr) : (flds h).lookup ("held" : Str) = some (.ref h) := by
  unfold flds
  rw [lookup_putF, if_pos rfl]
theorem flds_no (h : Addr) {m : Str} (h1 : ¬ m = "held") : (flds h).lookup m = none := by
  unfold flds
  rw [lookup_putF, if_neg h1]
  rfl
structure Mem (C : Addr) (H : Hp) (m h : Addr) (ps : Pgs) : Prop where
  ob : ∃ dx, H m = some (.ins C dx (flds h))
  pg : Pg H h ps
  good : Good ps
  len : 1 ≤ ps.length ∧ ps.length ≤ 24
theorem Mem.same {C : Addr} {H H' : Hp} {m h : Addr} {ps : Pgs} (M : Mem C H m h ps) (s : Same H H') : Mem C H' m h ps := ⟨⟨_, s _ _ M.ob.choose_spec⟩, M.pg.same s, M.good, M.len⟩
def isThere : Option (Option (Addr × List Int)) → Bool
  | some (some _) => true
  | _ => false
def hasP (ps : Pgs) : V → Bool
  | .int i => decide (0 ≤ i) && decide (i < ps.length) && isThere ps[i.toNat]?
  | _ => false
theorem hasP_int {ps : Pgs} {x : V} (h : hasP ps x = true) : ∃ (i : Nat) (p : Addr) (ws : List Int), x = .int i ∧ ps[i]? = some (some (p, ws)) := by
  cases x with
  | int i =>
    simp only [hasP, Bool.and_eq_true, decide_eq_true_eq] at h
    obtain ⟨⟨h0, h1⟩, h2⟩ := h
    cases e : ps[i.toNat]? with
    | none => rw [e] at h2; cases h2
    | some o =>
      cases o with
      | none => rw [e] at h2; cases h2
      | some q => exact ⟨i.toNat, q.1, q.2, congrArg V.int (by omega), e⟩
  | _ => cases h
theorem hasP_of {ps : Pgs} {i : Nat} {p : Addr} {ws : List Int} (e : ps[i]? = some (some (p, ws))) : hasP ps (.int i) = true := by
  have hi : i < ps.length := (List.getElem?_eq_some_iff.mp e).1
  simp only [hasP, Int.toNat_natCast, e, isThere, Bool.and_true, Bool.and_eq_true, decide_eq_true_eq]
  omega
def spWhole : Sp := fun vs H Q _ => ∃ x, vs = [x] ∧ Th H x ∧ Q (.bl (isI x)) H
def spBelow : Sp := fun vs H Q _ => ∃ x b, vs = [x, .int b] ∧ Th H x ∧ Q (.bl (below x b)) H
def spWord : Sp := fun vs H Q _ => ∃ x, vs = [x] ∧ Th H x ∧ Q (.bl (below x 281474976710656)) H
def spSize (C : Addr) : Sp := fun vs H Q _ => ∃ m h ps, vs = [.ref m] ∧ Mem C H m h ps ∧ Q (.int ps.length) H
def spHas (C : Addr) : Sp := fun vs H Q _ => ∃ m h ps x, vs = [.ref m, x] ∧ Mem C H m h ps ∧ Th H x ∧ Q (.bl (hasP ps x)) H
def spCPage (C NP : Addr) : Sp := fun vs H Q E => ∃ m h ps x, vs = [.ref m, x] ∧ Mem C H m h ps ∧ Th H x ∧ (hasP ps x = true → Q .non H) ∧ (hasP ps x = false → E (.ref NP) none H)
def spSpot (C NP NL : Addr) : Sp := fun vs H Q E => ∃ m h ps x y, vs = [.ref m, x, y] ∧ Mem C H m h ps ∧ Th H x ∧ Th H y ∧ (hasP ps x = true → below y 8 = true → Q .non H) ∧ (hasP ps x = false → E (.ref NP) none H) ∧ (hasP ps x = true → below y 8 = false → E (.ref NL) none H)
def spWordAt (C : Addr) : Sp := fun vs H Q _ => ∃ m h ps, ∃ (i j : Nat) (p : Addr) (ws : List Int), vs = [.ref m, .int i, .int j] ∧ Mem C H m h ps ∧ ps[i]? = some (some (p, ws)) ∧ j < 8 ∧ Q (.int (ws.getD j 0)) H
def spPutWord (C : Addr) : Sp := fun vs H Q _ => ∃ m h ps, ∃ (i j : Nat) (w : Int) (p : Addr) (ws : List Int), vs = [.ref m, .int i, .int j, .int w] ∧ Mem C H m h ps ∧ ps[i]? = some (some (p, ws)) ∧ j < 8 ∧ Q .non (upd H p (.lst ((ws.map V.int).set j (.int w))))
def spRead (C NP NL : Addr) : Sp := fun vs H Q E => ∃ m h ps x y, vs = [.ref m, x, y] ∧ Mem C H m h ps ∧ Th H x ∧ Th H y ∧
  (∀ (i j : Nat) (p : Addr) (ws : List Int), x = .int i → y = .int j → ps[i]? = some (some (p, ws)) → j < 8 → Q (.int (ws.getD j 0)) H) ∧ (hasP ps x = false → E (.ref NP) none H) ∧ (hasP ps x = true → below y 8 = false → E (.ref NL) none H)
def spWrite (C NP NL NW : Addr) : Sp := fun vs H Q E => ∃ m h ps x y z, vs = [.ref m, x, y, z] ∧ Mem C H m h ps ∧ Th H x ∧ Th H y ∧ Th H z ∧
  (∀ (i j : Nat) (w : Int) (p : Addr) (ws : List Int), x = .int i → y = .int j → z = .int w → ps[i]? = some (some (p, ws)) → j < 8 → 0 ≤ w → w < 281474976710656 → Q .non (upd H p (.lst ((ws.map V.int).set j (.int w))))) ∧
  (hasP ps x = false → E (.ref NP) none H) ∧ (hasP ps x = true → below y 8 = false → E (.ref NL) none H) ∧ (hasP ps x = true → below y 8 = true → below z 281474976710656 = false → E (.ref NW) none H)
def spTold (C : Addr) : Sp := fun vs H Q _ => ∃ m h ps, vs = [.ref m] ∧ Mem C H m h ps ∧ ∀ D H' qs, Same H H' → Pg H' D qs → cont qs = cont ps → (∀ b, At D qs b → H b = none) → Q (.ref D) H'
section
variable {P : Program} {w : World} {K : PySem.W.Frag} {mg : Str → Option Value} {base : Heap} {C NP NL NW NI : Addr}
theorem scWh : FnScope ["thing"] ["thing"] (defScope sWhole) := ⟨rfl, rfl, rfl, by decide +kernel, rfl, by decide +kernel, by decide +kernel⟩
theorem ok_whole {f : Addr} {fd : FuncData} (F : Fun K "is_whole" "is_whole" sWhole f fd) (T : Txt K mg) : FnOk P w K mg base CX0 1 f fd ["thing"] spWhole := by
  refine F.ok scWh (fun vs H Q E h => ?_) (fun cdv A outer s H vs Q E hr h => ?_)
  · obtain ⟨x, rfl, _⟩ := h
    rfl
  · obtain ⟨x, rfl, th, q⟩ := h
    refine ⟨_, (pss_one (ps_ret (pe_and (pe_callB call_isint (by rfl) T.isi PyProof.Rows.boot_isinstance (pa_cons (pv 0) (pa_cons (pe_bltn (by rfl) T.int PyProof.Rows.boot_int (show RelV (.ty "int") (.type "int") from rfl)) pa_nil))) (pe_one (pe_not (pe_callB call_isbool (by rfl) T.isi PyProof.Rows.boot_isinstance (pa_cons (pv 0) (pa_cons (pe_bltn (by rfl) T.boo PyProof.Rows.boot_bool (show RelV (.ty "bool") (.type "bool") from rfl)) pa_nil)))))))), ?_⟩
    refine ⟨x, rfl, x, rfl, th, _, rfl, ?_⟩
    cases th with
    | non => exact iteF q
    | bl b => exact iteT ⟨_, rfl, _, rfl, .bl b, _, rfl, q⟩
    | int i => exact iteT ⟨_, rfl, _, rfl, .int i, _, rfl, q⟩
    | str z => exact iteF q
    | lst e => exact iteF q
    | frz e => exact iteF q
    | tup e => exact iteF q
    | dic e => exact iteF q
theorem scBe : FnScope ["thing", "bound"] ["thing", "bound"] (defScope sBelow) := ⟨rfl, rfl, rfl, by decide +kernel, rfl, by decide +kernel, by decide +kernel⟩
theorem ok_below {f f1 : Addr} {fd fd1 : FuncData} (F : Fun K "is_below" "is_below" sBelow f fd) (W : Dn K mg "is_whole" sWhole ["thing"] f1 fd1) (T : Txt K mg) : FnOk P w K mg base CX0 2 f fd ["thing", "bound"] spBelow := by
  have G : FnOk P w K mg base CX0 1 f1 fd1 ["thing"] spWhole := ok_whole W.F T
  refine F.ok scBe (fun vs H Q E h => ?_) (fun cdv A outer s H vs Q E hr h => ?_)
  · obtain ⟨x, b, rfl, _⟩ := h
    rfl
  · obtain ⟨x, b, rfl, th, q⟩ := h
    refine ⟨_, (pss_one (ps_ret (pe_and (pe_call G hr (by rfl) W.m W.F.kp W.b .nil pass0 (pa_cons (pv 0) pa_nil)) (pe_one (pe_chain op_le op_lt pe_int (pv 0) (pv 1)))))), ?_⟩
    refine ⟨x, rfl, x, rfl, th, _, rfl, ?_⟩
    cases th with
    | int i =>
      refine iteT ⟨_, rfl, 0, i, rfl, rfl, _, rfl, ?_⟩
      by_cases h0 : (0 : Int) ≤ i
      · rw [decide_eq_true h0]
        refine iteT ⟨_, rfl, i, b, rfl, rfl, ?_⟩
        simp only [below, decide_eq_true h0, Bool.true_and] at q
        exact q
      · rw [decide_eq_false h0]
        refine iteF ?_
        simp only [below, decide_eq_false h0, Bool.false_and] at q
        exact q
    | non => exact iteF q
    | bl b => exact iteF q
    | str z => exact iteF q
    | lst e => exact iteF q
    | frz e => exact iteF q
    | tup e => exact iteF q
    | dic e => exact iteF q
theorem scWd : FnScope ["thing"] ["thing"] (defScope sWord) := ⟨rfl, rfl, rfl, by decide +kernel, rfl, by decide +kernel, by decide +kernel⟩
theorem ok_word {f f1 : Addr} {fd fd1 : FuncData} (F : Fun K "is_word" "is_word" sWord f fd) (B : Dn K mg "is_below" sBelow ["thing", "bound"] f1 fd1) (G : FnOk P w K mg base CX0 2 f1 fd1 ["thing", "bound"] spBelow) (S : Sto K mg C NP NL NW NI) : FnOk P w K mg base CX0 3 f fd ["thing"] spWord := by
  refine F.ok scWd (fun vs H Q E h => ?_) (fun cdv A outer s H vs Q E hr h => ?_)
  · obtain ⟨x, rfl, _⟩ := h
    rfl
  · obtain ⟨x, rfl, th, q⟩ := h
    obtain ⟨t1, m1⟩ := S.words
    refine ⟨_, (pss_one (ps_ret (pe_call G hr (by rfl) B.m B.F.kp B.b .nil pass0 (pa_cons (pv 0) (pa_cons (pe_glob (by rfl) m1 (show RelV (.int 281474976710656) (.int 281474976710656 t1) from ⟨_, rfl⟩)) pa_nil))))), ?_⟩
    exact ⟨x, rfl, x, _, rfl, th, q⟩
theorem scSi : FnScope ["self"] ["self"] (defScope sSize) := ⟨rfl, rfl, rfl, by decide +kernel, rfl, by decide +kernel, by decide +kernel⟩
theorem ok_size {f : Addr} {fd : FuncData} (F : Fun K "size" "Memory.size" sSize f fd) (S : Sto K mg C NP NL NW NI) (T : Txt K mg) : FnOk P w K mg base CX0 1 f fd ["self"] (spSize C) := by
  refine F.ok scSi (fun vs H Q E h => ?_) (fun cdv A outer s H vs Q E hr h => ?_)
  · obtain ⟨m, h, ps, rfl, _⟩ := h
    rfl
  · obtain ⟨m, h, ps, rfl, M, q⟩ := h
    obtain ⟨dx, hm⟩ := M.ob
    refine ⟨_, (pss_one (ps_ret (pe_callB call_len_seq (by rfl) T.len PySem.boot_len (pa_cons (pe_fld (pv 0) rfl) pa_nil)))), ?_⟩
    refine ⟨_, rfl, m, C, dx, _, _, rfl, hm, S.cl, S.nh, flds_held h, h, _, rfl, .inl (SqL.of M.pg.top), ?_⟩
    rw [List.length_map]
    exact q
theorem scHa : FnScope ["self", "page"] ["self", "page"] (defScope sHas) := ⟨rfl, rfl, rfl, by decide +kernel, rfl, by decide +kernel, by decide +kernel⟩
theorem ok_has {f f1 f2 : Addr} {fd fd1 fd2 : FuncData} (F : Fun K "has" "Memory.has" sHas f fd) (B : Dn K mg "is_below" sBelow ["thing", "bound"] f1 fd1) (G : FnOk P w K mg base CX0 2 f1 fd1 ["thing", "bound"] spBelow)
    (Z : Me K C "size" "Memory.size" sSize ["self"] f2 fd2) (GZ : FnOk P w K mg base CX0 1 f2 fd2 ["self"] (spSize C)) (S : Sto K mg C NP NL NW NI) : FnOk P w K mg base CX0 3 f fd ["self", "page"] (spHas C) := by
  refine F.ok scHa (fun vs H Q E h => ?_) (fun cdv A outer s H vs Q E hr h => ?_)
  · obtain ⟨m, h, ps, x, rfl, _⟩ := h
    rfl
  · obtain ⟨m, h, ps, x, rfl, M, th, q⟩ := h
    obtain ⟨dx, hm⟩ := M.ob
    have hr1 : Room 1 _ := hr.mono (by decide)
    refine ⟨_, (pss_one (ps_ret (pe_and (pe_call G hr (by rfl) B.m B.F.kp B.b .nil pass0 (pa_cons (pv 1) (pa_cons (pe_meth0 (pv 0) S.cl Z.m GZ hr1 Z.b .nil pass0) pa_nil))) (pe_one (pe_cmpR op_notN (pe_ix ix_list (pe_fld (pv 0) rfl) (pv 1) (fun _ _ => rfl)) pe_non (nomark _)))))), ?_⟩
    refine ⟨_, rfl, _, rfl, m, dx, _, rfl, hm, flds_no h (by decide +kernel), m, h, ps, rfl, M, x, _, rfl, th, _, rfl, ?_⟩
    cases hb : below x (ps.length : Int) with
    | false =>
      refine iteF ?_
      have e : hasP ps x = false := by
        cases x with
        | int i =>
          simp only [below] at hb
          simp only [hasP, hb, Bool.false_and]
        | _ => rfl
      rw [e] at q
      exact q
    | true =>
      obtain ⟨i, rfl, h0, h1⟩ := below_int hb
      obtain ⟨n, rfl⟩ : ∃ n : Nat, i = (n : Int) := ⟨i.toNat, by omega⟩
      obtain ⟨o, ho, ha⟩ := atI_pg (ps := ps) (i := n) (by omega)
      refine iteT ⟨_, rfl, m, C, dx, _, _, rfl, hm, S.cl, S.nh, flds_held h, _, rfl, h, _, _, _, rfl, rfl, SqL.of M.pg.top, ha, rfl, ?_⟩
      cases o with
      | none =>
        have e : hasP ps (.int (n : Int)) = false := by simp [hasP, ho, isThere]
        rw [e] at q
        exact q
      | some z =>
        rw [hasP_of ho] at q
        exact q
theorem scCp : FnScope ["self", "page"] ["self", "page"] (defScope sCPage) := ⟨rfl, rfl, rfl, by decide +kernel, rfl, by decide +kernel, by decide +kernel⟩
theorem ok_cpage {f f2 : Addr} {fd fd2 : FuncData} (F : Fun K "check_page" "Store.check_page" sCPage f fd)
    (Z : Me K C "has" "Memory.has" sHas ["self", "page"] f2 fd2) (GZ : FnOk P w K mg base CX0 3 f2 fd2 ["self", "page"] (spHas C)) (S : Sto K mg C NP NL NW NI) : FnOk P w K mg base (CXr P w) 4 f fd ["self", "page"] (spCPage C NP) := by
  refine F.okR scCp (fun vs H Q E h => ?_) (fun cdv A outer s H vs Q E hr h => ?_)
  · obtain ⟨m, h, ps, x, rfl, _⟩ := h
    rfl
  · obtain ⟨m, h, ps, x, rfl, M, th, q, e⟩ := h
    obtain ⟨dx, hm⟩ := M.ob
    refine ⟨_, (pss_one (ps_if (pt_not (pt_val (pe_meth (pv 0) S.cl Z.m GZ hr Z.b .nil pass0 (pa_cons (pv 1) pa_nil)))) (pss_one (ps_raise S.xp S.np raisesR rfl (pa_cons pe_str pa_nil))) pss_nil)), ?_⟩
    refine ⟨_, rfl, m, dx, _, rfl, hm, flds_no h (by decide +kernel), _, rfl, m, h, ps, x, rfl, M, th, _, rfl, ?_⟩
    cases hb : hasP ps x with
    | false => exact iteT ⟨by decide, e hb⟩
    | true => exact iteF (q hb)
theorem scSp : FnScope ["self", "page", "cell"] ["self", "page", "cell"] (defScope sSpot) := ⟨rfl, rfl, rfl, by decide +kernel, rfl, by decide +kernel, by decide +kernel⟩
theorem ok_spot {f f1 f2 : Addr} {fd fd1 fd2 : FuncData} (F : Fun K "check_spot" "Store.check_spot" sSpot f fd) (B : Dn K mg "is_below" sBelow ["thing", "bound"] f1 fd1) (G : FnOk P w K mg base CX0 2 f1 fd1 ["thing", "bound"] spBelow)
    (Z : Me K C "check_page" "Store.check_page" sCPage ["self", "page"] f2 fd2) (GZ : FnOk P w K mg base (CXr P w) 4 f2 fd2 ["self", "page"] (spCPage C NP)) (S : Sto K mg C NP NL NW NI) : FnOk P w K mg base (CXr P w) 5 f fd ["self", "page", "cell"] (spSpot C NP NL) := by
  refine F.okR scSp (fun vs H Q E h => ?_) (fun cdv A outer s H vs Q E hr h => ?_)
  · obtain ⟨m, h, ps, x, y, rfl, _⟩ := h
    rfl
  · obtain ⟨m, h, ps, x, y, rfl, M, th, ty, q, e1, e2⟩ := h
    obtain ⟨dx, hm⟩ := M.ob
    obtain ⟨t2, m2⟩ := S.cells
    have hr1 : Room 2 _ := hr.mono (by decide)
    refine ⟨_, (pss_cons (ps_expr (pe_meth (pv 0) S.cl Z.m GZ hr Z.b .nil passR (pa_cons (pv 1) pa_nil))) (pss_one (ps_if (pt_not (pt_val (pe_call G hr1 (by rfl) B.m B.F.kp B.b .nil pass0 (pa_cons (pv 2) (pa_cons (pe_glob (by rfl) m2 (show RelV (.int 8) (.int 8 t2) from ⟨_, rfl⟩)) pa_nil))))) (pss_one (ps_raise S.xl S.nl raisesR rfl (pa_cons pe_str pa_nil))) pss_nil))), ?_⟩
    refine ⟨_, rfl, m, dx, _, rfl, hm, flds_no h (by decide +kernel), _, rfl, m, h, ps, x, rfl, M, th, fun hb => ?_, e1⟩
    refine ⟨_, rfl, y, _, rfl, ty, _, rfl, ?_⟩
    cases hc : below y 8 with
    | false => exact iteT ⟨by decide, e2 hb hc⟩
    | true => exact iteF (q hb hc)
theorem scWa : FnScope ["self", "page", "cell"] ["self", "page", "cell"] (defScope sWordAt) := ⟨rfl, rfl, rfl, by decide +kernel, rfl, by decide +kernel, by decide +kernel⟩
theorem ok_wordat {f : Addr} {fd : FuncData} (F : Fun K "word_at" "Memory.word_at" sWordAt f fd) (S : Sto K mg C NP NL NW NI) : FnOk P w K mg base CX0 1 f fd ["self", "page", "cell"] (spWordAt C) := by
  refine F.ok scWa (fun vs H Q E h => ?_) (fun cdv A outer s H vs Q E hr h => ?_)
  · obtain ⟨m, h, ps, i, j, p, ws, rfl, _⟩ := h
    rfl
  · obtain ⟨m, h, ps, i, j, p, ws, rfl, M, e, hj, q⟩ := h
    obtain ⟨dx, hm⟩ := M.ob
    obtain ⟨o, ho, ha⟩ := atI_pg (ps := ps) (i := i) (List.getElem?_eq_some_iff.mp e).1
    obtain rfl : o = some (p, ws) := Option.some.inj (ho.symm.trans e)
    refine ⟨_, (pss_one (ps_ret (pe_ix ix_list (pe_ix ix_list (pe_fld (pv 0) rfl) (pv 1) (fun _ _ => rfl)) (pv 2) (fun _ _ => rfl)))), ?_⟩
    exact ⟨_, rfl, m, C, dx, _, _, rfl, hm, S.cl, S.nh, flds_held h, _, rfl, h, _, _, _, rfl, rfl, SqL.of M.pg.top, ha, _, rfl, p, _, _, _, rfl, rfl, SqL.of (M.pg.each i p ws e).1, atI_word (by rw [(M.good i p ws e).1]; exact hj), q⟩
theorem scPw : FnScope ["self", "page", "cell", "word"] ["self", "page", "cell", "word"] (defScope sPutWord) := ⟨rfl, rfl, rfl, by decide +kernel, rfl, by decide +kernel, by decide +kernel⟩
theorem ok_putword {f : Addr} {fd : FuncData} (F : Fun K "put_word" "Memory.put_word" sPutWord f fd) (S : Sto K mg C NP NL NW NI) : FnOk P w K mg base CX0 1 f fd ["self", "page", "cell", "word"] (spPutWord C) := by
  refine F.ok scPw (fun vs H Q E h => ?_) (fun cdv A outer s H vs Q E hr h => ?_)
  · obtain ⟨m, h, ps, i, j, v, p, ws, rfl, _⟩ := h
    rfl
  · obtain ⟨m, h, ps, i, j, v, p, ws, rfl, M, e, hj, q⟩ := h
    obtain ⟨dx, hm⟩ := M.ob
    obtain ⟨o, ho, ha⟩ := atI_pg (ps := ps) (i := i) (List.getElem?_eq_some_iff.mp e).1
    obtain rfl : o = some (p, ws) := Option.some.inj (ho.symm.trans e)
    refine ⟨_, (pss_one (ps_asg (pv 3) (pg_sub (pe_ix ix_list (pe_fld (pv 0) rfl) (pv 1) (fun _ _ => rfl)) (pv 2) set_list))), ?_⟩
    exact ⟨_, rfl, _, rfl, m, C, dx, _, _, rfl, hm, S.cl, S.nh, flds_held h, _, rfl, h, _, _, _, rfl, rfl, SqL.of M.pg.top, ha, _, rfl, p, _, _, _, rfl, rfl, (M.pg.each i p ws e).1, ixN_nat (by rw [List.length_map, (M.good i p ws e).1]; exact hj), q⟩
theorem scRd : FnScope ["self", "page", "cell"] ["self", "page", "cell"] (defScope sRead) := ⟨rfl, rfl, rfl, by decide +kernel, rfl, by decide +kernel, by decide +kernel⟩
theorem ok_read {f f1 f2 : Addr} {fd fd1 fd2 : FuncData} (F : Fun K "read" "Store.read" sRead f fd) (Z : Me K C "check_spot" "Store.check_spot" sSpot ["self", "page", "cell"] f1 fd1) (GZ : FnOk P w K mg base (CXr P w) 5 f1 fd1 ["self", "page", "cell"] (spSpot C NP NL))
    (Y : Me K C "word_at" "Memory.word_at" sWordAt ["self", "page", "cell"] f2 fd2) (GY : FnOk P w K mg base CX0 1 f2 fd2 ["self", "page", "cell"] (spWordAt C)) (S : Sto K mg C NP NL NW NI) : FnOk P w K mg base (CXr P w) 6 f fd ["self", "page", "cell"] (spRead C NP NL) := by
  refine F.okR scRd (fun vs H Q E h => ?_) (fun cdv A outer s H vs Q E hr h => ?_)
  · obtain ⟨m, h, ps, x, y, rfl, _⟩ := h
    rfl
  · obtain ⟨m, h, ps, x, y, rfl, M, th, ty, q, e1, e2⟩ := h
    obtain ⟨dx, hm⟩ := M.ob
    have hr1 : Room 1 _ := hr.mono (by decide)
    refine ⟨_, (pss_cons (ps_expr (pe_meth (pv 0) S.cl Z.m GZ hr Z.b .nil passR (pa_cons (pv 1) (pa_cons (pv 2) pa_nil)))) (pss_one (ps_ret (pe_meth (pv 0) S.cl Y.m GY hr1 Y.b .nil pass0 (pa_cons (pv 1) (pa_cons (pv 2) pa_nil)))))), ?_⟩
    refine ⟨_, rfl, m, dx, _, rfl, hm, flds_no h (by decide +kernel), _, rfl, _, rfl, m, h, ps, x, y, rfl, M, th, ty, fun hb hc => ?_, e1, e2⟩
    obtain ⟨i, p, ws, rfl, e⟩ := hasP_int hb
    obtain ⟨j, rfl, j0, j1⟩ := below_int hc
    obtain ⟨n, rfl⟩ : ∃ n : Nat, j = (n : Int) := ⟨j.toNat, by omega⟩
    exact ⟨_, rfl, m, dx, _, rfl, hm, flds_no h (by decide +kernel), _, rfl, _, rfl, m, h, ps, i, n, p, ws, rfl, M, e, (by omega), q i n p ws rfl rfl e (by omega)⟩
theorem scCW : FnScope ["word"] ["word"] (defScope sCWord) := ⟨rfl, rfl, rfl, by decide +kernel, rfl, by decide +kernel, by decide +kernel⟩
def spCWord (NW : Addr) : Sp := fun vs H Q E => ∃ z, vs = [z] ∧ Th H z ∧ (below z 281474976710656 = true → Q .non H) ∧ (below z 281474976710656 = false → E (.ref NW) none H)
theorem ok_cword {f f3 : Addr} {fd fd3 : FuncData} (F : Fun K "check_word" "check_word" sCWord f fd) (B : Dn K mg "is_word" sWord ["thing"] f3 fd3) (G : FnOk P w K mg base CX0 3 f3 fd3 ["thing"] spWord) (S : Sto K mg C NP NL NW NI) : FnOk P w K mg base (CXr P w) 4 f fd ["word"] (spCWord NW) := by
  refine F.okR scCW (fun vs H Q E h => ?_) (fun cdv A outer s H vs Q E hr h => ?_)
  · obtain ⟨z, rfl, _⟩ := h
    rfl
  · obtain ⟨z, rfl, tz, q, e3⟩ := h
    refine ⟨_, (pss_one (ps_if (pt_not (pt_val (pe_call G hr (by rfl) B.m B.F.kp B.b .nil pass0 (pa_cons (pv 0) pa_nil)))) (pss_one (ps_raise S.xw S.nw raisesR rfl (pa_cons pe_str pa_nil))) pss_nil)), ?_⟩
    refine ⟨_, rfl, z, rfl, tz, _, rfl, ?_⟩
    cases hd : below z 281474976710656 with
    | false => exact iteT ⟨by decide, e3 hd⟩
    | true => exact iteF (q hd)
theorem scWr : FnScope ["self", "page", "cell", "word"] ["self", "page", "cell", "word"] (defScope sWrite) := ⟨rfl, rfl, rfl, by decide +kernel, rfl, by decide +kernel, by decide +kernel⟩
theorem ok_write {f f1 f2 f3 : Addr} {fd fd1 fd2 fd3 : FuncData} (F : Fun K "write" "Store.write" sWrite f fd) (Z : Me K C "check_spot" "Store.check_spot" sSpot ["self", "page", "cell"] f1 fd1) (GZ : FnOk P w K mg base (CXr P w) 5 f1 fd1 ["self", "page", "cell"] (spSpot C NP NL))
    (B : Dn K mg "check_word" sCWord ["word"] f3 fd3) (G : FnOk P w K mg base (CXr P w) 4 f3 fd3 ["word"] (spCWord NW))
    (Y : Me K C "put_word" "Memory.put_word" sPutWord ["self", "page", "cell", "word"] f2 fd2) (GY : FnOk P w K mg base CX0 1 f2 fd2 ["self", "page", "cell", "word"] (spPutWord C)) (S : Sto K mg C NP NL NW NI) : FnOk P w K mg base (CXr P w) 6 f fd ["self", "page", "cell", "word"] (spWrite C NP NL NW) := by
  refine F.okR scWr (fun vs H Q E h => ?_) (fun cdv A outer s H vs Q E hr h => ?_)
  · obtain ⟨m, h, ps, x, y, z, rfl, _⟩ := h
    rfl
  · obtain ⟨m, h, ps, x, y, z, rfl, M, th, ty, tz, q, e1, e2, e3⟩ := h
    obtain ⟨dx, hm⟩ := M.ob
    have hr1 : Room 1 _ := hr.mono (by decide)
    have hr2 : Room 4 _ := hr.mono (by decide)
    refine ⟨_, (pss_cons (ps_expr (pe_meth (pv 0) S.cl Z.m GZ hr Z.b .nil passR (pa_cons (pv 1) (pa_cons (pv 2) pa_nil)))) (pss_cons (ps_expr (pe_call G hr2 (by rfl) B.m B.F.kp B.b .nil passR (pa_cons (pv 3) pa_nil))) (pss_one (ps_expr (pe_meth (pv 0) S.cl Y.m GY hr1 Y.b .nil pass0 (pa_cons (pv 1) (pa_cons (pv 2) (pa_cons (pv 3) pa_nil)))))))), ?_⟩
    refine ⟨_, rfl, m, dx, _, rfl, hm, flds_no h (by decide +kernel), _, rfl, _, rfl, m, h, ps, x, y, rfl, M, th, ty, fun hb hc => ?_, e1, e2⟩
    refine ⟨_, rfl, z, rfl, tz, fun hd => ?_, fun hd => e3 hb hc hd⟩
    obtain ⟨i, p, ws, rfl, e⟩ := hasP_int hb
    obtain ⟨j, rfl, j0, j1⟩ := below_int hc
    obtain ⟨v, rfl, v0, v1⟩ := below_int hd
    obtain ⟨n, rfl⟩ : ∃ n : Nat, j = (n : Int) := ⟨j.toNat, by omega⟩
    exact ⟨_, rfl, m, dx, _, rfl, hm, flds_no h (by decide +kernel), _, rfl, _, rfl, _, rfl, m, h, ps, i, n, v, p, ws, rfl, M, e, (by omega), q i n v p ws rfl rfl rfl e (by omega) v0 v1⟩
theorem scTo : FnScope ["self"] ["self"] (defScope sTold) := ⟨rfl, rfl, rfl, by decide +kernel, rfl, by decide +kernel, by decide +kernel⟩
theorem ndTo : (compN "page" ["self"]).Nodup := by decide +kernel
theorem dotTo : (".0" : Str) ∉ (["self"] : List Str) := by decide +kernel
theorem ok_told {f : Addr} {fd : FuncData} (F : Fun K "told" "Memory.told" sTold f fd) (S : Sto K mg C NP NL NW NI) (T : Txt K mg) : FnOk P w K mg base CX0 1 f fd ["self"] (spTold C) := by
  refine F.ok scTo (fun vs H Q E h => ?_) (fun cdv A outer s H vs Q E hr h => ?_)
  · obtain ⟨m, h, ps, rfl, _⟩ := h
    rfl
  · obtain ⟨m, h, ps, rfl, M, q⟩ := h
    obtain ⟨dx, hm⟩ := M.ob
    refine ⟨_, (pss_one (ps_ret (pe_comp (cl := []) (tc := tYes) (te := tCopy K) rfl (pi_list (pe_fld (pv 0) rfl)) (closureFor_none (by decide +kernel)) (show CapOk _ _ _ _ from ⟨.inl ⟨.inr rfl, rfl⟩, .inl ⟨.inl rfl, rfl⟩, .inr (.inl ⟨by decide, by decide, by decide⟩), trivial⟩) trivial (fun C s₂ H₂ fp => .nil) (fun C s₂ H₂ fp => (pe_ifExp (pt_cmpR op_isN (pv 0) pe_non (nomark _)) pe_non (pe_callTy call_list_of (by rfl) T.lst PyProof.Rows.boot_list (pa_cons (pv 0) pa_nil)))) ndTo (hdot := dotTo)))), ?_⟩
    refine ⟨_, rfl, m, C, dx, _, _, rfl, hm, S.cl, S.nh, flds_held h, h, rfl, ⟨_, SqL.of M.pg.top⟩, ?_⟩
    exact copy_pages M.pg (by have := M.len; omega) q
theorem scEi : FnScope ["thing"] ["thing"] (defScope sEight) := ⟨rfl, rfl, rfl, by decide +kernel, rfl, by decide +kernel, by decide +kernel⟩
theorem ndEi : (compN "word" ["thing"]).Nodup := by decide +kernel
theorem dotEi : (".0" : Str) ∉ (["thing"] : List Str) := by decide +kernel
def spEight : Sp := fun vs H Q _ => ∃ (p : Addr) (ws : List Int), vs = [.ref p] ∧ H p = some (.lst (ws.map V.int)) ∧ ws.length = 8 ∧ (∀ w ∈ ws, 0 ≤ w ∧ w < 281474976710656) ∧ ∀ H', Same H H' → Q (.bl true) H'
theorem ok_eight {f f1 : Addr} {fd fd1 : FuncData} (F : Fun K "is_eight_words" "is_eight_words" sEight f fd) (B : Dn K mg "is_word" sWord ["thing"] f1 fd1) (G : FnOk P w K mg base CX0 3 f1 fd1 ["thing"] spWord) (S : Sto K mg C NP NL NW NI) (T : Txt K mg) : FnOk P w K mg base CX0 4 f fd ["thing"] spEight := by
  refine F.ok scEi (fun vs H Q E h => ?_) (fun cdv A outer s H vs Q E hr h => ?_)
  · obtain ⟨p, ws, rfl, _⟩ := h
    rfl
  · obtain ⟨p, ws, rfl, hp, hl, hw, q⟩ := h
    obtain ⟨t2, m2⟩ := S.cells
    refine ⟨_, (pss_one (ps_ret (pe_and (pe_callB call_islist (by rfl) T.isi PyProof.Rows.boot_isinstance (pa_cons (pv 0) (pa_cons (pe_bltn (by rfl) T.lst PyProof.Rows.boot_list (show RelV (.ty "list") (.type "list") from rfl)) pa_nil))) (pe_and (pe_cmpR op_eq (pe_callB call_len_seq (by rfl) T.len PySem.boot_len (pa_cons (pv 0) pa_nil)) (pe_glob (by rfl) m2 (show RelV (.int 8) (.int 8 t2) from ⟨_, rfl⟩)) (nomark _)) (pe_one (pe_callB (call_allB rfl) (by rfl) T.all PyProof.Rows.boot_all (pa_cons (pe_comp (cl := []) (tc := tYes) (te := tCall spWord [] E0 (tCons (tVar 0) tNil)) rfl (pi_list (pv 0)) (closureFor_none (by decide +kernel)) (show CapOk _ _ _ _ from ⟨.inl ⟨.inr rfl, rfl⟩, .inl ⟨.inl rfl, rfl⟩, .inr (.inl ⟨by decide, by decide, by decide⟩), trivial⟩) trivial (fun C s₂ H₂ fp => .nil) (fun C s₂ H₂ fp => (pe_call G hr (by rfl) B.m B.F.kp B.b .nil pass0 (pa_cons (pv 0) pa_nil))) ndEi (hdot := dotEi)) pa_nil))))))), ?_⟩
    refine ⟨_, rfl, _, rfl, .lst hp, _, rfl, iteTS (isLst_of hp) ?_⟩
    refine ⟨_, rfl, p, _, rfl, .inl (SqL.of hp), rfl, _, rfl, iteTS (by show decide (V.int ((ws.map V.int).length : Int) = V.int 8) = true; rw [List.length_map, hl]; rfl) ?_⟩
    refine ⟨_, rfl, p, rfl, ⟨_, SqL.of hp⟩, comp_list (xs := ws.map V.int) (fun D i ys H' => H D = none ∧ Same H H' ∧ ys = (List.replicate i true).map V.bl ∧ H' D = some (.lst ys)) ?_ ?_ ?_ ?_⟩
    · exact fun D hD => ⟨hD, same_new hD, rfl, upd_same⟩
    · rintro D i ys H' _ ⟨hD, ss, rfl, hy⟩
      exact ⟨SqL.of (ss _ _ hp), hy⟩
    · rintro D i x ys H' hi ⟨hD, ss, rfl, hy⟩
      rw [List.getElem?_map] at hi
      cases e : ws[i]? with
      | none => rw [e] at hi; cases hi
      | some z =>
        rw [e] at hi
        have hi' : V.int z = x := Option.some.inj hi
        subst hi'
        obtain ⟨z0, z1⟩ := hw z (List.mem_of_getElem? e)
        have hil : i < 8 := by rw [← hl]; exact (List.getElem?_eq_some_iff.mp e).1
        refine iteT ⟨_, rfl, _, rfl, .int z, ?_⟩
        rw [below_of z0 z1]
        refine ⟨hy, ?_, hD, Same.set ss hD, ?_, upd_same⟩
        · rw [List.length_map, List.length_replicate]
          exact Nat.lt_of_lt_of_le hil (by decide)
        · rw [List.replicate_succ', List.map_append]
          rfl
    · rintro D ys H' ⟨hD, ss, rfl, hy⟩
      refine ⟨D, _, rfl, hy, ?_⟩
      rw [show ((List.replicate (ws.map V.int).length true).all id) = true by simp]
      exact q H' ss
theorem scIm : FnScope ["pages", "page"] ["pages"] (defScope sImage) := ⟨rfl, rfl, rfl, by decide +kernel, rfl, by decide +kernel, by decide +kernel⟩
def spImage : Sp := fun vs H Q _ => ∃ (p : Addr) (ps : Pgs), vs = [.ref p] ∧ Pg H p ps ∧ Good ps ∧ 1 ≤ ps.length ∧ ps.length ≤ 24 ∧ ∀ H', Same H H' → Q .non H'
theorem ok_image {f f1 : Addr} {fd fd1 : FuncData} (F : Fun K "check_image" "check_image" sImage f fd) (B : Dn K mg "is_eight_words" sEight ["thing"] f1 fd1) (G : FnOk P w K mg base CX0 4 f1 fd1 ["thing"] spEight) (S : Sto K mg C NP NL NW NI) (T : Txt K mg) : FnOk P w K mg base (CXr P w) 5 f fd ["pages"] spImage := by
  refine F.okR scIm (fun vs H Q E h => ?_) (fun cdv A outer s H vs Q E hr h => ?_)
  · obtain ⟨p, ps, rfl, _⟩ := h
    rfl
  · obtain ⟨p, ps, rfl, g, hg, l1, l2, q⟩ := h
    obtain ⟨t3, m3⟩ := S.most
    refine ⟨_, (pss_cons (ps_if (PW.pt (pw_or (pt_not (pt_val (pe_callB call_islist (by rfl) T.isi PyProof.Rows.boot_isinstance (pa_cons (pv 0) (pa_cons (pe_bltn (by rfl) T.lst PyProof.Rows.boot_list (show RelV (.ty "list") (.type "list") from rfl)) pa_nil))))) (pw_or1 (pt_not (pt_chain op_le op_le pe_int (pe_callB call_len_seq (by rfl) T.len PySem.boot_len (pa_cons (pv 0) pa_nil)) (pe_glob (by rfl) m3 (show RelV (.int 24) (.int 24 t3) from ⟨_, rfl⟩))))))) (pss_one (ps_raise S.xi S.ni raisesR rfl (pa_cons pe_str pa_nil))) pss_nil) (pss_one (ps_for passesOwnR rfl (pi_list (pv 0)) (pg_name (i := 1) scIm.nd rfl (Or.inl rfl)) (pss_one (ps_if (PW.pt (pw_and (pt_cmpR op_notN (pv 1) pe_non (nomark _)) (pw_and1 (pt_not (pt_val (pe_call G hr (by rfl) B.m B.F.kp B.b .nil pass0 (pa_cons (pv 1) pa_nil))))))) (pss_one (ps_raise S.xi S.ni raisesR rfl (pa_cons pe_str pa_nil))) pss_nil))))), ?_⟩
    refine ⟨_, rfl, _, rfl, .lst g.top, _, rfl, iteFS (by show (!isLst H (.ref p)) = false; rw [isLst_of g.top]; rfl) ?_⟩
    refine ⟨_, rfl, p, _, rfl, .inl (SqL.of g.top), 1, _, rfl, rfl, _, rfl, iteTS (by show decide ((1 : Int) ≤ ((ps.map pgV).length : Int)) = true; rw [List.length_map]; exact decide_eq_true (by omega)) ?_⟩
    refine ⟨_, 24, rfl, rfl, _, rfl, iteFS (by show (!decide ((((ps.map pgV).length : Int)) ≤ 24)) = false; rw [List.length_map, decide_eq_true (by omega)]; rfl) ?_⟩
    refine ⟨_, rfl, p, rfl, ⟨_, SqL.of g.top⟩, for_list (K := K) (a := p) (xs := ps.map pgV) (fun i σ H' => (∃ v, σ = [some (.ref p), v]) ∧ Same H H') ⟨⟨_, rfl⟩, Same.refl _⟩ (fun i σ H' _ ⟨_, ss⟩ => SqL.of (ss _ _ g.top)) ?_ ?_⟩
    · rintro i x σ H' hi ⟨⟨v, rfl⟩, ss⟩
      rw [List.getElem?_map] at hi
      cases e : ps[i]? with
      | none => rw [e] at hi; cases hi
      | some o =>
        rw [e] at hi
        have hi' : pgV o = x := Option.some.inj hi
        subst hi'
        cases o with
        | none =>
          refine ⟨_, rfl, rfl, _, rfl, iteF ?_⟩
          refine iteF ?_
          exact ⟨⟨_, rfl⟩, ss⟩
        | some z =>
          obtain ⟨a, ws⟩ := z
          refine ⟨_, rfl, rfl, _, rfl, iteT ?_⟩
          refine ⟨_, rfl, a, ws, rfl, ss _ _ (g.each i a ws e).1, (hg i a ws e).1, (hg i a ws e).2, fun H2 s2 => ⟨_, rfl, iteF ?_⟩⟩
          exact ⟨⟨_, rfl⟩, ss.trans s2⟩
    · rintro σ H' ⟨_, ss⟩
      exact q H' ss
theorem scIn : FnScope ["self", "pages"] ["self", "pages"] (defScope sInit) := ⟨rfl, rfl, rfl, by decide +kernel, rfl, by decide +kernel, by decide +kernel⟩
theorem ndIn : (compN "page" ["self", "pages"]).Nodup := by decide +kernel
theorem dotIn : (".0" : Str) ∉ (["self", "pages"] : List Str) := by decide +kernel
def spInit (C : Addr) : Sp := fun vs H Q _ => ∃ (m dx p : Addr) (ps : Pgs), vs = [.ref m, .ref p] ∧ H m = some (.ins C dx []) ∧ Pg H p ps ∧ Good ps ∧ 1 ≤ ps.length ∧ ps.length ≤ 24 ∧
  ∀ (h : Addr) (H' : Hp) (qs : Pgs), (∀ b o, b ≠ m → H b = some o → H' b = some o) → Mem C H' m h qs → cont qs = cont ps → (∀ b, At h qs b → H b = none) → Q .non H'
theorem good_cont {ps qs : Pgs} (h : cont qs = cont ps) (g : Good ps) : Good qs := fun i p ws e => by
  obtain ⟨q, f⟩ := cont_some h e
  exact g i q ws f
theorem ok_init {f f1 : Addr} {fd fd1 : FuncData} (F : Fun K "__init__" "Memory.__init__" sInit f fd) (B : Dn K mg "check_image" sImage ["pages"] f1 fd1) (G : FnOk P w K mg base (CXr P w) 5 f1 fd1 ["pages"] spImage) (S : Sto K mg C NP NL NW NI) (T : Txt K mg) : FnOk P w K mg base (CXr P w) 6 f fd ["self", "pages"] (spInit C) := by
  refine F.okR scIn (fun vs H Q E h => ?_) (fun cdv A outer s H vs Q E hr h => ?_)
  · obtain ⟨m, dx, p, ps, rfl, _⟩ := h
    rfl
  · obtain ⟨m, dx, p, ps, rfl, hm, g, hg, l1, l2, q⟩ := h
    refine ⟨_, (pss_cons (ps_expr (pe_call G hr (by rfl) B.m B.F.kp B.b .nil passR (pa_cons (pv 1) pa_nil))) (pss_one (ps_fld (pv 0) (pe_comp (cl := []) (tc := tYes) (te := tCopy K) rfl (pi_list (pv 1)) (closureFor_none (by decide +kernel)) (show CapOk _ _ _ _ from ⟨.inl ⟨.inr rfl, rfl⟩, .inl ⟨.inl rfl, rfl⟩, .inr (.inl ⟨by decide, by decide, by decide⟩), trivial⟩) trivial (fun C s₂ H₂ fp => .nil) (fun C s₂ H₂ fp => (pe_ifExp (pt_cmpR op_isN (pv 0) pe_non (nomark _)) pe_non (pe_callTy call_list_of (by rfl) T.lst PyProof.Rows.boot_list (pa_cons (pv 0) pa_nil)))) ndIn (hdot := dotIn)) rfl))), ?_⟩
    refine ⟨_, rfl, p, ps, rfl, g, hg, l1, l2, fun H1 s1 => ?_⟩
    refine ⟨_, rfl, p, rfl, ⟨_, SqL.of (s1 _ _ g.top)⟩, copy_pages (g.same s1) (by omega) fun D H2 qs s2 g2 hc hf => ?_⟩
    have s12 := s1.trans s2
    have hm2 := s12 _ _ hm
    have nm : ∀ b, At D qs b → b ≠ m := fun b hb z => by
      have := s1.free (hf b hb)
      rw [z, hm] at this
      cases this
    refine ⟨_, rfl, m, C, dx, _, rfl, hm2, S.cl, S.nh, (by show 0 < 1000; decide), ?_⟩
    refine q D _ qs (fun b o hb e => by rw [upd_ne hb]; exact s12 _ _ e) ⟨⟨dx, upd_same⟩, g2.keep fun b hb => upd_ne (nm b hb), good_cont hc hg, ?_⟩ hc fun b hb => s1.free (hf b hb)
    have := cont_len hc
    omega
end
end K17
end
section
namespace K17
open PySem L2
abbrev sGive : Stmt := inClass (top 41) 5
abbrev sLay : Stmt := inClass (top 41) 6
theorem hasP_cont {ps qs : Pgs} (h : cont ps = cont qs) (x : V) : hasP ps x = hasP qs x := by
  cases x with
  | int i =>
    have hl := cont_len h
    have e : isThere ps[i.toNat]? = isThere qs[i.toNat]? := by
      have z := cont_at h i.toNat
      revert z
      cases ps[i.toNat]? with
      | none => cases qs[i.toNat]? with
        | none => intro; rfl
        | some o => intro z; cases z
      | some o => cases qs[i.toNat]? with
        | none => intro z; cases z
        | some o' =>
          intro z
          cases o <;> cases o' <;> first | rfl | cases z
    simp only [hasP, e, hl]
  | _ => rfl
theorem atI_mem {gs : List Int} {i : Int} (h0 : 0 ≤ i) (h1 : i < gs.length) : ∃ g, g ∈ gs ∧ atI (gs.map V.int) i = some (.int g) := by
  obtain ⟨n, rfl⟩ : ∃ n : Nat, i = (n : Int) := ⟨i.toNat, by omega⟩
  have hn : n < gs.length := by omega
  refine ⟨gs[n], List.getElem_mem hn, atI_nat ?_⟩
  rw [List.getElem?_map, List.getElem?_eq_getElem hn]
  rfl
structure Both (C : Addr) (H : Hp) (m h D : Addr) (ps qs : Pgs) : Prop where
  M : Mem C H m h ps
  g : Pg H D qs
  c : cont ps = cont qs
  ap : ∀ b, At h ps b → ¬ At D qs b
theorem passX0 {P : Program} {w : World} {X : Cx} : Passes (CXr P w) X E0 := by
  rintro _ _ _ _ _ _ _ ⟨_, _, _, _, _, _, _, _, _, _, _, _, _, _, _, q⟩
  exact q.elim
theorem _root_.L2.At.setW {h b : Addr} {ps : Pgs} {i j : Nat} {w : Int} (x : At h (setW ps i j w) b) : At h ps b := by
  rcases x with rfl | ⟨k, ws, e⟩
  · exact .inl rfl
  · unfold L2.setW at e
    by_cases hk : i = k
    · subst hk
      cases e0 : ps[i]? with
      | none =>
        rw [List.getElem?_eq_none (by rw [List.length_set]; exact List.getElem?_eq_none_iff.mp e0)] at e
        cases e
      | some o =>
        rw [List.getElem?_set_self (List.getElem?_eq_some_iff.mp e0).1, e0] at e
        cases o with
        | none => cases e
        | some z =>
          obtain ⟨p, vs⟩ := z
          cases e
          exact .inr ⟨i, vs, e0⟩
    · rw [List.getElem?_set_ne hk] at e
      exact .inr ⟨k, ws, e⟩
theorem there_setW {ps : Pgs} {i j : Nat} {w : Int} (n : Nat) : isThere (setW ps i j w)[n]? = isThere ps[n]? := by
  unfold L2.setW
  by_cases hn : i = n
  · subst hn
    cases e : ps[i]? with
    | none => rw [List.getElem?_eq_none (by rw [List.length_set]; exact List.getElem?_eq_none_iff.mp e)]
    | some o =>
      rw [List.getElem?_set_self (List.getElem?_eq_some_iff.mp e).1]
      cases o <;> rfl
  · rw [List.getElem?_set_ne hn]
theorem _root_.L2.Good.setW {ps : Pgs} {i j : Nat} {w : Int} {p : Addr} {ws : List Int} (g : Good ps) (h : ps[i]? = some (some (p, ws))) (w0 : 0 ≤ w) (w1 : w < 281474976710656) : Good (setW ps i j w) := fun k q vs e => by
  rw [setW_at h] at e
  have hi : i < ps.length := (List.getElem?_eq_some_iff.mp h).1
  by_cases hk : i = k
  · subst hk
    rw [List.getElem?_set_self hi] at e
    cases e
    obtain ⟨g1, g2⟩ := g i p ws h
    refine ⟨by rw [List.length_set]; exact g1, fun v hv => ?_⟩
    rcases List.mem_or_eq_of_mem_set hv with z | z
    · exact g2 v z
    · rw [z]
      exact ⟨w0, w1⟩
  · rw [List.getElem?_set_ne hk] at e
    exact g k q vs e
theorem Mem.setW {C : Addr} {H : Hp} {m h : Addr} {ps : Pgs} {i j : Nat} {w : Int} {p : Addr} {ws : List Int} (M : Mem C H m h ps) (e : ps[i]? = some (some (p, ws))) (w0 : 0 ≤ w) (w1 : w < 281474976710656) : Mem C (upd H p (.lst ((ws.map V.int).set j (.int w)))) m h (setW ps i j w) := by
  obtain ⟨dx, hm⟩ := M.ob
  have hp := (M.pg.each i p ws e).1
  exact ⟨⟨dx, by rw [upd_ne (ne_of hm hp (by intro z; cases z))]; exact hm⟩, M.pg.setW e, M.good.setW e w0 w1, by rw [setW_len]; exact M.len⟩
theorem Mem.keep {C : Addr} {H H' : Hp} {m h : Addr} {ps : Pgs} (M : Mem C H m h ps) (hm : H' m = H m) (k : ∀ b, At h ps b → H' b = H b) : Mem C H' m h ps := ⟨by rw [hm]; exact M.ob, M.pg.keep k, M.good, M.len⟩
theorem there_some {ps : Pgs} {i : Nat} (h : isThere ps[i]? = true) : ∃ p ws, ps[i]? = some (some (p, ws)) := by
  cases e : ps[i]? with
  | none => rw [e] at h; cases h
  | some o =>
    cases o with
    | none => rw [e] at h; cases h
    | some z => exact ⟨z.1, z.2, rfl⟩
theorem cut_ints (ns : List Int) (lo hi : Option Int) : ∃ ms : List Int, cutV (ns.map V.int) lo hi = ms.map V.int ∧ ms.length ≤ ns.length := by
  refine ⟨(ns.drop (HT.sIx (ns.map V.int).length 0 lo)).take (HT.sIx (ns.map V.int).length (ns.map V.int).length hi - HT.sIx (ns.map V.int).length 0 lo), ?_, ?_⟩
  · unfold cutV
    rw [List.map_take, List.map_drop]
  · rw [List.length_take, List.length_drop]
    omega
theorem there_cont {ps qs : Pgs} (h : cont ps = cont qs) (n : Nat) : isThere ps[n]? = isThere qs[n]? := by
  have z := cont_at h n
  revert z
  cases ps[n]? with
  | none => cases qs[n]? with
    | none => intro; rfl
    | some o => intro z; cases z
  | some o => cases qs[n]? with
    | none => intro z; cases z
    | some o' =>
      intro z
      cases o <;> cases o' <;> first | rfl | cases z
theorem set_at {ps : Pgs} {o : Option (Addr × List Int)} {p : Addr} {vs : List Int} {i k : Nat} (z : (ps.set i o)[k]? = some (some (p, vs))) : (k ≠ i ∧ ps[k]? = some (some (p, vs))) ∨ (k = i ∧ o = some (p, vs)) := by
  by_cases hk : i = k
  · subst hk
    refine .inr ⟨rfl, ?_⟩
    have hi : i < ps.length := by
      have := (List.getElem?_eq_some_iff.mp z).1
      rwa [List.length_set] at this
    rw [List.getElem?_set_self hi] at z
    exact Option.some.inj z
  · rw [List.getElem?_set_ne hk] at z
    exact .inl ⟨fun q => hk q.symm, z⟩
theorem _root_.L2.Pg.put {H H2 : Hp} {h : Addr} {ps : Pgs} {o : Option (Addr × List Int)} {i : Nat} (g : Pg H h ps) (s2 : Same H H2) (hn : ∀ (p : Addr) (ws : List Int), o = some (p, ws) → H2 p = some (.lst (ws.map V.int)) ∧ H p = none) :
    Pg (upd H2 h (.lst ((ps.map pgV).set i (pgV o)))) h (ps.set i o) := by
  refine ⟨by rw [upd_same, List.map_set], fun k p ws z => ?_, fun k l p ws ws' z1 z2 => ?_⟩
  · rcases set_at z with ⟨_, z⟩ | ⟨_, z⟩
    · have := g.each k p ws z
      refine ⟨?_, this.2⟩
      rw [upd_ne this.2]
      exact s2 _ _ this.1
    · obtain ⟨z1, z2⟩ := hn p ws z
      have ne : p ≠ h := fun q => by rw [q, g.top] at z2; cases z2
      refine ⟨?_, ne⟩
      rw [upd_ne ne]
      exact z1
  · have old : ∀ (k : Nat) (vs vs' : List Int), ps[k]? = some (some (p, vs)) → o = some (p, vs') → False := fun k vs vs' z1 z2 => by
      have h1 := (g.each k p vs z1).1
      rw [(hn p vs' z2).2] at h1
      cases h1
    rcases set_at z1 with ⟨_, a1⟩ | ⟨rfl, a1⟩ <;> rcases set_at z2 with ⟨_, a2⟩ | ⟨rfl, a2⟩
    · exact g.nd k l p ws ws' a1 a2
    · exact (old _ _ _ a1 a2).elim
    · exact (old _ _ _ a2 a1).elim
    · rfl
theorem _root_.L2.At.put {h b : Addr} {ps : Pgs} {o : Option (Addr × List Int)} {i : Nat} (x : At h (ps.set i o) b) : At h ps b ∨ ∃ ws, o = some (b, ws) := by
  rcases x with rfl | ⟨k, ws, z⟩
  · exact .inl (.inl rfl)
  · rcases set_at z with ⟨_, z⟩ | ⟨_, z⟩
    · exact .inl (.inr ⟨k, ws, z⟩)
    · exact .inr ⟨ws, z⟩
theorem _root_.L2.Good.put {ps : Pgs} {o : Option (Addr × List Int)} {i : Nat} (g : Good ps) (h : ∀ (p : Addr) (ws : List Int), o = some (p, ws) → ws.length = 8 ∧ ∀ w ∈ ws, 0 ≤ w ∧ w < 281474976710656) : Good (ps.set i o) := fun k p ws z => by
  rcases set_at z with ⟨_, z⟩ | ⟨_, z⟩
  · exact g k p ws z
  · exact h p ws z
theorem cont_put {ps qs : Pgs} {o o' : Option (Addr × List Int)} {i : Nat} (h : cont ps = cont qs) (ho : o.map (·.2) = o'.map (·.2)) : cont (ps.set i o) = cont (qs.set i o') := by
  unfold cont at h ⊢
  rw [List.map_set, List.map_set, h, ho]
theorem Mem.put {C : Addr} {H H2 : Hp} {m h : Addr} {ps : Pgs} {o : Option (Addr × List Int)} {i : Nat} (M : Mem C H m h ps) (s2 : Same H H2) (hn : ∀ (p : Addr) (ws : List Int), o = some (p, ws) → H2 p = some (.lst (ws.map V.int)) ∧ H p = none)
    (hg : ∀ (p : Addr) (ws : List Int), o = some (p, ws) → ws.length = 8 ∧ ∀ w ∈ ws, 0 ≤ w ∧ w < 281474976710656) : Mem C (upd H2 h (.lst ((ps.map pgV).set i (pgV o)))) m h (ps.set i o) := by
  obtain ⟨dx, hm⟩ := M.ob
  exact ⟨⟨dx, by rw [upd_ne (ne_of hm M.pg.top (by intro z; cases z))]; exact s2 _ _ hm⟩, M.pg.put s2 hn, M.good.put hg, by rw [List.length_set]; exact M.len⟩
def NotEight (H : Hp) (x : V) : Prop := (Th H x ∧ isLst H x = false) ∨ (∃ a xs, x = .ref a ∧ H a = some (.lst xs) ∧ xs.length ≠ 8) ∨ (∃ a xs, x = .ref a ∧ H a = some (.lst xs) ∧ xs.length = 8 ∧ (∀ v ∈ xs, ∀ H', Th H' v) ∧ ∃ v ∈ xs, below v 281474976710656 = false)
def spEightN : Sp := fun vs H Q _ => ∃ x, vs = [x] ∧ NotEight H x ∧ ∀ H', Same H H' → Q (.bl false) H'
def spEightB : Sp := fun vs H Q E => spEight vs H Q E ∨ spEightN vs H Q E
theorem FnOk.or {P : Program} {w : World} {K : PySem.W.Frag} {mg : Str → Option Value} {base : Heap} {CX : CXT} {k : Nat} {f : Addr} {fd : FuncData} {ps : List Str} {sp sq : Sp} (a : FnOk P w K mg base CX k f fd ps sp) (b : FnOk P w K mg base CX k f fd ps sq) : FnOk P w K mg base CX k f fd ps (fun vs H Q E => sp vs H Q E ∨ sq vs H Q E) :=
  ⟨fun vs H Q E h => h.elim (a.len vs H Q E) (b.len vs H Q E), fun A o s H as us vs Q E hr e0 hb r h => h.elim (a.run A o s H as us vs Q E hr e0 hb r) (b.run A o s H as us vs Q E hr e0 hb r)⟩
def spGive (C NP : Addr) : Sp := fun vs H Q E => ∃ m h ps x, vs = [.ref m, x] ∧ Mem C H m h ps ∧ Th H x ∧ (∀ (i : Nat), x = .int i → i < ps.length → hasP ps x = true → Q .non (upd H h (.lst ((ps.map pgV).set i (pgV none))))) ∧ (hasP ps x = false → E (.ref NP) none H)
def spLay (C NP NW : Addr) : Sp := fun vs H Q E => ∃ m h ps x y, vs = [.ref m, x, y] ∧ Mem C H m h ps ∧ Th H x ∧
  ((below x ps.length = false ∧ E (.ref NP) none H) ∨ (below x ps.length = true ∧ NotEight H y ∧ ∀ H', Same H H' → E (.ref NW) none H') ∨
   (∃ (i : Nat) (p : Addr) (ws : List Int), x = .int i ∧ i < ps.length ∧ y = .ref p ∧ H p = some (.lst (ws.map V.int)) ∧ ws.length = 8 ∧ (∀ w ∈ ws, 0 ≤ w ∧ w < 281474976710656) ∧ ∀ (l : Addr) (H1 : Hp), Same H H1 → H1 l = none → Q .non (upd (upd H1 l (.lst (ws.map V.int))) h (.lst ((ps.map pgV).set i (.ref l))))))
section
variable {P : Program} {w : World} {K : PySem.W.Frag} {mg : Str → Option Value} {base : Heap} {C NP NL NW NI : Addr}
theorem ok_eightN {f f1 : Addr} {fd fd1 : FuncData} (F : Fun K "is_eight_words" "is_eight_words" sEight f fd) (B : Dn K mg "is_word" sWord ["thing"] f1 fd1) (G : FnOk P w K mg base CX0 3 f1 fd1 ["thing"] spWord) (S : Sto K mg C NP NL NW NI) (T : Txt K mg) : FnOk P w K mg base CX0 4 f fd ["thing"] spEightN := by
  refine F.ok scEi (fun vs H Q E h => ?_) (fun cdv A outer s H vs Q E hr h => ?_)
  · obtain ⟨x, rfl, _⟩ := h
    rfl
  · obtain ⟨x, rfl, hx, q⟩ := h
    obtain ⟨t2, m2⟩ := S.cells
    refine ⟨_, (pss_one (ps_ret (pe_and (pe_callB call_islist (by rfl) T.isi PyProof.Rows.boot_isinstance (pa_cons (pv 0) (pa_cons (pe_bltn (by rfl) T.lst PyProof.Rows.boot_list (show RelV (.ty "list") (.type "list") from rfl)) pa_nil))) (pe_and (pe_cmpR op_eq (pe_callB call_len_seq (by rfl) T.len PySem.boot_len (pa_cons (pv 0) pa_nil)) (pe_glob (by rfl) m2 (show RelV (.int 8) (.int 8 t2) from ⟨_, rfl⟩)) (nomark _)) (pe_one (pe_callB (call_allB rfl) (by rfl) T.all PyProof.Rows.boot_all (pa_cons (pe_comp (cl := []) (tc := tYes) (te := tCall spWord [] E0 (tCons (tVar 0) tNil)) rfl (pi_list (pv 0)) (closureFor_none (by decide +kernel)) (by repeat' (first | exact trivial | refine ⟨.inl ⟨.inr rfl, rfl⟩, ?_⟩ | refine ⟨.inl ⟨.inl rfl, rfl⟩, ?_⟩ | refine ⟨.inr (.inl ⟨by decide, by decide, by decide⟩), ?_⟩ | refine ⟨.inr (.inr ⟨rfl, by decide +kernel, by decide +kernel, rfl, rfl⟩), ?_⟩)) trivial (fun C s₂ H₂ fp => .nil) (fun C s₂ H₂ fp => (pe_call G hr (by rfl) B.m B.F.kp B.b .nil pass0 (pa_cons (pv 0) pa_nil))) ndEi (hdot := dotEi)) pa_nil))))))), ?_⟩
    rcases hx with ⟨t, e⟩ | ⟨p, xs, rfl, hp, hl⟩ | ⟨p, xs, rfl, hp, hl, ht, hv⟩
    · refine ⟨_, rfl, _, rfl, t, _, rfl, iteFS e (q H (Same.refl _))⟩
    · refine ⟨_, rfl, _, rfl, .lst hp, _, rfl, iteTS (isLst_of hp) ?_⟩
      refine ⟨_, rfl, p, _, rfl, .inl (SqL.of hp), rfl, _, rfl, iteFS (decide_eq_false fun z => hl (by have := V.int.inj z; omega)) (q H (Same.refl _))⟩
    · refine ⟨_, rfl, _, rfl, .lst hp, _, rfl, iteTS (isLst_of hp) ?_⟩
      refine ⟨_, rfl, p, _, rfl, .inl (SqL.of hp), rfl, _, rfl, iteTS (by show decide (V.int (xs.length : Int) = V.int 8) = true; rw [hl]; rfl) ?_⟩
      refine ⟨_, rfl, p, rfl, ⟨_, SqL.of hp⟩, comp_list (xs := xs) (fun D i ys H' => H D = none ∧ Same H H' ∧ ys = ((xs.take i).map fun v => below v 281474976710656).map V.bl ∧ H' D = some (.lst ys)) ?_ ?_ ?_ ?_⟩
      · exact fun D hD => ⟨hD, same_new hD, rfl, upd_same⟩
      · rintro D i ys H' _ ⟨hD, ss, rfl, hy⟩
        exact ⟨SqL.of (ss _ _ hp), hy⟩
      · rintro D i x ys H' hi ⟨hD, ss, rfl, hy⟩
        have hil : i < 8 := by rw [← hl]; exact (List.getElem?_eq_some_iff.mp hi).1
        refine iteT ⟨_, rfl, _, rfl, ht x (List.mem_of_getElem? hi) H', ?_⟩
        refine ⟨hy, ?_, hD, Same.set ss hD, ?_, upd_same⟩
        · rw [List.length_map, List.length_map, List.length_take]
          exact Nat.lt_of_lt_of_le (by omega : min i xs.length < 1001) (by decide)
        · rw [List.take_add_one, hi, List.map_append, List.map_append]
          rfl
      · rintro D ys H' ⟨hD, ss, rfl, hy⟩
        refine ⟨D, _, rfl, hy, ?_⟩
        rw [List.take_length] at *
        rw [show ((xs.map fun v => below v 281474976710656).all id) = false by
          obtain ⟨v, hm, hb⟩ := hv
          rw [List.all_eq_false]
          exact ⟨_, List.mem_map.mpr ⟨v, hm, rfl⟩, by rw [hb]; decide⟩]
        exact q H' ss
theorem scGi : FnScope ["self", "page"] ["self", "page"] (defScope sGive) := ⟨rfl, rfl, rfl, by decide +kernel, rfl, by decide +kernel, by decide +kernel⟩
theorem ok_give {f f2 : Addr} {fd fd2 : FuncData} (F : Fun K "give" "Memory.give" sGive f fd) (Z : Me K C "check_page" "Store.check_page" sCPage ["self", "page"] f2 fd2) (GZ : FnOk P w K mg base (CXr P w) 4 f2 fd2 ["self", "page"] (spCPage C NP)) (S : Sto K mg C NP NL NW NI) : FnOk P w K mg base (CXr P w) 5 f fd ["self", "page"] (spGive C NP) := by
  refine F.okR scGi (fun vs H Q E h => ?_) (fun cdv A outer s H vs Q E hr h => ?_)
  · obtain ⟨m, h, ps, x, rfl, _⟩ := h
    rfl
  · obtain ⟨m, h, ps, x, rfl, M, th, q, e1⟩ := h
    obtain ⟨dx, hm⟩ := M.ob
    refine ⟨_, (pss_cons (ps_expr (pe_meth (pv 0) S.cl Z.m GZ hr Z.b .nil passR (pa_cons (pv 1) pa_nil))) (pss_one (ps_asg pe_non (pg_sub (pe_fld (pv 0) rfl) (pv 1) set_list)))), ?_⟩
    refine ⟨_, rfl, m, dx, _, rfl, hm, flds_no h (by decide +kernel), _, rfl, m, h, ps, x, rfl, M, th, fun hb => ?_, e1⟩
    obtain ⟨i, p, ws, rfl, e⟩ := hasP_int hb
    have hi : i < ps.length := (List.getElem?_eq_some_iff.mp e).1
    exact ⟨_, rfl, m, C, dx, _, _, rfl, hm, S.cl, S.nh, flds_held h, _, rfl, h, _, _, i, rfl, rfl, M.pg.top, ixN_nat (by rw [List.length_map]; exact hi), q i rfl hi hb⟩
theorem scLy : FnScope ["self", "page", "words"] ["self", "page", "words"] (defScope sLay) := ⟨rfl, rfl, rfl, by decide +kernel, rfl, by decide +kernel, by decide +kernel⟩
theorem ok_lay {f f1 f2 f3 : Addr} {fd fd1 fd2 fd3 : FuncData} (F : Fun K "lay" "Memory.lay" sLay f fd) (B : Dn K mg "is_below" sBelow ["thing", "bound"] f1 fd1) (G : FnOk P w K mg base CX0 2 f1 fd1 ["thing", "bound"] spBelow)
    (B8 : Dn K mg "is_eight_words" sEight ["thing"] f3 fd3) (G8 : FnOk P w K mg base CX0 4 f3 fd3 ["thing"] spEightB)
    (Z : Me K C "size" "Memory.size" sSize ["self"] f2 fd2) (GZ : FnOk P w K mg base CX0 1 f2 fd2 ["self"] (spSize C)) (S : Sto K mg C NP NL NW NI) (T : Txt K mg) : FnOk P w K mg base (CXr P w) 5 f fd ["self", "page", "words"] (spLay C NP NW) := by
  refine F.okR scLy (fun vs H Q E h => ?_) (fun cdv A outer s H vs Q E hr h => ?_)
  · obtain ⟨m, h, ps, x, y, rfl, _⟩ := h
    rfl
  · obtain ⟨m, h, ps, x, y, rfl, M, th, hc⟩ := h
    obtain ⟨dx, hm⟩ := M.ob
    have hr1 : Room 1 _ := hr.mono (by decide)
    have hr2 : Room 2 _ := hr.mono (by decide)
    refine ⟨_, (pss_cons (ps_if (pt_not (pt_val (pe_call G hr2 (by rfl) B.m B.F.kp B.b .nil pass0 (pa_cons (pv 1) (pa_cons (pe_meth0 (pv 0) S.cl Z.m GZ hr1 Z.b .nil pass0) pa_nil))))) (pss_one (ps_raise S.xp S.np raisesR rfl (pa_cons pe_str pa_nil))) pss_nil) (pss_cons (ps_if (pt_not (pt_val (pe_call G8 hr (by rfl) B8.m B8.F.kp B8.b .nil pass0 (pa_cons (pv 2) pa_nil)))) (pss_one (ps_raise S.xw S.nw raisesR rfl (pa_cons pe_str pa_nil))) pss_nil) (pss_one (ps_asg (pe_callTy call_list_of (by rfl) T.lst PyProof.Rows.boot_list (pa_cons (pv 2) pa_nil)) (pg_sub (pe_fld (pv 0) rfl) (pv 1) set_list))))), ?_⟩
    refine ⟨_, rfl, _, rfl, m, dx, _, rfl, hm, flds_no h (by decide +kernel), m, h, ps, rfl, M, x, _, rfl, th, _, rfl, ?_⟩
    rcases hc with ⟨hb, e⟩ | ⟨hb, hn, e⟩ | ⟨i, p, ws, rfl, hi, rfl, hp, hl, hw, q⟩
    · rw [hb]
      exact iteT ⟨by decide, e⟩
    · rw [hb]
      refine iteF ⟨_, rfl, .inr ⟨y, rfl, hn, fun H1 s1 => ⟨_, rfl, iteT ⟨by decide, e H1 s1⟩⟩⟩⟩
    · rw [below_of (by omega) (by omega)]
      refine iteF ⟨_, rfl, .inl ⟨p, ws, rfl, hp, hl, hw, fun H1 s1 => ⟨_, rfl, iteF ?_⟩⟩⟩
      refine ⟨_, rfl, p, _, rfl, .inl (SqL.of (s1 _ _ hp)), fun l hl0 => ?_⟩
      have sl := same_new (o := .lst (ws.map V.int)) hl0
      have M1 := M.same (s1.trans sl)
      exact ⟨_, rfl, m, C, dx, _, _, rfl, sl _ _ (s1 _ _ hm), S.cl, S.nh, flds_held h, _, rfl, h, _, _, i, rfl, rfl, M1.pg.top, ixN_nat (by rw [List.length_map]; exact hi), q l H1 s1 hl0⟩
end
end K17
end
section
namespace K17
open PySem L2
abbrev sFI : Stmt := inClass (top 13) 0
abbrev Rs := List (Int × Int × Int)
structure Wf (fs : List (Str × V)) (m r aw : Addr) (b : Int) : Prop where
  no : ∀ n : Str, ¬ n = "memory" → ¬ n = "base" → ¬ n = "rack" → ¬ n = "held" → fs.lookup n = none
structure Plc (K : PySem.W.Frag) (C : Addr) : Prop where
  cl : Cls K C
structure Way (C SC : Addr) (H : Hp) (a m h r q aw : Addr) (ps : Pgs) (n : Int) (rs : Rs) (bs : List Bool) (b : Int) : Prop where
  M : Mem C H a h ps
theorem Way.ob {C SC : Addr} {H : Hp} {a m h r q aw : Addr} {ps : Pgs} {n : Int} {rs : Rs} {bs : List Bool} {b : Int} (w : Way C SC H a m h r q aw ps n rs bs b) : ∃ dx fs, H a = some (.ins C dx fs) ∧ Wf fs m r aw b := by
  obtain ⟨dx, e⟩ := w.M.ob
  exact ⟨dx, _, e, ⟨fun n _ _ _ h => flds_no _ h⟩⟩
theorem Way.same {C SC : Addr} {H H' : Hp} {a m h r q aw : Addr} {ps : Pgs} {n : Int} {rs : Rs} {bs : List Bool} {b : Int} (w : Way C SC H a m h r q aw ps n rs bs b) (s : Same H H') : Way C SC H' a m h r q aw ps n rs bs b := ⟨w.M.same s⟩
theorem Way.setW {C SC : Addr} {H : Hp} {a m h r q aw : Addr} {ps : Pgs} {n : Int} {rs : Rs} {bs : List Bool} {b : Int} {i j : Nat} {v : Int} {p : Addr} {ws : List Int} (w : Way C SC H a m h r q aw ps n rs bs b) (e : ps[i]? = some (some (p, ws))) (w0 : 0 ≤ v) (w1 : v < 281474976710656) :
    Way C SC (upd H p (.lst ((ws.map V.int).set j (.int v)))) a m h r q aw (setW ps i j v) n rs bs b := ⟨w.M.setW e w0 w1⟩
def spPHas (C SC : Addr) : Sp := fun vs H Q _ => ∃ (a m h r q aw : Addr) (ps : Pgs) (n : Int) (rs : Rs) (bs : List Bool) (b : Int) (x : V), vs = [.ref a, x] ∧ Way C SC H a m h r q aw ps n rs bs b ∧ Th H x ∧ Q (.bl (hasP ps x)) H
def spWRead (C SC NP NL : Addr) : Sp := fun vs H Q E => ∃ (a m h r q aw : Addr) (ps : Pgs) (n : Int) (rs : Rs) (bs : List Bool) (b : Int) (x y : V), vs = [.ref a, x, y] ∧ Way C SC H a m h r q aw ps n rs bs b ∧ Th H x ∧ Th H y ∧
  (∀ (i j : Nat) (p : Addr) (ws : List Int), x = .int i → y = .int j → ps[i]? = some (some (p, ws)) → j < 8 → Q (.int (ws.getD j 0)) H) ∧ (hasP ps x = false → E (.ref NP) none H) ∧ (hasP ps x = true → below y 8 = false → E (.ref NL) none H)
def spWWrite (C SC NP NL NW : Addr) : Sp := fun vs H Q E => ∃ (a m h r q aw : Addr) (ps : Pgs) (n : Int) (rs : Rs) (bs : List Bool) (b : Int) (x y z : V), vs = [.ref a, x, y, z] ∧ Way C SC H a m h r q aw ps n rs bs b ∧ Th H x ∧ Th H y ∧ Th H z ∧
  (∀ (i j : Nat) (v : Int) (p : Addr) (ws : List Int), x = .int i → y = .int j → z = .int v → ps[i]? = some (some (p, ws)) → j < 8 → 0 ≤ v → v < 281474976710656 → Q .non (upd H p (.lst ((ws.map V.int).set j (.int v))))) ∧
  (hasP ps x = false → E (.ref NP) none H) ∧ (hasP ps x = true → below y 8 = false → E (.ref NL) none H) ∧ (hasP ps x = true → below y 8 = true → below z 281474976710656 = false → E (.ref NW) none H)
structure Flt (K : PySem.W.Frag) (mg : Str → Option Value) (FA fI : Addr) : Prop where
  x : XCls K FA
  nk : NoAttr K FA "kind"
  np : NoAttr K FA "place"
  nl : NoAttr K FA "level"
  ex : excInI K FA fI = true
  fn : PySem.W.isFn K (.ref fI) = true
  m : mg "Fault" = some (.ref FA)
def ffF : List V → List (Str × V)
  | [x, y, z] => putF "level" z (putF "place" y [("kind", x)])
  | _ => []
theorem ffF_kind (x y z : V) : (ffF [x, y, z]).lookup ("kind" : Str) = some x := by
  unfold ffF
  rw [lookup_putF, if_neg (by decide +kernel), lookup_putF, if_neg (by decide +kernel)]
  rfl
theorem ffF_place (x y z : V) : (ffF [x, y, z]).lookup ("place" : Str) = some y := by
  unfold ffF
  rw [lookup_putF, if_neg (by decide +kernel), lookup_putF, if_pos rfl]
theorem ffF_level (x y z : V) : (ffF [x, y, z]).lookup ("level" : Str) = some z := by
  unfold ffF
  rw [lookup_putF, if_pos rfl]
def ExF (FA : Addr) (E : XK) (H : Hp) (k : Str) (pl lv : Int) : Prop := ∀ d, H d = none → E (.ref FA) (some d) (upd H d (xdo d (ffF [.str k, .int pl, .int lv])))
section
variable {P : Program} {w : World} {K : PySem.W.Frag} {mg : Str → Option Value} {base : Heap} {C NP NL NW NI SC PL WC FA : Addr}
theorem sc_fi : FnScope ["self", "kind", "place", "level"] ["self", "kind", "place", "level"] (defScope sFI) := ⟨rfl, rfl, rfl, by decide +kernel, rfl, by decide +kernel, by decide +kernel⟩
theorem ok_finit {f fI : Addr} {fd : FuncData} (F : Fun K "__init__" "Fault.__init__" sFI f fd) (FL : Flt K mg FA fI) : FnOk P w K mg base CX0 1 f fd ["self", "kind", "place", "level"] (spXI FA 3 ffF) := by
  refine F.ok sc_fi (fun vs H Q E h' => ?_) (fun cdv A outer s H vs Q E hr h' => ?_)
  · obtain ⟨e, t, xs, rfl, hl, _⟩ := h'
    simp [hl]
  · obtain ⟨e, t, xs, rfl, hl, he, q⟩ := h'
    match xs, hl, q with
    | [x, y, z], _, q =>
    refine ⟨_, pss_cons (ps_xf0 (pv 0) (pv 1) rfl) (pss_cons (ps_xf (pv 0) (pv 2) rfl) (pss_one (ps_xf (pv 0) (pv 3) rfl))), ?_⟩
    refine ⟨_, rfl, _, rfl, e, FA, t, rfl, he, FL.x, FL.nk, fun d H' d1 d2 d3 d4 d5 => ?_⟩
    have l1 := length_putF "place" y [(("kind" : Str), x)]
    refine ⟨_, rfl, _, rfl, e, FA, t, d, _, rfl, d3, d4, FL.x, FL.np, (by show 1 < 1000; decide), ?_⟩
    refine ⟨_, rfl, _, rfl, e, FA, t, d, _, rfl, by rw [upd_ne d2.symm]; exact d3, upd_same, FL.x, FL.nl, (by rw [List.length_cons, List.length_nil] at l1; omega), ?_⟩
    refine q d _ d1 d2 (by rw [upd_ne d2.symm, upd_ne d2.symm]; exact d3) (by rw [upd_same]; rfl) fun b b1 b2 => ?_
    rw [upd_ne b2, upd_ne b2]
    exact d5 b b1 b2
theorem ok_phas {f f1 f2 : Addr} {fd fd1 fd2 : FuncData} (F : Fun K "has" "Memory.has" sHas f fd) (B : Dn K mg "is_below" sBelow ["thing", "bound"] f1 fd1) (G : FnOk P w K mg base CX0 2 f1 fd1 ["thing", "bound"] spBelow)
    (Z : Me K C "size" "Memory.size" sSize ["self"] f2 fd2) (GZ : FnOk P w K mg base CX0 1 f2 fd2 ["self"] (spSize C)) (S : Sto K mg C NP NL NW NI) : FnOk P w K mg base CX0 4 f fd ["self", "page"] (spPHas C SC) := by
  exact ((ok_has F B G Z GZ S).mono (by decide : 3 ≤ 4)).imp (by rintro vs H Q E ⟨a, m, h, r, q, aw, ps, n, rs, bs, b, x, rfl, W, th, q0⟩; exact ⟨a, h, ps, x, rfl, W.M, th, q0⟩)
theorem ok_wread {f f1 f2 : Addr} {fd fd1 fd2 : FuncData} (F : Fun K "read" "Store.read" sRead f fd) (Z : Me K C "check_spot" "Store.check_spot" sSpot ["self", "page", "cell"] f1 fd1) (GZ : FnOk P w K mg base (CXr P w) 5 f1 fd1 ["self", "page", "cell"] (spSpot C NP NL))
    (Y : Me K C "word_at" "Memory.word_at" sWordAt ["self", "page", "cell"] f2 fd2) (GY : FnOk P w K mg base CX0 1 f2 fd2 ["self", "page", "cell"] (spWordAt C)) (S : Sto K mg C NP NL NW NI) : FnOk P w K mg base (CXr P w) 7 f fd ["self", "page", "cell"] (spWRead C SC NP NL) := by
  exact ((ok_read F Z GZ Y GY S).mono (by decide : 6 ≤ 7)).imp (by rintro vs H Q E ⟨a, m, h, r, q, aw, ps, n, rs, bs, b, x, y, rfl, W, tx, ty, q0, e1, e2⟩; exact ⟨a, h, ps, x, y, rfl, W.M, tx, ty, q0, e1, e2⟩)
theorem ok_wwrite {f f1 f2 f3 : Addr} {fd fd1 fd2 fd3 : FuncData} (F : Fun K "write" "Store.write" sWrite f fd) (Z : Me K C "check_spot" "Store.check_spot" sSpot ["self", "page", "cell"] f1 fd1) (GZ : FnOk P w K mg base (CXr P w) 5 f1 fd1 ["self", "page", "cell"] (spSpot C NP NL))
    (B : Dn K mg "check_word" sCWord ["word"] f3 fd3) (G : FnOk P w K mg base (CXr P w) 4 f3 fd3 ["word"] (spCWord NW))
    (Y : Me K C "put_word" "Memory.put_word" sPutWord ["self", "page", "cell", "word"] f2 fd2) (GY : FnOk P w K mg base CX0 1 f2 fd2 ["self", "page", "cell", "word"] (spPutWord C)) (S : Sto K mg C NP NL NW NI) : FnOk P w K mg base (CXr P w) 7 f fd ["self", "page", "cell", "word"] (spWWrite C SC NP NL NW) := by
  exact ((ok_write F Z GZ B G Y GY S).mono (by decide : 6 ≤ 7)).imp (by rintro vs H Q E ⟨a, m, h, r, q, aw, ps, n, rs, bs, b, x, y, z, rfl, W, tx, ty, tz, q0, e1, e2, e3⟩; exact ⟨a, h, ps, x, y, z, rfl, W.M, tx, ty, tz, q0, e1, e2, e3⟩)
end
end K17
end
section
namespace K17
open PySem L2
abbrev sPgOf : Stmt := top 27
abbrev sRHas : Stmt := top 28
abbrev sRPut : Stmt := top 29
abbrev sRig : Stmt := top 33
abbrev sNum : Stmt := top 20
abbrev sParts : Stmt := top 19
abbrev sCRow : Stmt := top 32
abbrev sLook : Stmt := top 31
theorem or_eq (r m : Nat) : Builtin.bitOr (r : Int) (m : Int) = ((r ||| m : Nat) : Int) := by
  unfold Builtin.bitOr
  rw [PyProof.Rows.bitAnd_nn (by unfold Builtin.bitNot; omega) (by unfold Builtin.bitNot; omega)]
  unfold Builtin.bitNot
  have e1 : (-(-(r : Int) - 1) - 1).toNat = r := by omega
  have e2 : (-(-(m : Int) - 1) - 1).toNat = m := by omega
  first
    | (rw [e1, e2]; omega)
    | (simp only [e1, e2]; omega)
theorem and_eq (r m : Nat) : Builtin.bitAnd (r : Int) (m : Int) = ((r &&& m : Nat) : Int) := by
  rw [PyProof.Rows.bitAnd_pp (by omega) (by omega), Int.toNat_natCast, Int.toNat_natCast]
structure Rws0 (K : PySem.W.Frag) (mg : Str → Option Value) : Prop where
  mm : ∃ t, mg "MARKS" = some (.int 256 t)
  pa : ∃ t, mg "PARTS" = some (.int 8 t)
  pl : ∃ t, mg "PLACES" = some (.int 512 t)
  pr : ∃ t, mg "PRESENT" = some (.int 1 t)
  wr : ∃ t, mg "WRITABLE" = some (.int 2 t)
  ke : ∃ t, mg "KERNEL" = some (.int 4 t)
  to : ∃ t, mg "TOUCHED" = some (.int 8 t)
  so : ∃ t, mg "SOILED" = some (.int 16 t)
def hasN (w m : Nat) : Bool := decide (w &&& m = m)
def rigN (t l : Nat) : Nat := (t &&& l &&& 2) ||| ((t ||| l) &&& 4) ||| (l &&& 16)
def wordN (ps : Pgs) (i j : Nat) : Nat := ((((ps[i]?).getD none).map fun (q : Addr × List Int) => q.2).getD []).getD j 0 |>.toNat
def lackN (ps : Pgs) (w : Nat) (wr k : Bool) : Option Str :=
  if hasN w 1 = false then some "absent" else if hasP ps (.int ((w / 256 : Nat) : Int)) = false then some "beyond" else if (hasN w 4 && !k) = true then some "kernel" else if (wr && !hasN w 2) = true then some "fixed" else none
theorem wordN_of {ps : Pgs} {i j : Nat} {p : Addr} {ws : List Int} (e : ps[i]? = some (some (p, ws))) (h0 : 0 ≤ ws.getD j 0) : ws.getD j 0 = ((wordN ps i j : Nat) : Int) := by
  unfold wordN
  rw [e]
  show ws.getD j 0 = (((ws.getD j 0).toNat : Nat) : Int)
  omega
def spPgOf : Sp := fun vs H Q _ => ∃ w : Nat, vs = [.int w] ∧ Q (.int ((w / 256 : Nat) : Int)) H
def spRHas : Sp := fun vs H Q _ => ∃ w m : Nat, vs = [.int w, .int m] ∧ Q (.bl (hasN w m)) H
def spRPut : Sp := fun vs H Q _ => ∃ w m : Nat, vs = [.int w, .int m] ∧ Q (.int ((w ||| m : Nat) : Int)) H
def spRig : Sp := fun vs H Q _ => ∃ t l : Nat, vs = [.int t, .int l] ∧ Q (.int ((rigN t l : Nat) : Int)) H
def spNum : Sp := fun vs H Q _ => ∃ p : Nat, vs = [.int p] ∧ p < 512 ∧ Q (.int ((p / 8 : Nat) : Int)) H
def spParts : Sp := fun vs H Q _ => ∃ p : Nat, vs = [.int p] ∧ p < 512 ∧ ∀ t, H t = none → Q (.ref t) (upd H t (.tup [.int ((p / 8 / 8 : Nat) : Int), .int ((p / 8 % 8 : Nat) : Int), .int ((p % 8 : Nat) : Int)]))
def spCRow (C SC FA : Addr) : Sp := fun vs H Q E => ∃ (a m h r q aw : Addr) (ps : Pgs) (n : Int) (rs : Rs) (bs : List Bool) (b : Int) (w : Nat) (wr k : Bool) (pl lv : Int), vs = [.ref a, .int w, .bl wr, .bl k, .int pl, .int lv] ∧ Way C SC H a m h r q aw ps n rs bs b ∧ (lackN ps w wr k = none → Q .non H) ∧ ∀ z, lackN ps w wr k = some z → ExF FA E H z pl lv
section
variable {P : Program} {w : World} {K : PySem.W.Frag} {mg : Str → Option Value} {base : Heap} {C NP NL NW NI SC WC FA : Addr}
theorem sc_pgof : FnScope ["row"] ["row"] (defScope sPgOf) := ⟨rfl, rfl, rfl, by decide +kernel, rfl, by decide +kernel, by decide +kernel⟩
theorem ok_pgof {f : Addr} {fd : FuncData} (F : Fun K "page_of" "page_of" sPgOf f fd) (R : Rws0 K mg) : FnOk P w K mg base CX0 1 f fd ["row"] spPgOf := by
  obtain ⟨t_mm, c_mm⟩ := R.mm
  refine F.ok sc_pgof (fun vs H Q E h' => ?_) (fun cdv A outer s H vs Q E hr h' => ?_)
  · obtain ⟨w, rfl, _⟩ := h'
    rfl
  · obtain ⟨w, rfl, q⟩ := h'
    refine ⟨_, (pss_one (ps_ret (pe_op op_fdiv (pv 0) (pe_glob (by rfl) c_mm (show RelV (.int 256) (.int 256 t_mm) from ⟨_, rfl⟩))))), ?_⟩
    exact ⟨_, rfl, (w : Int), 256, rfl, rfl, ⟨by decide, by decide⟩, q⟩
theorem sc_rhas : FnScope ["row", "marks"] ["row", "marks"] (defScope sRHas) := ⟨rfl, rfl, rfl, by decide +kernel, rfl, by decide +kernel, by decide +kernel⟩
theorem ok_rhas {f : Addr} {fd : FuncData} (F : Fun K "has" "has" sRHas f fd) (R : Rws0 K mg) : FnOk P w K mg base CX0 1 f fd ["row", "marks"] spRHas := by
  refine F.ok sc_rhas (fun vs H Q E h' => ?_) (fun cdv A outer s H vs Q E hr h' => ?_)
  · obtain ⟨w, m, rfl, _⟩ := h'
    rfl
  · obtain ⟨w, m, rfl, q⟩ := h'
    refine ⟨_, (pss_one (ps_ret (pe_cmpR op_eq (pe_op op_and (pv 0) (pv 1)) (pv 1) (nomark _)))), ?_⟩
    refine ⟨_, rfl, _, rfl, (w : Int), (m : Int), rfl, rfl, _, rfl, rfl, ?_⟩
    have e : ∀ i : Decidable (V.int (Builtin.bitAnd (w : Int) (m : Int)) = V.int (m : Int)), @decide _ i = hasN w m := fun i => by
      unfold hasN
      rcases i with h | h
      · exact (decide_eq_false fun z => h (by rw [and_eq, z])).symm
      · refine (decide_eq_true ?_).symm
        have z := V.int.inj h
        rw [and_eq] at z
        omega
    dsimp only
    rw [e]
    exact q
theorem sc_rput : FnScope ["row", "marks"] ["row", "marks"] (defScope sRPut) := ⟨rfl, rfl, rfl, by decide +kernel, rfl, by decide +kernel, by decide +kernel⟩
theorem ok_rput {f : Addr} {fd : FuncData} (F : Fun K "put" "put" sRPut f fd) (R : Rws0 K mg) : FnOk P w K mg base CX0 1 f fd ["row", "marks"] spRPut := by
  refine F.ok sc_rput (fun vs H Q E h' => ?_) (fun cdv A outer s H vs Q E hr h' => ?_)
  · obtain ⟨w, m, rfl, _⟩ := h'
    rfl
  · obtain ⟨w, m, rfl, q⟩ := h'
    refine ⟨_, (pss_one (ps_ret (pe_op op_or (pv 0) (pv 1)))), ?_⟩
    refine ⟨_, rfl, _, rfl, (w : Int), (m : Int), rfl, rfl, ?_⟩
    dsimp only
    rw [or_eq]
    exact q
theorem sc_rig : FnScope ["top_row", "low_row"] ["top_row", "low_row"] (defScope sRig) := ⟨rfl, rfl, rfl, by decide +kernel, rfl, by decide +kernel, by decide +kernel⟩
theorem ok_rig {f : Addr} {fd : FuncData} (F : Fun K "rights_of" "rights_of" sRig f fd) (R : Rws0 K mg) : FnOk P w K mg base CX0 1 f fd ["top_row", "low_row"] spRig := by
  obtain ⟨t_wr, c_wr⟩ := R.wr
  obtain ⟨t_ke, c_ke⟩ := R.ke
  obtain ⟨t_so, c_so⟩ := R.so
  refine F.ok sc_rig (fun vs H Q E h' => ?_) (fun cdv A outer s H vs Q E hr h' => ?_)
  · obtain ⟨t, l, rfl, _⟩ := h'
    rfl
  · obtain ⟨t, l, rfl, q⟩ := h'
    refine ⟨_, (pss_one (ps_ret (pe_op op_or (pe_op op_or (pe_op op_and (pe_op op_and (pv 0) (pv 1)) (pe_glob (by rfl) c_wr (show RelV (.int 2) (.int 2 t_wr) from ⟨_, rfl⟩))) (pe_op op_and (pe_op op_or (pv 0) (pv 1)) (pe_glob (by rfl) c_ke (show RelV (.int 4) (.int 4 t_ke) from ⟨_, rfl⟩)))) (pe_op op_and (pv 1) (pe_glob (by rfl) c_so (show RelV (.int 16) (.int 16 t_so) from ⟨_, rfl⟩)))))), ?_⟩
    refine ⟨_, rfl, _, rfl, (t : Int), (l : Int), rfl, rfl, _, 2, rfl, rfl, _, rfl, _, rfl, (t : Int), (l : Int), rfl, rfl, _, 4, rfl, rfl, _, _, rfl, rfl, _, rfl, (l : Int), 16, rfl, rfl, _, _, rfl, rfl, ?_⟩
    dsimp only
    rw [and_eq, or_eq, show (2 : Int) = ((2 : Nat) : Int) from rfl, show (4 : Int) = ((4 : Nat) : Int) from rfl, show (16 : Int) = ((16 : Nat) : Int) from rfl, and_eq, and_eq, and_eq, or_eq, or_eq]
    exact q
theorem sc_num : FnScope ["place"] ["place"] (defScope sNum) := ⟨rfl, rfl, rfl, by decide +kernel, rfl, by decide +kernel, by decide +kernel⟩
theorem ok_num {f f1 : Addr} {fd fd1 : FuncData} (F : Fun K "number_of" "number_of" sNum f fd) (B : Dn K mg "is_below" sBelow ["thing", "bound"] f1 fd1) (GB : FnOk P w K mg base CX0 2 f1 fd1 ["thing", "bound"] spBelow) (R : Rws0 K mg) : FnOk P w K mg base CX0 3 f fd ["place"] spNum := by
  obtain ⟨t_pl, c_pl⟩ := R.pl
  obtain ⟨t_pa, c_pa⟩ := R.pa
  refine F.ok sc_num (fun vs H Q E h' => ?_) (fun cdv A outer s H vs Q E hr h' => ?_)
  · obtain ⟨p, rfl, _⟩ := h'
    rfl
  · obtain ⟨p, rfl, hp, q⟩ := h'
    refine ⟨_, (pss_cons (ps_if (pt_not (pt_val (pe_call GB hr (by rfl) B.m B.F.kp B.b .nil pass0 (pa_cons (pv 0) (pa_cons (pe_glob (by rfl) c_pl (show RelV (.int 512) (.int 512 t_pl) from ⟨_, rfl⟩)) pa_nil))))) (pss_one ps_never) pss_nil) (pss_one (ps_ret (pe_op op_fdiv (pv 0) (pe_glob (by rfl) c_pa (show RelV (.int 8) (.int 8 t_pa) from ⟨_, rfl⟩)))))), ?_⟩
    refine ⟨_, rfl, _, _, rfl, .int _, _, rfl, ?_⟩
    rw [below_of (by omega) (by omega)]
    exact iteF ⟨_, rfl, (p : Int), 8, rfl, rfl, ⟨by decide, by decide⟩, q⟩
theorem sc_parts : FnScope ["place", "number"] ["place"] (defScope sParts) := ⟨rfl, rfl, rfl, by decide +kernel, rfl, by decide +kernel, by decide +kernel⟩
theorem ok_parts {f f1 : Addr} {fd fd1 : FuncData} (F : Fun K "parts_of" "parts_of" sParts f fd) (B : Dn K mg "number_of" sNum ["place"] f1 fd1) (GB : FnOk P w K mg base CX0 3 f1 fd1 ["place"] spNum) (R : Rws0 K mg) : FnOk P w K mg base CX0 4 f fd ["place"] spParts := by
  obtain ⟨t_pa, c_pa⟩ := R.pa
  refine F.ok sc_parts (fun vs H Q E h' => ?_) (fun cdv A outer s H vs Q E hr h' => ?_)
  · obtain ⟨p, rfl, _⟩ := h'
    rfl
  · obtain ⟨p, rfl, hp, q⟩ := h'
    refine ⟨_, (pss_cons (ps_set (i := 1) sc_parts.nd rfl (Or.inl rfl) (pe_call GB hr (by rfl) B.m B.F.kp B.b .nil pass0 (pa_cons (pv 0) pa_nil))) (pss_one (ps_ret (pe_tup (pa_cons (pe_op op_fdiv (pv 1) (pe_glob (by rfl) c_pa (show RelV (.int 8) (.int 8 t_pa) from ⟨_, rfl⟩))) (pa_cons (pe_op op_mod (pv 1) (pe_glob (by rfl) c_pa (show RelV (.int 8) (.int 8 t_pa) from ⟨_, rfl⟩))) (pa_cons (pe_op op_mod (pv 0) (pe_glob (by rfl) c_pa (show RelV (.int 8) (.int 8 t_pa) from ⟨_, rfl⟩))) pa_nil))))))), ?_⟩
    refine ⟨_, rfl, p, rfl, hp, ?_⟩
    refine ⟨_, rfl, ((p / 8 : Nat) : Int), 8, rfl, rfl, ⟨by decide, by decide⟩, _, rfl, ((p / 8 : Nat) : Int), 8, rfl, rfl, (by show (0 : Int) < 8; decide), _, rfl, (p : Int), 8, rfl, rfl, (by show (0 : Int) < 8; decide), by show 3 ≤ sizeLine; decide, fun t ht => ?_⟩
    exact q t ht
end
end K17
end
section
namespace K17
open PySem L2
theorem pa_consK {X : Cx} {e : Expr} {es : List Expr} {te : TE} {t : TA} (h1 : PE X e te) (h2 : PA X es t) (hs : ∀ (l : List Expr) (env : Env), starEach (e :: l) env = (false, eval e env) :: starEach l env := by intro _ _; rfl) : PA X (e :: es) (tCons te t) := pa_cons h1 h2 (hs es X.env)
inductive Lk
  | fault (z : Str) (lv : Nat)
  | trail (p1 pg t l : Nat)
def lookN (ps : Pgs) (rt pl : Nat) (wr k : Bool) : Lk :=
  if 512 ≤ pl then .fault "far" 0 else if hasP ps (.int (rt : Int)) = false then .fault "beyond" 0 else
  match lackN ps (wordN ps rt (pl / 8 / 8)) wr k with
  | some z => .fault z 1
  | none => match lackN ps (wordN ps (wordN ps rt (pl / 8 / 8) / 256) (pl / 8 % 8)) wr k with
    | some z => .fault z 2
    | none => .trail (wordN ps rt (pl / 8 / 8) / 256) (wordN ps (wordN ps rt (pl / 8 / 8) / 256) (pl / 8 % 8) / 256) (wordN ps rt (pl / 8 / 8)) (wordN ps (wordN ps rt (pl / 8 / 8) / 256) (pl / 8 % 8))
def spLook (C SC FA : Addr) : Sp := fun vs H Q E => ∃ (a m h r q aw : Addr) (ps : Pgs) (n : Int) (rs : Rs) (bs : List Bool) (b : Int) (rt pl : Nat) (wr k : Bool), vs = [.ref a, .int rt, .int pl, .bl wr, .bl k] ∧ Way C SC H a m h r q aw ps n rs bs b ∧
  (∀ z lv, lookN ps rt pl wr k = .fault z lv → ∀ H', Same H H' → ExF FA E H' z pl lv) ∧
  ∀ p1 pg t l, lookN ps rt pl wr k = .trail p1 pg t l → ∀ (tt t1 t2 : Addr) (H' : Hp), Same H H' → H' tt = some (.tup [.ref t1, .ref t2, .int (pg : Int), .int ((rigN t l : Nat) : Int)]) → H' t1 = some (.tup [.int (rt : Int), .int ((pl / 8 / 8 : Nat) : Int)]) → H' t2 = some (.tup [.int (p1 : Int), .int ((pl / 8 % 8 : Nat) : Int)]) → Q (.ref tt) H'
theorem lack_has {ps : Pgs} {w : Nat} {wr k : Bool} (h : lackN ps w wr k = none) : hasP ps (.int ((w / 256 : Nat) : Int)) = true := by
  unfold lackN at h
  split at h
  · cases h
  · split at h
    · cases h
    · rename_i z
      cases hb : hasP ps (.int ((w / 256 : Nat) : Int)) with
      | true => rfl
      | false => exact absurd hb z
section
variable {P : Program} {w : World} {K : PySem.W.Frag} {mg : Str → Option Value} {base : Heap} {C NP NL NW NI SC WC FA : Addr}
theorem sc_crow : FnScope ["store", "row", "write", "kernel", "place", "level"] ["store", "row", "write", "kernel", "place", "level"] (defScope sCRow) := ⟨rfl, rfl, rfl, by decide +kernel, rfl, by decide +kernel, by decide +kernel⟩
theorem ok_crow {f f1 f2 f3 fI : Addr} {fd fd1 fd2 fd3 fdI : FuncData} (F : Fun K "check_row" "check_row" sCRow f fd) (Ba : Dn K mg "has" sRHas ["row", "marks"] f1 fd1) (GBa : FnOk P w K mg base CX0 1 f1 fd1 ["row", "marks"] spRHas) (Bp : Dn K mg "page_of" sPgOf ["row"] f2 fd2) (GBp : FnOk P w K mg base CX0 1 f2 fd2 ["row"] spPgOf) (M1 : Me K C "has" "Memory.has" sHas ["self", "page"] f3 fd3) (GM1 : FnOk P w K mg base CX0 4 f3 fd3 ["self", "page"] (spPHas C SC)) (FL : Flt K mg FA fI) (GF : FnOk P w K mg base CX0 1 fI fdI ["self", "kind", "place", "level"] (spXI FA 3 ffF)) (BF : Binds K fdI ["self", "kind", "place", "level"] []) (PC : Plc K C) (R : Rws0 K mg) : FnOk P w K mg base (CXr P w) 5 f fd ["store", "row", "write", "kernel", "place", "level"] (spCRow C SC FA) := by
  obtain ⟨t_pr, c_pr⟩ := R.pr
  obtain ⟨t_ke, c_ke⟩ := R.ke
  obtain ⟨t_wr, c_wr⟩ := R.wr
  refine F.okR sc_crow (fun vs H Q E h' => ?_) (fun cdv A outer s H vs Q E hr h' => ?_)
  · obtain ⟨a, m, h, r, q, aw, ps, n, rs, bs, b, w0, wr, k, pl, lv, rfl, _⟩ := h'
    rfl
  · obtain ⟨a, m, h, r, q, aw, ps, n, rs, bs, b, w0, wr, k, pl, lv, rfl, W, q0, e⟩ := h'
    have hr2 : Room 2 _ := hr.mono (by decide)
    have hr1 : Room 1 _ := hr.mono (by decide)
    refine ⟨_, (pss_cons (ps_if (pt_not (pt_val (pe_call GBa hr1 (by rfl) Ba.m Ba.F.kp Ba.b .nil pass0 (pa_cons (pv 1) (pa_cons (pe_glob (by rfl) c_pr (show RelV (.int 1) (.int 1 t_pr) from ⟨_, rfl⟩)) pa_nil))))) (pss_one (ps_raiseI FL.ex FL.fn FL.m raisesGR rfl GF hr2 BF (by decide) (pa_cons pe_str (pa_cons (pv 4) (pa_cons (pv 5) pa_nil))))) pss_nil) (pss_cons (ps_if (pt_not (pt_val (pe_meth (pv 0) PC.cl M1.m GM1 hr M1.b .nil pass0 (pa_cons (pe_call GBp hr1 (by rfl) Bp.m Bp.F.kp Bp.b .nil pass0 (pa_cons (pv 1) pa_nil)) pa_nil)))) (pss_one (ps_raiseI FL.ex FL.fn FL.m raisesGR rfl GF hr2 BF (by decide) (pa_cons pe_str (pa_cons (pv 4) (pa_cons (pv 5) pa_nil))))) pss_nil) (pss_cons (ps_if (PW.pt (pw_and (pt_val (pe_call GBa hr1 (by rfl) Ba.m Ba.F.kp Ba.b .nil pass0 (pa_cons (pv 1) (pa_cons (pe_glob (by rfl) c_ke (show RelV (.int 4) (.int 4 t_ke) from ⟨_, rfl⟩)) pa_nil)))) (pw_and1 (pt_not (pt_val (pv 3)))))) (pss_one (ps_raiseI FL.ex FL.fn FL.m raisesGR rfl GF hr2 BF (by decide) (pa_cons pe_str (pa_cons (pv 4) (pa_cons (pv 5) pa_nil))))) pss_nil) (pss_one (ps_if (PW.pt (pw_and (pt_val (pv 2)) (pw_and1 (pt_not (pt_val (pe_call GBa hr1 (by rfl) Ba.m Ba.F.kp Ba.b .nil pass0 (pa_cons (pv 1) (pa_cons (pe_glob (by rfl) c_wr (show RelV (.int 2) (.int 2 t_wr) from ⟨_, rfl⟩)) pa_nil)))))))) (pss_one (ps_raiseI FL.ex FL.fn FL.m raisesGR rfl GF hr2 BF (by decide) (pa_cons pe_str (pa_cons (pv 4) (pa_cons (pv 5) pa_nil))))) pss_nil))))), ?_⟩
    obtain ⟨dx, fs, ha, wf⟩ := W.ob
    have L : lackN ps w0 wr k = (if hasN w0 1 = false then some ("absent" : Str) else if hasP ps (.int ((w0 / 256 : Nat) : Int)) = false then some ("beyond" : Str) else if (hasN w0 4 && !k) = true then some ("kernel" : Str) else if (wr && !hasN w0 2) = true then some ("fixed" : Str) else none) := rfl
    refine ⟨_, rfl, w0, 1, rfl, _, rfl, ?_⟩
    cases h1 : hasN w0 1 with
    | false => exact iteT ⟨_, rfl, _, rfl, rfl, fun d hd => e "absent" (by rw [L, h1]; rfl) d hd⟩
    | true =>
      refine iteF ⟨_, rfl, a, dx, fs, rfl, ha, wf.no _ (by decide +kernel) (by decide +kernel) (by decide +kernel) (by decide +kernel), _, rfl, w0, rfl, a, m, h, r, q, aw, ps, n, rs, bs, b, _, rfl, W, .int _, _, rfl, ?_⟩
      cases h2 : hasP ps (.int ((w0 / 256 : Nat) : Int)) with
      | false => exact iteT ⟨_, rfl, _, rfl, rfl, fun d hd => e "beyond" (by rw [L, h1, h2]; rfl) d hd⟩
      | true =>
        refine iteF ⟨_, rfl, w0, 4, rfl, _, rfl, ?_⟩
        cases h4 : hasN w0 4 with
        | true =>
          refine iteT ⟨_, rfl, _, rfl, ?_⟩
          cases k with
          | false => exact iteT ⟨_, rfl, _, rfl, rfl, fun d hd => e "kernel" (by rw [L, h1, h2, h4]; rfl) d hd⟩
          | true =>
            refine iteF ⟨_, rfl, _, rfl, ?_⟩
            cases wr with
            | false => exact iteF (q0 (by rw [L, h1, h2, h4]; rfl))
            | true =>
              refine iteT ⟨_, rfl, w0, 2, rfl, _, rfl, ?_⟩
              cases h5 : hasN w0 2 with
              | false => exact iteT ⟨_, rfl, _, rfl, rfl, fun d hd => e "fixed" (by rw [L, h1, h2, h4, h5]; rfl) d hd⟩
              | true => exact iteF (q0 (by rw [L, h1, h2, h4, h5]; rfl))
        | false =>
          refine iteF ⟨_, rfl, _, rfl, ?_⟩
          cases wr with
          | false => exact iteF (q0 (by rw [L, h1, h2, h4]; rfl))
          | true =>
            refine iteT ⟨_, rfl, w0, 2, rfl, _, rfl, ?_⟩
            cases h5 : hasN w0 2 with
            | false => exact iteT ⟨_, rfl, _, rfl, rfl, fun d hd => e "fixed" (by rw [L, h1, h2, h4, h5]; rfl) d hd⟩
            | true => exact iteF (q0 (by rw [L, h1, h2, h4, h5]; rfl))
theorem sc_look : FnScope ["store", "root", "place", "write", "kernel", "parts", "top", "top_row", "low", "low_row"] ["store", "root", "place", "write", "kernel"] (defScope sLook) := ⟨rfl, rfl, rfl, by decide +kernel, rfl, by decide +kernel, by decide +kernel⟩
theorem ok_look {f f1 f2 f3 f4 f5 f6 fI : Addr} {fd fd1 fd2 fd3 fd4 fd5 fd6 fdI : FuncData} (F : Fun K "look" "look" sLook f fd) (Bq : Dn K mg "parts_of" sParts ["place"] f1 fd1) (GBq : FnOk P w K mg base CX0 4 f1 fd1 ["place"] spParts) (Bp : Dn K mg "page_of" sPgOf ["row"] f2 fd2) (GBp : FnOk P w K mg base CX0 1 f2 fd2 ["row"] spPgOf) (Br : Dn K mg "rights_of" sRig ["top_row", "low_row"] f3 fd3) (GBr : FnOk P w K mg base CX0 1 f3 fd3 ["top_row", "low_row"] spRig) (M1 : Me K C "has" "Memory.has" sHas ["self", "page"] f4 fd4) (GM1 : FnOk P w K mg base CX0 4 f4 fd4 ["self", "page"] (spPHas C SC)) (M2 : Me K C "read" "Store.read" sRead ["self", "page", "cell"] f5 fd5) (GM2 : FnOk P w K mg base (CXr P w) 7 f5 fd5 ["self", "page", "cell"] (spWRead C SC NP NL)) (Bc : Dn K mg "check_row" sCRow ["store", "row", "write", "kernel", "place", "level"] f6 fd6) (GBc : FnOk P w K mg base (CXr P w) 5 f6 fd6 ["store", "row", "write", "kernel", "place", "level"] (spCRow C SC FA)) (FL : Flt K mg FA fI) (GF : FnOk P w K mg base CX0 1 fI fdI ["self", "kind", "place", "level"] (spXI FA 3 ffF)) (BF : Binds K fdI ["self", "kind", "place", "level"] []) (PC : Plc K C) (R : Rws0 K mg) : FnOk P w K mg base (CXr P w) 8 f fd ["store", "root", "place", "write", "kernel"] (spLook C SC FA) := by
  obtain ⟨t_pl, c_pl⟩ := R.pl
  refine F.okR sc_look (fun vs H Q E h' => ?_) (fun cdv A outer s H vs Q E hr h' => ?_)
  · obtain ⟨a, m, h, r, q, aw, ps, n, rs, bs, b, rt, pl, wr, k, rfl, _⟩ := h'
    rfl
  · obtain ⟨a, m, h, r, q, aw, ps, n, rs, bs, b, rt, pl, wr, k, rfl, W, e, q0⟩ := h'
    have hr5 : Room 5 _ := hr.mono (by decide)
    have hr4 : Room 4 _ := hr.mono (by decide)
    have hr2 : Room 2 _ := hr.mono (by decide)
    have hr1 : Room 1 _ := hr.mono (by decide)
    refine ⟨_, (pss_cons (ps_if (pt_cmpR op_ge (pv 2) (pe_glob (by rfl) c_pl (show RelV (.int 512) (.int 512 t_pl) from ⟨_, rfl⟩)) (nomark _)) (pss_one (ps_raiseI FL.ex FL.fn FL.m raisesGR rfl GF hr2 BF (by decide) (pa_cons pe_str (pa_cons (pv 2) (pa_cons pe_int pa_nil))))) pss_nil) (pss_cons (ps_if (pt_not (pt_val (pe_meth (pv 0) PC.cl M1.m GM1 hr4 M1.b .nil pass0 (pa_cons (pv 1) pa_nil)))) (pss_one (ps_raiseI FL.ex FL.fn FL.m raisesGR rfl GF hr2 BF (by decide) (pa_cons pe_str (pa_cons (pv 2) (pa_cons pe_int pa_nil))))) pss_nil) (pss_cons (ps_set (i := 5) sc_look.nd rfl (Or.inl rfl) (pe_call GBq hr4 (by rfl) Bq.m Bq.F.kp Bq.b .nil pass0 (pa_cons (pv 2) pa_nil))) (pss_cons (ps_set (i := 6) sc_look.nd rfl (Or.inl rfl) (pe_tup (pa_cons (pv 1) (pa_cons (pe_ix ix_tup (pv 5) pe_int (fun _ _ => rfl)) pa_nil)))) (pss_cons (ps_set (i := 7) sc_look.nd rfl (Or.inl rfl) (pe_meth (pv 0) PC.cl M2.m GM2 hr M2.b .nil passR (pa_cons (pe_ix ix_tup (pv 6) pe_int (fun _ _ => rfl)) (pa_cons (pe_ix ix_tup (pv 6) pe_int (fun _ _ => rfl)) pa_nil)))) (pss_cons (ps_expr (pe_call GBc hr5 (by rfl) Bc.m Bc.F.kp Bc.b .nil passR (pa_cons (pv 0) (pa_cons (pv 7) (pa_cons (pv 3) (pa_cons (pv 4) (pa_cons (pv 2) (pa_cons pe_int pa_nil)))))))) (pss_cons (ps_set (i := 8) sc_look.nd rfl (Or.inl rfl) (pe_tup (pa_cons (pe_call GBp hr1 (by rfl) Bp.m Bp.F.kp Bp.b .nil pass0 (pa_cons (pv 7) pa_nil)) (pa_cons (pe_ix ix_tup (pv 5) pe_int (fun _ _ => rfl)) pa_nil)))) (pss_cons (ps_set (i := 9) sc_look.nd rfl (Or.inl rfl) (pe_meth (pv 0) PC.cl M2.m GM2 hr M2.b .nil passR (pa_cons (pe_ix ix_tup (pv 8) pe_int (fun _ _ => rfl)) (pa_cons (pe_ix ix_tup (pv 8) pe_int (fun _ _ => rfl)) pa_nil)))) (pss_cons (ps_expr (pe_call GBc hr5 (by rfl) Bc.m Bc.F.kp Bc.b .nil passR (pa_cons (pv 0) (pa_cons (pv 9) (pa_cons (pv 3) (pa_cons (pv 4) (pa_cons (pv 2) (pa_cons pe_int pa_nil)))))))) (pss_one (ps_ret (pe_tup (pa_consK (pv 6) (pa_consK (pv 8) (pa_consK (pe_call GBp hr1 (by rfl) Bp.m Bp.F.kp Bp.b .nil pass0 (pa_cons (pv 9) pa_nil)) (pa_consK (pe_call GBr hr1 (by rfl) Br.m Br.F.kp Br.b .nil pass0 (pa_cons (pv 7) (pa_cons (pv 9) pa_nil))) pa_nil)))))))))))))))), ?_⟩
    obtain ⟨dx, fs, ha, wf⟩ := W.ob
    have L : lookN ps rt pl wr k = (if 512 ≤ pl then .fault "far" 0 else if hasP ps (.int (rt : Int)) = false then .fault "beyond" 0 else match lackN ps (wordN ps rt (pl / 8 / 8)) wr k with | some z => .fault z 1 | none => match lackN ps (wordN ps (wordN ps rt (pl / 8 / 8) / 256) (pl / 8 % 8)) wr k with | some z => .fault z 2 | none => .trail (wordN ps rt (pl / 8 / 8) / 256) (wordN ps (wordN ps rt (pl / 8 / 8) / 256) (pl / 8 % 8) / 256) (wordN ps rt (pl / 8 / 8)) (wordN ps (wordN ps rt (pl / 8 / 8) / 256) (pl / 8 % 8))) := rfl
    refine ⟨_, rfl, (pl : Int), 512, rfl, rfl, _, rfl, ite2 (fun z => ?_) (fun z => ?_)⟩
    · have z' : (pl : Int) ≥ 512 := of_decide_eq_true z
      exact ⟨_, rfl, rfl, fun d hd => e "far" 0 (by rw [L, if_pos (by omega)]) H (Same.refl _) d hd⟩
    have hp : pl < 512 := by
      have : ¬ ((pl : Int) ≥ 512) := fun y => z (decide_eq_true y)
      omega
    refine ⟨_, rfl, a, dx, fs, rfl, ha, wf.no _ (by decide +kernel) (by decide +kernel) (by decide +kernel) (by decide +kernel), _, rfl, a, m, h, r, q, aw, ps, n, rs, bs, b, _, rfl, W, .int _, _, rfl, ?_⟩
    cases hr0 : hasP ps (.int (rt : Int)) with
    | false => exact iteT ⟨_, rfl, rfl, fun d hd => e "beyond" 0 (by rw [L, if_neg (by omega), if_pos hr0]) H (Same.refl _) d hd⟩
    | true =>
    refine iteF ⟨_, rfl, pl, rfl, hp, fun t0 ht0 => ?_⟩
    have L2 := L
    rw [if_neg (by omega), if_neg (by rw [hr0]; decide)] at L2
    have s0 := same_new (o := .tup [.int ((pl / 8 / 8 : Nat) : Int), .int ((pl / 8 % 8 : Nat) : Int), .int ((pl % 8 : Nat) : Int)]) ht0
    have z0 : upd H t0 (.tup [.int ((pl / 8 / 8 : Nat) : Int), .int ((pl / 8 % 8 : Nat) : Int), .int ((pl % 8 : Nat) : Int)]) t0 = some (.tup [.int ((pl / 8 / 8 : Nat) : Int), .int ((pl / 8 % 8 : Nat) : Int), .int ((pl % 8 : Nat) : Int)]) := upd_same
    generalize upd H t0 (.tup [.int ((pl / 8 / 8 : Nat) : Int), .int ((pl / 8 % 8 : Nat) : Int), .int ((pl % 8 : Nat) : Int)]) = H0 at *
    refine ⟨_, rfl, _, rfl, t0, _, _, _, rfl, rfl, SqT.of z0, rfl, by show 2 ≤ sizeLine; decide, fun t1 ht1 => ?_⟩
    have s1 := s0.trans (same_new (o := .tup [.int (rt : Int), .int ((pl / 8 / 8 : Nat) : Int)]) ht1)
    have z1 : upd H0 t1 (.tup [.int (rt : Int), .int ((pl / 8 / 8 : Nat) : Int)]) t1 = some (.tup [.int (rt : Int), .int ((pl / 8 / 8 : Nat) : Int)]) := upd_same
    have z01 : upd H0 t1 (.tup [.int (rt : Int), .int ((pl / 8 / 8 : Nat) : Int)]) t0 = some (.tup [.int ((pl / 8 / 8 : Nat) : Int), .int ((pl / 8 % 8 : Nat) : Int), .int ((pl % 8 : Nat) : Int)]) := same_new ht1 _ _ z0
    generalize upd H0 t1 (.tup [.int (rt : Int), .int ((pl / 8 / 8 : Nat) : Int)]) = H1 at *
    have W1 := W.same s1
    obtain ⟨dx, fs, ha, wf⟩ := W1.ob
    refine ⟨_, rfl, a, dx, fs, rfl, ha, wf.no _ (by decide +kernel) (by decide +kernel) (by decide +kernel) (by decide +kernel), _, rfl, t1, _, _, _, rfl, rfl, SqT.of z1, rfl, _, rfl, t1, _, _, _, rfl, rfl, SqT.of z1, rfl, a, m, h, r, q, aw, ps, n, rs, bs, b, _, _, rfl, W1, .int _, .int _, fun i j p ws e1 e2 e3 hj => ?_, fun y => absurd (hr0.symm.trans y) (by decide), fun _ y => absurd ((below_of (by omega) (by omega)).symm.trans y) (by decide)⟩
    obtain rfl : rt = i := by have := V.int.inj e1; omega
    obtain rfl : pl / 8 / 8 = j := by have := V.int.inj e2; omega
    have wp := W.M.good _ _ _ e3
    have w0n : 0 ≤ ws.getD (pl / 8 / 8) 0 := (wp.2 _ (by rw [List.getD_eq_getElem?_getD, List.getElem?_eq_getElem (by omega)]; exact List.getElem_mem _)).1
    rw [wordN_of e3 w0n]
    generalize hT : wordN ps rt (pl / 8 / 8) = T0 at *
    refine ⟨_, rfl, _, rfl, _, rfl, _, rfl, _, rfl, a, m, h, r, q, aw, ps, n, rs, bs, b, T0, wr, k, pl, 1, rfl, W1, fun hn => ?_, fun zz hz d hd => e zz 1 (by rw [L2, hz]) H1 s1 d hd⟩
    rw [hn] at L2
    refine ⟨_, rfl, T0, rfl, _, rfl, t0, _, _, _, rfl, rfl, SqT.of z01, rfl, by show 2 ≤ sizeLine; decide, fun t2 ht2 => ?_⟩
    have s2' := same_new (o := .tup [.int ((T0 / 256 : Nat) : Int), .int ((pl / 8 % 8 : Nat) : Int)]) ht2
    have s2 := s1.trans s2'
    have z2 : upd H1 t2 (.tup [.int ((T0 / 256 : Nat) : Int), .int ((pl / 8 % 8 : Nat) : Int)]) t2 = some (.tup [.int ((T0 / 256 : Nat) : Int), .int ((pl / 8 % 8 : Nat) : Int)]) := upd_same
    have z12 := s2' _ _ z1
    generalize upd H1 t2 (.tup [.int ((T0 / 256 : Nat) : Int), .int ((pl / 8 % 8 : Nat) : Int)]) = H2 at *
    have W2 := W.same s2
    obtain ⟨dx, fs, ha, wf⟩ := W2.ob
    have hh := lack_has hn
    refine ⟨_, rfl, a, dx, fs, rfl, ha, wf.no _ (by decide +kernel) (by decide +kernel) (by decide +kernel) (by decide +kernel), _, rfl, t2, _, _, _, rfl, rfl, SqT.of z2, rfl, _, rfl, t2, _, _, _, rfl, rfl, SqT.of z2, rfl, a, m, h, r, q, aw, ps, n, rs, bs, b, _, _, rfl, W2, .int _, .int _, fun i j p2 ws2 e1 e2 e4 hj2 => ?_, fun y => absurd (hh.symm.trans y) (by decide), fun _ y => absurd ((below_of (by omega) (by omega)).symm.trans y) (by decide)⟩
    obtain rfl : T0 / 256 = i := by have := V.int.inj e1; omega
    obtain rfl : pl / 8 % 8 = j := by have := V.int.inj e2; omega
    have wp2 := W.M.good _ _ _ e4
    have w2n : 0 ≤ ws2.getD (pl / 8 % 8) 0 := (wp2.2 _ (by rw [List.getD_eq_getElem?_getD, List.getElem?_eq_getElem (by omega)]; exact List.getElem_mem _)).1
    rw [wordN_of e4 w2n]
    generalize hL : wordN ps (T0 / 256) (pl / 8 % 8) = L0 at *
    refine ⟨_, rfl, _, rfl, _, rfl, _, rfl, _, rfl, a, m, h, r, q, aw, ps, n, rs, bs, b, L0, wr, k, pl, 2, rfl, W2, fun hn2 => ?_, fun zz hz d hd => e zz 2 (by rw [L2, hz]) H2 s2 d hd⟩
    rw [hn2] at L2
    refine ⟨_, rfl, _, rfl, _, rfl, L0, rfl, _, rfl, _, rfl, T0, L0, rfl, by show 4 ≤ sizeLine; decide, fun tt htt => ?_⟩
    have s3 := same_new (o := .tup [.ref t1, .ref t2, .int ((L0 / 256 : Nat) : Int), .int ((rigN T0 L0 : Nat) : Int)]) htt
    exact q0 _ _ _ _ L2 tt t1 t2 _ (s2.trans s3) upd_same (s3 _ _ z12) (s3 _ _ z2)
end
end K17
end
section
namespace K17
open PySem L2
abbrev sPutM : Stmt := top 35
abbrev sMark : Stmt := top 34
theorem or_of_and {w m : Nat} (h : w &&& m = m) : w ||| m = w := by
  refine Nat.eq_of_testBit_eq fun k => ?_
  have z := congrArg (fun x => x.testBit k) h
  simp only [Nat.testBit_and] at z
  rw [Nat.testBit_or]
  cases hw : w.testBit k <;> cases hm : m.testBit k <;> simp_all
def Kpt (h : Addr) (ps : Pgs) (H H' : Hp) : Prop := ∀ b o, ¬ At h ps b → H b = some o → H' b = some o
theorem Kpt.trans {h : Addr} {ps ps1 : Pgs} {H H1 H2 : Hp} (x : Kpt h ps H H1) (y : Kpt h ps1 H1 H2) (e : ∀ b, At h ps1 b → At h ps b) : Kpt h ps H H2 := fun b o n z => y b o (fun w => n (e b w)) (x b o n z)
theorem setW_self {ps : Pgs} {i j : Nat} {p : Addr} {ws : List Int} (e : ps[i]? = some (some (p, ws))) (hj : j < ws.length) : setW ps i j (ws.getD j 0) = ps := by
  rw [setW_at e]
  have e2 : ws.set j (ws.getD j 0) = ws := by
    refine List.ext_getElem? fun k => ?_
    by_cases hk : j = k
    · subst hk
      rw [List.getElem?_set_self hj, List.getD_eq_getElem?_getD, List.getElem?_eq_getElem hj]
      rfl
    · rw [List.getElem?_set_ne hk]
  rw [e2]
  refine List.ext_getElem? fun k => ?_
  by_cases hk : i = k
  · subst hk
    rw [List.getElem?_set_self (List.getElem?_eq_some_iff.mp e).1, e]
  · rw [List.getElem?_set_ne hk]
theorem or_lt {w m : Nat} (h : w < 281474976710656) (hm : m < 256) : w ||| m < 281474976710656 := by
  have : w ||| m < 2 ^ 48 := Nat.or_lt_two_pow (by omega) (by omega)
  omega
def mkN (ps : Pgs) (i j m : Nat) : Pgs := setW ps i j ((wordN ps i j ||| m : Nat) : Int)
def spPutM (C SC : Addr) : Sp := fun vs H Q _ => ∃ (a m h r q aw : Addr) (ps : Pgs) (n : Int) (rs : Rs) (bs : List Bool) (b : Int) (t : Addr) (i j mk : Nat), vs = [.ref a, .ref t, .int mk] ∧ Way C SC H a m h r q aw ps n rs bs b ∧ H t = some (.tup [.int (i : Int), .int (j : Int)]) ∧ hasP ps (.int (i : Int)) = true ∧ j < 8 ∧ mk < 256 ∧ ∀ H', Way C SC H' a m h r q aw (mkN ps i j mk) n rs bs b → Kpt h ps H H' → Q .non H'
def spMark (C SC : Addr) : Sp := fun vs H Q _ => ∃ (a m h r q aw : Addr) (ps : Pgs) (n : Int) (rs : Rs) (bs : List Bool) (b : Int) (tt t1 t2 : Addr) (i j i1 j1 pg rg : Nat) (wr : Bool), vs = [.ref a, .ref tt, .bl wr] ∧ Way C SC H a m h r q aw ps n rs bs b ∧ H tt = some (.tup [.ref t1, .ref t2, .int (pg : Int), .int (rg : Int)]) ∧ H t1 = some (.tup [.int (i : Int), .int (j : Int)]) ∧ H t2 = some (.tup [.int (i1 : Int), .int (j1 : Int)]) ∧ hasP ps (.int (i : Int)) = true ∧ hasP ps (.int (i1 : Int)) = true ∧ j < 8 ∧ j1 < 8 ∧
  ∀ H', Way C SC H' a m h r q aw (mkN (mkN ps i j 8) i1 j1 (if wr then 24 else 8)) n rs bs b → Kpt h ps H H' → Q (.int (((if wr then rg ||| 16 else rg : Nat)) : Int)) H'
theorem hasP_mkN {ps : Pgs} {i j m : Nat} (x : Nat) : hasP (mkN ps i j m) (.int (x : Int)) = hasP ps (.int (x : Int)) := by
  unfold mkN
  simp only [hasP, setW_len]
  congr 1
  exact there_setW _
section
variable {P : Program} {w : World} {K : PySem.W.Frag} {mg : Str → Option Value} {base : Heap} {C NP NL NW NI SC WC FA : Addr}
theorem sc_putm : FnScope ["store", "spot", "marks", "row"] ["store", "spot", "marks"] (defScope sPutM) := ⟨rfl, rfl, rfl, by decide +kernel, rfl, by decide +kernel, by decide +kernel⟩
theorem ok_putm {f f1 f2 f3 f4 : Addr} {fd fd1 fd2 fd3 fd4 : FuncData} (F : Fun K "put_marks" "put_marks" sPutM f fd) (Ba : Dn K mg "has" sRHas ["row", "marks"] f1 fd1) (GBa : FnOk P w K mg base CX0 1 f1 fd1 ["row", "marks"] spRHas) (Bb : Dn K mg "put" sRPut ["row", "marks"] f2 fd2) (GBb : FnOk P w K mg base CX0 1 f2 fd2 ["row", "marks"] spRPut) (M1 : Me K C "read" "Store.read" sRead ["self", "page", "cell"] f3 fd3) (GM1 : FnOk P w K mg base (CXr P w) 7 f3 fd3 ["self", "page", "cell"] (spWRead C SC NP NL)) (M2 : Me K C "write" "Store.write" sWrite ["self", "page", "cell", "word"] f4 fd4) (GM2 : FnOk P w K mg base (CXr P w) 7 f4 fd4 ["self", "page", "cell", "word"] (spWWrite C SC NP NL NW)) (PC : Plc K C) (R : Rws0 K mg) : FnOk P w K mg base CX0 8 f fd ["store", "spot", "marks"] (spPutM C SC) := by
  refine F.ok sc_putm (fun vs H Q E h' => ?_) (fun cdv A outer s H vs Q E hr h' => ?_)
  · obtain ⟨a, m, h, r, q, aw, ps, n, rs, bs, b, t, i, j, mk, rfl, _⟩ := h'
    rfl
  · obtain ⟨a, m, h, r, q, aw, ps, n, rs, bs, b, t, i, j, mk, rfl, W, zt, hh, hj, hmk, q0⟩ := h'
    have hr1 : Room 1 _ := hr.mono (by decide)
    refine ⟨_, (pss_cons (ps_set (i := 3) sc_putm.nd rfl (Or.inl rfl) (pe_meth (pv 0) PC.cl M1.m GM1 hr M1.b .nil passX0 (pa_cons (pe_ix ix_tup (pv 1) pe_int (fun _ _ => rfl)) (pa_cons (pe_ix ix_tup (pv 1) pe_int (fun _ _ => rfl)) pa_nil)))) (pss_one (ps_if (pt_not (pt_val (pe_call GBa hr1 (by rfl) Ba.m Ba.F.kp Ba.b .nil pass0 (pa_cons (pv 3) (pa_cons (pv 2) pa_nil))))) (pss_one (ps_expr (pe_meth (pv 0) PC.cl M2.m GM2 hr M2.b .nil passX0 (pa_cons (pe_ix ix_tup (pv 1) pe_int (fun _ _ => rfl)) (pa_cons (pe_ix ix_tup (pv 1) pe_int (fun _ _ => rfl)) (pa_cons (pe_call GBb hr1 (by rfl) Bb.m Bb.F.kp Bb.b .nil pass0 (pa_cons (pv 3) (pa_cons (pv 2) pa_nil))) pa_nil)))))) pss_nil))), ?_⟩
    obtain ⟨dx, fs, ha, wf⟩ := W.ob
    obtain ⟨i', p, ws, ei, ep⟩ := hasP_int hh
    obtain rfl : i = i' := by have := V.int.inj ei; omega
    have good := W.M.good _ _ _ ep
    have hjl : j < ws.length := by omega
    have hmem : ws.getD j 0 ∈ ws := by rw [List.getD_eq_getElem?_getD, List.getElem?_eq_getElem hjl]; exact List.getElem_mem _
    have wb := good.2 _ hmem
    have ew := wordN_of (j := j) ep wb.1
    have wlt : wordN ps i j < 281474976710656 := by have := wb.2; rw [ew] at this; omega
    refine ⟨_, rfl, a, dx, fs, rfl, ha, wf.no _ (by decide +kernel) (by decide +kernel) (by decide +kernel) (by decide +kernel), _, rfl, t, _, _, _, rfl, rfl, SqT.of zt, rfl, _, rfl, t, _, _, _, rfl, rfl, SqT.of zt, rfl, a, m, h, r, q, aw, ps, n, rs, bs, b, _, _, rfl, W, .int _, .int _, fun i2 j2 p2 ws2 e1 e2 e3 hj2 => ?_, fun y => absurd (hh.symm.trans y) (by decide), fun _ y => absurd ((below_of (by omega) (by omega)).symm.trans y) (by decide)⟩
    obtain rfl : i = i2 := by have := V.int.inj e1; omega
    obtain rfl : j = j2 := by have := V.int.inj e2; omega
    obtain ⟨rfl, rfl⟩ : p = p2 ∧ ws = ws2 := by have := Option.some.inj (ep.symm.trans e3); cases this; exact ⟨rfl, rfl⟩
    rw [ew]
    refine ⟨_, rfl, _, rfl, wordN ps i j, mk, rfl, _, rfl, ?_⟩
    cases hm : hasN (wordN ps i j) mk with
    | true =>
      refine iteF (q0 H ?_ fun b o _ z => z)
      have eq : mkN ps i j mk = ps := by
        unfold mkN
        rw [or_of_and (of_decide_eq_true hm), ← ew]
        exact setW_self ep hjl
      rw [eq]
      exact W
    | false =>
      refine iteT ⟨_, rfl, a, dx, fs, rfl, ha, wf.no _ (by decide +kernel) (by decide +kernel) (by decide +kernel) (by decide +kernel), _, rfl, t, _, _, _, rfl, rfl, SqT.of zt, rfl, _, rfl, t, _, _, _, rfl, rfl, SqT.of zt, rfl, _, rfl, _, rfl, wordN ps i j, mk, rfl, a, m, h, r, q, aw, ps, n, rs, bs, b, _, _, _, rfl, W, .int _, .int _, .int _, fun i2 j2 v2 p2 ws2 e1 e2 e4 e3 hj2 v0 v1 => ?_, fun y => absurd (hh.symm.trans y) (by decide), fun _ y => absurd ((below_of (by omega) (by omega)).symm.trans y) (by decide), fun _ _ y => absurd ((below_of (by omega) (by have := or_lt wlt hmk; omega)).symm.trans y) (by decide)⟩
      obtain rfl : i = i2 := by have := V.int.inj e1; omega
      obtain rfl : j = j2 := by have := V.int.inj e2; omega
      obtain ⟨rfl, rfl⟩ : p = p2 ∧ ws = ws2 := by have := Option.some.inj (ep.symm.trans e3); cases this; exact ⟨rfl, rfl⟩
      cases e4
      exact q0 _ (W.setW ep v0 v1) fun b o nb z => by rw [upd_ne (show b ≠ p from fun y => nb (y ▸ .inr ⟨i, ws, ep⟩))]; exact z
theorem sc_mark : FnScope ["store", "trail", "write"] ["store", "trail", "write"] (defScope sMark) := ⟨rfl, rfl, rfl, by decide +kernel, rfl, by decide +kernel, by decide +kernel⟩
theorem ok_mark {f f1 f2 : Addr} {fd fd1 fd2 : FuncData} (F : Fun K "mark" "mark" sMark f fd) (Bm : Dn K mg "put_marks" sPutM ["store", "spot", "marks"] f1 fd1) (GBm : FnOk P w K mg base CX0 8 f1 fd1 ["store", "spot", "marks"] (spPutM C SC)) (Bb : Dn K mg "put" sRPut ["row", "marks"] f2 fd2) (GBb : FnOk P w K mg base CX0 1 f2 fd2 ["row", "marks"] spRPut) (R : Rws0 K mg) : FnOk P w K mg base CX0 9 f fd ["store", "trail", "write"] (spMark C SC) := by
  obtain ⟨t_to, c_to⟩ := R.to
  obtain ⟨t_so, c_so⟩ := R.so
  refine F.ok sc_mark (fun vs H Q E h' => ?_) (fun cdv A outer s H vs Q E hr h' => ?_)
  · obtain ⟨a, m, h, r, q, aw, ps, n, rs, bs, b, tt, t1, t2, i, j, i1, j1, pg, rg, wr, rfl, _⟩ := h'
    rfl
  · obtain ⟨a, m, h, r, q, aw, ps, n, rs, bs, b, tt, t1, t2, i, j, i1, j1, pg, rg, wr, rfl, W, zt, z1, z2, hh, hh1, hj, hj1, q0⟩ := h'
    have hr1 : Room 1 _ := hr.mono (by decide)
    refine ⟨_, (pss_cons (ps_expr (pe_call GBm hr (by rfl) Bm.m Bm.F.kp Bm.b .nil pass0 (pa_cons (pv 0) (pa_cons (pe_ix ix_tup (pv 1) pe_int (fun _ _ => rfl)) (pa_cons (pe_glob (by rfl) c_to (show RelV (.int 8) (.int 8 t_to) from ⟨_, rfl⟩)) pa_nil))))) (pss_cons (ps_expr (pe_call GBm hr (by rfl) Bm.m Bm.F.kp Bm.b .nil pass0 (pa_cons (pv 0) (pa_cons (pe_ix ix_tup (pv 1) pe_int (fun _ _ => rfl)) (pa_cons (pe_ifExp (pt_val (pv 2)) (pe_call GBb hr1 (by rfl) Bb.m Bb.F.kp Bb.b .nil pass0 (pa_cons (pe_glob (by rfl) c_to (show RelV (.int 8) (.int 8 t_to) from ⟨_, rfl⟩)) (pa_cons (pe_glob (by rfl) c_so (show RelV (.int 16) (.int 16 t_so) from ⟨_, rfl⟩)) pa_nil))) (pe_glob (by rfl) c_to (show RelV (.int 8) (.int 8 t_to) from ⟨_, rfl⟩))) pa_nil))))) (pss_one (ps_ret (pe_ifExp (pt_val (pv 2)) (pe_call GBb hr1 (by rfl) Bb.m Bb.F.kp Bb.b .nil pass0 (pa_cons (pe_ix ix_tup (pv 1) pe_int (fun _ _ => rfl)) (pa_cons (pe_glob (by rfl) c_so (show RelV (.int 16) (.int 16 t_so) from ⟨_, rfl⟩)) pa_nil))) (pe_ix ix_tup (pv 1) pe_int (fun _ _ => rfl))))))), ?_⟩
    obtain ⟨dx, fs, ha, wf⟩ := W.ob
    refine ⟨_, rfl, _, rfl, tt, _, _, _, rfl, rfl, SqT.of zt, rfl, a, m, h, r, q, aw, ps, n, rs, bs, b, t1, i, j, 8, rfl, W, z1, hh, hj, by decide, fun H1 W1 k1 => ?_⟩
    have e1 : ∀ b, At h (mkN ps i j 8) b → At h ps b := fun b y => y.setW
    have nt : ∀ t xs, H t = some (.tup xs) → ¬ At h ps t := fun t xs y z => by
      rcases z with z | ⟨k, ws, z⟩
      · have := W.M.pg.top; rw [← z, y] at this; cases this
      · have := (W.M.pg.each k t ws z).1; rw [y] at this; cases this
    have y0 := k1 _ _ (nt _ _ zt) zt
    have y2 := k1 _ _ (nt _ _ z2) z2
    have hh2 : hasP (mkN ps i j 8) (.int (i1 : Int)) = true := by rw [hasP_mkN]; exact hh1
    have fin : ∀ (mk : Nat) (H2 : Hp), Way C SC H2 a m h r q aw (mkN (mkN ps i j 8) i1 j1 mk) n rs bs b → Kpt h (mkN ps i j 8) H1 H2 → H2 tt = some (.tup [.ref t1, .ref t2, .int (pg : Int), .int (rg : Int)]) ∧ Kpt h ps H H2 := fun mk H2 W2 k2 => ⟨k2 _ _ (fun z => nt _ _ zt (e1 _ z)) y0, k1.trans k2 e1⟩
    cases wr with
    | true =>
      refine ⟨_, rfl, _, rfl, tt, _, _, _, rfl, rfl, SqT.of y0, rfl, _, rfl, _, rfl, iteT ⟨8, 16, rfl, a, m, h, r, q, aw, mkN ps i j 8, n, rs, bs, b, t2, i1, j1, 24, rfl, W1, y2, hh2, hj1, by decide, fun H2 W2 k2 => ?_⟩⟩
      obtain ⟨y3, k3⟩ := fin 24 H2 W2 k2
      exact ⟨_, rfl, _, rfl, iteT ⟨_, rfl, tt, _, _, _, rfl, rfl, SqT.of y3, rfl, rg, 16, rfl, q0 H2 W2 k3⟩⟩
    | false =>
      refine ⟨_, rfl, _, rfl, tt, _, _, _, rfl, rfl, SqT.of y0, rfl, _, rfl, _, rfl, iteF ⟨a, m, h, r, q, aw, mkN ps i j 8, n, rs, bs, b, t2, i1, j1, 8, rfl, W1, y2, hh2, hj1, by decide, fun H2 W2 k2 => ?_⟩⟩
      obtain ⟨y3, k3⟩ := fin 8 H2 W2 k2
      exact ⟨_, rfl, _, rfl, iteF ⟨_, rfl, tt, _, _, _, rfl, rfl, SqT.of y3, rfl, q0 H2 W2 k3⟩⟩
end
end K17
end
section
namespace K17
open PySem L2
abbrev sCell : Stmt := top 43
abbrev sLWhole : Stmt := top 44
abbrev sMixed : Stmt := top 45
abbrev sRowL : Stmt := top 46
abbrev sThere : Stmt := top 48
abbrev sLack : Stmt := top 49
theorem and_mod (a b : Nat) : (a &&& b) % 2 = a % 2 * (b % 2) := by
  have h := Nat.testBit_and a b 0
  simp only [Nat.testBit_zero] at h
  have ha : a % 2 = 0 ∨ a % 2 = 1 := by omega
  have hb : b % 2 = 0 ∨ b % 2 = 1 := by omega
  have hc : (a &&& b) % 2 = 0 ∨ (a &&& b) % 2 = 1 := by omega
  rcases ha with ha | ha <;> rcases hb with hb | hb <;> rcases hc with hc | hc <;> simp_all
theorem or_mod (a b : Nat) : (a ||| b) % 2 + a % 2 * (b % 2) = a % 2 + b % 2 := by
  have h := Nat.testBit_or a b 0
  simp only [Nat.testBit_zero] at h
  have ha : a % 2 = 0 ∨ a % 2 = 1 := by omega
  have hb : b % 2 = 0 ∨ b % 2 = 1 := by omega
  have hc : (a ||| b) % 2 = 0 ∨ (a ||| b) % 2 = 1 := by omega
  rcases ha with ha | ha <;> rcases hb with hb | hb <;> rcases hc with hc | hc <;> simp_all
theorem or_and : ∀ (n a b : Nat), a < n → (a ||| b) + (a &&& b) = a + b
  | 0, _, _, h => absurd h (Nat.not_lt_zero _)
  | n + 1, a, b, h => by
    by_cases z : a = 0
    · subst z; simp
    · have ih := or_and n (a / 2) (b / 2) (by omega)
      rw [← Nat.or_div_two, ← Nat.and_div_two] at ih
      have m1 := or_mod a b
      have m2 := and_mod a b
      rw [← m2] at m1
      omega
theorem and_pow (w k : Nat) : w &&& 2 ^ k = 2 ^ k * (w / 2 ^ k % 2) := by
  have hw : w.testBit k = decide (w / 2 ^ k % 2 = 1) := Nat.testBit_eq_decide_div_mod_eq
  have h2 : w / 2 ^ k % 2 = 0 ∨ w / 2 ^ k % 2 = 1 := by omega
  apply Nat.eq_of_testBit_eq
  intro i
  rw [Nat.testBit_and, Nat.testBit_two_pow]
  rcases h2 with e | e
  · rw [e, Nat.mul_zero, Nat.zero_testBit]
    by_cases hi : k = i
    · subst hi
      rw [hw, e]
      rfl
    · rw [decide_eq_false hi, Bool.and_false]
  · rw [e, Nat.mul_one, Nat.testBit_two_pow]
    by_cases hi : k = i
    · subst hi
      rw [hw, e]
      rfl
    · rw [decide_eq_false hi, Bool.and_false]
theorem and8 (w : Nat) : w &&& 8 = 8 * (w / 8 % 2) := and_pow w 3
theorem and16 (w : Nat) : w &&& 16 = 16 * (w / 16 % 2) := and_pow w 4
theorem or8 (w : Nat) : w ||| 8 = if w / 8 % 2 = 0 then w + 8 else w := by
  have h := or_and (w + 1) w 8 (Nat.lt_succ_self _)
  rw [and8] at h
  split <;> omega
theorem or16 (w : Nat) : w ||| 16 = if w / 16 % 2 = 0 then w + 16 else w := by
  have h := or_and (w + 1) w 16 (Nat.lt_succ_self _)
  rw [and16] at h
  split <;> omega
theorem or24 (w : Nat) : w ||| 24 = (w ||| 8) ||| 16 := by
  rw [Nat.or_assoc, show (8 ||| 16 : Nat) = 24 from by decide]
theorem hasN_pow (w i : Nat) : hasN w (2 ^ i) = decide (w / 2 ^ i % 2 = 1) := by
  unfold hasN
  rw [and_pow]
  have : 0 < 2 ^ i := Nat.two_pow_pos i
  rcases Nat.mod_two_eq_zero_or_one (w / 2 ^ i) with h | h <;> rw [h]
  · simp; omega
  · simp
theorem hasN_1 (w : Nat) : hasN w 1 = decide (w % 2 = 1) := by have := hasN_pow w 0; simpa using this
theorem hasN_2 (w : Nat) : hasN w 2 = decide (w / 2 % 2 = 1) := hasN_pow w 1
theorem hasN_4 (w : Nat) : hasN w 4 = decide (w / 4 % 2 = 1) := hasN_pow w 2
theorem rigN_eq (t l : Nat) : rigN t l = 2 * ((t / 2 % 2) * (l / 2 % 2)) + 4 * (if t / 4 % 2 = 1 ∨ l / 4 % 2 = 1 then 1 else 0) + 16 * (l / 16 % 2) := by
  have a1 : t &&& l &&& 2 = 2 * ((t &&& l).testBit 1).toNat := by rw [Nat.toNat_testBit]; exact and_pow _ 1
  have a2 : (t ||| l) &&& 4 = 4 * ((t ||| l).testBit 2).toNat := by rw [Nat.toNat_testBit]; exact and_pow _ 2
  have a3 : l &&& 16 = 16 * (l.testBit 4).toNat := by rw [Nat.toNat_testBit]; exact and_pow _ 4
  have b1 : t / 2 % 2 = (t.testBit 1).toNat := (Nat.toNat_testBit t 1).symm
  have b2 : l / 2 % 2 = (l.testBit 1).toNat := (Nat.toNat_testBit l 1).symm
  have b3 : t / 4 % 2 = (t.testBit 2).toNat := (Nat.toNat_testBit t 2).symm
  have b4 : l / 4 % 2 = (l.testBit 2).toNat := (Nat.toNat_testBit l 2).symm
  have b5 : l / 16 % 2 = (l.testBit 4).toNat := (Nat.toNat_testBit l 4).symm
  unfold rigN
  rw [a1, a2, a3, b1, b2, b3, b4, b5, Nat.testBit_and, Nat.testBit_or]
  cases t.testBit 1 <;> cases l.testBit 1 <;> cases t.testBit 2 <;> cases l.testBit 2 <;> cases l.testBit 4 <;> decide
theorem rig_16 (t l : Nat) : rigN t l ||| 16 = if rigN t l < 16 then rigN t l + 16 else rigN t l := by
  rw [or16, rigN_eq]
  rcases Nat.mod_two_eq_zero_or_one (t / 2) with h1 | h1 <;> rcases Nat.mod_two_eq_zero_or_one (l / 2) with h2 | h2 <;> rcases Nat.mod_two_eq_zero_or_one (t / 4) with h3 | h3 <;> rcases Nat.mod_two_eq_zero_or_one (l / 4) with h4 | h4 <;> rcases Nat.mod_two_eq_zero_or_one (l / 16) with h5 | h5 <;> rw [h1, h2, h3, h4, h5] <;> decide
theorem has_there {qs : Pgs} (i : Nat) : hasP qs (.int (i : Int)) = isThere qs[i]? := by
  simp only [hasP, Int.toNat_natCast]
  by_cases h : i < qs.length
  · have h1 : (0 : Int) ≤ i := by omega
    have h2 : (i : Int) < qs.length := by omega
    simp [h1, h2]
  · rw [List.getElem?_eq_none (by omega)]
    simp [isThere]
theorem lack_eq (qs : Pgs) (w : Nat) (wr k : Bool) : lackN qs w wr k = if w % 2 = 0 then some ("absent" : Str) else if hasP qs (.int ((w / 256 : Nat) : Int)) = false then some ("beyond" : Str) else if w / 4 % 2 = 1 ∧ k = false then some ("kernel" : Str) else if wr = true ∧ w / 2 % 2 = 0 then some ("fixed" : Str) else none := by
  unfold lackN
  rw [hasN_1, hasN_2, hasN_4]
  generalize hasP qs (.int ((w / 256 : Nat) : Int)) = hp
  rcases Nat.mod_two_eq_zero_or_one w with h1 | h1 <;> rcases Nat.mod_two_eq_zero_or_one (w / 2) with h2 | h2 <;> rcases Nat.mod_two_eq_zero_or_one (w / 4) with h4 | h4 <;> cases wr <;> cases k <;> cases hp <;> simp [h1, h2, h4]
theorem lack_ok {qs : Pgs} {w : Nat} {wr k : Bool} {z : Str} (h : lackN qs w wr k = some z) : PyData.strOk z = true := by
  rw [lack_eq] at h
  repeat' split at h
  all_goals first | (cases h; decide +kernel) | cases h
theorem look_ok {qs : Pgs} {rt pl lv : Nat} {wr k : Bool} {z : Str} (h : lookN qs rt pl wr k = .fault z lv) : PyData.strOk z = true := by
  unfold lookN at h
  split at h
  · cases h; decide +kernel
  · split at h
    · cases h; decide +kernel
    · split at h
      · rename_i e; cases h; exact lack_ok e
      · split at h
        · rename_i e; cases h; exact lack_ok e
        · cases h
theorem Good.word {qs : Pgs} (g : Good qs) {i j : Nat} {p : Addr} {ws : List Int} (e : qs[i]? = some (some (p, ws))) (hj : j < 8) : 0 ≤ ws.getD j 0 ∧ ws.getD j 0 < 281474976710656 ∧ ws.length = 8 := by
  obtain ⟨l, b⟩ := g i p ws e
  have := b (ws.getD j 0) (by rw [List.getD_eq_getElem?_getD, List.getElem?_eq_getElem (by omega)]; exact List.getElem_mem _)
  exact ⟨this.1, this.2, l⟩
theorem and3 {c : Prop} [Decidable c] {d : Bool} {F G U : Prop} (mk : (if d = true then F else G) → U) (hf : c → d = true → F) (hg : ¬ (c ∧ d = true) → G) : if c then U else (if false = true then F else G) := by
  by_cases h : c
  · rw [if_pos h]
    refine mk ?_
    by_cases h2 : d = true
    · rw [if_pos h2]; exact hf h h2
    · rw [if_neg h2]; exact hg fun z => h2 z.2
  · rw [if_neg h]
    exact iteF (hg fun z => h z.1)
theorem wordN_cont {ps qs : Pgs} (h : cont ps = cont qs) (i j : Nat) : wordN ps i j = wordN qs i j := by
  have e := cont_at h i
  unfold wordN
  cases h1 : ps[i]? with
  | none =>
    cases h2 : qs[i]? with
    | none => rfl
    | some o => rw [h1, h2] at e; cases e
  | some o1 =>
    cases h2 : qs[i]? with
    | none => rw [h1, h2] at e; cases e
    | some o2 =>
      rw [h1, h2] at e
      have e' : Option.map (fun (q : Addr × List Int) => q.2) o1 = Option.map (fun (q : Addr × List Int) => q.2) o2 := Option.some.inj e
      show (((Option.map (fun (q : Addr × List Int) => q.2) o1).getD []).getD j 0).toNat = (((Option.map (fun (q : Addr × List Int) => q.2) o2).getD []).getD j 0).toNat
      rw [e']
theorem lackN_cont {ps qs : Pgs} (h : cont ps = cont qs) (w : Nat) (wr k : Bool) : lackN ps w wr k = lackN qs w wr k := by
  unfold lackN
  rw [hasP_cont h]
theorem lookN_cont {ps qs : Pgs} (h : cont ps = cont qs) (rt pl : Nat) (wr k : Bool) : lookN ps rt pl wr k = lookN qs rt pl wr k := by
  unfold lookN
  rw [hasP_cont h]
  simp only [wordN_cont h, lackN_cont h]
def spCell (K : PySem.W.Frag) : Sp := fun vs H Q _ => ∃ (a : Addr) (ns : List Int) (k : Nat), vs = [.ref a, .int k] ∧ SqL K H a (ns.map V.int) ∧ Q (.int (ns.getD k 0)) H
def spMixed : Sp := fun vs H Q _ => ∃ c k : Int, vs = [.int c, .int k] ∧ 0 ≤ k ∧ k ≤ 1000000 ∧ ∀ r : Int, 0 ≤ r → Q (.int r) H
def spThere : Sp := fun vs H Q _ => ∃ (D : Addr) (ps : Pgs) (i : Nat), vs = [.ref D, .int i] ∧ Pg H D ps ∧ Q (.bl (isThere ps[i]?)) H
def spRowL : Sp := fun vs H Q _ => ∃ c k n : Int, vs = [.int c, .int k, .int n] ∧ 0 ≤ k ∧ k ≤ 1000000 ∧ 1 ≤ n ∧ n ≤ 24 ∧ ∀ (v : Int) (H' : Hp), 0 ≤ v → v < 281474976710656 → Same H H' → Q (.int v) H'
def spLack : Sp := fun vs H Q _ => ∃ (D : Addr) (qs : Pgs) (w : Nat) (wr k : Bool), vs = [.ref D, .int (w : Int), .bl wr, .bl k] ∧ Pg H D qs ∧ Q (.str ((lackN qs w wr k).getD "")) H
theorem lackD {qs : Pgs} {w : Nat} {wr k : Bool} : (lackN qs w wr k).getD ("" : Str) = ("" : Str) ↔ lackN qs w wr k = none := by
  constructor
  · intro h
    cases hl : lackN qs w wr k with
    | none => rfl
    | some z =>
      rw [hl] at h
      have h : z = ("" : Str) := h
      subst h
      rw [lack_eq] at hl
      exfalso
      repeat' split at hl
      all_goals first | (exact absurd (Option.some.inj hl) (by decide +kernel)) | cases hl
  · intro h
    rw [h]
    rfl
section
variable {P : Program} {w : World} {K : PySem.W.Frag} {mg : Str → Option Value} {base : Heap} {C NP NL NW NI SC PL WC FA : Addr}
theorem scCe : FnScope ["_law_script", "_law_k"] ["_law_script", "_law_k"] (defScope sCell) := ⟨rfl, rfl, rfl, by decide +kernel, rfl, by decide +kernel, by decide +kernel⟩
theorem ok_cell {f : Addr} {fd : FuncData} (F : Fun K "_law_cell_at" "_law_cell_at" sCell f fd) (T : Txt K mg) : FnOk P w K mg base CX0 1 f fd ["_law_script", "_law_k"] (spCell K) := by
  refine F.ok scCe (fun vs H Q E h => ?_) (fun cdv A outer s H vs Q E hr h => ?_)
  · obtain ⟨x, ns, k, rfl, _⟩ := h
    rfl
  · obtain ⟨x, ns, k, rfl, hS, q⟩ := h
    refine ⟨_, (pss_cons (ps_if (pt_cmpR op_lt (pv 1) (pe_callB call_len_seq (by rfl) T.len PySem.boot_len (pa_cons (pv 0) pa_nil)) (nomark _)) (pss_one (ps_ret (pe_ix ix_list (pv 0) (pv 1) (fun _ _ => rfl)))) pss_nil) (pss_one (ps_ret pe_int))), ?_⟩
    refine ⟨_, rfl, _, rfl, x, _, rfl, .inl hS, _, _, rfl, rfl, _, rfl, ite2 (fun z => ?_) (fun z => ?_)⟩
    · have z' := of_decide_eq_true z
      rw [List.length_map] at z'
      exact ⟨_, rfl, _, rfl, x, _, _, _, rfl, rfl, hS, atI_word (by omega), q⟩
    · have z' : ¬ ((k : Int) < ((ns.map V.int).length : Int)) := fun y => z (decide_eq_true y)
      rw [List.length_map] at z'
      rw [List.getD_eq_getElem?_getD, List.getElem?_eq_none (by omega)] at q
      exact q
theorem scLW : FnScope ["_law_found"] ["_law_found"] (defScope sLWhole) := ⟨rfl, rfl, rfl, by decide +kernel, rfl, by decide +kernel, by decide +kernel⟩
theorem ok_lwhole {f : Addr} {fd : FuncData} (F : Fun K "_law_whole" "_law_whole" sLWhole f fd) (T : Txt K mg) : FnOk P w K mg base CX0 1 f fd ["_law_found"] spWhole := by
  refine F.ok scLW (fun vs H Q E h => ?_) (fun cdv A outer s H vs Q E hr h => ?_)
  · obtain ⟨x, rfl, _⟩ := h
    rfl
  · obtain ⟨x, rfl, th, q⟩ := h
    refine ⟨_, (pss_one (ps_ret (pe_and (pe_callB call_isint (by rfl) T.isi PyProof.Rows.boot_isinstance (pa_cons (pv 0) (pa_cons (pe_bltn (by rfl) T.int PyProof.Rows.boot_int (show RelV (.ty "int") (.type "int") from rfl)) pa_nil))) (pe_one (pe_not (pe_callB call_isbool (by rfl) T.isi PyProof.Rows.boot_isinstance (pa_cons (pv 0) (pa_cons (pe_bltn (by rfl) T.boo PyProof.Rows.boot_bool (show RelV (.ty "bool") (.type "bool") from rfl)) pa_nil)))))))), ?_⟩
    refine ⟨x, rfl, x, rfl, th, _, rfl, ?_⟩
    cases th with
    | non => exact iteF q
    | bl b => exact iteT ⟨_, rfl, _, rfl, .bl b, _, rfl, q⟩
    | int i => exact iteT ⟨_, rfl, _, rfl, .int i, _, rfl, q⟩
    | str z => exact iteF q
    | lst e => exact iteF q
    | frz e => exact iteF q
    | tup e => exact iteF q
    | dic e => exact iteF q
theorem scMi : FnScope ["_law_cell", "_law_k", "_law_number"] ["_law_cell", "_law_k"] (defScope sMixed) := ⟨rfl, rfl, rfl, by decide +kernel, rfl, by decide +kernel, by decide +kernel⟩
theorem ok_mixed {f : Addr} {fd : FuncData} (F : Fun K "_law_mixed" "_law_mixed" sMixed f fd) : FnOk P w K mg base CX0 1 f fd ["_law_cell", "_law_k"] spMixed := by
  refine F.ok scMi (fun vs H Q E h => ?_) (fun cdv A outer s H vs Q E hr h => ?_)
  · obtain ⟨c, k, rfl, _⟩ := h
    rfl
  · obtain ⟨c, k, rfl, k0, k1, q⟩ := h
    refine ⟨_, (pss_cons (ps_if (PW.pt (pw_and (pt_cmpR op_ge (pv 0) (pe_op op_pow pe_int pe_int) (nomark _)) (pw_and1 (pt_cmpR op_gt (pe_op op_shr (pv 0) (pe_op op_mul pe_int (pv 1))) pe_int (nomark _))))) (pss_one (ps_ret (pe_op op_mod (pe_op op_shr (pv 0) (pe_op op_mul pe_int (pv 1))) pe_int))) pss_nil) (pss_cons (ps_set (i := 2) scMi.nd rfl (Or.inl rfl) (pe_op op_mod (pe_op op_mul (pe_op op_add (pe_op op_add (pe_op op_add (pe_op op_mod (pv 0) pe_int) (pe_op op_mul (pe_op op_mul pe_int (pv 1)) (pv 1))) (pv 1)) pe_int) pe_int) pe_int)) (pss_one (ps_ret (pe_op op_mod (pe_op op_mul (pv 2) (pv 2)) pe_int))))), ?_⟩
    refine ⟨_, rfl, 10, 18, rfl, rfl, ⟨by decide, by decide, by decide⟩, _, _, rfl, rfl, _, rfl, and3 (d := decide (0 < c / 2 ^ (31 * k).toNat)) (fun z => ⟨_, rfl, _, rfl, 31, k, rfl, rfl, .inl ⟨by decide, by decide⟩, c, _, rfl, rfl, (by show (0 : Int) ≤ 31 * k; omega), _, 0, rfl, rfl, _, rfl, z⟩) (fun _ _ => ?_) (fun _ => ?_)⟩
    · exact ⟨_, rfl, _, rfl, 31, k, rfl, rfl, .inl ⟨by decide, by decide⟩, c, _, rfl, rfl, (by show (0 : Int) ≤ 31 * k; omega), _, 2147483587, rfl, rfl, (by show (0 : Int) < 2147483587; decide), q _ (Int.emod_nonneg _ (by decide))⟩
    refine ⟨_, rfl, c, 1000003, rfl, rfl, (by show (0 : Int) < 1000003; decide), _, rfl, 7919, k, rfl, rfl, .inl ⟨by decide, by decide⟩, _, rfl, _, k, rfl, rfl, .inr ⟨by omega, by omega⟩, _, _, rfl, rfl, _, rfl, _, k, rfl, rfl, _, 1, rfl, rfl, _, 48271, rfl, rfl, .inr ⟨by decide, by decide⟩, _, 2147483629, rfl, rfl, (by show (0 : Int) < 2147483629; decide), ?_⟩
    have b : ∀ x : Int, 0 ≤ x % 2147483629 ∧ x % 2147483629 < 2147483629 := fun x => ⟨Int.emod_nonneg _ (by decide), Int.emod_lt_of_pos _ (by decide)⟩
    refine ⟨_, rfl, _, rfl, _, _, rfl, rfl, .inl ⟨by have := b ((c % 1000003 + 7919 * k * k + k + 1) * 48271); omega, by have := b ((c % 1000003 + 7919 * k * k + k + 1) * 48271); omega⟩, _, 2147483587, rfl, rfl, (by show (0 : Int) < 2147483587; decide), q _ (Int.emod_nonneg _ (by decide))⟩
theorem scRw : FnScope ["_law_cell", "_law_k", "_law_size", "_law_one", "_law_other", "_law_page", "_law_marks"] ["_law_cell", "_law_k", "_law_size"] (defScope sRowL) := ⟨rfl, rfl, rfl, by decide +kernel, rfl, by decide +kernel, by decide +kernel⟩
theorem ok_rowl {f f1 : Addr} {fd fd1 : FuncData} (F : Fun K "_law_row" "_law_row" sRowL f fd) (D1 : Dn K mg "_law_mixed" sMixed ["_law_cell", "_law_k"] f1 fd1) (G1 : FnOk P w K mg base CX0 1 f1 fd1 ["_law_cell", "_law_k"] spMixed) (T : Txt K mg) : FnOk P w K mg base CX0 2 f fd ["_law_cell", "_law_k", "_law_size"] spRowL := by
  refine F.ok scRw (fun vs H Q E h => ?_) (fun cdv A1 outer s H vs Q E hr h => ?_)
  · obtain ⟨c, k, n, rfl, _⟩ := h
    rfl
  · obtain ⟨c, k, n, rfl, k0, k1, n0, n1, q⟩ := h
    have e40 : (2 : Int) ^ (40 : Int).toNat = 1099511627776 := by decide
    obtain ⟨t4, R4, hR4⟩ : ∃ tr, PSs (cxOf CX0 P w K mg base ["_law_cell", "_law_k", "_law_size", "_law_one", "_law_other", "_law_page", "_law_marks"] "_law_row" (defScope sRowL) f cdv A1 outer s H E).nox ((defBody sRowL).drop 4) tr ∧ ∀ (on ot pg : Int), 0 ≤ pg → pg < 1099511627776 → tr { nx := fun _ H' => Q .non H', rt := Q } [some (.int c), some (.int k), some (.int n), some (.int on), some (.int ot), some (.int pg), none] H := by
      refine ⟨_, (pss_cons (ps_set (i := 6) scRw.nd rfl (Or.inl rfl) (pe_op op_add (pe_op op_add (pe_callTy call_int1 (by rfl) T.int PyProof.Rows.boot_int (pa_cons (pe_cmpR op_gt (pe_op op_mod (pv 4) pe_int) pe_int (nomark _)) pa_nil)) (pe_op op_mul pe_int (pe_callTy call_int1 (by rfl) T.int PyProof.Rows.boot_int (pa_cons (pe_cmpR op_gt (pe_op op_mod (pe_op op_fdiv (pv 4) pe_int) pe_int) pe_int (nomark _)) pa_nil)))) (pe_op op_mul pe_int (pe_callTy call_int1 (by rfl) T.int PyProof.Rows.boot_int (pa_cons (pe_cmpR op_eq (pe_op op_mod (pe_op op_fdiv (pv 4) pe_int) pe_int) pe_int (nomark _)) pa_nil))))) (pss_one (ps_ret (pe_op op_add (pe_op op_add (pe_op op_mul pe_int (pv 5)) (pv 6)) (pe_op op_mul pe_int (pe_op op_mod (pe_op op_fdiv (pv 4) pe_int) pe_int)))))), fun on ot pg p0 p1 => ?_⟩
      refine ⟨_, rfl, ot, 8, rfl, rfl, (by show (0 : Int) < 8; decide), _, _, rfl, rfl, .inr ⟨_, rfl, _, rfl, ot, 8, rfl, rfl, ⟨by decide, by decide⟩, _, 4, rfl, rfl, (by show (0 : Int) < 4; decide), _, _, rfl, rfl, .inr ⟨_, rfl, 2, _, rfl, rfl, .inl ⟨by decide, by decide⟩, _, _, rfl, rfl, _, rfl, ot, 32, rfl, rfl, ⟨by decide, by decide⟩, _, 4, rfl, rfl, (by show (0 : Int) < 4; decide), rfl, .inr ⟨_, rfl, 4, _, rfl, rfl, .inl ⟨by decide, by decide⟩, _, _, rfl, rfl, ?_⟩⟩⟩⟩
      dsimp only
      have mk0 : ∀ x y z : Bool, 0 ≤ (if x = true then (1 : Int) else 0) + 2 * (if y = true then (1 : Int) else 0) + 4 * (if z = true then (1 : Int) else 0) ∧ (if x = true then (1 : Int) else 0) + 2 * (if y = true then (1 : Int) else 0) + 4 * (if z = true then (1 : Int) else 0) ≤ 7 := by decide
      have mk1 := mk0 (decide (0 < ot % 8)) (decide (0 < ot / 8 % 4)) (decide (V.int (ot / 32 % 4) = V.int 0))
      generalize (if decide (0 < ot % 8) = true then (1 : Int) else 0) + 2 * (if decide (0 < ot / 8 % 4) = true then (1 : Int) else 0) + 4 * (if decide (V.int (ot / 32 % 4) = V.int 0) = true then (1 : Int) else 0) = mks at mk1 ⊢
      refine ⟨_, rfl, 256, pg, rfl, rfl, .inl ⟨by decide, by decide⟩, _, rfl, _, mks, rfl, rfl, _, rfl, ot, 128, rfl, rfl, ⟨by decide, by decide⟩, _, 32, rfl, rfl, (by show (0 : Int) < 32; decide), 8, _, rfl, rfl, .inl ⟨by decide, by decide⟩, _, _, rfl, rfl, q _ _ ?_ ?_ (Same.refl _)⟩
      · show 0 ≤ 256 * pg + mks + 8 * (ot / 128 % 32)
        omega
      · show 256 * pg + mks + 8 * (ot / 128 % 32) < 281474976710656
        omega
    refine ⟨_, pss_cons (ps_set (i := 3) scRw.nd rfl (Or.inl rfl) (pe_call G1 hr (by rfl) D1.m D1.F.kp D1.b .nil pass0 (pa_cons (pv 0) (pa_cons (pv 1) pa_nil)))) (pss_cons (ps_set (i := 4) scRw.nd rfl (Or.inl rfl) (pe_op op_mod (pe_op op_mul (pv 3) pe_int) pe_int)) (pss_cons (ps_set (i := 5) scRw.nd rfl (Or.inl rfl) (pe_op op_mod (pv 3) (pe_op op_add (pv 2) pe_int))) (pss_cons (ps_if (pt_cmpR op_eq (pe_op op_mod (pe_op op_fdiv (pv 3) pe_int) pe_int) pe_int (nomark _)) (pss_one (ps_set (i := 5) scRw.nd rfl (Or.inl rfl) (pe_op op_sub (pe_op op_sub (pe_op op_pow pe_int pe_int) pe_int) (pe_op op_mod (pe_op op_fdiv (pv 3) pe_int) pe_int)))) pss_nil) R4))), ?_⟩
    refine ⟨_, rfl, _, rfl, c, k, rfl, k0, k1, fun on on0 => ?_⟩
    refine ⟨_, rfl, on, 69621, rfl, rfl, .inr ⟨by decide, by decide⟩, _, 2147483587, rfl, rfl, (by show (0 : Int) < 2147483587; decide), ?_⟩
    dsimp only
    generalize on * 69621 % 2147483587 = ot
    refine ⟨_, rfl, _, rfl, n, 1, rfl, rfl, on, _, rfl, rfl, (by show (0 : Int) < n + 1; omega), ?_⟩
    dsimp only
    have pg0 : 0 ≤ on % (n + 1) := Int.emod_nonneg _ (by omega)
    have pg1 : on % (n + 1) < n + 1 := Int.emod_lt_of_pos _ (by omega)
    generalize on % (n + 1) = pg at pg0 pg1 ⊢
    refine ⟨_, rfl, on, 32, rfl, rfl, ⟨by decide, by decide⟩, _, 16, rfl, rfl, (by show (0 : Int) < 16; decide), rfl, _, rfl, ite2 (fun _ => ?_) (fun _ => hR4 on ot pg pg0 (by omega))⟩
    refine ⟨2, 40, rfl, rfl, ⟨by decide, by decide, by decide⟩, _, 1, rfl, rfl, _, rfl, on, 512, rfl, rfl, ⟨by decide, by decide⟩, _, 5, rfl, rfl, (by show (0 : Int) < 5; decide), _, _, rfl, rfl, ?_⟩
    dsimp only
    rw [e40]
    exact hR4 on ot _ (by omega) (by omega)
theorem scTh : FnScope ["_law_pages", "_law_page"] ["_law_pages", "_law_page"] (defScope sThere) := ⟨rfl, rfl, rfl, by decide +kernel, rfl, by decide +kernel, by decide +kernel⟩
theorem ok_there {f : Addr} {fd : FuncData} (F : Fun K "_law_there" "_law_there" sThere f fd) (T : Txt K mg) : FnOk P w K mg base CX0 1 f fd ["_law_pages", "_law_page"] spThere := by
  refine F.ok scTh (fun vs H Q E h => ?_) (fun cdv A outer s H vs Q E hr h => ?_)
  · obtain ⟨D, ps, i, rfl, _⟩ := h
    rfl
  · obtain ⟨D, ps, i, rfl, g, q⟩ := h
    refine ⟨_, (pss_one (ps_ret (pe_and (pe_cmpR op_lt (pv 1) (pe_callB call_len_seq (by rfl) T.len PySem.boot_len (pa_cons (pv 0) pa_nil)) (nomark _)) (pe_one (pe_cmpR op_notN (pe_ix ix_list (pv 0) (pv 1) (fun _ _ => rfl)) pe_non (nomark _)))))), ?_⟩
    refine ⟨_, rfl, _, rfl, D, _, rfl, .inl (SqL.of g.top), _, _, rfl, rfl, _, rfl, ite2 (fun z => ?_) (fun z => ?_)⟩
    · have z' := of_decide_eq_true z
      rw [List.length_map] at z'
      have hi : i < ps.length := by omega
      obtain ⟨o, ho, hat⟩ := atI_pg (ps := ps) (i := i) hi
      rw [ho] at q
      refine ⟨_, rfl, _, rfl, D, _, _, _, rfl, rfl, SqL.of g.top, hat, rfl, ?_⟩
      cases o with
      | none => exact q
      | some y => exact q
    · have z' : ¬ ((i : Int) < ((ps.map pgV).length : Int)) := fun y => z (decide_eq_true y)
      rw [List.length_map] at z'
      rw [List.getElem?_eq_none (by omega)] at q
      exact q
theorem scLk : FnScope ["_law_pages", "_law_row_here", "_law_write", "_law_kernel"] ["_law_pages", "_law_row_here", "_law_write", "_law_kernel"] (defScope sLack) := ⟨rfl, rfl, rfl, by decide +kernel, rfl, by decide +kernel, by decide +kernel⟩
theorem ok_lack {f f1 : Addr} {fd fd1 : FuncData} (F : Fun K "_law_lack" "_law_lack" sLack f fd) (D1 : Dn K mg "_law_there" sThere ["_law_pages", "_law_page"] f1 fd1) (G1 : FnOk P w K mg base CX0 1 f1 fd1 ["_law_pages", "_law_page"] spThere) : FnOk P w K mg base CX0 2 f fd ["_law_pages", "_law_row_here", "_law_write", "_law_kernel"] spLack := by
  refine F.ok scLk (fun vs H Q E h => ?_) (fun cdv A outer s H vs Q E hr h => ?_)
  · obtain ⟨D, qs, w, wr, k, rfl, _⟩ := h
    rfl
  · obtain ⟨D, qs, w, wr, k, rfl, g, q⟩ := h
    rw [lack_eq] at q
    refine ⟨_, (pss_cons (ps_if (pt_cmpR op_eq (pe_op op_mod (pv 1) pe_int) pe_int (nomark _)) (pss_one (ps_ret pe_str)) pss_nil) (pss_cons (ps_if (pt_not (pt_val (pe_call G1 hr (by rfl) D1.m D1.F.kp D1.b .nil pass0 (pa_cons (pv 0) (pa_cons (pe_op op_fdiv (pv 1) pe_int) pa_nil))))) (pss_one (ps_ret pe_str)) pss_nil) (pss_cons (ps_if (PW.pt (pw_and (pt_cmpR op_eq (pe_op op_mod (pe_op op_fdiv (pv 1) pe_int) pe_int) pe_int (nomark _)) (pw_and1 (pt_not (pt_val (pv 3)))))) (pss_one (ps_ret pe_str)) pss_nil) (pss_cons (ps_if (PW.pt (pw_and (pt_val (pv 2)) (pw_and1 (pt_cmpR op_eq (pe_op op_mod (pe_op op_fdiv (pv 1) pe_int) pe_int) pe_int (nomark _))))) (pss_one (ps_ret pe_str)) pss_nil) (pss_one (ps_ret pe_str)))))), ?_⟩
    refine ⟨_, rfl, _, 2, rfl, rfl, (by show (0 : Int) < 2; decide), rfl, _, rfl, ite2 (fun c1 => ?_) (fun c1 => ?_)⟩
    · have c1 := V.int.inj (of_decide_eq_true c1)
      rw [if_pos (by omega)] at q
      exact q
    have c1 : ¬ w % 2 = 0 := fun z => c1 (decide_eq_true (congrArg V.int (by omega)))
    rw [if_neg c1] at q
    refine ⟨_, rfl, _, rfl, _, 256, rfl, rfl, ⟨by decide, by decide⟩, D, qs, w / 256, rfl, g, _, rfl, ?_⟩
    rw [has_there] at q
    cases hth : isThere qs[w / 256]? with
    | false =>
      rw [hth, if_pos rfl] at q
      exact iteT q
    | true =>
    rw [hth, if_neg (by decide)] at q
    refine iteF ⟨_, rfl, _, 4, rfl, rfl, ⟨by decide, by decide⟩, _, 2, rfl, rfl, (by show (0 : Int) < 2; decide), rfl, _, rfl, and3 (d := !k) (fun z => ⟨_, rfl, _, rfl, z⟩) (fun c4 ck => ?_) (fun c4 => ?_)⟩
    · have c4 := V.int.inj (of_decide_eq_true c4)
      rw [if_pos ⟨by omega, by simpa using ck⟩] at q
      exact q
    have c4 : ¬ (w / 4 % 2 = 1 ∧ k = false) := fun z => c4 ⟨decide_eq_true (congrArg V.int (by omega)), by rw [z.2]; rfl⟩
    rw [if_neg c4] at q
    refine ⟨_, rfl, _, rfl, and3 (d := decide (V.int ((w : Int) / 2 % 2) = V.int 0)) (fun z => ⟨_, rfl, _, 2, rfl, rfl, ⟨by decide, by decide⟩, _, 2, rfl, rfl, (by show (0 : Int) < 2; decide), rfl, _, rfl, z⟩) (fun c2 cw => ?_) (fun c2 => ?_)⟩
    · have cw := V.int.inj (of_decide_eq_true cw)
      rw [if_pos ⟨c2, by omega⟩] at q
      exact q
    have c2 : ¬ (wr = true ∧ w / 2 % 2 = 0) := fun z => c2 ⟨z.1, decide_eq_true (congrArg V.int (by omega))⟩
    rw [if_neg c2] at q
    exact q
end
end K17
end
section
namespace K17
open PySem L2
abbrev sRowsL : Stmt := top 47
abbrev sFaulty : Stmt := top 50
abbrev sLeads : Stmt := top 51
abbrev sPutL : Stmt := top 52
abbrev sRchd : Stmt := top 53
abbrev sDeed : Stmt := top 54
abbrev sLaw : Stmt := top 55
theorem or_lt48 {w m : Nat} (h : w < 281474976710656) (hm : m < 256) : w ||| m < 281474976710656 := Nat.or_lt_two_pow (n := 48) h (by omega)
theorem Good.mkN {qs : Pgs} (g : Good qs) {i j m : Nat} {p : Addr} {ws : List Int} (e : qs[i]? = some (some (p, ws))) (hj : j < 8) (hm : m < 256) : Good (mkN qs i j m) := by
  obtain ⟨a, b, c⟩ := Good.word g e hj
  have := wordN_of e a
  exact L2.Good.setW g e (by omega) (by have := or_lt48 (w := wordN qs i j) (m := m) (by omega) hm; omega)
theorem rig_due (t l : Nat) : 2 * (if (l : Int) / 2 % 2 < (t : Int) / 2 % 2 then (l : Int) / 2 % 2 else (t : Int) / 2 % 2) + 4 * (if (l : Int) / 4 % 2 > (t : Int) / 4 % 2 then (l : Int) / 4 % 2 else (t : Int) / 4 % 2) + 16 * ((l : Int) / 16 % 2) = ((rigN t l : Nat) : Int) := by
  rw [rigN_eq]
  have c1 : (t : Int) / 2 % 2 = ((t / 2 % 2 : Nat) : Int) := by omega
  have c2 : (l : Int) / 2 % 2 = ((l / 2 % 2 : Nat) : Int) := by omega
  have c3 : (t : Int) / 4 % 2 = ((t / 4 % 2 : Nat) : Int) := by omega
  have c4 : (l : Int) / 4 % 2 = ((l / 4 % 2 : Nat) : Int) := by omega
  have c5 : (l : Int) / 16 % 2 = ((l / 16 % 2 : Nat) : Int) := by omega
  rw [c1, c2, c3, c4, c5]
  rcases Nat.mod_two_eq_zero_or_one (t / 2) with h1 | h1 <;> rcases Nat.mod_two_eq_zero_or_one (l / 2) with h2 | h2 <;> rcases Nat.mod_two_eq_zero_or_one (t / 4) with h3 | h3 <;> rcases Nat.mod_two_eq_zero_or_one (l / 4) with h4 | h4 <;> rcases Nat.mod_two_eq_zero_or_one (l / 16) with h5 | h5 <;> rw [h1, h2, h3, h4, h5] <;> decide
theorem shP (i j : Int) : SeqAt.shaped (.tuple [.int i, .int j]) = true := by simp [SeqAt.shaped, PyData.canLay0, PyData.canLayAll0, PyData.depth, PyData.depthAll]
theorem eqP (i j : Int) : PyData.eqv (.tuple [.int i, .int j]) (.tuple [.int i, .int j]) = true := by simp [PyData.eqv, PyData.eqvAll]
def spRowsL : Sp := fun vs H Q _ => ∃ c k n : Int, vs = [.int c, .int k, .int n] ∧ 0 ≤ k ∧ k ≤ 100000 ∧ 1 ≤ n ∧ n ≤ 24 ∧ ∀ (l : Addr) (H' : Hp) (ws : List Int), H l = none → Same H H' → H' l = some (.lst (ws.map V.int)) → ws.length = 8 → (∀ w ∈ ws, 0 ≤ w ∧ w < 281474976710656) → Q (.ref l) H'
def spFaulty : Sp := fun vs H Q _ => ∃ (D tl : Addr) (qs : Pgs) (rt pl lv : Nat) (wr k : Bool) (z : Str), vs = [.ref D, .int (rt : Int), .int (pl : Int), .bl wr, .bl k, .ref tl] ∧ Pg H D qs ∧ Good qs ∧ H tl = some (.lst [.str z, .int (pl : Int), .int (lv : Int)]) ∧ lookN qs rt pl wr k = .fault z lv ∧ ∀ H', Same H H' → Q (.bl true) H'
def spLeads : Sp := fun vs H Q _ => ∃ (D tt t1 t2 : Addr) (qs : Pgs) (rt pl p1 pg t l : Nat) (wr k : Bool), vs = [.ref D, .int (rt : Int), .int (pl : Int), .bl wr, .bl k, .ref tt] ∧ Pg H D qs ∧ Good qs ∧ lookN qs rt pl wr k = .trail p1 pg t l ∧ H tt = some (.tup [.ref t1, .ref t2, .int (pg : Int), .int ((rigN t l : Nat) : Int)]) ∧ H t1 = some (.tup [.int (rt : Int), .int ((pl / 8 / 8 : Nat) : Int)]) ∧ H t2 = some (.tup [.int (p1 : Int), .int ((pl / 8 % 8 : Nat) : Int)]) ∧ ∀ H', Same H H' → Q (.bl true) H'
def spPutL : Sp := fun vs H Q _ => ∃ (D sp : Addr) (qs : Pgs) (i j : Nat) (wr : Bool), vs = [.ref D, .ref sp, .bl wr] ∧ Pg H D qs ∧ Good qs ∧ H sp = some (.tup [.int (i : Int), .int (j : Int)]) ∧ hasP qs (.int (i : Int)) = true ∧ j < 8 ∧ ∀ H', Pg H' D (mkN qs i j (if wr then 24 else 8)) → Kpt D qs H H' → Q .non H'
section
variable {P : Program} {w : World} {K : PySem.W.Frag} {mg : Str → Option Value} {base : Heap} {C NP NL NW NI SC PL WC FA : Addr}
theorem scRs : FnScope ["_law_cell", "_law_k", "_law_size"] ["_law_cell", "_law_k", "_law_size"] (defScope sRowsL) := ⟨rfl, rfl, rfl, by decide +kernel, rfl, by decide +kernel, by decide +kernel⟩
theorem ndRs : (compN "_law_j" ["_law_cell", "_law_k", "_law_size"]).Nodup := by decide +kernel
theorem dotRs : (".0" : Str) ∉ (["_law_cell", "_law_k", "_law_size"] : List Str) := by decide +kernel
theorem ok_rowsl {f f1 : Addr} {fd fd1 : FuncData} (F : Fun K "_law_rows" "_law_rows" sRowsL f fd) (D1 : Dn K mg "_law_row" sRowL ["_law_cell", "_law_k", "_law_size"] f1 fd1) (G1 : FnOk P w K mg base CX0 2 f1 fd1 ["_law_cell", "_law_k", "_law_size"] spRowL) (T : Txt K mg) : FnOk P w K mg base CX0 3 f fd ["_law_cell", "_law_k", "_law_size"] spRowsL := by
  refine F.ok scRs (fun vs H Q E h => ?_) (fun cdv A outer s H vs Q E hr h => ?_)
  · obtain ⟨c, k, n, rfl, _⟩ := h
    rfl
  · obtain ⟨c, k, n, rfl, k0, k1, n1, n2, q⟩ := h
    refine ⟨_, (pss_one (ps_ret (pe_comp (cl := [("_law_size", s.heap.objs.size + 1 + 1 + 1), ("_law_k", s.heap.objs.size + 1 + 1), ("_law_cell", s.heap.objs.size + 1)]) (tc := tYes) (te := tCall spRowL [] E0 (tCons (tVar 1) (tCons (tOp (rI0 fun i j => .int (i + j)) (tOp (rI0 fun i j => .int (i + j)) (tOp (rI CMul fun i j => .int (i * j)) (tC (.int 8)) (tVar 2)) (tVar 0)) (tC (.int 30))) (tCons (tVar 3) tNil)))) rfl (pi_range1 (by rfl) T.rng (pa_cons pe_int pa_nil)) rfl (by repeat' (first | exact trivial | refine ⟨.inl ⟨.inr rfl, rfl⟩, ?_⟩ | refine ⟨.inl ⟨.inl rfl, rfl⟩, ?_⟩ | refine ⟨.inr (.inl ⟨by decide, by decide, by decide⟩), ?_⟩ | refine ⟨.inr (.inr ⟨rfl, by decide +kernel, by decide +kernel, rfl, rfl⟩), ?_⟩)) (show ClOk _ _ from ⟨rfl, rfl, rfl, trivial⟩) (fun C s₂ H₂ fp => .nil) (fun C s₂ H₂ fp => (pe_call G1 hr (by rfl) D1.m D1.F.kp D1.b .nil pass0 (pa_cons (pv 1) (pa_cons (pe_op op_add (pe_op op_add (pe_op op_mul pe_int (pv 2)) (pv 0)) pe_int) (pa_cons (pv 3) pa_nil))))) ndRs (hdot := dotRs)))), ?_⟩
    refine ⟨8, rfl, by decide, by decide, comp_words (lo := 0) (n := 8) (by decide) (fun j H2 R hj s2 kk => ?_) fun E2 H3 ws hE s3 h3 hw hb => q E2 H3 ws hE s3 h3 hw hb⟩
    exact ⟨_, rfl, _, rfl, 8, k, rfl, rfl, .inl ⟨by decide, by decide⟩, _, rfl, _, _, rfl, rfl, _, 30, rfl, rfl, _, rfl, c, _, n, rfl, (by omega), (by omega), n1, n2, kk⟩
theorem scFy : FnScope ["_law_pages", "_law_root", "_law_place", "_law_write", "_law_kernel", "_law_told", "_law_high"] ["_law_pages", "_law_root", "_law_place", "_law_write", "_law_kernel", "_law_told"] (defScope sFaulty) := ⟨rfl, rfl, rfl, by decide +kernel, rfl, by decide +kernel, by decide +kernel⟩
theorem ok_faulty {f f1 f2 : Addr} {fd fd1 fd2 : FuncData} (F : Fun K "_law_faulty" "_law_faulty" sFaulty f fd) (D1 : Dn K mg "_law_there" sThere ["_law_pages", "_law_page"] f1 fd1) (G1 : FnOk P w K mg base CX0 1 f1 fd1 ["_law_pages", "_law_page"] spThere) (D2 : Dn K mg "_law_lack" sLack ["_law_pages", "_law_row_here", "_law_write", "_law_kernel"] f2 fd2) (G2 : FnOk P w K mg base CX0 2 f2 fd2 ["_law_pages", "_law_row_here", "_law_write", "_law_kernel"] spLack) (T : Txt K mg) : FnOk P w K mg base CX0 3 f fd ["_law_pages", "_law_root", "_law_place", "_law_write", "_law_kernel", "_law_told"] spFaulty := by
  refine F.ok scFy (fun vs H Q E h => ?_) (fun cdv A outer s H vs Q E hr h => ?_)
  · obtain ⟨D, tl, qs, rt, pl, lv, wr, k, z, rfl, _⟩ := h
    rfl
  · obtain ⟨D, tl, qs, rt, pl, lv, wr, k, z, rfl, g, gd, zt, lk, q⟩ := h
    have hr1 : Room 1 _ := hr.mono (by decide)
    refine ⟨_, (pss_cons (ps_if (pt_cmpR op_ne (pe_ix ix_list (pv 5) pe_int (fun _ _ => rfl)) (pv 2) (nomark _)) (pss_one (ps_ret pe_bl)) pss_nil) (pss_cons (ps_if (PW.pt (pw_or (pt_cmpR op_gt (pv 2) pe_int (nomark _)) (pw_or1 (pt_not (pt_val (pe_call G1 hr1 (by rfl) D1.m D1.F.kp D1.b .nil pass0 (pa_cons (pv 0) (pa_cons (pv 1) pa_nil)))))))) (pss_one (ps_ret (pe_and (pe_cmpR op_eq (pe_ix ix_list (pv 5) pe_int (fun _ _ => rfl)) pe_int (nomark _)) (pe_one (pe_cmpR op_eq (pe_ix ix_list (pv 5) pe_int (fun _ _ => rfl)) (pe_ix ix_list (pe_lst (pa_cons pe_str (pa_cons pe_str pa_nil))) (pe_callTy call_int1 (by rfl) T.int PyProof.Rows.boot_int (pa_cons (pe_cmpR op_gt (pv 2) pe_int (nomark _)) pa_nil)) (fun _ _ => rfl)) (nomark _)))))) pss_nil) (pss_cons (ps_set (i := 6) scFy.nd rfl (Or.inl rfl) (pe_ix ix_list (pe_ix ix_list (pv 0) (pv 1) (fun _ _ => rfl)) (pe_op op_fdiv (pv 2) pe_int) (fun _ _ => rfl))) (pss_cons (ps_if (pt_cmpR op_eq (pe_ix ix_list (pv 5) pe_int (fun _ _ => rfl)) pe_str (nomark _)) (pss_one (ps_ret pe_bl)) pss_nil) (pss_cons (ps_if (pt_cmpR op_eq (pe_ix ix_list (pv 5) pe_int (fun _ _ => rfl)) pe_int (nomark _)) (pss_one (ps_ret (pe_cmpR op_eq (pe_call G2 hr (by rfl) D2.m D2.F.kp D2.b .nil pass0 (pa_cons (pv 0) (pa_cons (pv 6) (pa_cons (pv 3) (pa_cons (pv 4) pa_nil))))) (pe_ix ix_list (pv 5) pe_int (fun _ _ => rfl)) (nomark _)))) pss_nil) (pss_cons (ps_if (PW.pt (pw_or (pt_cmpR op_ne (pe_ix ix_list (pv 5) pe_int (fun _ _ => rfl)) pe_int (nomark _)) (pw_or1 (pt_cmpR op_ne (pe_call G2 hr (by rfl) D2.m D2.F.kp D2.b .nil pass0 (pa_cons (pv 0) (pa_cons (pv 6) (pa_cons (pv 3) (pa_cons (pv 4) pa_nil))))) pe_str (nomark _))))) (pss_one (ps_ret pe_bl)) pss_nil) (pss_one (ps_ret (pe_cmpR op_eq (pe_call G2 hr (by rfl) D2.m D2.F.kp D2.b .nil pass0 (pa_cons (pv 0) (pa_cons (pe_ix ix_list (pe_ix ix_list (pv 0) (pe_op op_fdiv (pv 6) pe_int) (fun _ _ => rfl)) (pe_op op_mod (pe_op op_fdiv (pv 2) pe_int) pe_int) (fun _ _ => rfl)) (pa_cons (pv 3) (pa_cons (pv 4) pa_nil))))) (pe_ix ix_list (pv 5) pe_int (fun _ _ => rfl)) (nomark _)))))))))), ?_⟩
    have L : lookN qs rt pl wr k = (if 512 ≤ pl then .fault "far" 0 else if hasP qs (.int (rt : Int)) = false then .fault "beyond" 0 else match lackN qs (wordN qs rt (pl / 8 / 8)) wr k with | some z => .fault z 1 | none => match lackN qs (wordN qs (wordN qs rt (pl / 8 / 8) / 256) (pl / 8 % 8)) wr k with | some z => .fault z 2 | none => .trail (wordN qs rt (pl / 8 / 8) / 256) (wordN qs (wordN qs rt (pl / 8 / 8) / 256) (pl / 8 % 8) / 256) (wordN qs rt (pl / 8 / 8)) (wordN qs (wordN qs rt (pl / 8 / 8) / 256) (pl / 8 % 8))) := rfl
    rw [lk] at L
    refine ⟨_, rfl, tl, _, _, _, rfl, rfl, SqL.of zt, rfl, _, rfl, rfl, _, rfl, iteFS (by simp) ?_⟩
    refine ⟨_, rfl, _, 511, rfl, rfl, _, rfl, ite2 (fun c => ?_) (fun c => ?_)⟩
    · have c1 : 511 < pl := by have := of_decide_eq_true c; omega
      rw [if_pos (by omega)] at L
      cases L
      refine iteT ⟨_, rfl, tl, _, _, _, rfl, rfl, SqL.of zt, rfl, rfl, _, rfl, iteTS (by simp) ⟨_, rfl, tl, _, _, _, rfl, rfl, SqL.of zt, rfl, by show 2 ≤ sizeLine; decide, fun l2 hl2 => ⟨_, rfl, _, 511, rfl, rfl, .inr ⟨_, rfl, ?_⟩⟩⟩⟩
      rw [decide_eq_true (show (511 : Int) < (pl : Int) by omega)]
      refine ⟨l2, _, _, .str "far", rfl, rfl, SqL.of upd_same, rfl, rfl, ?_⟩
      rw [decide_eq_true rfl]
      exact q _ (same_new hl2)
    have c : ¬ 511 < pl := fun z => c (decide_eq_true (by omega))
    rw [if_neg (by omega)] at L
    refine ⟨_, rfl, _, rfl, D, qs, rt, rfl, g, _, rfl, ?_⟩
    rw [has_there] at L
    cases hrt : isThere qs[rt]? with
    | false =>
      rw [hrt, if_pos rfl] at L
      cases L
      refine iteT ⟨_, rfl, tl, _, _, _, rfl, rfl, SqL.of zt, rfl, rfl, _, rfl, iteTS (by simp) ⟨_, rfl, tl, _, _, _, rfl, rfl, SqL.of zt, rfl, by show 2 ≤ sizeLine; decide, fun l2 hl2 => ⟨_, rfl, _, 511, rfl, rfl, .inr ⟨_, rfl, ?_⟩⟩⟩⟩
      rw [decide_eq_false (show ¬ (511 : Int) < (pl : Int) by omega)]
      refine ⟨l2, _, _, .str "beyond", rfl, rfl, SqL.of upd_same, rfl, rfl, ?_⟩
      rw [decide_eq_true rfl]
      exact q _ (same_new hl2)
    | true =>
    rw [hrt, if_neg (by decide)] at L
    obtain ⟨p, ws, e1⟩ := there_some hrt
    obtain ⟨w0, _, w8⟩ := Good.word gd e1 (show pl / 8 / 8 < 8 by omega)
    have hw := wordN_of e1 w0
    refine iteF ⟨_, rfl, _, rfl, D, _, _, .ref p, rfl, rfl, SqL.of g.top, atI_nat (by rw [List.getElem?_map, e1]; rfl), _, rfl, _, 64, rfl, rfl, ⟨by decide, by decide⟩, p, _, _, .int (ws.getD (pl / 8 / 8) 0), rfl, rfl, SqL.of (g.each _ _ _ e1).1, (by show atI (ws.map V.int) ((pl : Int) / 64) = _; rw [show (pl : Int) / 64 = ((pl / 8 / 8 : Nat) : Int) by omega]; exact atI_word (by omega)), ?_⟩
    rw [hw]
    generalize hT : wordN qs rt (pl / 8 / 8) = T0 at *
    cases hl0 : lackN qs T0 wr k with
    | some z1 =>
      rw [hl0] at L
      cases L
      have zn : z ≠ ("" : Str) := fun y => absurd (lackD.mp (show (lackN qs T0 wr k).getD "" = ("" : Str) by rw [hl0, y]; rfl)) (by rw [hl0]; nofun)
      refine ⟨_, rfl, tl, _, _, _, rfl, rfl, SqL.of zt, rfl, rfl, _, rfl, iteFS (by rw [decide_eq_false (fun y => zn (V.str.inj y))]) ?_⟩
      refine ⟨_, rfl, tl, _, _, _, rfl, rfl, SqL.of zt, rfl, rfl, _, rfl, iteTS (by simp) ?_⟩
      refine ⟨_, rfl, _, rfl, _, rfl, _, rfl, D, qs, T0, wr, k, rfl, g, _, rfl, tl, _, _, _, rfl, rfl, SqL.of zt, rfl, ?_⟩
      rw [hl0]
      refine ⟨rfl, ?_⟩
      rw [show decide (V.str ((some z).getD "") = V.str z) = true from decide_eq_true rfl]
      exact q _ (Same.refl _)
    | none =>
    rw [hl0] at L
    have hp1 := lack_has hl0
    obtain ⟨n1, p1a, ws1, en1, e2⟩ := hasP_int hp1
    obtain rfl : n1 = T0 / 256 := by have := V.int.inj en1; omega
    obtain ⟨v0, _, v8⟩ := Good.word gd e2 (show pl / 8 % 8 < 8 by omega)
    have hw1 := wordN_of e2 v0
    generalize hT1 : wordN qs (T0 / 256) (pl / 8 % 8) = T1 at *
    cases hl1 : lackN qs T1 wr k with
    | none => rw [hl1] at L; cases L
    | some z1 =>
    rw [hl1] at L
    cases L
    have zn : z ≠ ("" : Str) := fun y => absurd (lackD.mp (show (lackN qs T1 wr k).getD "" = ("" : Str) by rw [hl1, y]; rfl)) (by rw [hl1]; nofun)
    refine ⟨_, rfl, tl, _, _, _, rfl, rfl, SqL.of zt, rfl, rfl, _, rfl, iteFS (by rw [decide_eq_false (fun y => zn (V.str.inj y))]) ?_⟩
    refine ⟨_, rfl, tl, _, _, _, rfl, rfl, SqL.of zt, rfl, rfl, _, rfl, iteFS (by simp) ?_⟩
    refine ⟨_, rfl, tl, _, _, _, rfl, rfl, SqL.of zt, rfl, rfl, _, rfl, iteFS (by simp) ?_⟩
    refine ⟨_, rfl, _, rfl, _, rfl, _, rfl, D, qs, T0, wr, k, rfl, g, rfl, _, rfl, iteFS (by rw [hl0]; show (!decide (V.str "" = V.str "")) = false; rw [decide_eq_true rfl]; rfl) ?_⟩
    refine ⟨_, rfl, _, rfl, _, rfl, _, 256, rfl, rfl, ⟨by decide, by decide⟩, D, _, _, .ref p1a, rfl, rfl, SqL.of g.top, (show atI (qs.map pgV) ((T0 / 256 : Nat) : Int) = _ from atI_nat (by rw [List.getElem?_map, e2]; rfl)), _, rfl, _, 8, rfl, rfl, ⟨by decide, by decide⟩, _, 8, rfl, rfl, (by show (0 : Int) < 8; decide), p1a, _, _, .int (ws1.getD (pl / 8 % 8) 0), rfl, rfl, SqL.of (g.each _ _ _ e2).1, (show atI (ws1.map V.int) ((pl / 8 % 8 : Nat) : Int) = _ from atI_word (by omega)), _, rfl, _, rfl, D, qs, T1, wr, k, congrArg (fun z => [V.ref D, V.int z, V.bl wr, V.bl k]) hw1, g, _, rfl, tl, _, _, _, rfl, rfl, SqL.of zt, rfl, ?_⟩
    rw [hl1]
    refine ⟨rfl, ?_⟩
    rw [show decide (V.str ((some z).getD "") = V.str z) = true from decide_eq_true rfl]
    exact q _ (Same.refl _)
theorem scLe : FnScope ["_law_pages", "_law_root", "_law_place", "_law_write", "_law_kernel", "_law_trail", "_law_high", "_law_low", "_law_rights"] ["_law_pages", "_law_root", "_law_place", "_law_write", "_law_kernel", "_law_trail"] (defScope sLeads) := ⟨rfl, rfl, rfl, by decide +kernel, rfl, by decide +kernel, by decide +kernel⟩
theorem ok_leads {f f1 f2 f3 : Addr} {fd fd1 fd2 fd3 : FuncData} (F : Fun K "_law_leads" "_law_leads" sLeads f fd) (D1 : Dn K mg "_law_there" sThere ["_law_pages", "_law_page"] f1 fd1) (G1 : FnOk P w K mg base CX0 1 f1 fd1 ["_law_pages", "_law_page"] spThere) (D2 : Dn K mg "_law_lack" sLack ["_law_pages", "_law_row_here", "_law_write", "_law_kernel"] f2 fd2) (G2 : FnOk P w K mg base CX0 2 f2 fd2 ["_law_pages", "_law_row_here", "_law_write", "_law_kernel"] spLack) (D3 : Dn K mg "_law_whole" sLWhole ["_law_found"] f3 fd3) (G3 : FnOk P w K mg base CX0 1 f3 fd3 ["_law_found"] spWhole) (T : Txt K mg) (TU : mg "tuple" = none ∧ mg "min" = none ∧ mg "max" = none) : FnOk P w K mg base CX0 3 f fd ["_law_pages", "_law_root", "_law_place", "_law_write", "_law_kernel", "_law_trail"] spLeads := by
  refine F.ok scLe (fun vs H Q E h => ?_) (fun cdv A outer s H vs Q E hr h => ?_)
  · obtain ⟨D, tt, t1, t2, qs, rt, pl, p1, pg, t, l, wr, k, rfl, _⟩ := h
    rfl
  · obtain ⟨D, tt, t1, t2, qs, rt, pl, p1, pg, t, l, wr, k, rfl, g, gd, lk, ztt, zt1, zt2, q⟩ := h
    have hr1 : Room 1 _ := hr.mono (by decide)
    refine ⟨_, (pss_cons (ps_if (PW.pt (pw_or (pt_not (pt_val (pe_callB call_istupT (by rfl) T.isi PyProof.Rows.boot_isinstance (pa_cons (pv 5) (pa_cons (pe_bltn (by rfl) TU.1 PyProof.Rows.boot_tuple (show RelV (.ty "tuple") (.type "tuple") from rfl)) pa_nil))))) (pw_or (pt_cmpR op_ne (pe_callB call_len_seq (by rfl) T.len PySem.boot_len (pa_cons (pv 5) pa_nil)) pe_int (nomark _)) (pw_or (pt_cmpR op_gt (pv 2) pe_int (nomark _)) (pw_or1 (pt_not (pt_val (pe_call G1 hr1 (by rfl) D1.m D1.F.kp D1.b .nil pass0 (pa_cons (pv 0) (pa_cons (pv 1) pa_nil)))))))))) (pss_one (ps_ret pe_bl)) pss_nil) (pss_cons (ps_if (pt_cmpR (op_neD hr.units) (pe_ix ix_tup (pv 5) pe_int (fun _ _ => rfl)) (pe_tup (pa_cons (pv 1) (pa_cons (pe_op op_fdiv (pv 2) pe_int) pa_nil))) (nomark _)) (pss_one (ps_ret pe_bl)) pss_nil) (pss_cons (ps_set (i := 6) scLe.nd rfl (Or.inl rfl) (pe_ix ix_list (pe_ix ix_list (pv 0) (pv 1) (fun _ _ => rfl)) (pe_op op_fdiv (pv 2) pe_int) (fun _ _ => rfl))) (pss_cons (ps_if (PW.pt (pw_or (pt_cmpR op_ne (pe_call G2 hr (by rfl) D2.m D2.F.kp D2.b .nil pass0 (pa_cons (pv 0) (pa_cons (pv 6) (pa_cons (pv 3) (pa_cons (pv 4) pa_nil))))) pe_str (nomark _)) (pw_or1 (pt_cmpR (op_neD hr.units) (pe_ix ix_tup (pv 5) pe_int (fun _ _ => rfl)) (pe_tup (pa_cons (pe_op op_fdiv (pv 6) pe_int) (pa_cons (pe_op op_mod (pe_op op_fdiv (pv 2) pe_int) pe_int) pa_nil))) (nomark _))))) (pss_one (ps_ret pe_bl)) pss_nil) (pss_cons (ps_set (i := 7) scLe.nd rfl (Or.inl rfl) (pe_ix ix_list (pe_ix ix_list (pv 0) (pe_op op_fdiv (pv 6) pe_int) (fun _ _ => rfl)) (pe_op op_mod (pe_op op_fdiv (pv 2) pe_int) pe_int) (fun _ _ => rfl))) (pss_cons (ps_if (PW.pt (pw_or (pt_cmpR op_ne (pe_call G2 hr (by rfl) D2.m D2.F.kp D2.b .nil pass0 (pa_cons (pv 0) (pa_cons (pv 7) (pa_cons (pv 3) (pa_cons (pv 4) pa_nil))))) pe_str (nomark _)) (pw_or (pt_not (pt_val (pe_call G3 hr1 (by rfl) D3.m D3.F.kp D3.b .nil pass0 (pa_cons (pe_ix ix_tup (pv 5) pe_int (fun _ _ => rfl)) pa_nil)))) (pw_or1 (pt_cmpR op_ne (pe_ix ix_tup (pv 5) pe_int (fun _ _ => rfl)) (pe_op op_fdiv (pv 7) pe_int) (nomark _)))))) (pss_one (ps_ret pe_bl)) pss_nil) (pss_cons (ps_set (i := 8) scLe.nd rfl (Or.inl rfl) (pe_op op_add (pe_op op_add (pe_op op_mul pe_int (pe_callB (call_min2 rfl) (by rfl) TU.2.1 PyProof.Rows.boot_min (pa_cons (pe_op op_mod (pe_op op_fdiv (pv 6) pe_int) pe_int) (pa_cons (pe_op op_mod (pe_op op_fdiv (pv 7) pe_int) pe_int) pa_nil)))) (pe_op op_mul pe_int (pe_callB (call_max2 rfl) (by rfl) TU.2.2 PyProof.Rows.boot_max (pa_cons (pe_op op_mod (pe_op op_fdiv (pv 6) pe_int) pe_int) (pa_cons (pe_op op_mod (pe_op op_fdiv (pv 7) pe_int) pe_int) pa_nil))))) (pe_op op_mul pe_int (pe_op op_mod (pe_op op_fdiv (pv 7) pe_int) pe_int)))) (pss_one (ps_ret (pe_and (pe_call G3 hr1 (by rfl) D3.m D3.F.kp D3.b .nil pass0 (pa_cons (pe_ix ix_tup (pv 5) pe_int (fun _ _ => rfl)) pa_nil)) (pe_one (pe_cmpR op_eq (pe_ix ix_tup (pv 5) pe_int (fun _ _ => rfl)) (pv 8) (nomark _))))))))))))), ?_⟩
    have L : lookN qs rt pl wr k = (if 512 ≤ pl then .fault "far" 0 else if hasP qs (.int (rt : Int)) = false then .fault "beyond" 0 else match lackN qs (wordN qs rt (pl / 8 / 8)) wr k with | some z => .fault z 1 | none => match lackN qs (wordN qs (wordN qs rt (pl / 8 / 8) / 256) (pl / 8 % 8)) wr k with | some z => .fault z 2 | none => .trail (wordN qs rt (pl / 8 / 8) / 256) (wordN qs (wordN qs rt (pl / 8 / 8) / 256) (pl / 8 % 8) / 256) (wordN qs rt (pl / 8 / 8)) (wordN qs (wordN qs rt (pl / 8 / 8) / 256) (pl / 8 % 8))) := rfl
    rw [lk] at L
    have ss : Same H H := Same.refl _
    have c : ¬ 511 < pl := fun c => by rw [if_pos (by omega)] at L; cases L
    rw [if_neg (by omega), has_there] at L
    have hrt : isThere qs[rt]? = true := by
      cases h : isThere qs[rt]? with
      | true => rfl
      | false => rw [h, if_pos rfl] at L; cases L
    rw [hrt, if_neg (by decide)] at L
    refine ⟨_, rfl, _, rfl, .tup ztt, _, rfl, iteFS (by show (!isTup H (.ref tt)) = false; simp only [isTup, ztt]; rfl) ?_⟩
    refine ⟨_, rfl, tt, _, rfl, .inr (SqT.of ztt), rfl, _, rfl, iteFS rfl ?_⟩
    refine ⟨_, rfl, _, 511, rfl, rfl, _, rfl, iteFS (decide_eq_false (show ¬ (511 : Int) < (pl : Int) by omega)) ?_⟩
    refine ⟨_, rfl, _, rfl, D, qs, rt, rfl, g, _, rfl, ?_⟩
    rw [hrt]
    refine iteF ⟨_, rfl, tt, _, _, .ref t1, rfl, rfl, SqT.of (ss _ _ ztt), rfl, _, rfl, _, rfl, _, 64, rfl, rfl, ⟨by decide, by decide⟩, by show 2 ≤ sizeLine; decide, fun u1 hu1 => ?_⟩
    dsimp only
    rw [show (pl : Int) / 64 = ((pl / 8 / 8 : Nat) : Int) by omega]
    have s1 := same_new (o := .tup [.int (rt : Int), .int ((pl / 8 / 8 : Nat) : Int)]) hu1
    have zu1 : upd H u1 (.tup [.int (rt : Int), .int ((pl / 8 / 8 : Nat) : Int)]) u1 = some (.tup [.int (rt : Int), .int ((pl / 8 / 8 : Nat) : Int)]) := upd_same
    generalize upd H u1 (.tup [.int (rt : Int), .int ((pl / 8 / 8 : Nat) : Int)]) = H1 at *
    refine ⟨_, _, .tup (SqT.of (s1 _ _ zt1)) (.cons (.int _) (.cons (.int _) .nil)), .tup (SqT.of (zu1)) (.cons (.int _) (.cons (.int _) .nil)), shP _ _, shP _ _, _, rfl, iteFS (by rw [eqP]; rfl) ?_⟩
    have q0 := q
    have ss := s1
    have g := g.same s1
    clear hu1 zu1
    obtain ⟨p, ws, e1⟩ := there_some hrt
    obtain ⟨w0, _, w8⟩ := Good.word gd e1 (show pl / 8 / 8 < 8 by omega)
    have hw := wordN_of e1 w0
    refine ⟨_, rfl, _, rfl, D, _, _, .ref p, rfl, rfl, SqL.of g.top, atI_nat (by rw [List.getElem?_map, e1]; rfl), _, rfl, _, 64, rfl, rfl, ⟨by decide, by decide⟩, p, _, _, .int (ws.getD (pl / 8 / 8) 0), rfl, rfl, SqL.of (g.each _ _ _ e1).1, (by show atI (ws.map V.int) ((pl : Int) / 64) = _; rw [show (pl : Int) / 64 = ((pl / 8 / 8 : Nat) : Int) by omega]; exact atI_word (by omega)), ?_⟩
    rw [hw]
    generalize hT : wordN qs rt (pl / 8 / 8) = T0 at *
    cases hl0 : lackN qs T0 wr k with
    | some z => rw [hl0] at L; cases L
    | none =>
    rw [hl0] at L
    have hp1 := lack_has hl0
    obtain ⟨n1, p1a, ws1, en1, e2⟩ := hasP_int hp1
    obtain rfl : n1 = T0 / 256 := by have := V.int.inj en1; omega
    obtain ⟨v0, _, v8⟩ := Good.word gd e2 (show pl / 8 % 8 < 8 by omega)
    have hw1 := wordN_of e2 v0
    generalize hT1 : wordN qs (T0 / 256) (pl / 8 % 8) = T1 at *
    cases hl1 : lackN qs T1 wr k with
    | some z => rw [hl1] at L; cases L
    | none =>
    rw [hl1] at L
    cases L
    refine ⟨_, rfl, _, rfl, _, rfl, _, rfl, D, qs, _, wr, k, rfl, g, rfl, _, rfl, iteFS (by rw [hl0]; show (!decide (V.str "" = V.str "")) = false; rw [decide_eq_true rfl]; rfl) ?_⟩
    refine ⟨_, rfl, tt, _, _, .ref t2, rfl, rfl, SqT.of (ss _ _ ztt), rfl, _, rfl, _, 256, rfl, rfl, ⟨by decide, by decide⟩, _, rfl, _, 8, rfl, rfl, ⟨by decide, by decide⟩, _, 8, rfl, rfl, (by show (0 : Int) < 8; decide), by show 2 ≤ sizeLine; decide, fun u2 hu2 => ?_⟩
    have s2 := same_new (o := .tup [.int ((t : Int) / 256), .int ((pl : Int) / 8 % 8)]) hu2
    have zu2 : upd H1 u2 (.tup [.int ((t : Int) / 256), .int ((pl : Int) / 8 % 8)]) u2 = some (.tup [.int ((t / 256 : Nat) : Int), .int ((pl / 8 % 8 : Nat) : Int)]) := upd_same
    dsimp only
    generalize upd H1 u2 (.tup [.int ((t : Int) / 256), .int ((pl : Int) / 8 % 8)]) = H2 at *
    refine ⟨_, _, .tup (SqT.of (s2 _ _ (s1 _ _ zt2))) (.cons (.int _) (.cons (.int _) .nil)), .tup (SqT.of (zu2)) (.cons (.int _) (.cons (.int _) .nil)), shP _ _, shP _ _, _, rfl, iteFS (by rw [eqP]; rfl) ?_⟩
    have ss := s1.trans s2
    have g := g.same s2
    refine ⟨_, rfl, _, rfl, _, 256, rfl, rfl, ⟨by decide, by decide⟩, D, _, _, .ref p1a, rfl, rfl, SqL.of g.top, (show atI (qs.map pgV) ((t / 256 : Nat) : Int) = _ from atI_nat (by rw [List.getElem?_map, e2]; rfl)), _, rfl, _, 8, rfl, rfl, ⟨by decide, by decide⟩, _, 8, rfl, rfl, (by show (0 : Int) < 8; decide), p1a, _, _, .int (ws1.getD (pl / 8 % 8) 0), rfl, rfl, SqL.of (g.each _ _ _ e2).1, (show atI (ws1.map V.int) ((pl / 8 % 8 : Nat) : Int) = _ from atI_word (by omega)), ?_⟩
    rw [hw1]
    refine ⟨_, rfl, _, rfl, _, rfl, _, rfl, D, qs, _, wr, k, rfl, g, rfl, _, rfl, iteFS (by rw [hl1]; show (!decide (V.str "" = V.str "")) = false; rw [decide_eq_true rfl]; rfl) ?_⟩
    refine ⟨_, rfl, tt, _, _, .int _, rfl, rfl, SqT.of (ss _ _ ztt), rfl, _, rfl, .int _, _, rfl, iteFS rfl ⟨_, rfl, tt, _, _, .int _, rfl, rfl, SqT.of (ss _ _ ztt), rfl, _, rfl, _, 256, rfl, rfl, ⟨by decide, by decide⟩, rfl, _, rfl, iteFS (by show (!decide (V.int ((l / 256 : Nat) : Int) = V.int ((l : Int) / 256))) = false; rw [show decide (V.int ((l / 256 : Nat) : Int) = V.int ((l : Int) / 256)) = true from decide_eq_true rfl]; rfl) ?_⟩⟩
    refine ⟨_, rfl, _, 2, rfl, rfl, ⟨by decide, by decide⟩, _, 2, rfl, rfl, (by show (0 : Int) < 2; decide), _, rfl, _, 2, rfl, rfl, ⟨by decide, by decide⟩, _, 2, rfl, rfl, (by show (0 : Int) < 2; decide), _, _, rfl, 2, _, rfl, rfl, .inl ⟨by decide, by decide⟩, _, rfl, _, 4, rfl, rfl, ⟨by decide, by decide⟩, _, 2, rfl, rfl, (by show (0 : Int) < 2; decide), _, rfl, _, 4, rfl, rfl, ⟨by decide, by decide⟩, _, 2, rfl, rfl, (by show (0 : Int) < 2; decide), _, _, rfl, 4, _, rfl, rfl, .inl ⟨by decide, by decide⟩, _, _, rfl, rfl, _, rfl, _, 16, rfl, rfl, ⟨by decide, by decide⟩, _, 2, rfl, rfl, (by show (0 : Int) < 2; decide), 16, _, rfl, rfl, .inl ⟨by decide, by decide⟩, _, _, rfl, rfl, ?_⟩
    dsimp only
    rw [rig_due]
    refine ⟨_, rfl, tt, _, _, .int _, rfl, rfl, SqT.of (ss _ _ ztt), rfl, _, rfl, .int _, _, rfl, iteT ⟨_, rfl, tt, _, _, .int _, rfl, rfl, SqT.of (ss _ _ ztt), rfl, _, rfl, rfl, ?_⟩⟩
    rw [decide_eq_true rfl]
    exact q _ ss
theorem scPu : FnScope ["_law_pages", "_law_spot", "_law_write", "_law_word"] ["_law_pages", "_law_spot", "_law_write"] (defScope sPutL) := ⟨rfl, rfl, rfl, by decide +kernel, rfl, by decide +kernel, by decide +kernel⟩
theorem ok_putl {f : Addr} {fd : FuncData} (F : Fun K "_law_put" "_law_put" sPutL f fd) : FnOk P w K mg base CX0 1 f fd ["_law_pages", "_law_spot", "_law_write"] spPutL := by
  refine F.ok scPu (fun vs H Q E h => ?_) (fun cdv A1 outer s H vs Q E hr h => ?_)
  · obtain ⟨D, sp, qs, i, j, wr, rfl, _⟩ := h
    rfl
  · obtain ⟨D, sp, qs, i, j, wr, rfl, g, gd, zs, hp, j8, q⟩ := h
    obtain ⟨n, p, ws, en, e1⟩ := hasP_int hp
    obtain rfl : i = n := by have := V.int.inj en; omega
    obtain ⟨w0, w1, w8⟩ := Good.word gd e1 j8
    have hw := wordN_of e1 w0
    have fin : ∀ v : Int, v = ((wordN qs i j ||| (if wr then 24 else 8) : Nat) : Int) → Q .non (upd H p (.lst ((ws.map V.int).set j (.int v)))) := fun v hv => by
      refine q _ ?_ fun b o nb z => ?_
      · rw [hv]
        exact g.setW e1
      · rw [upd_ne (show b ≠ p from fun y => nb (by rw [y]; exact .inr ⟨_, ws, e1⟩))]
        exact z
    obtain ⟨t2, R2, hR2⟩ : ∃ tr, PSs (cxOf CX0 P w K mg base ["_law_pages", "_law_spot", "_law_write", "_law_word"] "_law_put" (defScope sPutL) f cdv A1 outer s H E).nox ((defBody sPutL).drop 2) tr ∧ ∀ (w : Nat), w = wordN qs i j ||| 8 → tr { nx := fun _ H' => Q .non H', rt := Q } [some (.ref D), some (.ref sp), some (.bl wr), some (.int (w : Int))] H := by
      refine ⟨_, (pss_cons (ps_if (PW.pt (pw_and (pt_val (pv 2)) (pw_and1 (pt_cmpR op_eq (pe_op op_mod (pe_op op_fdiv (pv 3) pe_int) pe_int) pe_int (nomark _))))) (pss_one (ps_set (i := 3) scPu.nd rfl (Or.inl rfl) (pe_op op_add (pv 3) pe_int))) pss_nil) (pss_one (ps_asg (pv 3) (pg_sub (pe_ix ix_list (pv 0) (pe_ix ix_tup (pv 1) pe_int (fun _ _ => rfl)) (fun _ _ => rfl)) (pe_ix ix_tup (pv 1) pe_int (fun _ _ => rfl)) set_list)))), fun w hw8 => ?_⟩
      refine ⟨_, rfl, _, rfl, and3 (d := decide (V.int ((w : Int) / 16 % 2) = V.int 0)) (fun z => ⟨_, rfl, _, 16, rfl, rfl, ⟨by decide, by decide⟩, _, 2, rfl, rfl, (by show (0 : Int) < 2; decide), rfl, _, rfl, z⟩) (fun cw c => ?_) (fun c => ?_)⟩
      · have c := V.int.inj (of_decide_eq_true c)
        refine ⟨_, rfl, _, _, rfl, rfl, _, rfl, _, rfl, _, rfl, sp, _, _, .int (i : Int), rfl, rfl, SqT.of zs, rfl, D, _, _, .ref p, rfl, rfl, SqL.of g.top, atI_nat (by rw [List.getElem?_map, e1]; rfl), _, rfl, sp, _, _, .int (j : Int), rfl, rfl, SqT.of zs, rfl,  p, _, _, j, rfl, rfl, (g.each _ _ _ e1).1, ixN_nat (by rw [List.length_map]; omega), fin _ ?_⟩
        show (w : Int) + 16 = _
        rw [cw, if_pos rfl, or24, ← hw8, or16, if_pos (by omega)]
        rfl
      · refine ⟨_, rfl, _, rfl, _, rfl, sp, _, _, .int (i : Int), rfl, rfl, SqT.of zs, rfl, D, _, _, .ref p, rfl, rfl, SqL.of g.top, atI_nat (by rw [List.getElem?_map, e1]; rfl), _, rfl, sp, _, _, .int (j : Int), rfl, rfl, SqT.of zs, rfl,  p, _, _, j, rfl, rfl, (g.each _ _ _ e1).1, ixN_nat (by rw [List.length_map]; omega), fin _ ?_⟩
        cases wr with
        | false => rw [hw8]; rfl
        | true =>
          rw [if_pos rfl, or24, ← hw8, or16, if_neg (fun y => c ⟨rfl, decide_eq_true (congrArg V.int (by omega))⟩)]
    refine ⟨_, pss_cons (ps_set (i := 3) scPu.nd rfl (Or.inl rfl) (pe_ix ix_list (pe_ix ix_list (pv 0) (pe_ix ix_tup (pv 1) pe_int (fun _ _ => rfl)) (fun _ _ => rfl)) (pe_ix ix_tup (pv 1) pe_int (fun _ _ => rfl)) (fun _ _ => rfl))) (pss_cons (ps_if (pt_cmpR op_eq (pe_op op_mod (pe_op op_fdiv (pv 3) pe_int) pe_int) pe_int (nomark _)) (pss_one (ps_set (i := 3) scPu.nd rfl (Or.inl rfl) (pe_op op_add (pv 3) pe_int))) pss_nil) R2), ?_⟩
    refine ⟨_, rfl, _, rfl, sp, _, _, .int (i : Int), rfl, rfl, SqT.of zs, rfl, D, _, _, .ref p, rfl, rfl, SqL.of g.top, atI_nat (by rw [List.getElem?_map, e1]; rfl), _, rfl, sp, _, _, .int (j : Int), rfl, rfl, SqT.of zs, rfl, p, _, _, _, rfl, rfl, SqL.of (g.each _ _ _ e1).1, atI_word (by omega), ?_⟩
    rw [hw]
    refine ⟨_, rfl, _, 8, rfl, rfl, ⟨by decide, by decide⟩, _, 2, rfl, rfl, (by show (0 : Int) < 2; decide), rfl, _, rfl, ite2 (fun c => ?_) (fun c => ?_)⟩
    · have c := V.int.inj (of_decide_eq_true c)
      exact ⟨_, rfl, _, _, rfl, rfl, hR2 (wordN qs i j + 8) (by rw [or8, if_pos (by omega)])⟩
    · exact hR2 (wordN qs i j) (by rw [or8, if_neg (fun y => c (decide_eq_true (congrArg V.int (by omega))))])
end
end K17
end
section
namespace K17
open PySem L2
theorem wordN_set {ps : Pgs} {i j : Nat} {v : Int} {p : Addr} {ws : List Int} (e : ps[i]? = some (some (p, ws))) (hj : j < ws.length) (x y : Nat) : wordN (setW ps i j v) x y = if x = i ∧ y = j then v.toNat else wordN ps x y := by
  rw [setW_at e]
  unfold wordN
  by_cases hx : x = i
  · subst hx
    rw [List.getElem?_set_self (List.getElem?_eq_some_iff.mp e).1, e]
    by_cases hy : y = j
    · subst hy
      simp [hj]
    · have : j ≠ y := fun z => hy z.symm
      simp [hy, this, List.getElem?_set_ne]
  · have : i ≠ x := fun z => hx z.symm
    rw [List.getElem?_set_ne this, if_neg (fun z => hx z.1)]
theorem cont_mkN {ps qs : Pgs} (h : cont ps = cont qs) (i j m : Nat) : cont (mkN ps i j m) = cont (mkN qs i j m) := by
  unfold mkN
  rw [wordN_cont h]
  exact cont_setW h i j _
theorem look_trail {ps : Pgs} {rt pl : Nat} {wr k : Bool} {p1 pg t l : Nat} (e : lookN ps rt pl wr k = .trail p1 pg t l) : pl < 512 ∧ hasP ps (.int (rt : Int)) = true ∧ hasP ps (.int (p1 : Int)) = true ∧ hasP ps (.int (pg : Int)) = true ∧ t = wordN ps rt (pl / 8 / 8) ∧ p1 = t / 256 ∧ l = wordN ps p1 (pl / 8 % 8) ∧ pg = l / 256 ∧ lackN ps t wr k = none ∧ lackN ps l wr k = none := by
  unfold lookN at e
  split at e
  · cases e
  rename_i h1
  split at e
  · cases e
  rename_i h2
  cases h3 : lackN ps (wordN ps rt (pl / 8 / 8)) wr k with
  | some z => rw [h3] at e; cases e
  | none =>
  rw [h3] at e
  cases h4 : lackN ps (wordN ps (wordN ps rt (pl / 8 / 8) / 256) (pl / 8 % 8)) wr k with
  | some z => rw [h4] at e; cases e
  | none =>
  rw [h4] at e
  cases e
  refine ⟨by omega, ?_, lack_has h3, lack_has h4, rfl, rfl, rfl, rfl, h3, h4⟩
  cases hb : hasP ps (.int (rt : Int)) with
  | true => rfl
  | false => exact absurd hb h2
def Up (w v : Nat) : Prop := v / 256 = w / 256 ∧ v % 8 = w % 8
theorem bits8 {w v : Nat} (h : v % 8 = w % 8) : v / 2 % 2 = w / 2 % 2 ∧ v / 4 % 2 = w / 4 % 2 := ⟨by omega, by omega⟩
theorem rig_up {t l T L : Nat} {wr : Bool} (hT : T % 8 = t % 8) (hL : L % 8 = l % 8) (c : L / 16 % 2 = if wr then 1 else l / 16 % 2) : rigN T L = (if wr then rigN t l ||| 16 else rigN t l) := by
  rw [rigN_eq, (bits8 hT).1, (bits8 hT).2, (bits8 hL).1, (bits8 hL).2, c]
  clear c hT hL
  cases wr with
  | false => exact (rigN_eq t l).symm
  | true =>
    rw [if_pos rfl, if_pos rfl, rig_16, rigN_eq]
    rcases Nat.mod_two_eq_zero_or_one (t / 2) with h1 | h1 <;> rcases Nat.mod_two_eq_zero_or_one (l / 2) with h2 | h2 <;> rcases Nat.mod_two_eq_zero_or_one (t / 4) with h3 | h3 <;> rcases Nat.mod_two_eq_zero_or_one (l / 4) with h4 | h4 <;> rcases Nat.mod_two_eq_zero_or_one (l / 16) with h5 | h5 <;> rw [h1, h2, h3, h4, h5] <;> decide
theorem up8 (w : Nat) : Up w (w ||| 8) ∧ (w ||| 8) / 16 % 2 = w / 16 % 2 := by
  rw [or8]
  split
  · exact ⟨⟨by omega, by omega⟩, by omega⟩
  · exact ⟨⟨rfl, rfl⟩, rfl⟩
theorem up16 (w : Nat) : Up w (w ||| 16) ∧ (w ||| 16) / 16 % 2 = 1 := by
  rw [or16]
  split
  · exact ⟨⟨by omega, by omega⟩, by omega⟩
  · exact ⟨⟨rfl, rfl⟩, by omega⟩
theorem upm (w : Nat) (wr : Bool) : Up w (w ||| (if wr then 24 else 8)) ∧ (w ||| (if wr then 24 else 8)) / 16 % 2 = (if wr then 1 else w / 16 % 2) := by
  cases wr with
  | false => exact up8 w
  | true =>
    show Up w (w ||| 24) ∧ (w ||| 24) / 16 % 2 = 1
    rw [or24]
    obtain ⟨⟨a, b⟩, _⟩ := up8 w
    obtain ⟨⟨c, d⟩, e⟩ := up16 (w ||| 8)
    exact ⟨⟨c.trans a, d.trans b⟩, e⟩
theorem Up.lack {ps qs : Pgs} {w v : Nat} {wr k : Bool} (u : Up w v) (h : ∀ x : Nat, hasP qs (.int (x : Int)) = hasP ps (.int (x : Int))) : lackN qs v wr k = lackN ps w wr k := by
  obtain ⟨a, b⟩ := u
  rw [lack_eq, lack_eq, a, h, show v % 2 = w % 2 by omega, show v / 4 % 2 = w / 4 % 2 by omega, show v / 2 % 2 = w / 2 % 2 by omega]
theorem look_again {ps : Pgs} {rt pl p1 pg t l : Nat} {wr k : Bool} (gd : Good ps) (h : lookN ps rt pl wr k = .trail p1 pg t l) (hr : pl < 512 ∧ hasP ps (.int (rt : Int)) = true ∧ hasP ps (.int (p1 : Int)) = true ∧ hasP ps (.int (pg : Int)) = true ∧ t = wordN ps rt (pl / 8 / 8) ∧ p1 = t / 256 ∧ l = wordN ps p1 (pl / 8 % 8) ∧ pg = l / 256 ∧ lackN ps t wr k = none ∧ lackN ps l wr k = none) :
    ∃ t' l', lookN (mkN (mkN ps rt (pl / 8 / 8) 8) p1 (pl / 8 % 8) (if wr then 24 else 8)) rt pl wr k = .trail p1 pg t' l' ∧ rigN t' l' = (if wr then rigN t l ||| 16 else rigN t l) := by
  obtain ⟨hp, h0, h1, h2, et, ep, el, eg, k0, k1⟩ := hr
  obtain ⟨n0, q0, w0, en0, e0⟩ := hasP_int h0
  obtain rfl : rt = n0 := by have := V.int.inj en0; omega
  obtain ⟨n1, q1, w1, en1, e1⟩ := hasP_int (show hasP (mkN ps rt (pl / 8 / 8) 8) (.int (p1 : Int)) = true by rw [hasP_mkN]; exact h1)
  obtain rfl : p1 = n1 := by have := V.int.inj en1; omega
  have gd1 := Good.mkN gd e0 (show pl / 8 / 8 < 8 by omega) (show 8 < 256 by decide)
  have l0 := (Good.word gd e0 (show pl / 8 / 8 < 8 by omega)).2.2
  have l1 := (Good.word gd1 e1 (show pl / 8 % 8 < 8 by omega)).2.2
  have wA := fun x y => wordN_set (v := ((wordN ps rt (pl / 8 / 8) ||| 8 : Nat) : Int)) e0 (show pl / 8 / 8 < w0.length by omega) x y
  have wB := fun x y => wordN_set (v := ((wordN (mkN ps rt (pl / 8 / 8) 8) p1 (pl / 8 % 8) ||| (if wr then 24 else 8) : Nat) : Int)) e1 (show pl / 8 % 8 < w1.length by omega) x y
  have a0 : ∀ x y, wordN (mkN ps rt (pl / 8 / 8) 8) x y = if x = rt ∧ y = pl / 8 / 8 then wordN ps rt (pl / 8 / 8) ||| 8 else wordN ps x y := fun x y => by
    have := wA x y
    rw [Int.toNat_natCast] at this
    exact this
  have b0 : ∀ x y, wordN (mkN (mkN ps rt (pl / 8 / 8) 8) p1 (pl / 8 % 8) (if wr then 24 else 8)) x y = if x = p1 ∧ y = pl / 8 % 8 then wordN (mkN ps rt (pl / 8 / 8) 8) p1 (pl / 8 % 8) ||| (if wr then 24 else 8) else wordN (mkN ps rt (pl / 8 / 8) 8) x y := fun x y => by
    have := wB x y
    rw [Int.toNat_natCast] at this
    exact this
  have hh : ∀ x : Nat, hasP (mkN (mkN ps rt (pl / 8 / 8) 8) p1 (pl / 8 % 8) (if wr then 24 else 8)) (.int (x : Int)) = hasP ps (.int (x : Int)) := fun x => by rw [hasP_mkN, hasP_mkN]
  have uM : Up l (wordN (mkN ps rt (pl / 8 / 8) 8) p1 (pl / 8 % 8)) ∧ wordN (mkN ps rt (pl / 8 / 8) 8) p1 (pl / 8 % 8) / 16 % 2 = l / 16 % 2 := by
    rw [a0]
    split
    · rename_i z
      rw [show wordN ps rt (pl / 8 / 8) = l by rw [el, z.1, z.2]]
      exact up8 l
    · rw [← el]
      exact ⟨⟨rfl, rfl⟩, rfl⟩
  obtain ⟨⟨ua, ub⟩, uc⟩ := uM
  obtain ⟨⟨va, vb⟩, vc⟩ := upm (wordN (mkN ps rt (pl / 8 / 8) 8) p1 (pl / 8 % 8)) wr
  have eL : wordN (mkN (mkN ps rt (pl / 8 / 8) 8) p1 (pl / 8 % 8) (if wr then 24 else 8)) p1 (pl / 8 % 8) = wordN (mkN ps rt (pl / 8 / 8) 8) p1 (pl / 8 % 8) ||| (if wr then 24 else 8) := by rw [b0, if_pos ⟨rfl, rfl⟩]
  have uL : Up l (wordN (mkN (mkN ps rt (pl / 8 / 8) 8) p1 (pl / 8 % 8) (if wr then 24 else 8)) p1 (pl / 8 % 8)) := by rw [eL]; exact ⟨va.trans ua, vb.trans ub⟩
  have cL : wordN (mkN (mkN ps rt (pl / 8 / 8) 8) p1 (pl / 8 % 8) (if wr then 24 else 8)) p1 (pl / 8 % 8) / 16 % 2 = if wr then 1 else l / 16 % 2 := by rw [eL, vc, uc]
  have uT : Up t (wordN (mkN (mkN ps rt (pl / 8 / 8) 8) p1 (pl / 8 % 8) (if wr then 24 else 8)) rt (pl / 8 / 8)) := by
    rw [b0]
    split
    · rename_i z
      obtain ⟨z1, z2⟩ := z
      have : t = l := by rw [et, el, z1, z2]
      rw [this]
      exact ⟨va.trans ua, vb.trans ub⟩
    · rw [a0, if_pos ⟨rfl, rfl⟩, ← et]
      exact (up8 t).1
  generalize hT : wordN (mkN (mkN ps rt (pl / 8 / 8) 8) p1 (pl / 8 % 8) (if wr then 24 else 8)) rt (pl / 8 / 8) = T at *
  refine ⟨T, wordN (mkN (mkN ps rt (pl / 8 / 8) 8) p1 (pl / 8 % 8) (if wr then 24 else 8)) p1 (pl / 8 % 8), ?_, ?_⟩
  · unfold lookN
    rw [if_neg (by omega), hh, if_neg (by rw [h0]; decide), hT, uT.lack hh, k0]
    dsimp only
    rw [uT.1, ← ep, uL.lack hh, k1]
    dsimp only
    rw [uL.1, ← eg]
  · exact rig_up uT.2 uL.2 cL
structure Two (C : Addr) (H : Hp) (m h D : Addr) (ps qs : Pgs) : Prop where
  M : Mem C H m h ps
  g : Pg H D qs
  c : cont ps = cont qs
  ap : ∀ b, At h ps b → ¬ At D qs b
theorem Two.same {C : Addr} {H H' : Hp} {m h D : Addr} {ps qs : Pgs} (B : Two C H m h D ps qs) (s : Same H H') : Two C H' m h D ps qs := ⟨B.M.same s, B.g.same s, B.c, B.ap⟩
def spRchd (C : Addr) : Sp := fun vs H Q _ => ∃ (m h D : Addr) (ps qs : Pgs) (rt pl : Nat) (wr k : Bool), vs = [.ref m, .ref D, .int (rt : Int), .int (pl : Int), .bl wr, .bl k] ∧ Two C H m h D ps qs ∧ ∀ H' ps' qs', Two C H' m h D ps' qs' → (∀ b, At h ps' b → At h ps b) → (∀ b, At D qs' b → At D qs b) → (∀ x : Nat, hasP qs' (.int (x : Int)) = hasP qs (.int (x : Int))) → ps'.length = ps.length → (∀ b o, ¬ At h ps b → ¬ At D qs b → H b = some o → H' b = some o) → Q (.bl true) H'
section
variable {P : Program} {w : World} {K : PySem.W.Frag} {mg : Str → Option Value} {base : Heap} {C NP NL NW NI SC PL WC FA : Addr}
theorem scRe : FnScope ["_law_store", "_law_pages", "_law_root", "_law_place", "_law_write", "_law_kernel", "_law_trail", "_law_told", "e", "_law_rights", "_law_again"] ["_law_store", "_law_pages", "_law_root", "_law_place", "_law_write", "_law_kernel"] (defScope sRchd) := ⟨rfl, rfl, rfl, by decide +kernel, rfl, by decide +kernel, by decide +kernel⟩
theorem ok_rchd {f f1 f2 f3 f4 f5 f6 fI : Addr} {fd fd1 fd2 fd3 fd4 fd5 fd6 : FuncData} (F : Fun K "_law_reached" "_law_reached" sRchd f fd) (D1 : Dn K mg "look" sLook ["store", "root", "place", "write", "kernel"] f1 fd1) (G1 : FnOk P w K mg base (CXr P w) 8 f1 fd1 ["store", "root", "place", "write", "kernel"] (spLook C SC FA)) (D2 : Dn K mg "_law_faulty" sFaulty ["_law_pages", "_law_root", "_law_place", "_law_write", "_law_kernel", "_law_told"] f2 fd2) (G2 : FnOk P w K mg base CX0 3 f2 fd2 ["_law_pages", "_law_root", "_law_place", "_law_write", "_law_kernel", "_law_told"] spFaulty) (D3 : Dn K mg "_law_leads" sLeads ["_law_pages", "_law_root", "_law_place", "_law_write", "_law_kernel", "_law_trail"] f3 fd3) (G3 : FnOk P w K mg base CX0 3 f3 fd3 ["_law_pages", "_law_root", "_law_place", "_law_write", "_law_kernel", "_law_trail"] spLeads) (D4 : Dn K mg "mark" sMark ["store", "trail", "write"] f4 fd4) (G4 : FnOk P w K mg base CX0 9 f4 fd4 ["store", "trail", "write"] (spMark C SC)) (D5 : Dn K mg "_law_put" sPutL ["_law_pages", "_law_spot", "_law_write"] f5 fd5) (G5 : FnOk P w K mg base CX0 1 f5 fd5 ["_law_pages", "_law_spot", "_law_write"] spPutL) (D6 : Dn K mg "_law_whole" sLWhole ["_law_found"] f6 fd6) (G6 : FnOk P w K mg base CX0 1 f6 fd6 ["_law_found"] spWhole) (FL : Flt K mg FA fI) (XF : PySem.W.exmOne K (.ref FA) (.ref FA) = some true) (T : Txt K mg) : FnOk P w K mg base CX0 10 f fd ["_law_store", "_law_pages", "_law_root", "_law_place", "_law_write", "_law_kernel"] (spRchd C) := by
  refine F.ok scRe (fun vs H Q E h' => ?_) (fun cdv A outer s H vs Q E hr h' => ?_)
  · obtain ⟨m, h, D, ps, qs, rt, pl, wr, k, rfl, _⟩ := h'
    rfl
  · obtain ⟨m, h, D, ps, qs, rt, pl, wr, k, rfl, B, q⟩ := h'
    have hr8 : Room 8 _ := hr.mono (by decide)
    have hr3 : Room 3 _ := hr.mono (by decide)
    have hr1 : Room 1 _ := hr.mono (by decide)
    refine ⟨_, (pss_cons (ps_set (i := 6) scRe.nd rfl (Or.inl rfl) pe_non) (pss_cons (ps_set (i := 7) scRe.nd rfl (Or.inl rfl) (pe_lst pa_nil)) (pss_cons (ps_try (i := 8) scRe.nd rfl rfl rfl rfl FL.m (psx_set (i := 6) scRe.nd rfl (Or.inl rfl) (pex_call G1 hr8 (by rfl) D1.m D1.F.kp D1.b .nil (pa_consK (pv 0) (pa_consK (pv 2) (pa_consK (pv 3) (pa_consK (pv 4) (pa_consK (pv 5) pa_nil))))))) (fun e => (pss_one (ps_set (i := 7) scRe.nd rfl (Or.inl rfl) (pe_lst (pa_cons (pe_xfldK (K := K) rfl (pv 8) rfl) (pa_cons (pe_xfldK (K := K) rfl (pv 8) rfl) (pa_cons (pe_xfldK (K := K) rfl (pv 8) rfl) pa_nil)))))))) (pss_cons (ps_if (pt_cmpR op_isN (pv 6) pe_non (nomark _)) (pss_one (ps_ret (pe_and (pe_cmpR (op_neD hr.units) (pv 7) (pe_lst pa_nil) (nomark _)) (pe_one (pe_call G2 hr3 (by rfl) D2.m D2.F.kp D2.b .nil pass0 (pa_consK (pv 1) (pa_consK (pv 2) (pa_consK (pv 3) (pa_consK (pv 4) (pa_consK (pv 5) (pa_consK (pv 7) pa_nil))))))))))) pss_nil) (pss_cons (ps_if (pt_not (pt_val (pe_call G3 hr3 (by rfl) D3.m D3.F.kp D3.b .nil pass0 (pa_consK (pv 1) (pa_consK (pv 2) (pa_consK (pv 3) (pa_consK (pv 4) (pa_consK (pv 5) (pa_consK (pv 6) pa_nil))))))))) (pss_one (ps_ret pe_bl)) pss_nil) (pss_cons (ps_set (i := 9) scRe.nd rfl (Or.inl rfl) (pe_call G4 hr (by rfl) D4.m D4.F.kp D4.b .nil pass0 (pa_cons (pv 0) (pa_cons (pv 6) (pa_cons (pv 4) pa_nil))))) (pss_cons (ps_expr (pe_call G5 hr1 (by rfl) D5.m D5.F.kp D5.b .nil pass0 (pa_cons (pv 1) (pa_cons (pe_ix ix_tup (pv 6) pe_int (fun _ _ => rfl)) (pa_cons pe_bl pa_nil))))) (pss_cons (ps_expr (pe_call G5 hr1 (by rfl) D5.m D5.F.kp D5.b .nil pass0 (pa_cons (pv 1) (pa_cons (pe_ix ix_tup (pv 6) pe_int (fun _ _ => rfl)) (pa_cons (pv 4) pa_nil))))) (pss_cons (ps_set (i := 10) scRe.nd rfl (Or.inl rfl) (pe_call G1 hr8 (by rfl) D1.m D1.F.kp D1.b .nil passX0 (pa_consK (pv 0) (pa_consK (pv 2) (pa_consK (pv 3) (pa_consK (pv 4) (pa_consK (pv 5) pa_nil))))))) (pss_one (ps_ret (pe_and (pe_call G3 hr3 (by rfl) D3.m D3.F.kp D3.b .nil pass0 (pa_consK (pv 1) (pa_consK (pv 2) (pa_consK (pv 3) (pa_consK (pv 4) (pa_consK (pv 5) (pa_consK (pv 10) pa_nil))))))) (pe_and (pe_call G6 hr1 (by rfl) D6.m D6.F.kp D6.b .nil pass0 (pa_cons (pv 9) pa_nil)) (pe_one (pe_cmpR op_eq (pv 9) (pe_ix ix_tup (pv 10) pe_int (fun _ _ => rfl)) (nomark _)))))))))))))))), ?_⟩
    have gdp := B.M.good
    have gdq : Good qs := good_cont B.c.symm gdp
    have lkc : lookN ps rt pl wr k = lookN qs rt pl wr k := lookN_cont B.c rt pl wr k
    refine ⟨by show 0 ≤ sizeLine; decide, fun l0 hl0 => ?_⟩
    have s0 := same_new (o := .lst []) hl0
    have zl0 : upd H l0 (.lst []) l0 = some (.lst []) := upd_same
    generalize upd H l0 (.lst []) = H0 at *
    have B0 := B.same s0
    refine ⟨_, rfl, _, rfl, _, rfl, _, rfl, _, rfl, m, m, h, m, m, m, ps, 0, [], [], 0, rt, pl, wr, k, rfl, ⟨B0.M⟩, fun z lv hz H1 s1 d hd => ⟨XF, fun e he => ?_⟩, fun p1 pg t l hz tt t1 t2 H1 s1 z0 z1 z2 => ?_⟩
    · have ze : upd (upd H1 d (xdo d (ffF [.str z, .int (pl : Int), .int (lv : Int)]))) e (xob e (.ref FA) (some d)) e = some (xob e (.ref FA) (some d)) := upd_same
      have zd : upd (upd H1 d (xdo d (ffF [.str z, .int (pl : Int), .int (lv : Int)]))) e (xob e (.ref FA) (some d)) d = some (xdo d (ffF [.str z, .int (pl : Int), .int (lv : Int)])) := by
        rw [upd_ne (ne_of_none upd_same he)]
        exact upd_same
      have s2 : Same H (upd (upd H1 d (xdo d (ffF [.str z, .int (pl : Int), .int (lv : Int)]))) e (xob e (.ref FA) (some d))) := (s0.trans s1).trans ((same_new hd).trans (same_new he))
      generalize upd (upd H1 d (xdo d (ffF [.str z, .int (pl : Int), .int (lv : Int)]))) e (xob e (.ref FA) (some d)) = H2 at *
      refine ⟨_, rfl, e, FA, d, _, _, rfl, ze, zd, FL.x, FL.nk, ffF_kind _ _ _, _, rfl, e, FA, d, _, _, rfl, ze, zd, FL.x, FL.np, ffF_place _ _ _, _, rfl, e, FA, d, _, _, rfl, ze, zd, FL.x, FL.nl, ffF_level _ _ _,  by show 3 ≤ sizeLine; decide, fun t ht => ?_⟩
      have s3 := same_new (o := .lst [.str z, .int (pl : Int), .int (lv : Int)]) ht
      have zt : upd H2 t (.lst [.str z, .int (pl : Int), .int (lv : Int)]) t = some (.lst [.str z, .int (pl : Int), .int (lv : Int)]) := upd_same
      generalize upd H2 t (.lst [.str z, .int (pl : Int), .int (lv : Int)]) = H3 at *
      refine ⟨_, rfl, rfl, _, rfl, iteTS rfl ?_⟩
      refine ⟨_, rfl, by show 0 ≤ sizeLine; decide, fun l4 hl4 => ?_⟩
      have s4 := same_new (o := .lst []) hl4
      have zl4 : upd H3 l4 (.lst []) l4 = some (.lst []) := upd_same
      generalize upd H3 l4 (.lst []) = H4 at *
      have zk := look_ok hz
      refine ⟨_, _, .lst (SqL.of (s4 _ _ zt)) (.cons (.str _) (.cons (.int _) (.cons (.int _) .nil))), .lst (xs := []) (SqL.of zl4) .nil, (by simp [SeqAt.shaped, PyData.canLay0, PyData.canLayAll0, PyData.depth, PyData.depthAll, zk]), rfl, _, rfl, ?_⟩
      rw [show PyData.eqv (.list [.str z, .int (pl : Int), .int (lv : Int)]) (.list []) = false by simp [PyData.eqv, PyData.eqvAll]]
      have s24 := (s2.trans s3).trans s4
      refine iteT ⟨_, rfl, _, rfl, _, rfl, _, rfl, _, rfl, _, rfl, D, t, qs, rt, pl, lv, wr, k, z, rfl, B.g.same s24, gdq, s4 _ _ zt, lkc.symm.trans hz, fun H' s' => ?_⟩
      have sf := s24.trans s'
      exact q H' ps qs (B.same sf) (fun _ y => y) (fun _ y => y) (fun _ => rfl) rfl (fun b o _ _ y => sf _ _ y)
    · have hz' : lookN qs rt pl wr k = .trail p1 pg t l := lkc.symm.trans hz
      have B1 := B0.same s1
      refine ⟨_, rfl, rfl, _, rfl, iteFS (by show decide (V.ref tt = V.non) = false; exact decide_eq_false nofun) ?_⟩
      refine ⟨_, rfl, _, rfl, _, rfl, _, rfl, _, rfl, _, rfl, D, tt, t1, t2, qs, rt, pl, p1, pg, t, l, wr, k, rfl, B1.g, gdq, hz', z0, z1, z2, fun H2 s2 => ⟨_, rfl, iteF ?_⟩⟩
      have lt := look_trail hz
      obtain ⟨t', l', lk', rg'⟩ := look_again gdp hz lt
      obtain ⟨hp, h0, h1, h2, _⟩ := lt
      have B2 := B1.same s2
      have z02 := s2 _ _ z0
      have z12 := s2 _ _ z1
      have z22 := s2 _ _ z2
      have q0 : hasP qs (.int (rt : Int)) = true := by rw [← hasP_cont B.c]; exact h0
      have q1 : hasP qs (.int (p1 : Int)) = true := by rw [← hasP_cont B.c]; exact h1
      refine ⟨_, rfl, _, rfl, _, rfl, m, m, h, m, m, m, ps, 0, [], [], 0, tt, t1, t2, rt, pl / 8 / 8, p1, pl / 8 % 8, pg, rigN t l, wr, rfl, ⟨B2.M⟩, z02, z12, z22, h0, h1, by omega, by omega, fun H3 W3 kp3 => ?_⟩
      have nTh : ∀ (b : Addr) (xs : List V), H2 b = some (.tup xs) → ¬ At h ps b := fun b xs e z => by
        rcases z with z | ⟨n, ws, z⟩
        · have y := B2.M.pg.top; rw [← z, e] at y; cases y
        · have y := (B2.M.pg.each n b ws z).1; rw [e] at y; cases y
      have g3 : Pg H3 D qs := B2.g.keep fun b hb => by
        obtain ⟨o, e⟩ := B2.g.at hb
        rw [e]
        exact kp3 b o (fun z => B.ap b z hb) e
      have nTd : ∀ (b : Addr) (xs : List V), H3 b = some (.tup xs) → ¬ At D qs b := fun b xs e z => by
        rcases z with z | ⟨n, ws, z⟩
        · have y := g3.top; rw [← z, e] at y; cases y
        · have y := (g3.each n b ws z).1; rw [e] at y; cases y
      have z6 := kp3 _ _ (nTh _ _ z02) z02
      have z16 := kp3 _ _ (nTh _ _ z12) z12
      have z26 := kp3 _ _ (nTh _ _ z22) z22
      refine ⟨_, rfl, _, rfl, tt, _, _, .ref t1, rfl, rfl, SqT.of (z6), rfl, D, t1, qs, rt, pl / 8 / 8, false, rfl, g3, gdq, z16, q0, by omega, fun H4 g4 kp4 => ?_⟩
      have z7 := kp4 _ _ (nTd _ _ z6) z6
      have z27 := kp4 _ _ (nTd _ _ z26) z26
      have gd4 : Good (mkN qs rt (pl / 8 / 8) 8) := by
        obtain ⟨n, p, ws, en, e1⟩ := hasP_int q0
        obtain rfl : rt = n := by have := V.int.inj en; omega
        exact Good.mkN gdq e1 (by omega) (by decide)
      refine ⟨_, rfl, _, rfl, tt, _, _, .ref t2, rfl, rfl, SqT.of (z7), rfl, _, rfl, D, t2, mkN qs rt (pl / 8 / 8) 8, p1, pl / 8 % 8, wr, rfl, g4, gd4, z27, by rw [hasP_mkN]; exact q1, by omega, fun H5 g5 kp5 => ?_⟩
      have at5 : ∀ b, At D (mkN qs rt (pl / 8 / 8) 8) b → At D qs b := fun b z => At.setW z
      have kp35 : Kpt D qs H3 H5 := Kpt.trans kp4 kp5 at5
      have atp : ∀ b, At h (mkN (mkN ps rt (pl / 8 / 8) 8) p1 (pl / 8 % 8) (if wr then 24 else 8)) b → At h ps b := fun b z => At.setW (At.setW z)
      have atq : ∀ b, At D (mkN (mkN qs rt (pl / 8 / 8) 8) p1 (pl / 8 % 8) (if wr then 24 else 8)) b → At D qs b := fun b z => At.setW (At.setW z)
      have M3 := W3.M
      have M5 : Mem C H5 m h (mkN (mkN ps rt (pl / 8 / 8) 8) p1 (pl / 8 % 8) (if wr then 24 else 8)) := by
        refine M3.keep ?_ fun b hb => ?_
        · obtain ⟨dm, em⟩ := M3.ob
          rw [em]
          refine kp35 _ _ (fun z => ?_) em
          rcases z with z | ⟨n, ws, z⟩
          · have y := g3.top; rw [← z, em] at y; cases y
          · have y := (g3.each n m ws z).1; rw [em] at y; cases y
        · obtain ⟨o, e⟩ := M3.pg.at hb
          rw [e]
          exact kp35 _ _ (fun z => B.ap b (atp b hb) z) e
      have cc : cont (mkN (mkN ps rt (pl / 8 / 8) 8) p1 (pl / 8 % 8) (if wr then 24 else 8)) = cont (mkN (mkN qs rt (pl / 8 / 8) 8) p1 (pl / 8 % 8) (if wr then 24 else 8)) := cont_mkN (cont_mkN B.c _ _ _) _ _ _
      have hq : ∀ x : Nat, hasP (mkN (mkN qs rt (pl / 8 / 8) 8) p1 (pl / 8 % 8) (if wr then 24 else 8)) (.int (x : Int)) = hasP qs (.int (x : Int)) := fun x => by rw [hasP_mkN, hasP_mkN]
      have ln : (mkN (mkN ps rt (pl / 8 / 8) 8) p1 (pl / 8 % 8) (if wr then 24 else 8)).length = ps.length := by unfold mkN; rw [setW_len, setW_len]
      have kpf : ∀ b o, ¬ At h ps b → ¬ At D qs b → H b = some o → H5 b = some o := fun b o n1 n2 e => kp35 b o n2 (kp3 b o n1 (s2 _ _ (s1 _ _ (s0 _ _ e))))
      generalize mkN (mkN ps rt (pl / 8 / 8) 8) p1 (pl / 8 % 8) (if wr then 24 else 8) = ps5 at *
      generalize mkN (mkN qs rt (pl / 8 / 8) 8) p1 (pl / 8 % 8) (if wr then 24 else 8) = qs5 at *
      refine ⟨_, rfl, _, rfl, _, rfl, _, rfl, _, rfl, m, m, h, m, m, m, ps5, 0, [], [], 0, rt, pl, wr, k, rfl, ⟨M5⟩, fun z lv hz2 => absurd (lk'.symm.trans hz2) nofun, fun p1' pg' t2' l2' hz2 ua u1 u2 H6 s6 y0 y1 y2 => ?_⟩
      cases lk'.symm.trans hz2
      refine ⟨_, rfl, _, rfl, _, rfl, _, rfl, _, rfl, _, rfl, D, ua, u1, u2, qs5, rt, pl, p1, pg, t', l', wr, k, rfl, g5.same s6, good_cont cc.symm M5.good, (lookN_cont cc rt pl wr k).symm.trans lk', y0, y1, y2, fun H7 s7 => ⟨_, rfl, iteT ⟨_, rfl, _, rfl, .int _, _, rfl, iteT ⟨_, rfl, _, rfl, ua, _, _, .int ((rigN t' l' : Nat) : Int), rfl, rfl, SqT.of (s7 _ _ y0), rfl, rfl, ?_⟩⟩⟩⟩
      rw [show decide (V.int ((if wr then rigN t l ||| 16 else rigN t l : Nat) : Int) = V.int ((rigN t' l' : Nat) : Int)) = true from decide_eq_true (by rw [rg'])]
      have s57 := s6.trans s7
      exact q H7 ps5 qs5 ⟨M5.same s57, g5.same s57, cc, fun b z1 z2 => B.ap b (atp b z1) (atq b z2)⟩ atp atq hq ln (fun b o n1 n2 e => s57 _ _ (kpf b o n1 n2 e))
end
end K17
end
section
namespace K17
open PySem L2
theorem op_in_seqK {X : Cx} {K : PySem.W.Frag} (h : X.K = K) : OpR X (compareOp .In) (rIn K false) := by subst h; exact op_in_seq
theorem Two.pgAt {C : Addr} {H : Hp} {m h D : Addr} {ps qs : Pgs} {i : Nat} (B : Two C H m h D ps qs) (t : isThere qs[i]? = true) : ∃ p ws q ws', ps[i]? = some (some (p, ws)) ∧ qs[i]? = some (some (q, ws')) ∧ ws.length = 8 ∧ ws'.length = 8 ∧ H q = some (.lst (ws'.map V.int)) ∧ atI (qs.map pgV) (i : Int) = some (.ref q) ∧ hasP ps (.int (i : Int)) = true ∧ i < ps.length ∧ i < qs.length := by
  obtain ⟨q, ws', eq⟩ := there_some t
  have t2 : isThere ps[i]? = true := by rw [there_cont B.c]; exact t
  obtain ⟨p, ws, ep⟩ := there_some t2
  have gq := good_cont B.c.symm B.M.good
  have lq : i < qs.length := (List.getElem?_eq_some_iff.mp eq).1
  obtain ⟨o, ho, ha⟩ := atI_pg (ps := qs) (i := i) lq
  rw [eq] at ho
  cases ho
  exact ⟨p, ws, q, ws', ep, eq, (B.M.good i p ws ep).1, (gq i q ws' eq).1, (B.g.each i q ws' eq).1, ha, hasP_of ep, (List.getElem?_eq_some_iff.mp ep).1, lq⟩
theorem at_live {H : Hp} {h b : Addr} {ps : Pgs} (g : Pg H h ps) (x : At h ps b) : ∃ xs, H b = some (.lst xs) := by
  rcases x with rfl | ⟨k, ws, z⟩
  · exact ⟨_, g.top⟩
  · exact ⟨_, (g.each k b ws z).1⟩
theorem at_page {h p : Addr} {ps : Pgs} {i : Nat} {ws : List Int} (e : ps[i]? = some (some (p, ws))) : At h ps p := .inr ⟨i, ws, e⟩
theorem Two.nm {C : Addr} {H : Hp} {m h D b : Addr} {ps qs : Pgs} (B : Two C H m h D ps qs) (x : At D qs b) : m ≠ b := by
  obtain ⟨dx, hm⟩ := B.M.ob
  obtain ⟨xs, e⟩ := at_live B.g x
  exact ne_of hm e (by intro z; cases z)
theorem Two.wr1 {C : Addr} {H : Hp} {m h D q : Addr} {ps qs : Pgs} {i : Nat} {ws' : List Int} {o : HO} (B : Two C H m h D ps qs) (eq : qs[i]? = some (some (q, ws'))) : Mem C (upd H q o) m h ps := by
  refine B.M.keep (upd_ne (B.nm (at_page eq))) fun b hb => upd_ne fun z => ?_
  subst z
  exact B.ap _ hb (at_page eq)
theorem Two.wr {C : Addr} {H : Hp} {m h D p q : Addr} {ps qs : Pgs} {i j : Nat} {v : Int} {ws ws' : List Int} (B : Two C H m h D ps qs) (ep : ps[i]? = some (some (p, ws))) (eq : qs[i]? = some (some (q, ws'))) (v0 : 0 ≤ v) (v1 : v < 281474976710656) :
    Two C (upd (upd H q (.lst ((ws'.map V.int).set j (.int v)))) p (.lst ((ws.map V.int).set j (.int v)))) m h D (setW ps i j v) (setW qs i j v) :=
  ⟨(B.wr1 eq).setW ep v0 v1, (B.g.setW eq).keep fun b hb => upd_ne fun z => by
    subst z
    exact B.ap _ (at_page ep) (At.setW hb), cont_setW B.c i j v, fun b hb hq => B.ap b (At.setW hb) (At.setW hq)⟩
theorem Two.half {C : Addr} {H H1 : Hp} {m h D : Addr} {ps qs : Pgs} {i : Nat} {o : Option (Addr × List Int)} (B : Two C H m h D ps qs) (s : Same H H1) (hn : ∀ (p : Addr) (ws : List Int), o = some (p, ws) → H1 p = some (.lst (ws.map V.int)) ∧ H p = none) :
    Mem C (upd H1 D (.lst ((qs.map pgV).set i (pgV o)))) m h ps ∧ Pg (upd H1 D (.lst ((qs.map pgV).set i (pgV o)))) D (qs.set i o) ∧ ∀ b, At h ps b → ¬ At D (qs.set i o) b := by
  refine ⟨(B.M.same s).keep (upd_ne (B.nm (.inl rfl))) fun b hb => upd_ne fun z => ?_, B.g.put s hn, fun b hb hq => ?_⟩
  · subst z
    exact B.ap _ hb (.inl rfl)
  · rcases At.put hq with z | ⟨ws, z⟩
    · exact B.ap b hb z
    · obtain ⟨xs, e⟩ := at_live B.M.pg hb
      rw [(hn b ws z).2] at e
      cases e
theorem Two.full {C : Addr} {H2 H3 : Hp} {m h D : Addr} {ps qs : Pgs} {i : Nat} {o : Option (Addr × List Int)} (M : Mem C H2 m h ps) (g : Pg H2 D qs) (ap : ∀ b, At h ps b → ¬ At D qs b) (s : Same H2 H3) (hn : ∀ (p : Addr) (ws : List Int), o = some (p, ws) → H3 p = some (.lst (ws.map V.int)) ∧ H2 p = none) (hg : ∀ (p : Addr) (ws : List Int), o = some (p, ws) → ws.length = 8 ∧ ∀ w ∈ ws, 0 ≤ w ∧ w < 281474976710656) (c : cont (ps.set i o) = cont qs) :
    Two C (upd H3 h (.lst ((ps.map pgV).set i (pgV o)))) m h D (ps.set i o) qs := by
  refine ⟨M.put s hn hg, (g.same s).keep fun b hb => upd_ne fun z => ?_, c, fun b hb hq => ?_⟩
  · subst z
    exact ap _ (.inl rfl) hb
  · rcases At.put hb with z | ⟨ws, z⟩
    · exact ap b z hq
    · obtain ⟨xs, e⟩ := at_live g hq
      rw [(hn b ws z).2] at e
      cases e
theorem nd_two {ts : List Int} (nd : ts.Nodup) (h : 2 ≤ ts.length) (x : Int) : ∃ t ∈ ts, t ≠ x := by
  match ts, h, nd with
  | a :: b :: r, _, nd =>
    by_cases e : a = x
    · refine ⟨b, by simp, fun z => ?_⟩
      rw [List.nodup_cons] at nd
      exact nd.1 (by rw [e, ← z]; simp)
    · exact ⟨a, by simp, e⟩
theorem there_put {qs : Pgs} {o : Option (Addr × List Int)} {i k : Nat} (h : isThere qs[k]? = true) (ho : k ≠ i ∨ o.isSome = true) : isThere (qs.set i o)[k]? = true := by
  by_cases e : i = k
  · subst e
    obtain ⟨q, ws, eq⟩ := there_some h
    rw [List.getElem?_set_self (List.getElem?_eq_some_iff.mp eq).1]
    rcases ho with z | z
    · exact absurd rfl z
    · cases o with
      | none => cases z
      | some x => rfl
  · rw [List.getElem?_set_ne e]
    exact h
def spDeed (C : Addr) : Sp := fun vs H Q _ => ∃ (m h D : Addr) (ps qs : Pgs) (c kk : Int), vs = [.ref m, .ref D, .int c, .int kk] ∧ Two C H m h D ps qs ∧ 2 ≤ qs.length ∧ qs.length ≤ 24 ∧ 0 ≤ kk ∧ kk ≤ 1000 ∧ (∃ i, i < qs.length ∧ isThere qs[i]? = true) ∧ ∀ H' ps' qs', Two C H' m h D ps' qs' → qs'.length = qs.length → (∃ i, i < qs.length ∧ isThere qs'[i]? = true) → (∀ b, At h ps' b → At h ps b ∨ H b = none) → (∀ b, At D qs' b → At D qs b ∨ H b = none) → (∀ b o, ¬ At h ps b → ¬ At D qs b → H b = some o → H' b = some o) → Q (.bl true) H'
section
variable {P : Program} {w : World} {K : PySem.W.Frag} {mg : Str → Option Value} {base : Heap} {C NP NL NW NI SC PL WC FA : Addr}
theorem scDe : FnScope ["_law_store", "_law_pages", "_law_cell", "_law_k", "_law_size", "_law_there_here", "_law_some", "_law_page", "_law_place", "_law_gone", "_law_way", "_law_root"] ["_law_store", "_law_pages", "_law_cell", "_law_k"] (defScope sDeed) := ⟨rfl, rfl, rfl, by decide +kernel, rfl, by decide +kernel, by decide +kernel⟩
theorem ndDe : (compN "_law_page" ["_law_store", "_law_pages", "_law_cell", "_law_k", "_law_size", "_law_there_here", "_law_some", "_law_page", "_law_place", "_law_gone", "_law_way", "_law_root"]).Nodup := by decide +kernel
theorem dotDe : (".0" : Str) ∉ (["_law_store", "_law_pages", "_law_cell", "_law_k", "_law_size", "_law_there_here", "_law_some", "_law_page", "_law_place", "_law_gone", "_law_way", "_law_root"] : List Str) := by decide +kernel
theorem ndDg : (compN "_law_one" ["_law_store", "_law_pages", "_law_cell", "_law_k", "_law_size", "_law_there_here", "_law_some", "_law_page", "_law_place", "_law_gone", "_law_way", "_law_root"]).Nodup := by decide +kernel
theorem dotDg : (".0" : Str) ∉ (["_law_store", "_law_pages", "_law_cell", "_law_k", "_law_size", "_law_there_here", "_law_some", "_law_page", "_law_place", "_law_gone", "_law_way", "_law_root"] : List Str) := by decide +kernel
theorem ok_deed {f f1 f2 f3 f4 f5 f6 f7 : Addr} {fd fd1 fd2 fd3 fd4 fd5 fd6 fd7 : FuncData} (F : Fun K "_law_deed" "_law_deed" sDeed f fd) (D1 : Dn K mg "_law_mixed" sMixed ["_law_cell", "_law_k"] f1 fd1) (G1 : FnOk P w K mg base CX0 1 f1 fd1 ["_law_cell", "_law_k"] spMixed) (D2 : Dn K mg "_law_reached" sRchd ["_law_store", "_law_pages", "_law_root", "_law_place", "_law_write", "_law_kernel"] f2 fd2) (G2 : FnOk P w K mg base CX0 10 f2 fd2 ["_law_store", "_law_pages", "_law_root", "_law_place", "_law_write", "_law_kernel"] (spRchd C)) (D3 : Dn K mg "_law_row" sRowL ["_law_cell", "_law_k", "_law_size"] f3 fd3) (G3 : FnOk P w K mg base CX0 2 f3 fd3 ["_law_cell", "_law_k", "_law_size"] spRowL) (D4 : Dn K mg "_law_rows" sRowsL ["_law_cell", "_law_k", "_law_size"] f4 fd4) (G4 : FnOk P w K mg base CX0 3 f4 fd4 ["_law_cell", "_law_k", "_law_size"] spRowsL) (M1 : Me K C "write" "Store.write" sWrite ["self", "page", "cell", "word"] f5 fd5) (GM1 : FnOk P w K mg base (CXr P w) 7 f5 fd5 ["self", "page", "cell", "word"] (spWWrite C SC NP NL NW)) (M2 : Me K C "give" "Memory.give" sGive ["self", "page"] f6 fd6) (GM2 : FnOk P w K mg base (CXr P w) 5 f6 fd6 ["self", "page"] (spGive C NP)) (M3 : Me K C "lay" "Memory.lay" sLay ["self", "page", "words"] f7 fd7) (GM3 : FnOk P w K mg base (CXr P w) 5 f7 fd7 ["self", "page", "words"] (spLay C NP NW)) (PC : Plc K C) (T : Txt K mg) : FnOk P w K mg base CX0 11 f fd ["_law_store", "_law_pages", "_law_cell", "_law_k"] (spDeed C) := by
  refine F.ok scDe (fun vs H Q E h' => ?_) (fun cdv A outer s H vs Q E hr h' => ?_)
  · obtain ⟨m, h, D, ps, qs, c, kk, rfl, _⟩ := h'
    rfl
  · obtain ⟨m, h, D, ps, qs, c, kk, rfl, B, l1, l2, k0, k1, th, q⟩ := h'
    have hr7 : Room 7 _ := hr.mono (by decide)
    have hr5 : Room 5 _ := hr.mono (by decide)
    have hr3 : Room 3 _ := hr.mono (by decide)
    have hr2 : Room 2 _ := hr.mono (by decide)
    have hr1 : Room 1 _ := hr.mono (by decide)
    refine ⟨_, (pss_cons (ps_set (i := 4) scDe.nd rfl (Or.inl rfl) (pe_callB call_len_seq (by rfl) T.len PySem.boot_len (pa_cons (pv 1) pa_nil))) (pss_cons (ps_setC (i := 5) scDe.nd rfl rfl rfl (cl := [("_law_pages", s.heap.objs.size + 1)]) (tc := tTest (tOp (fun x y H Q => y = .non ∧ Q (.bl (!decide (x = .non))) H) (tOp (rIxL K) (tVar 2) (tVar 0)) (tC .non))) (te := tVar 0) rfl (pi_range1 (by rfl) T.rng (pa_cons (pv 4) pa_nil)) rfl (by repeat' (first | exact trivial | refine ⟨.inl ⟨.inr rfl, rfl⟩, ?_⟩ | refine ⟨.inl ⟨.inl rfl, rfl⟩, ?_⟩ | refine ⟨.inr (.inl ⟨by decide, by decide, by decide⟩), ?_⟩ | refine ⟨.inr (.inr ⟨rfl, by decide +kernel, by decide +kernel, rfl, rfl⟩), ?_⟩)) (show ClOk _ _ from ⟨rfl, trivial⟩) (fun C s₂ H₂ fp => .one (pt_cmpR op_notN (pe_ix ix_list (pv 2) (pv 0) (fun _ _ => rfl)) pe_non (nomark _))) (fun C s₂ H₂ fp => (pv 0)) ndDe (hdot := dotDe)) (pss_cons (ps_set (i := 6) scDe.nd rfl (Or.inl rfl) (pe_op op_fdiv (pv 2) pe_int)) (pss_cons (ps_set (i := 7) scDe.nd rfl (Or.inl rfl) (pe_ix ix_list (pv 5) (pe_op op_mod (pe_call G1 hr1 (by rfl) D1.m D1.F.kp D1.b .nil pass0 (pa_cons (pe_op op_fdiv (pv 2) pe_int) (pa_cons pe_int pa_nil))) (pe_callB call_len_seq (by rfl) T.len PySem.boot_len (pa_cons (pv 5) pa_nil))) (fun _ _ => rfl))) (pss_cons (ps_set (i := 8) scDe.nd rfl (Or.inl rfl) (pe_op op_mod (pe_call G1 hr1 (by rfl) D1.m D1.F.kp D1.b .nil pass0 (pa_cons (pe_op op_fdiv (pv 2) pe_int) (pa_cons pe_int pa_nil))) pe_int)) (pss_cons (ps_if (pt_cmpR op_lt (pe_op op_mod (pv 2) pe_int) pe_int (nomark _)) (pss_cons (ps_set (i := 9) scDe.nd rfl (Or.inl rfl) (pe_op op_cat (pe_comp (cl := [("_law_pages", s.heap.objs.size + 1)]) (tc := tTest (tOp (fun x y H Q => y = .non ∧ Q (.bl (decide (x = .non))) H) (tOp (rIxL K) (tVar 2) (tVar 0)) (tC .non))) (te := tVar 0) rfl (pi_range1 (by rfl) T.rng (pa_cons (pv 4) pa_nil)) rfl (by repeat' (first | exact trivial | refine ⟨.inl ⟨.inr rfl, rfl⟩, ?_⟩ | refine ⟨.inl ⟨.inl rfl, rfl⟩, ?_⟩ | refine ⟨.inr (.inl ⟨by decide, by decide, by decide⟩), ?_⟩ | refine ⟨.inr (.inr ⟨rfl, by decide +kernel, by decide +kernel, rfl, rfl⟩), ?_⟩)) (show ClOk _ _ from ⟨rfl, trivial⟩) (fun C s₂ H₂ fp => .one (pt_cmpR op_isN (pe_ix ix_list (pv 2) (pv 0) (fun _ _ => rfl)) pe_non (nomark _))) (fun C s₂ H₂ fp => (pv 0)) ndDg (hdot := dotDg)) (pe_lst (pa_cons (pv 4) pa_nil)))) (pss_cons (ps_set (i := 10) scDe.nd rfl (Or.inl rfl) (pe_op op_mod (pe_call G1 hr1 (by rfl) D1.m D1.F.kp D1.b .nil pass0 (pa_cons (pe_op op_fdiv (pv 2) pe_int) (pa_cons pe_int pa_nil))) pe_int)) (pss_cons (ps_set (i := 11) scDe.nd rfl (Or.inl rfl) (pe_ix ix_list (pe_lst (pa_consK (pe_ix ix_list (pv 9) pe_int (fun _ _ => rfl)) (pa_consK (pe_ix ix_list (pv 9) (pe_un un_neg pe_int) (fun _ _ => rfl)) (pa_consK (pe_op op_add (pv 4) (pe_op op_mod (pv 6) (pe_op op_sub (pe_op op_pow pe_int pe_int) (pv 4)))) (pa_consK (pe_ix ix_list (pv 9) (pe_op op_mod (pv 6) (pe_callB call_len_seq (by rfl) T.len PySem.boot_len (pa_cons (pv 9) pa_nil))) (fun _ _ => rfl)) pa_nil))))) (pe_op op_mod (pv 10) pe_int) (fun _ _ => rfl))) (pss_cons (ps_if (pt_cmpR op_gt (pv 10) pe_int (nomark _)) (pss_one (ps_set (i := 11) scDe.nd rfl (Or.inl rfl) (pv 7))) pss_nil) (pss_cons (ps_if (pt_cmpR (op_in_seqK (K := K) rfl) (pv 10) (pe_tup (pa_cons pe_int (pa_cons pe_int pa_nil))) rfl) (pss_one (ps_set (i := 8) scDe.nd rfl (Or.inl rfl) (pe_op op_add pe_int (pe_op op_mod (pv 6) (pe_op op_sub (pe_op op_pow pe_int pe_int) pe_int))))) pss_nil) (pss_one (ps_ret (pe_call G2 hr (by rfl) D2.m D2.F.kp D2.b .nil pass0 (pa_consK (pv 0) (pa_consK (pv 1) (pa_consK (pv 11) (pa_consK (pv 8) (pa_consK (pe_cmpR op_eq (pe_op op_mod (pe_op op_fdiv (pv 2) pe_int) pe_int) pe_int (nomark _)) (pa_consK (pe_cmpR op_eq (pe_op op_mod (pe_op op_fdiv (pv 2) pe_int) pe_int) pe_int (nomark _)) pa_nil)))))))))))))) pss_nil) (pss_cons (ps_if (pt_cmpR op_eq (pe_op op_mod (pv 2) pe_int) pe_int (nomark _)) (pss_cons (ps_asg (pe_ix ix_list (pe_lst (pa_cons (pe_call G3 hr2 (by rfl) D3.m D3.F.kp D3.b .nil pass0 (pa_cons (pv 6) (pa_cons (pv 3) (pa_cons (pv 4) pa_nil)))) (pa_cons (pe_op op_mod (pe_op op_fdiv (pv 6) pe_int) (pe_op op_pow pe_int pe_int)) pa_nil))) (pe_op op_mod (pv 6) pe_int) (fun _ _ => rfl)) (pg_sub (pe_ix ix_list (pv 1) (pv 7) (fun _ _ => rfl)) (pe_op op_mod (pv 8) pe_int) set_list)) (pss_one (ps_expr (pe_meth (pv 0) PC.cl M1.m GM1 hr7 M1.b .nil passX0 (pa_cons (pv 7) (pa_cons (pe_op op_mod (pv 8) pe_int) (pa_cons (pe_ix ix_list (pe_ix ix_list (pv 1) (pv 7) (fun _ _ => rfl)) (pe_op op_mod (pv 8) pe_int) (fun _ _ => rfl)) pa_nil))))))) (pss_one (ps_if (PW.pt (pw_and (pt_cmpR op_eq (pe_op op_mod (pv 2) pe_int) pe_int (nomark _)) (pw_and1 (pt_cmpR op_gt (pe_callB call_len_seq (by rfl) T.len PySem.boot_len (pa_cons (pv 5) pa_nil)) pe_int (nomark _))))) (pss_cons (ps_asg pe_non (pg_sub (pv 1) (pv 7) set_list)) (pss_one (ps_expr (pe_meth (pv 0) PC.cl M2.m GM2 hr5 M2.b .nil passX0 (pa_cons (pv 7) pa_nil))))) (pss_cons (ps_asg (pe_call G4 hr3 (by rfl) D4.m D4.F.kp D4.b .nil pass0 (pa_cons (pv 6) (pa_cons (pv 3) (pa_cons (pv 4) pa_nil)))) (pg_sub (pv 1) (pe_op op_mod (pv 8) (pv 4)) set_list)) (pss_one (ps_expr (pe_meth (pv 0) PC.cl M3.m GM3 hr5 M3.b .nil passX0 (pa_cons (pe_op op_mod (pv 8) (pv 4)) (pa_cons (pe_callTy call_list_of (by rfl) T.lst PyProof.Rows.boot_list (pa_cons (pe_ix ix_list (pv 1) (pe_op op_mod (pv 8) (pv 4)) (fun _ _ => rfl)) pa_nil)) pa_nil))))))))) (pss_one (ps_ret pe_bl))))))))), ?_⟩
    obtain ⟨i0, hi0, hth⟩ := th
    have gdp := B.M.good
    have gdq : Good qs := good_cont B.c.symm gdp
    have lpq := cont_len B.c
    have e48 : (2 : Int) ^ (48 : Int).toNat = 281474976710656 := by decide
    refine ⟨_, rfl, D, _, rfl, .inl (SqL.of B.g.top), ?_⟩
    rw [show ((qs.map pgV).length : Int) = (qs.length : Int) by rw [List.length_map]]
    generalize hn : qs.length = n at *
    refine ⟨_, rfl, n, rfl, (by omega), (by omega), ?_⟩
    rw [show ((n : Int)).toNat = n from Int.toNat_natCast n]
    refine comp_range (lo := 0) (n := n) (fun E2 k ys H' => H E2 = none ∧ Same H H' ∧ H' E2 = some (.lst ys) ∧ ∃ ts : List Int, ys = ts.map V.int ∧ ts.length ≤ k ∧ (∀ t ∈ ts, 0 ≤ t ∧ t < k ∧ isThere qs[t.toNat]? = true) ∧ ts.Nodup ∧ (i0 < k → ts ≠ [])) ?_ ?_ ?_ ?_
    · exact fun E2 hE => ⟨hE, same_new hE, upd_same, [], rfl, Nat.le_refl _, (fun t ht => by cases ht), List.nodup_nil, fun hj => absurd hj (Nat.not_lt_zero _)⟩
    · rintro E2 k ys H' _ ⟨_, _, hy, _⟩
      exact hy
    · rintro E2 k ys H' hk ⟨hE, ss, hy, ts, rfl, hlt, hts, hnd, hin⟩
      rw [Int.zero_add]
      obtain ⟨o, ho, ha⟩ := atI_pg (ps := qs) (i := k) (by omega)
      refine ⟨_, rfl, _, rfl, D, _, _, _, rfl, rfl, SqL.of (ss _ _ B.g.top), ha, rfl, _, rfl, ?_⟩
      cases o with
      | none =>
        refine iteF ⟨hE, ss, hy, ts, rfl, by omega, fun t ht => ?_, hnd, fun hj => hin ?_⟩
        · obtain ⟨a1, a2, a3⟩ := hts t ht
          exact ⟨a1, by omega, a3⟩
        · by_cases e : i0 = k
          · subst e
            rw [ho] at hth
            cases hth
          · omega
      | some z =>
        refine iteT ⟨_, rfl, hy, ?_, hE, Same.set ss hE, upd_same, ts ++ [(k : Int)], by rw [List.map_append]; rfl, by rw [List.length_append]; show ts.length + 1 ≤ k + 1; omega, fun t hm' => ?_, ?_, fun _ z => by simp at z⟩
        · rw [List.length_map]
          exact Nat.lt_of_le_of_lt hlt (Nat.lt_of_lt_of_le (by omega : k < 1001) (by decide))
        · rcases List.mem_append.mp hm' with z' | z'
          · obtain ⟨a1, a2, a3⟩ := hts t z'
            exact ⟨a1, by omega, a3⟩
          · rw [List.mem_singleton.mp z']
            exact ⟨by omega, by omega, by rw [Int.toNat_natCast, ho]; rfl⟩
        · rw [List.nodup_append]
          refine ⟨hnd, by simp, fun a ha b hb => ?_⟩
          have := (hts a ha).2.1
          rw [List.mem_singleton.mp hb]
          omega
    rintro TH ys H1 ⟨hTH, s1, zTH, ts, rfl, hlt, hts, hnd, hin⟩
    have htn := hin hi0
    have tl1 : 1 ≤ ts.length := by cases ts with
      | nil => exact absurd rfl htn
      | cons a b => exact Nat.succ_le_succ (Nat.zero_le _)
    have B1 := B.same s1
    refine ⟨_, rfl, c, 32, rfl, rfl, ⟨by decide, by decide⟩, ?_⟩
    dsimp only
    generalize c / 32 = so
    refine ⟨_, rfl, _, rfl, c, 8, rfl, rfl, ⟨by decide, by decide⟩, _, 301, rfl, by decide, by decide, fun r r0 => ?_⟩
    have lp : (0 : Int) < ((ts.map V.int).length : Int) := by rw [List.length_map]; omega
    obtain ⟨pgI, hpg, hat⟩ := atI_mem (gs := ts) (i := r % ((ts.map V.int).length : Int)) (Int.emod_nonneg _ (by omega)) (by have := Int.emod_lt_of_pos r lp; rw [List.length_map] at this ⊢; exact this)
    obtain ⟨pg0, pgn, pgt⟩ := hts pgI hpg
    obtain ⟨pg, rfl⟩ : ∃ pg : Nat, pgI = (pg : Int) := ⟨pgI.toNat, by omega⟩
    rw [Int.toNat_natCast] at pgt
    refine ⟨_, rfl, TH, _, rfl, .inl (SqL.of zTH), r, _, rfl, rfl, lp, TH, _, _, .int (pg : Int), rfl, rfl, SqL.of zTH, hat, ?_⟩
    refine ⟨_, rfl, c, 8, rfl, rfl, ⟨by decide, by decide⟩, _, 302, rfl, by decide, by decide, fun r2 r20 => ⟨r2, 512, rfl, rfl, (by show (0 : Int) < 512; decide), ?_⟩⟩
    dsimp only
    obtain ⟨pl, hpl⟩ : ∃ pl : Nat, r2 % 512 = (pl : Int) := ⟨(r2 % 512).toNat, by omega⟩
    rw [hpl]
    refine ⟨_, rfl, c, 8, rfl, rfl, (by show (0 : Int) < 8; decide), _, 5, rfl, rfl, _, rfl, ite2 (fun _ => ?_) (fun _ => ?_)⟩
    · refine ⟨_, rfl, n, rfl, (by omega), (by omega), ?_⟩
      rw [show ((n : Int)).toNat = n from Int.toNat_natCast n]
      refine comp_range (lo := 0) (n := n) (fun E2 k ys H' => H1 E2 = none ∧ Same H1 H' ∧ H' E2 = some (.lst ys) ∧ ∃ ts : List Int, ys = ts.map V.int ∧ ts.length ≤ k ∧ (∀ t ∈ ts, 0 ≤ t)) ?_ ?_ ?_ ?_
      · exact fun E2 hE => ⟨hE, same_new hE, upd_same, [], rfl, Nat.le_refl _, (fun t ht => by cases ht)⟩
      · rintro E2 k ys H' _ ⟨_, _, hy, _⟩
        exact hy
      · rintro E2 k ys H' hk ⟨hE, ss, hy, ts, rfl, hlt, hts⟩
        rw [Int.zero_add]
        obtain ⟨o, ho, ha⟩ := atI_pg (ps := qs) (i := k) (by omega)
        refine ⟨_, rfl, _, rfl, D, _, _, _, rfl, rfl, SqL.of (ss _ _ B1.g.top), ha, rfl, _, rfl, ?_⟩
        cases o with
        | some z => exact iteFS (by show decide (pgV (some z) = V.non) = false; exact decide_eq_false nofun) ⟨hE, ss, hy, ts, rfl, by omega, hts⟩
        | none =>
          refine iteTS (by show decide (V.non = V.non) = true; exact decide_eq_true rfl) ⟨_, rfl, hy, ?_, hE, Same.set ss hE, upd_same, ts ++ [(k : Int)], by rw [List.map_append]; rfl, by rw [List.length_append]; show ts.length + 1 ≤ k + 1; omega, fun t hm' => ?_⟩
          · rw [List.length_map]
            exact Nat.lt_of_le_of_lt hlt (Nat.lt_of_lt_of_le (by omega : k < 1001) (by decide))
          · rcases List.mem_append.mp hm' with z' | z'
            · exact hts t z'
            · rw [List.mem_singleton.mp z']; omega
      rintro G0 ys H2 ⟨hG0, s2, zG0, us, rfl, hlu, hus⟩
      refine ⟨_, rfl, by show 1 ≤ sizeLine; decide, fun l1' hl1' => ?_⟩
      have s3 := same_new (o := .lst [.int (n : Int)]) hl1'
      have zl1 : upd H2 l1' (.lst [.int (n : Int)]) l1' = some (.lst [.int (n : Int)]) := upd_same
      have zG03 := s3 _ _ zG0
      generalize upd H2 l1' (.lst [.int (n : Int)]) = H3 at *
      refine ⟨G0, l1', _, _, rfl, rfl, zG03, zl1, by rw [List.length_map]; exact Nat.le_trans (show us.length + 1 ≤ 25 by omega) (by decide), fun GO hGO => ?_⟩
      have eGO : us.map V.int ++ [V.int (n : Int)] = (us ++ [(n : Int)]).map V.int := by rw [List.map_append]; rfl
      rw [eGO]
      have s4 := same_new (o := .lst ((us ++ [(n : Int)]).map V.int)) hGO
      have zGO : upd H3 GO (.lst ((us ++ [(n : Int)]).map V.int)) GO = some (.lst ((us ++ [(n : Int)]).map V.int)) := upd_same
      have hlast : atI ((us ++ [(n : Int)]).map V.int) (-1) = some (.int (n : Int)) := by rw [← eGO]; exact atI_last _ _
      have gos : ∀ t ∈ us ++ [(n : Int)], 0 ≤ t := fun t ht => by
        rcases List.mem_append.mp ht with z | z
        · exact hus t z
        · rw [List.mem_singleton.mp z]; omega
      have gol : 1 ≤ (us ++ [(n : Int)]).length := by rw [List.length_append]; show 1 ≤ us.length + 1; omega
      obtain ⟨go0, go0i, hgo0⟩ := atI_mem (gs := us ++ [(n : Int)]) (i := 0) (by decide) (by omega)
      generalize us ++ [(n : Int)] = gs at *
      generalize upd H3 GO (.lst (gs.map V.int)) = H3b at *
      have sG := (s1.trans s2).trans (s3.trans s4)
      refine ⟨_, rfl, c, 8, rfl, rfl, ⟨by decide, by decide⟩, _, 303, rfl, by decide, by decide, fun r3 r30 => ⟨r3, 16, rfl, rfl, (by show (0 : Int) < 16; decide), ?_⟩⟩
      dsimp only
      generalize hwy : r3 % 16 = wy
      have lg : (0 : Int) < ((gs.map V.int).length : Int) := by rw [List.length_map]; omega
      obtain ⟨ga, hga, hata⟩ := atI_mem (gs := gs) (i := so % ((gs.map V.int).length : Int)) (Int.emod_nonneg _ (by omega)) (by have := Int.emod_lt_of_pos so lg; rw [List.length_map] at this ⊢; exact this)
      refine ⟨_, rfl, GO, _, _, .int go0, rfl, rfl, SqL.of zGO, hgo0, _, rfl, 1, rfl, GO, _, _, .int (n : Int), rfl, rfl, SqL.of zGO, hlast, _, rfl, _, rfl, 2, 48, rfl, rfl, ⟨by decide, by decide, by decide⟩, _, rfl, _, _, rfl, rfl, so, _, rfl, rfl, (by show (0 : Int) < 2 ^ (48 : Int).toNat - (n : Int); rw [e48]; omega), _, _, rfl, rfl, _, rfl, _, rfl, _, rfl, GO, _, rfl, .inl (SqL.of zGO), so, _, rfl, rfl, lg, GO, _, _, .int ga, rfl, rfl, SqL.of zGO, hata, by show 4 ≤ sizeLine; decide, fun l3 hl3 => ?_⟩
      dsimp only
      rw [e48]
      have d0 : 0 ≤ so % (281474976710656 - (n : Int)) := Int.emod_nonneg _ (by omega)
      generalize so % (281474976710656 - (n : Int)) = dd at d0 ⊢
      have s10 := same_new (o := .lst [V.int go0, V.int (n : Int), V.int ((n : Int) + dd), V.int ga]) hl3
      have zl3 : upd H3b l3 (.lst [V.int go0, V.int (n : Int), V.int ((n : Int) + dd), V.int ga]) l3 = some (.lst (([go0, (n : Int), (n : Int) + dd, ga] : List Int).map V.int)) := upd_same
      obtain ⟨g1, hg1, hat1⟩ := atI_mem (gs := [go0, (n : Int), (n : Int) + dd, ga]) (i := wy % 4) (by omega) (by show wy % 4 < 4; omega)
      have g10 : 0 ≤ g1 := by
        have a0 := gos ga hga
        have b0 := gos go0 go0i
        simp only [List.mem_cons, List.not_mem_nil, or_false] at hg1
        rcases hg1 with y | y | y | y <;> omega
      obtain ⟨rt2, rfl⟩ : ∃ rt : Nat, g1 = (rt : Int) := ⟨g1.toNat, by omega⟩
      refine ⟨_, rfl, wy, 4, rfl, rfl, (by show (0 : Int) < 4; decide), l3, _, _, .int (rt2 : Int), rfl, rfl, SqL.of zl3, hat1, ?_⟩
      have s14 := sG.trans s10
      generalize hH4 : upd H3b l3 (.lst [V.int go0, V.int (n : Int), V.int ((n : Int) + dd), V.int ga]) = H4 at *
      refine ⟨_, rfl, wy, 3, rfl, rfl, _, rfl, ite2 (fun _ => ⟨_, rfl, ?_⟩) (fun _ => ?_)⟩
      · refine ⟨_, rfl, by show 2 ≤ sizeLine; decide, fun u hu => ?_⟩
        have su := same_new (o := .tup [.int 3, .int 4]) hu
        have zu : upd H4 u (.tup [.int 3, .int 4]) u = some (.tup [.int 3, .int 4]) := upd_same
        generalize upd H4 u (.tup [.int 3, .int 4]) = H5 at *
        refine ⟨u, _, rfl, .inr (SqT.of zu), rfl, rfl, _, rfl, ite2 (fun _ => ?_) (fun _ => ?_)⟩
        · refine ⟨_, rfl, 2, 48, rfl, rfl, ⟨by decide, by decide, by decide⟩, _, 512, rfl, rfl, so, _, rfl, rfl, (by show (0 : Int) < 2 ^ (48 : Int).toNat - 512; decide), 512, _, rfl, rfl, ?_⟩
          dsimp only
          rw [e48]
          have d0 : 0 ≤ so % (281474976710656 - 512) := Int.emod_nonneg _ (by decide)
          obtain ⟨pl2, hpl2⟩ : ∃ p : Nat, 512 + so % (281474976710656 - 512) = (p : Int) := ⟨(512 + so % (281474976710656 - 512)).toNat, by omega⟩
          rw [hpl2]
          have sx := s14.trans su
          refine ⟨_, rfl, _, rfl, _, rfl, _, rfl, _, rfl, c, 8, rfl, rfl, ⟨by decide, by decide⟩, _, 2, rfl, rfl, (by show (0 : Int) < 2; decide), rfl, _, rfl, c, 16, rfl, rfl, ⟨by decide, by decide⟩, _, 2, rfl, rfl, (by show (0 : Int) < 2; decide), rfl, m, h, D, ps, qs, pg, pl2, _, _, rfl, B.same sx, fun H' ps' qs' B' ap aq hh ln kp => ?_⟩
          have lq := cont_len B'.c
          exact q H' ps' qs' B' (by omega) ⟨i0, hi0, by rw [← has_there, hh, has_there]; exact hth⟩ (fun b z => .inl (ap b z)) (fun b z => .inl (aq b z)) (fun b o n1 n2 e => kp b o n1 n2 (sx _ _ e))
        · have sx := s14.trans su
          refine ⟨_, rfl, _, rfl, _, rfl, _, rfl, _, rfl, c, 8, rfl, rfl, ⟨by decide, by decide⟩, _, 2, rfl, rfl, (by show (0 : Int) < 2; decide), rfl, _, rfl, c, 16, rfl, rfl, ⟨by decide, by decide⟩, _, 2, rfl, rfl, (by show (0 : Int) < 2; decide), rfl, m, h, D, ps, qs, pg, pl, _, _, rfl, B.same sx, fun H' ps' qs' B' ap aq hh ln kp => ?_⟩
          have lq := cont_len B'.c
          exact q H' ps' qs' B' (by omega) ⟨i0, hi0, by rw [← has_there, hh, has_there]; exact hth⟩ (fun b z => .inl (ap b z)) (fun b z => .inl (aq b z)) (fun b o n1 n2 e => kp b o n1 n2 (sx _ _ e))
      · refine ⟨_, rfl, by show 2 ≤ sizeLine; decide, fun u hu => ?_⟩
        have su := same_new (o := .tup [.int 3, .int 4]) hu
        have zu : upd H4 u (.tup [.int 3, .int 4]) u = some (.tup [.int 3, .int 4]) := upd_same
        generalize upd H4 u (.tup [.int 3, .int 4]) = H5 at *
        refine ⟨u, _, rfl, .inr (SqT.of zu), rfl, rfl, _, rfl, ite2 (fun _ => ?_) (fun _ => ?_)⟩
        · refine ⟨_, rfl, 2, 48, rfl, rfl, ⟨by decide, by decide, by decide⟩, _, 512, rfl, rfl, so, _, rfl, rfl, (by show (0 : Int) < 2 ^ (48 : Int).toNat - 512; decide), 512, _, rfl, rfl, ?_⟩
          dsimp only
          rw [e48]
          have d0 : 0 ≤ so % (281474976710656 - 512) := Int.emod_nonneg _ (by decide)
          obtain ⟨pl2, hpl2⟩ : ∃ p : Nat, 512 + so % (281474976710656 - 512) = (p : Int) := ⟨(512 + so % (281474976710656 - 512)).toNat, by omega⟩
          rw [hpl2]
          have sx := s14.trans su
          refine ⟨_, rfl, _, rfl, _, rfl, _, rfl, _, rfl, c, 8, rfl, rfl, ⟨by decide, by decide⟩, _, 2, rfl, rfl, (by show (0 : Int) < 2; decide), rfl, _, rfl, c, 16, rfl, rfl, ⟨by decide, by decide⟩, _, 2, rfl, rfl, (by show (0 : Int) < 2; decide), rfl, m, h, D, ps, qs, rt2, pl2, _, _, rfl, B.same sx, fun H' ps' qs' B' ap aq hh ln kp => ?_⟩
          have lq := cont_len B'.c
          exact q H' ps' qs' B' (by omega) ⟨i0, hi0, by rw [← has_there, hh, has_there]; exact hth⟩ (fun b z => .inl (ap b z)) (fun b z => .inl (aq b z)) (fun b o n1 n2 e => kp b o n1 n2 (sx _ _ e))
        · have sx := s14.trans su
          refine ⟨_, rfl, _, rfl, _, rfl, _, rfl, _, rfl, c, 8, rfl, rfl, ⟨by decide, by decide⟩, _, 2, rfl, rfl, (by show (0 : Int) < 2; decide), rfl, _, rfl, c, 16, rfl, rfl, ⟨by decide, by decide⟩, _, 2, rfl, rfl, (by show (0 : Int) < 2; decide), rfl, m, h, D, ps, qs, rt2, pl, _, _, rfl, B.same sx, fun H' ps' qs' B' ap aq hh ln kp => ?_⟩
          have lq := cont_len B'.c
          exact q H' ps' qs' B' (by omega) ⟨i0, hi0, by rw [← has_there, hh, has_there]; exact hth⟩ (fun b z => .inl (ap b z)) (fun b z => .inl (aq b z)) (fun b o n1 n2 e => kp b o n1 n2 (sx _ _ e))
    · have l8 : (pl : Int) % 8 = ((pl % 8 : Nat) : Int) := by omega
      have j8 : pl % 8 < 8 := Nat.mod_lt _ (by decide)
      refine ⟨_, rfl, c, 8, rfl, rfl, (by show (0 : Int) < 8; decide), rfl, _, rfl, ite2 (fun _ => ?_) (fun _ => ?_)⟩
      · refine ⟨_, rfl, _, rfl, _, rfl, so, kk, n, rfl, k0, (by omega), (by omega), (by omega), fun v1 Hr v10 v11 sr => ?_⟩
        have vv0 : 0 ≤ so / 2 % 281474976710656 := Int.emod_nonneg _ (by decide)
        have vv1 : so / 2 % 281474976710656 < 281474976710656 := Int.emod_lt_of_pos _ (by decide)
        refine ⟨_, rfl, so, 2, rfl, rfl, ⟨by decide, by decide⟩, 2, 48, rfl, rfl, ⟨by decide, by decide, by decide⟩, _, _, rfl, rfl, (by show (0 : Int) < 2 ^ (48 : Int).toNat; decide), by show 2 ≤ sizeLine; decide, fun l2 hl2 => ?_⟩
        dsimp only
        rw [e48]
        generalize so / 2 % 281474976710656 = v2 at vv0 vv1 ⊢
        have s3 := same_new (o := .lst [V.int v1, V.int v2]) hl2
        have zl2 : upd Hr l2 (.lst [V.int v1, V.int v2]) l2 = some (.lst (([v1, v2] : List Int).map V.int)) := upd_same
        obtain ⟨v, hv, hatv⟩ := atI_mem (gs := [v1, v2]) (i := so % 2) (by omega) (by show so % 2 < 2; omega)
        have v01 : 0 ≤ v ∧ v < 281474976710656 := by
          rcases List.mem_cons.mp hv with y | y
          · rw [y]; exact ⟨v10, v11⟩
          · rw [List.mem_singleton.mp y]; exact ⟨vv0, vv1⟩
        have sx := s1.trans (sr.trans s3)
        have B2 := B.same sx
        refine ⟨_, rfl, so, 2, rfl, rfl, (by show (0 : Int) < 2; decide), l2, _, _, .int v, rfl, rfl, SqL.of zl2, hatv, ?_⟩
        generalize upd Hr l2 (.lst [V.int v1, V.int v2]) = H2 at *
        obtain ⟨p, ws, q', ws', ep, eq, w8, w8', zq, haq, hhp, ip, iq⟩ := B2.pgAt pgt
        obtain ⟨dx, hm⟩ := B2.M.ob
        refine ⟨_, rfl, _, rfl, D, _, _, _, rfl, rfl, SqL.of B2.g.top, haq, _, rfl, (pl : Int), 8, rfl, rfl, (by show (0 : Int) < 8; decide), ?_⟩
        dsimp only
        rw [l8]
        refine ⟨q', _, _, pl % 8, rfl, rfl, zq, ixN_nat (by rw [List.length_map]; omega), ?_⟩
        have M3 := B2.wr1 (o := .lst ((ws'.map V.int).set (pl % 8) (.int v))) eq
        have B3 := B2.wr (j := pl % 8) ep eq v01.1 v01.2
        have gq3 := B2.g.setW (w := v) (j := pl % 8) eq
        have zq3 : upd H2 q' (.lst ((ws'.map V.int).set (pl % 8) (.int v))) q' = some (.lst ((ws'.map V.int).set (pl % 8) (.int v))) := upd_same
        have zm3 : upd H2 q' (.lst ((ws'.map V.int).set (pl % 8) (.int v))) m = some (.ins C dx (flds h)) := by rw [upd_ne (B2.nm (at_page eq))]; exact hm
        have zD3 : upd H2 q' (.lst ((ws'.map V.int).set (pl % 8) (.int v))) D = some (.lst (qs.map pgV)) := by rw [upd_ne (fun z => (B2.g.each pg q' ws' eq).2 z.symm)]; exact B2.g.top
        have ae : atI ((ws'.map V.int).set (pl % 8) (.int v)) ((pl % 8 : Nat) : Int) = some (.int v) := by
          exact atI_nat (List.getElem?_set_self (by rw [List.length_map]; omega))
        have kq : ∀ b o, b ≠ q' → H2 b = some o → upd H2 q' (.lst ((ws'.map V.int).set (pl % 8) (.int v))) b = some o := fun b o nb e => by rw [upd_ne nb]; exact e
        generalize upd H2 q' (.lst ((ws'.map V.int).set (pl % 8) (.int v))) = H3 at *
        refine ⟨_, rfl, m, dx, _, rfl, zm3, flds_no h (by decide +kernel), _, rfl, _, rfl, (pl : Int), 8, rfl, rfl, (by show (0 : Int) < 8; decide), _, rfl, _, rfl, D, _, _, _, rfl, rfl, SqL.of zD3, haq, _, rfl, (pl : Int), 8, rfl, rfl, (by show (0 : Int) < 8; decide), ?_⟩
        dsimp only
        rw [l8]
        refine ⟨q', _, _, .int v, rfl, rfl, SqL.of zq3, ae, ?_⟩
        refine ⟨m, m, h, m, m, m, ps, 0, [], [], 0, _, _, _, rfl, ⟨M3⟩, Th.int _, Th.int _, Th.int _, fun i j v' p' ws2 e1 e2 e3 e4 e5 e6 e7 => ?_, fun z => ?_, fun _ z => ?_, fun _ _ z => ?_⟩
        · cases Int.ofNat.inj (V.int.inj e1)
          cases Int.ofNat.inj (V.int.inj e2)
          cases V.int.inj e3
          rw [ep] at e4
          cases e4
          refine q _ _ _ B3 (by rw [setW_len, hn]) ⟨i0, hi0, by rw [there_setW]; exact hth⟩ (fun b z => .inl (At.setW z)) (fun b z => .inl (At.setW z)) (fun b o n1 n2 e => ?_)
          rw [upd_ne (fun z => n1 (by rw [z]; exact at_page ep))]
          exact kq b o (fun z => n2 (by rw [z]; exact at_page eq)) (sx _ _ e)
        · rw [hhp] at z; cases z
        · rw [below_of (by omega) (by omega)] at z; cases z
        · rw [below_of v01.1 v01.2] at z; cases z
      · obtain ⟨jj, hjj⟩ : ∃ jj : Nat, (pl : Int) % (n : Int) = (jj : Int) := ⟨pl % n, by omega⟩
        have hjn : jj < n := by have := Int.emod_lt_of_pos (pl : Int) (show (0 : Int) < n by omega); omega
        have lpn : (0 : Int) < (n : Int) := by omega
        refine ⟨_, rfl, c, 8, rfl, rfl, (by show (0 : Int) < 8; decide), rfl, _, rfl, ite2 (fun _ => ?_) (fun _ => ?_)⟩
        · refine ⟨_, rfl, TH, _, rfl, .inl (SqL.of zTH), _, 2, rfl, rfl, _, rfl, ite2 (fun g2 => ?_) (fun _ => ?_)⟩
          · have hn0 : ∀ (p : Addr) (vs : List Int), (none : Option (Addr × List Int)) = some (p, vs) → H1 p = some (.lst (vs.map V.int)) ∧ H1 p = none := fun p vs e => by cases e
            obtain ⟨M3, g3, ap3⟩ := B1.half (i := pg) (o := none) (Same.refl H1) hn0
            obtain ⟨p, ws, q', ws', ep, eq, w8, w8', zq, haq, hhp, ip, iq⟩ := B1.pgAt pgt
            refine ⟨_, rfl, _, rfl, D, _, _, pg, rfl, rfl, B1.g.top, ixN_nat (by rw [List.length_map]; exact iq), ?_⟩
            obtain ⟨dx, hm⟩ := M3.ob
            have kD : ∀ b o, b ≠ D → H1 b = some o → upd H1 D (.lst ((qs.map pgV).set pg (pgV none))) b = some o := fun b o nb e => by rw [upd_ne nb]; exact e
            refine ⟨_, rfl, m, dx, _, rfl, hm, flds_no h (by decide +kernel), _, rfl, m, h, ps, _, rfl, M3, Th.int _, fun i e1 _ _ => ?_, fun z => ?_⟩
            · cases Int.ofNat.inj (V.int.inj e1)
              have B4 := Two.full (i := pg) (o := none) M3 g3 ap3 (Same.refl _) (fun p vs e => by cases e) (fun p vs e => by cases e) (cont_put B.c rfl)
              obtain ⟨t, htm, htne⟩ := nd_two hnd (by simp at g2; omega) (pg : Int)
              obtain ⟨t0, tn, tt⟩ := hts t htm
              refine q _ _ _ B4 (by rw [List.length_set, hn]) ⟨t.toNat, by omega, there_put tt (.inl (by omega))⟩ (fun b z => .inl ?_) (fun b z => .inl ?_) (fun b o n1 n2 e => ?_)
              · rcases At.put z with y | ⟨vs, y⟩
                · exact y
                · cases y
              · rcases At.put z with y | ⟨vs, y⟩
                · exact y
                · cases y
              · rw [upd_ne (fun z => n1 (.inl z))]
                exact kD b o (fun z => n2 (.inl z)) (s1 _ _ e)
            · rw [hhp] at z; cases z
          · skip
            refine ⟨_, rfl, _, rfl, _, rfl, so, kk, n, rfl, k0, (by omega), (by omega), (by omega), fun l Hr ws hl sr zl w8 wb => ?_⟩
            have sx := s1.trans sr
            have B2 := B.same sx
            have hlH : H l = none := s1.free hl
            have hn2 : ∀ (p : Addr) (vs : List Int), some (l, ws) = some (p, vs) → Hr p = some (.lst (vs.map V.int)) ∧ H p = none := fun p vs e => by cases e; exact ⟨zl, hlH⟩
            obtain ⟨M3, g3, ap3⟩ := B.half (i := jj) sx hn2
            refine ⟨_, rfl, _, rfl, _, rfl, (pl : Int), (n : Int), rfl, rfl, lpn, ?_⟩
            dsimp only
            rw [hjj]
            refine ⟨D, _, _, jj, rfl, rfl, B2.g.top, ixN_nat (by rw [List.length_map, hn]; exact hjn), ?_⟩
            have eP : pgV (some (l, ws)) = .ref l := rfl
            rw [eP] at M3 g3
            have kD : ∀ b o, b ≠ D → Hr b = some o → upd Hr D (.lst ((qs.map pgV).set jj (.ref l))) b = some o := fun b o nb e => by rw [upd_ne nb]; exact e
            have zlD : upd Hr D (.lst ((qs.map pgV).set jj (.ref l))) l = some (.lst (ws.map V.int)) := kD l _ (ne_of_none B.g.top hlH).symm zl
            have zD3 := g3.top
            have atj : atI ((qs.set jj (some (l, ws))).map pgV) (jj : Int) = some (.ref l) := atI_nat (by rw [List.getElem?_map, List.getElem?_set_self (by rw [hn]; exact hjn)]; rfl)
            generalize upd Hr D (.lst ((qs.map pgV).set jj (.ref l))) = H3 at *
            obtain ⟨dx, hm⟩ := M3.ob
            refine ⟨_, rfl, m, dx, _, rfl, hm, flds_no h (by decide +kernel), _, rfl, _, rfl, (pl : Int), (n : Int), rfl, rfl, lpn, _, rfl, _, rfl, _, rfl, (pl : Int), (n : Int), rfl, rfl, lpn, ?_⟩
            dsimp only
            rw [hjj]
            refine ⟨D, _, _, _, rfl, rfl, SqL.of zD3, atj, l, _, rfl, .inl (SqL.of zlD), fun l2 hl2 => ?_⟩
            have s4 := same_new (o := .lst (ws.map V.int)) hl2
            have zl2 : upd H3 l2 (.lst (ws.map V.int)) l2 = some (.lst (ws.map V.int)) := upd_same
            generalize upd H3 l2 (.lst (ws.map V.int)) = H4 at *
            refine ⟨m, h, ps, _, _, rfl, M3.same s4, Th.int _, .inr (.inr ⟨jj, l2, ws, rfl, (by rw [lpq]; exact hjn), rfl, zl2, w8, wb, fun l3 H5 s5 hl3 => ?_⟩)⟩
            have s45 := s4.trans s5
            have hl33 : H3 l3 = none := s45.free hl3
            have s6 := same_new (o := .lst (ws.map V.int)) hl3
            have B4 := Two.full (i := jj) (o := some (l3, ws)) M3 g3 ap3 (s45.trans s6) (fun p vs e => by cases e; exact ⟨upd_same, hl33⟩) (fun p vs e => by cases e; exact ⟨w8, wb⟩) (cont_put B.c rfl)
            refine q _ _ _ B4 (by rw [List.length_set, hn]) ⟨i0, hi0, there_put hth (.inr rfl)⟩ (fun b z => ?_) (fun b z => ?_) (fun b o n1 n2 e => ?_)
            · rcases At.put z with y | ⟨vs, y⟩
              · exact .inl y
              · cases y
                refine .inr ?_
                cases e : H l3 with
                | none => rfl
                | some o =>
                  have nD : l3 ≠ D := fun z => by rw [z, zD3] at hl33; cases hl33
                  rw [kD l3 o nD (sx _ _ e)] at hl33
                  cases hl33
            · rcases At.put z with y | ⟨vs, y⟩
              · exact .inl y
              · cases y
                exact .inr hlH
            · rw [upd_ne (fun z => n1 (.inl z))]
              exact (s45.trans s6) _ _ (kD b o (fun z => n2 (.inl z)) (sx _ _ e))
        · skip
          refine ⟨_, rfl, _, rfl, _, rfl, so, kk, n, rfl, k0, (by omega), (by omega), (by omega), fun l Hr ws hl sr zl w8 wb => ?_⟩
          have sx := s1.trans sr
          have B2 := B.same sx
          have hlH : H l = none := s1.free hl
          have hn2 : ∀ (p : Addr) (vs : List Int), some (l, ws) = some (p, vs) → Hr p = some (.lst (vs.map V.int)) ∧ H p = none := fun p vs e => by cases e; exact ⟨zl, hlH⟩
          obtain ⟨M3, g3, ap3⟩ := B.half (i := jj) sx hn2
          refine ⟨_, rfl, _, rfl, _, rfl, (pl : Int), (n : Int), rfl, rfl, lpn, ?_⟩
          dsimp only
          rw [hjj]
          refine ⟨D, _, _, jj, rfl, rfl, B2.g.top, ixN_nat (by rw [List.length_map, hn]; exact hjn), ?_⟩
          have eP : pgV (some (l, ws)) = .ref l := rfl
          rw [eP] at M3 g3
          have kD : ∀ b o, b ≠ D → Hr b = some o → upd Hr D (.lst ((qs.map pgV).set jj (.ref l))) b = some o := fun b o nb e => by rw [upd_ne nb]; exact e
          have zlD : upd Hr D (.lst ((qs.map pgV).set jj (.ref l))) l = some (.lst (ws.map V.int)) := kD l _ (ne_of_none B.g.top hlH).symm zl
          have zD3 := g3.top
          have atj : atI ((qs.set jj (some (l, ws))).map pgV) (jj : Int) = some (.ref l) := atI_nat (by rw [List.getElem?_map, List.getElem?_set_self (by rw [hn]; exact hjn)]; rfl)
          generalize upd Hr D (.lst ((qs.map pgV).set jj (.ref l))) = H3 at *
          obtain ⟨dx, hm⟩ := M3.ob
          refine ⟨_, rfl, m, dx, _, rfl, hm, flds_no h (by decide +kernel), _, rfl, _, rfl, (pl : Int), (n : Int), rfl, rfl, lpn, _, rfl, _, rfl, _, rfl, (pl : Int), (n : Int), rfl, rfl, lpn, ?_⟩
          dsimp only
          rw [hjj]
          refine ⟨D, _, _, _, rfl, rfl, SqL.of zD3, atj, l, _, rfl, .inl (SqL.of zlD), fun l2 hl2 => ?_⟩
          have s4 := same_new (o := .lst (ws.map V.int)) hl2
          have zl2 : upd H3 l2 (.lst (ws.map V.int)) l2 = some (.lst (ws.map V.int)) := upd_same
          generalize upd H3 l2 (.lst (ws.map V.int)) = H4 at *
          refine ⟨m, h, ps, _, _, rfl, M3.same s4, Th.int _, .inr (.inr ⟨jj, l2, ws, rfl, (by rw [lpq]; exact hjn), rfl, zl2, w8, wb, fun l3 H5 s5 hl3 => ?_⟩)⟩
          have s45 := s4.trans s5
          have hl33 : H3 l3 = none := s45.free hl3
          have s6 := same_new (o := .lst (ws.map V.int)) hl3
          have B4 := Two.full (i := jj) (o := some (l3, ws)) M3 g3 ap3 (s45.trans s6) (fun p vs e => by cases e; exact ⟨upd_same, hl33⟩) (fun p vs e => by cases e; exact ⟨w8, wb⟩) (cont_put B.c rfl)
          refine q _ _ _ B4 (by rw [List.length_set, hn]) ⟨i0, hi0, there_put hth (.inr rfl)⟩ (fun b z => ?_) (fun b z => ?_) (fun b o n1 n2 e => ?_)
          · rcases At.put z with y | ⟨vs, y⟩
            · exact .inl y
            · cases y
              refine .inr ?_
              cases e : H l3 with
              | none => rfl
              | some o =>
                have nD : l3 ≠ D := fun z => by rw [z, zD3] at hl33; cases hl33
                rw [kD l3 o nD (sx _ _ e)] at hl33
                cases hl33
          · rcases At.put z with y | ⟨vs, y⟩
            · exact .inl y
            · cases y
              exact .inr hlH
          · rw [upd_ne (fun z => n1 (.inl z))]
            exact (s45.trans s6) _ _ (kD b o (fun z => n2 (.inl z)) (sx _ _ e))
end
end K17
end
section
namespace K17
open PySem L2
def spLaw (K : PySem.W.Frag) : Sp := fun vs H Q _ => ∃ (a : Addr) (ns : List Int), vs = [.ref a] ∧ SqL K H a (ns.map V.int) ∧ ns.length ≤ 63 ∧ ∀ H', Q (.bl true) H'
section
variable {P : Program} {w : World} {K : PySem.W.Frag} {mg : Str → Option Value} {base : Heap} {C NP NL NW NI SC PL WC FA : Addr}
theorem scLa : FnScope ["_law_script", "_law_first", "_law_size", "_law_pages", "_law_store", "_law_k", "_law_cell"] ["_law_script"] (defScope sLaw) := ⟨rfl, rfl, rfl, by decide +kernel, rfl, by decide +kernel, by decide +kernel⟩
theorem ndLa : (compN "_law_k" ["_law_script", "_law_first", "_law_size", "_law_pages", "_law_store", "_law_k", "_law_cell"]).Nodup := by decide +kernel
theorem dotLa : (".0" : Str) ∉ (["_law_script", "_law_first", "_law_size", "_law_pages", "_law_store", "_law_k", "_law_cell"] : List Str) := by decide +kernel
theorem ndLb : (compN "_law_words" ["_law_script", "_law_first", "_law_size", "_law_pages", "_law_store", "_law_k", "_law_cell"]).Nodup := by decide +kernel
theorem dotLb : (".0" : Str) ∉ (["_law_script", "_law_first", "_law_size", "_law_pages", "_law_store", "_law_k", "_law_cell"] : List Str) := by decide +kernel
theorem ok_law {f f0 f1 f2 f3 f8 : Addr} {fd fd0 fd1 fd2 fd3 fd8 : FuncData} (F : Fun K "law" "law" sLaw f fd) (D1 : Dn K mg "_law_cell_at" sCell ["_law_script", "_law_k"] f1 fd1) (G1 : FnOk P w K mg base CX0 1 f1 fd1 ["_law_script", "_law_k"] (spCell K)) (D2 : Dn K mg "_law_rows" sRowsL ["_law_cell", "_law_k", "_law_size"] f2 fd2) (G2 : FnOk P w K mg base CX0 3 f2 fd2 ["_law_cell", "_law_k", "_law_size"] spRowsL) (D3 : Dn K mg "_law_deed" sDeed ["_law_store", "_law_pages", "_law_cell", "_law_k"] f3 fd3) (G3 : FnOk P w K mg base CX0 11 f3 fd3 ["_law_store", "_law_pages", "_law_cell", "_law_k"] (spDeed C)) (M1 : Me K C "told" "Memory.told" sTold ["self"] f8 fd8) (GM1 : FnOk P w K mg base CX0 1 f8 fd8 ["self"] (spTold C)) (MK : Mk K C f0) (mC : mg "Memory" = some (.ref C)) (BI : Binds K fd0 ["self", "pages"] []) (GI : FnOk P w K mg base (CXr P w) 6 f0 fd0 ["self", "pages"] (spInit C)) (S0 : Sto K mg C NP NL NW NI) (EN : mg "enumerate" = none) (T : Txt K mg) : FnOk P w K mg base CX0 12 f fd ["_law_script"] (spLaw K) := by
  refine F.ok scLa (fun vs H Q E h => ?_) (fun cdv A1 outer s H vs Q E hr h => ?_)
  · obtain ⟨x, ns, rfl, _⟩ := h
    rfl
  · obtain ⟨x, ns, rfl, hS, hns, q0⟩ := h
    have hr7 : Room 7 _ := hr.mono (by decide)
    have hr3 : Room 3 _ := hr.mono (by decide)
    have hr1 : Room 1 _ := hr.mono (by decide)
    obtain ⟨t8, R8, hR8⟩ : ∃ tr, PSs (cxOf CX0 P w K mg base ["_law_script", "_law_first", "_law_size", "_law_pages", "_law_store", "_law_k", "_law_cell"] "law" (defScope sLaw) f cdv A1 outer s H E).nox ((defBody sLaw).drop 3) tr ∧ ∀ (v1 : Option V) (n : Nat), 2 ≤ n → n ≤ 24 → tr { nx := fun _ H' => Q .non H', rt := Q } [some (.ref x), v1, some (.int (n : Int)), none, none, none, none] H := by
      refine ⟨_, pss_cons (ps_setC (i := 3) scLa.nd rfl rfl rfl (cl := [("_law_size", s.heap.objs.size + 1 + 1), ("_law_script", s.heap.objs.size + 1)]) (tc := tYes) (te := tCall spRowsL [] E0 (tCons (tCall (spCell K) [] E0 (tCons (tVar 1) (tCons (tC (.int 1)) tNil))) (tCons (tVar 0) (tCons (tVar 3) tNil)))) rfl (pi_range1 (by rfl) T.rng (pa_cons (pv 2) pa_nil)) rfl (by repeat' (first | exact trivial | refine ⟨.inl ⟨.inr rfl, rfl⟩, ?_⟩ | refine ⟨.inl ⟨.inl rfl, rfl⟩, ?_⟩ | refine ⟨.inr (.inl ⟨by decide, by decide, by decide⟩), ?_⟩ | refine ⟨.inr (.inr ⟨rfl, by decide +kernel, by decide +kernel, rfl, rfl⟩), ?_⟩)) (show ClOk _ _ from ⟨rfl, rfl, trivial⟩) (fun C s₂ H₂ fp => .nil) (fun C s₂ H₂ fp => (pe_call G2 hr3 (by rfl) D2.m D2.F.kp D2.b .nil pass0 (pa_cons (pe_call G1 hr1 (by rfl) D1.m D1.F.kp D1.b .nil pass0 (pa_cons (pv 1) (pa_cons pe_int pa_nil))) (pa_cons (pv 0) (pa_cons (pv 3) pa_nil))))) ndLa (hdot := dotLa)) (pss_cons (ps_set (i := 4) scLa.nd rfl (Or.inl rfl) (pe_make MK GI hr7 (by rfl) mC BI .nil passX0 (pa_cons (pe_comp (cl := []) (tc := tYes) (te := tCB (fun xs H Q => ∃ p ys, xs = [.ref p] ∧ (SqL K H p ys ∨ SqT K H p ys) ∧ ∀ l, H l = none → Q (.ref l) (upd H l (.lst ys))) (tCons (tVar 0) tNil)) rfl (pi_list (pv 3)) (closureFor_none (by decide +kernel)) (by repeat' (first | exact trivial | refine ⟨.inl ⟨.inr rfl, rfl⟩, ?_⟩ | refine ⟨.inl ⟨.inl rfl, rfl⟩, ?_⟩ | refine ⟨.inr (.inl ⟨by decide, by decide, by decide⟩), ?_⟩ | refine ⟨.inr (.inr ⟨rfl, by decide +kernel, by decide +kernel, rfl, rfl⟩), ?_⟩)) trivial (fun C s₂ H₂ fp => .nil) (fun C s₂ H₂ fp => (pe_callTy call_list_of (by rfl) T.lst PyProof.Rows.boot_list (pa_cons (pv 0) pa_nil))) ndLb (hdot := dotLb)) pa_nil))) (pss_cons (ps_for PassesOwn.never rfl (pi_enum (by rfl) EN (pa_cons (pe_slice sl_list (pv 0) (po_some pe_int) (po_some pe_int)) pa_nil)) (pg_tup rfl (pgs_cons (pg_name (i := 5) scLa.nd rfl (Or.inl rfl)) (pgs_cons (pg_name (i := 6) scLa.nd rfl (Or.inl rfl)) pgs_nil))) (pss_cons (ps_if (pt_not (pt_val (pe_call G3 hr (by rfl) D3.m D3.F.kp D3.b .nil pass0 (pa_cons (pv 4) (pa_cons (pv 3) (pa_cons (pv 6) (pa_cons (pv 5) pa_nil))))))) (pss_one (ps_ret pe_bl)) pss_nil) (pss_one (ps_if (PW.pt (pw_and (pt_cmpR op_eq (pe_op op_mod (pv 5) pe_int) pe_int (nomark _)) (pw_and1 (pt_cmpR (op_neD hr.units) (pe_meth0 (pv 4) S0.cl M1.m GM1 hr1 M1.b .nil pass0) (pv 3) (nomark _))))) (pss_one (ps_ret pe_bl)) pss_nil)))) (pss_one (ps_ret (pe_cmpR (op_eqD hr.units) (pe_meth0 (pv 4) S0.cl M1.m GM1 hr1 M1.b .nil pass0) (pv 3) (nomark _)))))), fun v1 n n1 n2 => ?_⟩
      refine ⟨_, rfl, n, rfl, (by omega), (by omega), ?_⟩
      rw [show ((n : Int)).toNat = n from Int.toNat_natCast n]
      refine comp_range (lo := 0) (n := n) (fun E2 k ys H' => ∃ ps : Pgs, H E2 = none ∧ Same H H' ∧ Pg H' E2 ps ∧ ys = ps.map pgV ∧ ps.length = k ∧ Good ps ∧ (∀ j, j < k → isThere ps[j]? = true) ∧ (∀ b, At E2 ps b → H b = none)) ?_ ?_ ?_ ?_
      · intro E2 hE
        refine ⟨[], hE, same_new hE, ⟨upd_same, fun i p ws e => by simp at e, fun i j p ws ws' e => by simp at e⟩, rfl, rfl, fun i p ws e => by simp at e, fun j hj => absurd hj (Nat.not_lt_zero _), fun b hb => ?_⟩
        rcases hb with rfl | ⟨i, ws, e⟩
        · exact hE
        · simp at e
      · rintro E2 k ys H' _ ⟨ps, _, _, g, rfl, _⟩
        exact g.top
      · rintro E2 k ys H' hk ⟨ps, hE, ss, g, rfl, hl, gd, ht, hf⟩
        rw [Int.zero_add]
        refine iteT ⟨_, rfl, x, ns, 1, rfl, ss.seq hS, _, rfl, _, rfl, _, k, n, rfl, (by omega), (by omega), (by omega), (by omega), fun l H3 ws hl3 s3 zl w8 wb => ?_⟩
        have hn : ∀ (p : Addr) (vs : List Int), some (l, ws) = some (p, vs) → H3 p = some (.lst (vs.map V.int)) ∧ H' p = none := fun p vs e => by cases e; exact ⟨zl, hl3⟩
        refine ⟨s3 _ _ g.top, ?_, ps ++ [some (l, ws)], hE, Same.set (ss.trans s3) hE, g.app s3 hn, by rw [List.map_append]; rfl, by rw [List.length_append, hl]; rfl, gd.app (fun p vs e => by cases e; exact ⟨w8, wb⟩), fun j hj => ?_, fun b hb => ?_⟩
        · rw [List.length_map, hl]
          exact Nat.lt_of_lt_of_le (by omega : k < 1001) (by decide)
        · by_cases e : j = k
          · subst e
            rw [List.getElem?_append_right (by omega), hl, Nat.sub_self]
            rfl
          · rw [List.getElem?_append_left (by omega)]
            exact ht j (by omega)
        · rcases hb.app with z | ⟨vs, z⟩
          · exact hf b z
          · cases z
            exact ss.free hl3
      rintro D ys H1 ⟨qs, hD, s1, g1, rfl, hl, gd, ht, hf⟩
      refine ⟨_, rfl, D, rfl, ⟨_, SqL.of g1.top⟩, comp_list (xs := qs.map pgV) (fun E2 k ys H' => ∃ ps : Pgs, H1 E2 = none ∧ Same H1 H' ∧ Pg H' E2 ps ∧ ys = ps.map pgV ∧ ps.length = k ∧ cont ps = cont (qs.take k) ∧ (∀ b, At E2 ps b → H1 b = none)) ?_ ?_ ?_ ?_⟩
      · intro E2 hE
        refine ⟨[], hE, same_new hE, ⟨upd_same, fun i p ws e => by simp at e, fun i j p ws ws' e => by simp at e⟩, rfl, rfl, rfl, fun b hb => ?_⟩
        rcases hb with rfl | ⟨i, ws, e⟩
        · exact hE
        · simp at e
      · rintro E2 k ys H' _ ⟨ps, _, ss, g, rfl, _⟩
        exact ⟨SqL.of (ss _ _ g1.top), g.top⟩
      · rintro E2 k y ys H' hi ⟨ps, hE, ss, g, rfl, hlk, hc, hf2⟩
        have hkn : k < n := by have := (List.getElem?_eq_some_iff.mp hi).1; rw [List.length_map, hl] at this; exact this
        obtain ⟨p, ws, e⟩ := there_some (ht k hkn)
        rw [List.getElem?_map, e] at hi
        cases hi
        refine iteT ⟨_, rfl, p, _, rfl, .inl (SqL.of (ss _ _ (g1.each k p ws e).1)), fun l hl3 => ?_⟩
        have s3 := same_new (o := .lst (ws.map V.int)) hl3
        refine ⟨s3 _ _ g.top, ?_, ps ++ [some (l, ws)], hE, Same.set (ss.trans s3) hE, g.app (o := some (l, ws)) s3 (fun p vs e => by cases e; exact ⟨upd_same, hl3⟩), by rw [List.map_append]; rfl, by rw [List.length_append, hlk]; rfl, ?_, fun b hb => ?_⟩
        · rw [List.length_map, hlk]
          exact Nat.lt_of_lt_of_le (by omega : k < 1001) (by decide)
        · rw [List.take_add_one, e]
          unfold cont at hc ⊢
          rw [List.map_append, List.map_append, hc]
          rfl
        · rcases hb.app with z | ⟨vs, z⟩
          · exact hf2 b z
          · cases z
            exact ss.free hl3
      rintro hd ys H6 ⟨hs, _, s6, gh, rfl, hlh, hch, hfh⟩
      rw [List.length_map, List.take_length] at hch
      rw [List.length_map] at hlh
      refine fun m dx nx ndx ne => ?_
      have sM : Same H6 (upd (upd H6 dx (.own m)) m (.ins C dx [])) := (same_new ndx).trans (same_new (by rw [upd_ne (Ne.symm ne)]; exact nx))
      refine ⟨m, dx, hd, hs, rfl, upd_same, gh.same sM, good_cont hch gd, (by omega), (by omega), fun hh H7 ps keep M hcp hfp => ⟨rfl, ?_⟩⟩
      have s7 : Same H6 H7 := fun b o e => keep b o (ne_of_none e nx) (sM b o e)
      have cc : cont ps = cont qs := hcp.trans hch
      have s17 := s6.trans s7
      have sH7 := s1.trans s17
      have B7 : Two C H7 m hh D ps qs := ⟨M, g1.same s17, cc, fun b hb hq => by
        obtain ⟨xs, e⟩ := at_live (g1.same s6) hq
        have := hfp b hb
        rw [sM _ _ e] at this
        cases this⟩
      refine ⟨_, rfl, 2, rfl, 82, rfl, x, _, rfl, sH7.seq hS, fun sl hsl => ?_⟩
      obtain ⟨ms, hms, hml⟩ := cut_ints ns (some 2) (some 82)
      rw [hms]
      have s8 := same_new (o := .lst (ms.map V.int)) hsl
      have zsl : upd H7 sl (.lst (ms.map V.int)) sl = some (.lst (ms.map V.int)) := upd_same
      have B8 := B7.same s8
      have nat1 : ¬ At hh ps sl := fun z => by
        obtain ⟨xs, e⟩ := at_live B7.M.pg z
        rw [hsl] at e
        cases e
      have nat2 : ¬ At D qs sl := fun z => by
        obtain ⟨xs, e⟩ := at_live B7.g z
        rw [hsl] at e
        cases e
      generalize upd H7 sl (.lst (ms.map V.int)) = H8 at *
      refine ⟨sl, _, rfl, SqL.of zsl, for_enum (K := K) (a := sl) (xs := ms.map V.int) (fun i σ H' => ∃ (ps' qs' : Pgs) (v5 v6 : Option V), σ = [some (.ref x), v1, some (.int (n : Int)), some (.ref D), some (.ref m), v5, v6] ∧ Two C H' m hh D ps' qs' ∧ qs'.length = n ∧ (∃ i, i < n ∧ isThere qs'[i]? = true) ∧ H' sl = some (.lst (ms.map V.int)) ∧ ¬ At hh ps' sl ∧ ¬ At D qs' sl) ?_ ?_ ?_ ?_⟩
      · exact ⟨ps, qs, _, _, rfl, B8, hl, ⟨0, by omega, ht 0 (by omega)⟩, zsl, nat1, nat2⟩
      · rintro i σ H' _ ⟨_, _, _, _, _, _, _, _, z, _⟩
        exact SqL.of z
      · rintro i y σ H' t hi ⟨ps', qs', v5, v6, rfl, B', hl', th', z', na1, na2⟩ htn
        rw [List.getElem?_map] at hi
        cases ec : ms[i]? with
        | none => rw [ec] at hi; cases hi
        | some c =>
        rw [ec] at hi
        cases hi
        have hil : i < ms.length := (List.getElem?_eq_some_iff.mp ec).1
        have st := same_new (o := .tup [V.int (i : Int), V.int c]) htn
        refine ⟨t, _, rfl, SqT.of upd_same, rfl, _, _, rfl, _, _, rfl, rfl, ?_⟩
        refine ⟨_, rfl, _, rfl, _, rfl, _, rfl, m, hh, D, ps', qs', c, i, rfl, B'.same st, (by omega), (by omega), (by omega), (by omega), by rw [hl']; exact th', fun H2 ps2 qs2 B2 l2 th2 a1 a2 kp => ⟨_, rfl, iteF ?_⟩⟩
        rw [hl'] at l2 th2
        have z2 : H2 sl = some (.lst (ms.map V.int)) := kp _ _ na1 na2 (st _ _ z')
        have nb1 : ¬ At hh ps2 sl := fun z => by
          rcases a1 _ z with y | y
          · exact na1 y
          · rw [st _ _ z'] at y; cases y
        have nb2 : ¬ At D qs2 sl := fun z => by
          rcases a2 _ z with y | y
          · exact na2 y
          · rw [st _ _ z'] at y; cases y
        refine ⟨_, rfl, (i : Int), 4, rfl, rfl, (by show (0 : Int) < 4; decide), rfl, _, rfl, ite2 (fun _ => ?_) (fun _ => iteF ⟨ps2, qs2, _, _, rfl, B2, l2, th2, z2, nb1, nb2⟩)⟩
        obtain ⟨dm, em⟩ := B2.M.ob
        refine ⟨_, rfl, m, dm, _, rfl, em, flds_no hh (by decide +kernel), m, hh, ps2, rfl, B2.M, fun D3 H10 qs3 s10 g10 c10 f10 => ?_⟩
        refine ⟨_, rfl, _, _, datPg g10, datPg (B2.g.same s10), shapedC _, shapedC _, ?_⟩
        rw [c10, B2.c, eqvC]
        exact ⟨_, rfl, iteF ⟨ps2, qs2, _, _, rfl, B2.same s10, l2, th2, s10 _ _ z2, nb1, nb2⟩⟩
      · rintro σ H' ⟨ps', qs', v5, v6, rfl, B', hl', th', z', na1, na2⟩
        obtain ⟨dm, em⟩ := B'.M.ob
        refine ⟨_, rfl, m, dm, _, rfl, em, flds_no hh (by decide +kernel), m, hh, ps', rfl, B'.M, fun D3 H10 qs3 s10 g10 c10 f10 => ?_⟩
        refine ⟨_, rfl, _, _, datPg g10, datPg (B'.g.same s10), shapedC _, shapedC _, ?_⟩
        rw [c10, B'.c, eqvC]
        exact q0 _
    refine ⟨_, pss_cons (ps_set (i := 1) scLa.nd rfl (Or.inl rfl) (pe_call G1 hr1 (by rfl) D1.m D1.F.kp D1.b .nil pass0 (pa_cons (pv 0) (pa_cons pe_int pa_nil)))) (pss_cons (ps_set (i := 2) scLa.nd rfl (Or.inr rfl) (pe_op op_add pe_int (pe_op op_mod (pe_op op_fdiv (pv 1) pe_int) pe_int))) (pss_cons (ps_if (pt_cmpR op_eq (pe_op op_mod (pv 1) pe_int) pe_int (nomark _)) (pss_one (ps_set (i := 2) scLa.nd rfl (Or.inr rfl) (pe_op op_add pe_int (pe_op op_mod (pe_op op_fdiv (pv 1) pe_int) pe_int)))) pss_nil) R8)), ?_⟩
    refine ⟨_, rfl, x, ns, 0, rfl, hS, ?_⟩
    generalize ns.getD 0 0 = c0
    refine ⟨_, rfl, c0, 8, rfl, rfl, ⟨by decide, by decide⟩, _, 5, rfl, rfl, (by show (0 : Int) < 5; decide), 2, _, rfl, rfl, ?_⟩
    dsimp only
    obtain ⟨n, hn⟩ : ∃ n : Nat, 2 + c0 / 8 % 5 = (n : Int) := ⟨(2 + c0 / 8 % 5).toNat, by omega⟩
    rw [hn]
    refine ⟨_, rfl, c0, 8, rfl, rfl, (by show (0 : Int) < 8; decide), rfl, _, rfl, ite2 (fun _ => ?_) (fun _ => hR8 _ n (by omega) (by omega))⟩
    refine ⟨_, rfl, c0, 40, rfl, rfl, ⟨by decide, by decide⟩, _, 18, rfl, rfl, (by show (0 : Int) < 18; decide), 7, _, rfl, rfl, ?_⟩
    dsimp only
    obtain ⟨n7, hn7⟩ : ∃ n : Nat, 7 + c0 / 40 % 18 = (n : Int) := ⟨(7 + c0 / 40 % 18).toNat, by omega⟩
    rw [hn7]
    exact hR8 _ n7 (by omega) (by omega)
end
end K17
end
section
open PySem PySem.W PyProof.Rows
namespace K17
open PySem L2
theorem ba1 {fd : FuncData} {p1 : Str} (h : ∀ a1 : Value, bindArgs fd ⟨[a1], []⟩ = pure ([p1].zip [a1])) : ∀ us : List Value, us.length = [p1].length → bindArgs fd ⟨us, []⟩ = pure ([p1].zip us)
  | [_], _ => h _
theorem ba2 {fd : FuncData} {p1 p2 : Str} (h : ∀ a1 a2 : Value, bindArgs fd ⟨[a1, a2], []⟩ = pure ([p1, p2].zip [a1, a2])) : ∀ us : List Value, us.length = [p1, p2].length → bindArgs fd ⟨us, []⟩ = pure ([p1, p2].zip us)
  | [_, _], _ => h _ _
theorem ba3 {fd : FuncData} {p1 p2 p3 : Str} (h : ∀ a1 a2 a3 : Value, bindArgs fd ⟨[a1, a2, a3], []⟩ = pure ([p1, p2, p3].zip [a1, a2, a3])) : ∀ us : List Value, us.length = [p1, p2, p3].length → bindArgs fd ⟨us, []⟩ = pure ([p1, p2, p3].zip us)
  | [_, _, _], _ => h _ _ _
theorem ba4 {fd : FuncData} {p1 p2 p3 p4 : Str} (h : ∀ a1 a2 a3 a4 : Value, bindArgs fd ⟨[a1, a2, a3, a4], []⟩ = pure ([p1, p2, p3, p4].zip [a1, a2, a3, a4])) : ∀ us : List Value, us.length = [p1, p2, p3, p4].length → bindArgs fd ⟨us, []⟩ = pure ([p1, p2, p3, p4].zip us)
  | [_, _, _, _], _ => h _ _ _ _
theorem ba5 {fd : FuncData} {p1 p2 p3 p4 p5 : Str} (h : ∀ a1 a2 a3 a4 a5 : Value, bindArgs fd ⟨[a1, a2, a3, a4, a5], []⟩ = pure ([p1, p2, p3, p4, p5].zip [a1, a2, a3, a4, a5])) : ∀ us : List Value, us.length = [p1, p2, p3, p4, p5].length → bindArgs fd ⟨us, []⟩ = pure ([p1, p2, p3, p4, p5].zip us)
  | [_, _, _, _, _], _ => h _ _ _ _ _
theorem ba6 {fd : FuncData} {p1 p2 p3 p4 p5 p6 : Str} (h : ∀ a1 a2 a3 a4 a5 a6 : Value, bindArgs fd ⟨[a1, a2, a3, a4, a5, a6], []⟩ = pure ([p1, p2, p3, p4, p5, p6].zip [a1, a2, a3, a4, a5, a6])) : ∀ us : List Value, us.length = [p1, p2, p3, p4, p5, p6].length → bindArgs fd ⟨us, []⟩ = pure ([p1, p2, p3, p4, p5, p6].zip us)
  | [_, _, _, _, _, _], _ => h _ _ _ _ _ _
theorem all_mk {l : PySem.W.OpenLaw} {w : World} {K : PySem.W.Frag} {h : Heap} {mg : Str → Option Value} {fa f0 f1 f2 f3 f4 f5 f6 f7 f8 f9 f10 f11 f12 f13 f14 f15 f16 f17 f18 f19 f20 f21 f22 f23 f24 f25 f26 f27 f28 f29 f30 f31 f32 f33 f34 f35 f36 f37 f38 f39 f40 f41 xC xSC xNP xNL xNW xNI xFA : Addr} (X : K.In h) (G : h.Ns mainGlobals mg) (hfa : mg "law" = some (.ref fa))
    {od0 an0 od1 an1 od2 an2 od3 an3 od4 an4 od5 an5 od6 an6 od7 an7 od8 an8 od9 an9 od10 an10 od11 an11 od12 an12 od13 an13 od14 an14 od15 an15 od16 an16 od17 an17 od18 an18 od19 an19 od20 an20 od21 an21 od22 an22 od23 an23 od24 an24 od25 an25 od26 an26 od27 an27 od28 an28 od29 an29 od30 an30 od31 an31 od32 an32 od33 an33 od34 an34 od35 an35 od36 an36 od37 an37 od38 an38 od39 an39 od40 an40 od41 an41 : Option Addr} {sl0 sl1 sl2 sl3 sl4 sl5 sl6 sl7 sl8 sl9 sl10 sl11 sl12 sl13 sl14 sl15 sl16 sl17 sl18 sl19 sl20 sl21 sl22 sl23 sl24 sl25 sl26 sl27 sl28 sl29 sl30 sl31 sl32 sl33 sl34 sl35 sl36 sl37 sl38 sl39 sl40 sl41 : Array (Option Value)} {oc0 kV0 dc0 pm0 cd0 ct0 oc1 kV1 dc1 pm1 cd1 ct1 oc2 kV2 dc2 pm2 cd2 ct2 oc3 kV3 dc3 pm3 cd3 ct3 oc4 kV4 dc4 pm4 cd4 ct4 oc5 kV5 dc5 pm5 cd5 ct5 oc6 kV6 dc6 pm6 cd6 ct6 oc7 kV7 dc7 pm7 cd7 ct7 oc8 kV8 dc8 pm8 cd8 ct8 oc9 kV9 dc9 pm9 cd9 ct9 oc10 kV10 dc10 pm10 cd10 ct10 oc11 kV11 dc11 pm11 cd11 ct11 oc12 kV12 dc12 pm12 cd12 ct12 oc13 kV13 dc13 pm13 cd13 ct13 oc14 kV14 dc14 pm14 cd14 ct14 oc15 kV15 dc15 pm15 cd15 ct15 oc16 kV16 dc16 pm16 cd16 ct16 oc17 kV17 dc17 pm17 cd17 ct17 oc18 kV18 dc18 pm18 cd18 ct18 oc19 kV19 dc19 pm19 cd19 ct19 oc20 kV20 dc20 pm20 cd20 ct20 oc21 kV21 dc21 pm21 cd21 ct21 oc22 kV22 dc22 pm22 cd22 ct22 oc23 kV23 dc23 pm23 cd23 ct23 oc24 kV24 dc24 pm24 cd24 ct24 oc25 kV25 dc25 pm25 cd25 ct25 oc26 kV26 dc26 pm26 cd26 ct26 oc27 kV27 dc27 pm27 cd27 ct27 oc28 kV28 dc28 pm28 cd28 ct28 oc29 kV29 dc29 pm29 cd29 ct29 oc30 kV30 dc30 pm30 cd30 ct30 oc31 kV31 dc31 pm31 cd31 ct31 oc32 kV32 dc32 pm32 cd32 ct32 oc33 kV33 dc33 pm33 cd33 ct33 oc34 kV34 dc34 pm34 cd34 ct34 oc35 kV35 dc35 pm35 cd35 ct35 oc36 kV36 dc36 pm36 cd36 ct36 oc37 kV37 dc37 pm37 cd37 ct37 oc38 kV38 dc38 pm38 cd38 ct38 oc39 kV39 dc39 pm39 cd39 ct39 oc40 kV40 dc40 pm40 cd40 ct40 oc41 kV41 dc41 pm41 cd41 ct41 : Value} {tk0 tk1 tk2 tk3 tk4 tk5 tk6 tk7 tk8 tk9 tk10 : Tok}
    (n_C : PySem.W.nsIn K mainGlobals "Memory" = some (some (.ref xC)))
    (n_SC : PySem.W.nsIn K mainGlobals "Memory" = some (some (.ref xSC)))
    (n_NP : PySem.W.nsIn K mainGlobals "NoPage" = some (some (.ref xNP)))
    (n_NL : PySem.W.nsIn K mainGlobals "NoPlace" = some (some (.ref xNL)))
    (n_NW : PySem.W.nsIn K mainGlobals "NoWord" = some (some (.ref xNW)))
    (n_NI : PySem.W.nsIn K mainGlobals "NoImage" = some (some (.ref xNI)))
    (n_FA : PySem.W.nsIn K mainGlobals "Fault" = some (some (.ref xFA)))
    (a0 : PySem.W.nsIn K mainGlobals "is_whole" = some (some (.ref f0)))
    (l0 : K.lookup f0 = some ⟨oc0, od0, .func (PySem.W.fnOf "is_whole" "is_whole" (defArgs sWhole) (defBody sWhole) (defScope sWhole) .none kV0 dc0 pm0 an0 cd0 ct0), sl0⟩)
    (c0 : PySem.W.codeIn K cd0 "is_whole" = true)
    (k0 : PySem.W.keepIn K (.ref f0) = true)
    (a1 : PySem.W.nsIn K mainGlobals "is_below" = some (some (.ref f1)))
    (l1 : K.lookup f1 = some ⟨oc1, od1, .func (PySem.W.fnOf "is_below" "is_below" (defArgs sBelow) (defBody sBelow) (defScope sBelow) .none kV1 dc1 pm1 an1 cd1 ct1), sl1⟩)
    (c1 : PySem.W.codeIn K cd1 "is_below" = true)
    (k1 : PySem.W.keepIn K (.ref f1) = true)
    (a2 : PySem.W.nsIn K mainGlobals "is_word" = some (some (.ref f2)))
    (l2 : K.lookup f2 = some ⟨oc2, od2, .func (PySem.W.fnOf "is_word" "is_word" (defArgs sWord) (defBody sWord) (defScope sWord) .none kV2 dc2 pm2 an2 cd2 ct2), sl2⟩)
    (c2 : PySem.W.codeIn K cd2 "is_word" = true)
    (k2 : PySem.W.keepIn K (.ref f2) = true)
    (a3 : PySem.W.findIn K (.ref xC) "size" = some (some (.ref f3)))
    (l3 : K.lookup f3 = some ⟨oc3, od3, .func (PySem.W.fnOf "size" "Memory.size" (defArgs sSize) (defBody sSize) (defScope sSize) .none kV3 dc3 pm3 an3 cd3 ct3), sl3⟩)
    (c3 : PySem.W.codeIn K cd3 "Memory.size" = true)
    (k3 : PySem.W.keepIn K (.ref f3) = true)
    (a4 : PySem.W.findIn K (.ref xC) "has" = some (some (.ref f4)))
    (l4 : K.lookup f4 = some ⟨oc4, od4, .func (PySem.W.fnOf "has" "Memory.has" (defArgs sHas) (defBody sHas) (defScope sHas) .none kV4 dc4 pm4 an4 cd4 ct4), sl4⟩)
    (c4 : PySem.W.codeIn K cd4 "Memory.has" = true)
    (k4 : PySem.W.keepIn K (.ref f4) = true)
    (a5 : PySem.W.findIn K (.ref xC) "check_page" = some (some (.ref f5)))
    (l5 : K.lookup f5 = some ⟨oc5, od5, .func (PySem.W.fnOf "check_page" "Store.check_page" (defArgs sCPage) (defBody sCPage) (defScope sCPage) .none kV5 dc5 pm5 an5 cd5 ct5), sl5⟩)
    (c5 : PySem.W.codeIn K cd5 "Store.check_page" = true)
    (k5 : PySem.W.keepIn K (.ref f5) = true)
    (a6 : PySem.W.findIn K (.ref xC) "check_spot" = some (some (.ref f6)))
    (l6 : K.lookup f6 = some ⟨oc6, od6, .func (PySem.W.fnOf "check_spot" "Store.check_spot" (defArgs sSpot) (defBody sSpot) (defScope sSpot) .none kV6 dc6 pm6 an6 cd6 ct6), sl6⟩)
    (c6 : PySem.W.codeIn K cd6 "Store.check_spot" = true)
    (k6 : PySem.W.keepIn K (.ref f6) = true)
    (a7 : PySem.W.findIn K (.ref xC) "word_at" = some (some (.ref f7)))
    (l7 : K.lookup f7 = some ⟨oc7, od7, .func (PySem.W.fnOf "word_at" "Memory.word_at" (defArgs sWordAt) (defBody sWordAt) (defScope sWordAt) .none kV7 dc7 pm7 an7 cd7 ct7), sl7⟩)
    (c7 : PySem.W.codeIn K cd7 "Memory.word_at" = true)
    (k7 : PySem.W.keepIn K (.ref f7) = true)
    (a8 : PySem.W.findIn K (.ref xC) "put_word" = some (some (.ref f8)))
    (l8 : K.lookup f8 = some ⟨oc8, od8, .func (PySem.W.fnOf "put_word" "Memory.put_word" (defArgs sPutWord) (defBody sPutWord) (defScope sPutWord) .none kV8 dc8 pm8 an8 cd8 ct8), sl8⟩)
    (c8 : PySem.W.codeIn K cd8 "Memory.put_word" = true)
    (k8 : PySem.W.keepIn K (.ref f8) = true)
    (a9 : PySem.W.nsIn K mainGlobals "check_word" = some (some (.ref f9)))
    (l9 : K.lookup f9 = some ⟨oc9, od9, .func (PySem.W.fnOf "check_word" "check_word" (defArgs sCWord) (defBody sCWord) (defScope sCWord) .none kV9 dc9 pm9 an9 cd9 ct9), sl9⟩)
    (c9 : PySem.W.codeIn K cd9 "check_word" = true)
    (k9 : PySem.W.keepIn K (.ref f9) = true)
    (a10 : PySem.W.findIn K (.ref xC) "told" = some (some (.ref f10)))
    (l10 : K.lookup f10 = some ⟨oc10, od10, .func (PySem.W.fnOf "told" "Memory.told" (defArgs sTold) (defBody sTold) (defScope sTold) .none kV10 dc10 pm10 an10 cd10 ct10), sl10⟩)
    (c10 : PySem.W.codeIn K cd10 "Memory.told" = true)
    (k10 : PySem.W.keepIn K (.ref f10) = true)
    (a11 : PySem.W.nsIn K mainGlobals "is_eight_words" = some (some (.ref f11)))
    (l11 : K.lookup f11 = some ⟨oc11, od11, .func (PySem.W.fnOf "is_eight_words" "is_eight_words" (defArgs sEight) (defBody sEight) (defScope sEight) .none kV11 dc11 pm11 an11 cd11 ct11), sl11⟩)
    (c11 : PySem.W.codeIn K cd11 "is_eight_words" = true)
    (k11 : PySem.W.keepIn K (.ref f11) = true)
    (a12 : PySem.W.nsIn K mainGlobals "check_image" = some (some (.ref f12)))
    (l12 : K.lookup f12 = some ⟨oc12, od12, .func (PySem.W.fnOf "check_image" "check_image" (defArgs sImage) (defBody sImage) (defScope sImage) .none kV12 dc12 pm12 an12 cd12 ct12), sl12⟩)
    (c12 : PySem.W.codeIn K cd12 "check_image" = true)
    (k12 : PySem.W.keepIn K (.ref f12) = true)
    (a13 : PySem.W.findIn K (.ref xC) "__init__" = some (some (.ref f13)))
    (l13 : K.lookup f13 = some ⟨oc13, od13, .func (PySem.W.fnOf "__init__" "Memory.__init__" (defArgs sInit) (defBody sInit) (defScope sInit) .none kV13 dc13 pm13 an13 cd13 ct13), sl13⟩)
    (c13 : PySem.W.codeIn K cd13 "Memory.__init__" = true)
    (k13 : PySem.W.keepIn K (.ref f13) = true)
    (a14 : PySem.W.findIn K (.ref xC) "give" = some (some (.ref f14)))
    (l14 : K.lookup f14 = some ⟨oc14, od14, .func (PySem.W.fnOf "give" "Memory.give" (defArgs sGive) (defBody sGive) (defScope sGive) .none kV14 dc14 pm14 an14 cd14 ct14), sl14⟩)
    (c14 : PySem.W.codeIn K cd14 "Memory.give" = true)
    (k14 : PySem.W.keepIn K (.ref f14) = true)
    (a15 : PySem.W.findIn K (.ref xC) "lay" = some (some (.ref f15)))
    (l15 : K.lookup f15 = some ⟨oc15, od15, .func (PySem.W.fnOf "lay" "Memory.lay" (defArgs sLay) (defBody sLay) (defScope sLay) .none kV15 dc15 pm15 an15 cd15 ct15), sl15⟩)
    (c15 : PySem.W.codeIn K cd15 "Memory.lay" = true)
    (k15 : PySem.W.keepIn K (.ref f15) = true)
    (a16 : PySem.W.findIn K (.ref xFA) "__init__" = some (some (.ref f16)))
    (l16 : K.lookup f16 = some ⟨oc16, od16, .func (PySem.W.fnOf "__init__" "Fault.__init__" (defArgs sFI) (defBody sFI) (defScope sFI) .none kV16 dc16 pm16 an16 cd16 ct16), sl16⟩)
    (c16 : PySem.W.codeIn K cd16 "Fault.__init__" = true)
    (k16 : PySem.W.keepIn K (.ref f16) = true)
    (a17 : PySem.W.findIn K (.ref xC) "read" = some (some (.ref f17)))
    (l17 : K.lookup f17 = some ⟨oc17, od17, .func (PySem.W.fnOf "read" "Store.read" (defArgs sRead) (defBody sRead) (defScope sRead) .none kV17 dc17 pm17 an17 cd17 ct17), sl17⟩)
    (c17 : PySem.W.codeIn K cd17 "Store.read" = true)
    (k17 : PySem.W.keepIn K (.ref f17) = true)
    (a18 : PySem.W.findIn K (.ref xC) "write" = some (some (.ref f18)))
    (l18 : K.lookup f18 = some ⟨oc18, od18, .func (PySem.W.fnOf "write" "Store.write" (defArgs sWrite) (defBody sWrite) (defScope sWrite) .none kV18 dc18 pm18 an18 cd18 ct18), sl18⟩)
    (c18 : PySem.W.codeIn K cd18 "Store.write" = true)
    (k18 : PySem.W.keepIn K (.ref f18) = true)
    (a19 : PySem.W.nsIn K mainGlobals "page_of" = some (some (.ref f19)))
    (l19 : K.lookup f19 = some ⟨oc19, od19, .func (PySem.W.fnOf "page_of" "page_of" (defArgs sPgOf) (defBody sPgOf) (defScope sPgOf) .none kV19 dc19 pm19 an19 cd19 ct19), sl19⟩)
    (c19 : PySem.W.codeIn K cd19 "page_of" = true)
    (k19 : PySem.W.keepIn K (.ref f19) = true)
    (a20 : PySem.W.nsIn K mainGlobals "has" = some (some (.ref f20)))
    (l20 : K.lookup f20 = some ⟨oc20, od20, .func (PySem.W.fnOf "has" "has" (defArgs sRHas) (defBody sRHas) (defScope sRHas) .none kV20 dc20 pm20 an20 cd20 ct20), sl20⟩)
    (c20 : PySem.W.codeIn K cd20 "has" = true)
    (k20 : PySem.W.keepIn K (.ref f20) = true)
    (a21 : PySem.W.nsIn K mainGlobals "put" = some (some (.ref f21)))
    (l21 : K.lookup f21 = some ⟨oc21, od21, .func (PySem.W.fnOf "put" "put" (defArgs sRPut) (defBody sRPut) (defScope sRPut) .none kV21 dc21 pm21 an21 cd21 ct21), sl21⟩)
    (c21 : PySem.W.codeIn K cd21 "put" = true)
    (k21 : PySem.W.keepIn K (.ref f21) = true)
    (a22 : PySem.W.nsIn K mainGlobals "rights_of" = some (some (.ref f22)))
    (l22 : K.lookup f22 = some ⟨oc22, od22, .func (PySem.W.fnOf "rights_of" "rights_of" (defArgs sRig) (defBody sRig) (defScope sRig) .none kV22 dc22 pm22 an22 cd22 ct22), sl22⟩)
    (c22 : PySem.W.codeIn K cd22 "rights_of" = true)
    (k22 : PySem.W.keepIn K (.ref f22) = true)
    (a23 : PySem.W.nsIn K mainGlobals "number_of" = some (some (.ref f23)))
    (l23 : K.lookup f23 = some ⟨oc23, od23, .func (PySem.W.fnOf "number_of" "number_of" (defArgs sNum) (defBody sNum) (defScope sNum) .none kV23 dc23 pm23 an23 cd23 ct23), sl23⟩)
    (c23 : PySem.W.codeIn K cd23 "number_of" = true)
    (k23 : PySem.W.keepIn K (.ref f23) = true)
    (a24 : PySem.W.nsIn K mainGlobals "parts_of" = some (some (.ref f24)))
    (l24 : K.lookup f24 = some ⟨oc24, od24, .func (PySem.W.fnOf "parts_of" "parts_of" (defArgs sParts) (defBody sParts) (defScope sParts) .none kV24 dc24 pm24 an24 cd24 ct24), sl24⟩)
    (c24 : PySem.W.codeIn K cd24 "parts_of" = true)
    (k24 : PySem.W.keepIn K (.ref f24) = true)
    (a25 : PySem.W.nsIn K mainGlobals "check_row" = some (some (.ref f25)))
    (l25 : K.lookup f25 = some ⟨oc25, od25, .func (PySem.W.fnOf "check_row" "check_row" (defArgs sCRow) (defBody sCRow) (defScope sCRow) .none kV25 dc25 pm25 an25 cd25 ct25), sl25⟩)
    (c25 : PySem.W.codeIn K cd25 "check_row" = true)
    (k25 : PySem.W.keepIn K (.ref f25) = true)
    (a26 : PySem.W.nsIn K mainGlobals "look" = some (some (.ref f26)))
    (l26 : K.lookup f26 = some ⟨oc26, od26, .func (PySem.W.fnOf "look" "look" (defArgs sLook) (defBody sLook) (defScope sLook) .none kV26 dc26 pm26 an26 cd26 ct26), sl26⟩)
    (c26 : PySem.W.codeIn K cd26 "look" = true)
    (k26 : PySem.W.keepIn K (.ref f26) = true)
    (a27 : PySem.W.nsIn K mainGlobals "put_marks" = some (some (.ref f27)))
    (l27 : K.lookup f27 = some ⟨oc27, od27, .func (PySem.W.fnOf "put_marks" "put_marks" (defArgs sPutM) (defBody sPutM) (defScope sPutM) .none kV27 dc27 pm27 an27 cd27 ct27), sl27⟩)
    (c27 : PySem.W.codeIn K cd27 "put_marks" = true)
    (k27 : PySem.W.keepIn K (.ref f27) = true)
    (a28 : PySem.W.nsIn K mainGlobals "mark" = some (some (.ref f28)))
    (l28 : K.lookup f28 = some ⟨oc28, od28, .func (PySem.W.fnOf "mark" "mark" (defArgs sMark) (defBody sMark) (defScope sMark) .none kV28 dc28 pm28 an28 cd28 ct28), sl28⟩)
    (c28 : PySem.W.codeIn K cd28 "mark" = true)
    (k28 : PySem.W.keepIn K (.ref f28) = true)
    (a29 : PySem.W.nsIn K mainGlobals "_law_cell_at" = some (some (.ref f29)))
    (l29 : K.lookup f29 = some ⟨oc29, od29, .func (PySem.W.fnOf "_law_cell_at" "_law_cell_at" (defArgs sCell) (defBody sCell) (defScope sCell) .none kV29 dc29 pm29 an29 cd29 ct29), sl29⟩)
    (c29 : PySem.W.codeIn K cd29 "_law_cell_at" = true)
    (k29 : PySem.W.keepIn K (.ref f29) = true)
    (a30 : PySem.W.nsIn K mainGlobals "_law_whole" = some (some (.ref f30)))
    (l30 : K.lookup f30 = some ⟨oc30, od30, .func (PySem.W.fnOf "_law_whole" "_law_whole" (defArgs sLWhole) (defBody sLWhole) (defScope sLWhole) .none kV30 dc30 pm30 an30 cd30 ct30), sl30⟩)
    (c30 : PySem.W.codeIn K cd30 "_law_whole" = true)
    (k30 : PySem.W.keepIn K (.ref f30) = true)
    (a31 : PySem.W.nsIn K mainGlobals "_law_mixed" = some (some (.ref f31)))
    (l31 : K.lookup f31 = some ⟨oc31, od31, .func (PySem.W.fnOf "_law_mixed" "_law_mixed" (defArgs sMixed) (defBody sMixed) (defScope sMixed) .none kV31 dc31 pm31 an31 cd31 ct31), sl31⟩)
    (c31 : PySem.W.codeIn K cd31 "_law_mixed" = true)
    (k31 : PySem.W.keepIn K (.ref f31) = true)
    (a32 : PySem.W.nsIn K mainGlobals "_law_row" = some (some (.ref f32)))
    (l32 : K.lookup f32 = some ⟨oc32, od32, .func (PySem.W.fnOf "_law_row" "_law_row" (defArgs sRowL) (defBody sRowL) (defScope sRowL) .none kV32 dc32 pm32 an32 cd32 ct32), sl32⟩)
    (c32 : PySem.W.codeIn K cd32 "_law_row" = true)
    (k32 : PySem.W.keepIn K (.ref f32) = true)
    (a33 : PySem.W.nsIn K mainGlobals "_law_there" = some (some (.ref f33)))
    (l33 : K.lookup f33 = some ⟨oc33, od33, .func (PySem.W.fnOf "_law_there" "_law_there" (defArgs sThere) (defBody sThere) (defScope sThere) .none kV33 dc33 pm33 an33 cd33 ct33), sl33⟩)
    (c33 : PySem.W.codeIn K cd33 "_law_there" = true)
    (k33 : PySem.W.keepIn K (.ref f33) = true)
    (a34 : PySem.W.nsIn K mainGlobals "_law_lack" = some (some (.ref f34)))
    (l34 : K.lookup f34 = some ⟨oc34, od34, .func (PySem.W.fnOf "_law_lack" "_law_lack" (defArgs sLack) (defBody sLack) (defScope sLack) .none kV34 dc34 pm34 an34 cd34 ct34), sl34⟩)
    (c34 : PySem.W.codeIn K cd34 "_law_lack" = true)
    (k34 : PySem.W.keepIn K (.ref f34) = true)
    (a35 : PySem.W.nsIn K mainGlobals "_law_rows" = some (some (.ref f35)))
    (l35 : K.lookup f35 = some ⟨oc35, od35, .func (PySem.W.fnOf "_law_rows" "_law_rows" (defArgs sRowsL) (defBody sRowsL) (defScope sRowsL) .none kV35 dc35 pm35 an35 cd35 ct35), sl35⟩)
    (c35 : PySem.W.codeIn K cd35 "_law_rows" = true)
    (k35 : PySem.W.keepIn K (.ref f35) = true)
    (a36 : PySem.W.nsIn K mainGlobals "_law_faulty" = some (some (.ref f36)))
    (l36 : K.lookup f36 = some ⟨oc36, od36, .func (PySem.W.fnOf "_law_faulty" "_law_faulty" (defArgs sFaulty) (defBody sFaulty) (defScope sFaulty) .none kV36 dc36 pm36 an36 cd36 ct36), sl36⟩)
    (c36 : PySem.W.codeIn K cd36 "_law_faulty" = true)
    (k36 : PySem.W.keepIn K (.ref f36) = true)
    (a37 : PySem.W.nsIn K mainGlobals "_law_leads" = some (some (.ref f37)))
    (l37 : K.lookup f37 = some ⟨oc37, od37, .func (PySem.W.fnOf "_law_leads" "_law_leads" (defArgs sLeads) (defBody sLeads) (defScope sLeads) .none kV37 dc37 pm37 an37 cd37 ct37), sl37⟩)
    (c37 : PySem.W.codeIn K cd37 "_law_leads" = true)
    (k37 : PySem.W.keepIn K (.ref f37) = true)
    (a38 : PySem.W.nsIn K mainGlobals "_law_put" = some (some (.ref f38)))
    (l38 : K.lookup f38 = some ⟨oc38, od38, .func (PySem.W.fnOf "_law_put" "_law_put" (defArgs sPutL) (defBody sPutL) (defScope sPutL) .none kV38 dc38 pm38 an38 cd38 ct38), sl38⟩)
    (c38 : PySem.W.codeIn K cd38 "_law_put" = true)
    (k38 : PySem.W.keepIn K (.ref f38) = true)
    (a39 : PySem.W.nsIn K mainGlobals "_law_reached" = some (some (.ref f39)))
    (l39 : K.lookup f39 = some ⟨oc39, od39, .func (PySem.W.fnOf "_law_reached" "_law_reached" (defArgs sRchd) (defBody sRchd) (defScope sRchd) .none kV39 dc39 pm39 an39 cd39 ct39), sl39⟩)
    (c39 : PySem.W.codeIn K cd39 "_law_reached" = true)
    (k39 : PySem.W.keepIn K (.ref f39) = true)
    (a40 : PySem.W.nsIn K mainGlobals "_law_deed" = some (some (.ref f40)))
    (l40 : K.lookup f40 = some ⟨oc40, od40, .func (PySem.W.fnOf "_law_deed" "_law_deed" (defArgs sDeed) (defBody sDeed) (defScope sDeed) .none kV40 dc40 pm40 an40 cd40 ct40), sl40⟩)
    (c40 : PySem.W.codeIn K cd40 "_law_deed" = true)
    (k40 : PySem.W.keepIn K (.ref f40) = true)
    (a41 : PySem.W.nsIn K mainGlobals "law" = some (some (.ref f41)))
    (l41 : K.lookup f41 = some ⟨oc41, od41, .func (PySem.W.fnOf "law" "law" (defArgs sLaw) (defBody sLaw) (defScope sLaw) .none kV41 dc41 pm41 an41 cd41 ct41), sl41⟩)
    (c41 : PySem.W.codeIn K cd41 "law" = true)
    (k41 : PySem.W.keepIn K (.ref f41) = true)
    (v0 : PySem.W.nsIn K mainGlobals "WORDS" = some (some (.int 281474976710656 tk0)))
    (v1 : PySem.W.nsIn K mainGlobals "CELLS" = some (some (.int 8 tk1)))
    (v2 : PySem.W.nsIn K mainGlobals "MOST_PAGES" = some (some (.int 24 tk2)))
    (v3 : PySem.W.nsIn K mainGlobals "MARKS" = some (some (.int 256 tk3)))
    (v4 : PySem.W.nsIn K mainGlobals "PARTS" = some (some (.int 8 tk4)))
    (v5 : PySem.W.nsIn K mainGlobals "PLACES" = some (some (.int 512 tk5)))
    (v6 : PySem.W.nsIn K mainGlobals "PRESENT" = some (some (.int 1 tk6)))
    (v7 : PySem.W.nsIn K mainGlobals "WRITABLE" = some (some (.int 2 tk7)))
    (v8 : PySem.W.nsIn K mainGlobals "KERNEL" = some (some (.int 4 tk8)))
    (v9 : PySem.W.nsIn K mainGlobals "TOUCHED" = some (some (.int 8 tk9)))
    (v10 : PySem.W.nsIn K mainGlobals "SOILED" = some (some (.int 16 tk10)))
    (z_isinstance : PySem.W.nsIn K mainGlobals "isinstance" = some none)
    (z_int : PySem.W.nsIn K mainGlobals "int" = some none)
    (z_bool : PySem.W.nsIn K mainGlobals "bool" = some none)
    (z_list : PySem.W.nsIn K mainGlobals "list" = some none)
    (z_len : PySem.W.nsIn K mainGlobals "len" = some none)
    (z_all : PySem.W.nsIn K mainGlobals "all" = some none)
    (z_range : PySem.W.nsIn K mainGlobals "range" = some none)
    (z_tuple : PySem.W.nsIn K mainGlobals "tuple" = some none)
    (z_min : PySem.W.nsIn K mainGlobals "min" = some none)
    (z_max : PySem.W.nsIn K mainGlobals "max" = some none)
    (z_enumerate : PySem.W.nsIn K mainGlobals "enumerate" = some none)
    (xi_NP : L2.excIn K xNP = true)
    (xi_NL : L2.excIn K xNL = true)
    (xi_NW : L2.excIn K xNW = true)
    (xi_NI : L2.excIn K xNI = true)
    (nh : PySem.W.findIn K (.ref xC) "held" = some none)
    (nfk : PySem.W.findIn K (.ref xFA) "kind" = some none)
    (nfp : PySem.W.findIn K (.ref xFA) "place" = some none)
    (nfl : PySem.W.findIn K (.ref xFA) "level" = some none)
    (fsa : PySem.W.findIn K (.ref xFA) "__setattr__" = some (some (.builtin "object.__setattr__")))
    (fov : L2.overIn K xFA = true)
    (fhd : PySem.W.hasDictIn K xFA = true)
    (fga : PySem.W.findIn K (.ref xFA) "__getattribute__" = some (some (.builtin "BaseException.__getattribute__")))
    (fgh : PySem.W.findIn K (.ref xFA) "__getattr__" = some none)
    (fmb : PySem.W.mroIn K xFA (.type "BaseException") = some true)
    (fxm : PySem.W.exmOne K (.ref xFA) (.ref xFA) = some true)
    (fex : L2.excInI K xFA f16 = true)
    (i3 : PySem.W.isFn K (.ref f3) = true)
    (i4 : PySem.W.isFn K (.ref f4) = true)
    (i5 : PySem.W.isFn K (.ref f5) = true)
    (i6 : PySem.W.isFn K (.ref f6) = true)
    (i7 : PySem.W.isFn K (.ref f7) = true)
    (i8 : PySem.W.isFn K (.ref f8) = true)
    (i10 : PySem.W.isFn K (.ref f10) = true)
    (i13 : PySem.W.isFn K (.ref f13) = true)
    (i14 : PySem.W.isFn K (.ref f14) = true)
    (i15 : PySem.W.isFn K (.ref f15) = true)
    (i16 : PySem.W.isFn K (.ref f16) = true)
    (i17 : PySem.W.isFn K (.ref f17) = true)
    (i18 : PySem.W.isFn K (.ref f18) = true)
    (pg_C : PySem.W.plainGet K xC Str.empty = true)
    (hd_C : PySem.W.hasDictIn K xC = true)
    (po_C : PySem.W.plainOver K xC = true)
    (sa_C : PySem.W.findIn K (.ref xC) "__setattr__" = some (some (.builtin "object.__setattr__")))
    (mk_C : PySem.W.makesIn K xC = true)
    (kc_C : PySem.W.keepIn K (.ref xC) = true)
    : ∃ fd : FuncData, (∀ (s : Shared) (v : Value), BindsTo s fd ⟨[v], []⟩ [("_law_script", v)]) ∧ ∀ base : Heap, K.In base → base.Ns mainGlobals mg → FnOk l.prog w K mg base CX0 12 fa fd ["_law_script"] (spLaw K) := by
  have e := hfa.symm.trans (PySem.W.mg_of X G a41)
  cases e
  have F0 := fun_mk (st := sWhole) l0 c0 k0
  have D0 : Dn K mg "is_whole" sWhole ["thing"] f0 _ := ⟨F0, PySem.W.mg_of X G a0, F0.binds (ps := ["thing"]) fun _ _ _ _ _ _ us hl => ba1 (fun _ => rfl) us hl⟩
  have F1 := fun_mk (st := sBelow) l1 c1 k1
  have D1 : Dn K mg "is_below" sBelow ["thing", "bound"] f1 _ := ⟨F1, PySem.W.mg_of X G a1, F1.binds (ps := ["thing", "bound"]) fun _ _ _ _ _ _ us hl => ba2 (fun _ _ => rfl) us hl⟩
  have F2 := fun_mk (st := sWord) l2 c2 k2
  have D2 : Dn K mg "is_word" sWord ["thing"] f2 _ := ⟨F2, PySem.W.mg_of X G a2, F2.binds (ps := ["thing"]) fun _ _ _ _ _ _ us hl => ba1 (fun _ => rfl) us hl⟩
  have F3 := fun_mk (st := sSize) l3 c3 k3
  have B3 := F3.binds (ps := ["self"]) fun _ _ _ _ _ _ us hl => ba1 (fun _ => rfl) us hl
  have F4 := fun_mk (st := sHas) l4 c4 k4
  have B4 := F4.binds (ps := ["self", "page"]) fun _ _ _ _ _ _ us hl => ba2 (fun _ _ => rfl) us hl
  have F5 := fun_mk (st := sCPage) l5 c5 k5
  have B5 := F5.binds (ps := ["self", "page"]) fun _ _ _ _ _ _ us hl => ba2 (fun _ _ => rfl) us hl
  have F6 := fun_mk (st := sSpot) l6 c6 k6
  have B6 := F6.binds (ps := ["self", "page", "cell"]) fun _ _ _ _ _ _ us hl => ba3 (fun _ _ _ => rfl) us hl
  have F7 := fun_mk (st := sWordAt) l7 c7 k7
  have B7 := F7.binds (ps := ["self", "page", "cell"]) fun _ _ _ _ _ _ us hl => ba3 (fun _ _ _ => rfl) us hl
  have F8 := fun_mk (st := sPutWord) l8 c8 k8
  have B8 := F8.binds (ps := ["self", "page", "cell", "word"]) fun _ _ _ _ _ _ us hl => ba4 (fun _ _ _ _ => rfl) us hl
  have F9 := fun_mk (st := sCWord) l9 c9 k9
  have D9 : Dn K mg "check_word" sCWord ["word"] f9 _ := ⟨F9, PySem.W.mg_of X G a9, F9.binds (ps := ["word"]) fun _ _ _ _ _ _ us hl => ba1 (fun _ => rfl) us hl⟩
  have F10 := fun_mk (st := sTold) l10 c10 k10
  have B10 := F10.binds (ps := ["self"]) fun _ _ _ _ _ _ us hl => ba1 (fun _ => rfl) us hl
  have F11 := fun_mk (st := sEight) l11 c11 k11
  have D11 : Dn K mg "is_eight_words" sEight ["thing"] f11 _ := ⟨F11, PySem.W.mg_of X G a11, F11.binds (ps := ["thing"]) fun _ _ _ _ _ _ us hl => ba1 (fun _ => rfl) us hl⟩
  have F12 := fun_mk (st := sImage) l12 c12 k12
  have D12 : Dn K mg "check_image" sImage ["pages"] f12 _ := ⟨F12, PySem.W.mg_of X G a12, F12.binds (ps := ["pages"]) fun _ _ _ _ _ _ us hl => ba1 (fun _ => rfl) us hl⟩
  have F13 := fun_mk (st := sInit) l13 c13 k13
  have B13 := F13.binds (ps := ["self", "pages"]) fun _ _ _ _ _ _ us hl => ba2 (fun _ _ => rfl) us hl
  have F14 := fun_mk (st := sGive) l14 c14 k14
  have B14 := F14.binds (ps := ["self", "page"]) fun _ _ _ _ _ _ us hl => ba2 (fun _ _ => rfl) us hl
  have F15 := fun_mk (st := sLay) l15 c15 k15
  have B15 := F15.binds (ps := ["self", "page", "words"]) fun _ _ _ _ _ _ us hl => ba3 (fun _ _ _ => rfl) us hl
  have F16 := fun_mk (st := sFI) l16 c16 k16
  have B16 := F16.binds (ps := ["self", "kind", "place", "level"]) fun _ _ _ _ _ _ us hl => ba4 (fun _ _ _ _ => rfl) us hl
  have F17 := fun_mk (st := sRead) l17 c17 k17
  have B17 := F17.binds (ps := ["self", "page", "cell"]) fun _ _ _ _ _ _ us hl => ba3 (fun _ _ _ => rfl) us hl
  have F18 := fun_mk (st := sWrite) l18 c18 k18
  have B18 := F18.binds (ps := ["self", "page", "cell", "word"]) fun _ _ _ _ _ _ us hl => ba4 (fun _ _ _ _ => rfl) us hl
  have F19 := fun_mk (st := sPgOf) l19 c19 k19
  have D19 : Dn K mg "page_of" sPgOf ["row"] f19 _ := ⟨F19, PySem.W.mg_of X G a19, F19.binds (ps := ["row"]) fun _ _ _ _ _ _ us hl => ba1 (fun _ => rfl) us hl⟩
  have F20 := fun_mk (st := sRHas) l20 c20 k20
  have D20 : Dn K mg "has" sRHas ["row", "marks"] f20 _ := ⟨F20, PySem.W.mg_of X G a20, F20.binds (ps := ["row", "marks"]) fun _ _ _ _ _ _ us hl => ba2 (fun _ _ => rfl) us hl⟩
  have F21 := fun_mk (st := sRPut) l21 c21 k21
  have D21 : Dn K mg "put" sRPut ["row", "marks"] f21 _ := ⟨F21, PySem.W.mg_of X G a21, F21.binds (ps := ["row", "marks"]) fun _ _ _ _ _ _ us hl => ba2 (fun _ _ => rfl) us hl⟩
  have F22 := fun_mk (st := sRig) l22 c22 k22
  have D22 : Dn K mg "rights_of" sRig ["top_row", "low_row"] f22 _ := ⟨F22, PySem.W.mg_of X G a22, F22.binds (ps := ["top_row", "low_row"]) fun _ _ _ _ _ _ us hl => ba2 (fun _ _ => rfl) us hl⟩
  have F23 := fun_mk (st := sNum) l23 c23 k23
  have D23 : Dn K mg "number_of" sNum ["place"] f23 _ := ⟨F23, PySem.W.mg_of X G a23, F23.binds (ps := ["place"]) fun _ _ _ _ _ _ us hl => ba1 (fun _ => rfl) us hl⟩
  have F24 := fun_mk (st := sParts) l24 c24 k24
  have D24 : Dn K mg "parts_of" sParts ["place"] f24 _ := ⟨F24, PySem.W.mg_of X G a24, F24.binds (ps := ["place"]) fun _ _ _ _ _ _ us hl => ba1 (fun _ => rfl) us hl⟩
  have F25 := fun_mk (st := sCRow) l25 c25 k25
  have D25 : Dn K mg "check_row" sCRow ["store", "row", "write", "kernel", "place", "level"] f25 _ := ⟨F25, PySem.W.mg_of X G a25, F25.binds (ps := ["store", "row", "write", "kernel", "place", "level"]) fun _ _ _ _ _ _ us hl => ba6 (fun _ _ _ _ _ _ => rfl) us hl⟩
  have F26 := fun_mk (st := sLook) l26 c26 k26
  have D26 : Dn K mg "look" sLook ["store", "root", "place", "write", "kernel"] f26 _ := ⟨F26, PySem.W.mg_of X G a26, F26.binds (ps := ["store", "root", "place", "write", "kernel"]) fun _ _ _ _ _ _ us hl => ba5 (fun _ _ _ _ _ => rfl) us hl⟩
  have F27 := fun_mk (st := sPutM) l27 c27 k27
  have D27 : Dn K mg "put_marks" sPutM ["store", "spot", "marks"] f27 _ := ⟨F27, PySem.W.mg_of X G a27, F27.binds (ps := ["store", "spot", "marks"]) fun _ _ _ _ _ _ us hl => ba3 (fun _ _ _ => rfl) us hl⟩
  have F28 := fun_mk (st := sMark) l28 c28 k28
  have D28 : Dn K mg "mark" sMark ["store", "trail", "write"] f28 _ := ⟨F28, PySem.W.mg_of X G a28, F28.binds (ps := ["store", "trail", "write"]) fun _ _ _ _ _ _ us hl => ba3 (fun _ _ _ => rfl) us hl⟩
  have F29 := fun_mk (st := sCell) l29 c29 k29
  have D29 : Dn K mg "_law_cell_at" sCell ["_law_script", "_law_k"] f29 _ := ⟨F29, PySem.W.mg_of X G a29, F29.binds (ps := ["_law_script", "_law_k"]) fun _ _ _ _ _ _ us hl => ba2 (fun _ _ => rfl) us hl⟩
  have F30 := fun_mk (st := sLWhole) l30 c30 k30
  have D30 : Dn K mg "_law_whole" sLWhole ["_law_found"] f30 _ := ⟨F30, PySem.W.mg_of X G a30, F30.binds (ps := ["_law_found"]) fun _ _ _ _ _ _ us hl => ba1 (fun _ => rfl) us hl⟩
  have F31 := fun_mk (st := sMixed) l31 c31 k31
  have D31 : Dn K mg "_law_mixed" sMixed ["_law_cell", "_law_k"] f31 _ := ⟨F31, PySem.W.mg_of X G a31, F31.binds (ps := ["_law_cell", "_law_k"]) fun _ _ _ _ _ _ us hl => ba2 (fun _ _ => rfl) us hl⟩
  have F32 := fun_mk (st := sRowL) l32 c32 k32
  have D32 : Dn K mg "_law_row" sRowL ["_law_cell", "_law_k", "_law_size"] f32 _ := ⟨F32, PySem.W.mg_of X G a32, F32.binds (ps := ["_law_cell", "_law_k", "_law_size"]) fun _ _ _ _ _ _ us hl => ba3 (fun _ _ _ => rfl) us hl⟩
  have F33 := fun_mk (st := sThere) l33 c33 k33
  have D33 : Dn K mg "_law_there" sThere ["_law_pages", "_law_page"] f33 _ := ⟨F33, PySem.W.mg_of X G a33, F33.binds (ps := ["_law_pages", "_law_page"]) fun _ _ _ _ _ _ us hl => ba2 (fun _ _ => rfl) us hl⟩
  have F34 := fun_mk (st := sLack) l34 c34 k34
  have D34 : Dn K mg "_law_lack" sLack ["_law_pages", "_law_row_here", "_law_write", "_law_kernel"] f34 _ := ⟨F34, PySem.W.mg_of X G a34, F34.binds (ps := ["_law_pages", "_law_row_here", "_law_write", "_law_kernel"]) fun _ _ _ _ _ _ us hl => ba4 (fun _ _ _ _ => rfl) us hl⟩
  have F35 := fun_mk (st := sRowsL) l35 c35 k35
  have D35 : Dn K mg "_law_rows" sRowsL ["_law_cell", "_law_k", "_law_size"] f35 _ := ⟨F35, PySem.W.mg_of X G a35, F35.binds (ps := ["_law_cell", "_law_k", "_law_size"]) fun _ _ _ _ _ _ us hl => ba3 (fun _ _ _ => rfl) us hl⟩
  have F36 := fun_mk (st := sFaulty) l36 c36 k36
  have D36 : Dn K mg "_law_faulty" sFaulty ["_law_pages", "_law_root", "_law_place", "_law_write", "_law_kernel", "_law_told"] f36 _ := ⟨F36, PySem.W.mg_of X G a36, F36.binds (ps := ["_law_pages", "_law_root", "_law_place", "_law_write", "_law_kernel", "_law_told"]) fun _ _ _ _ _ _ us hl => ba6 (fun _ _ _ _ _ _ => rfl) us hl⟩
  have F37 := fun_mk (st := sLeads) l37 c37 k37
  have D37 : Dn K mg "_law_leads" sLeads ["_law_pages", "_law_root", "_law_place", "_law_write", "_law_kernel", "_law_trail"] f37 _ := ⟨F37, PySem.W.mg_of X G a37, F37.binds (ps := ["_law_pages", "_law_root", "_law_place", "_law_write", "_law_kernel", "_law_trail"]) fun _ _ _ _ _ _ us hl => ba6 (fun _ _ _ _ _ _ => rfl) us hl⟩
  have F38 := fun_mk (st := sPutL) l38 c38 k38
  have D38 : Dn K mg "_law_put" sPutL ["_law_pages", "_law_spot", "_law_write"] f38 _ := ⟨F38, PySem.W.mg_of X G a38, F38.binds (ps := ["_law_pages", "_law_spot", "_law_write"]) fun _ _ _ _ _ _ us hl => ba3 (fun _ _ _ => rfl) us hl⟩
  have F39 := fun_mk (st := sRchd) l39 c39 k39
  have D39 : Dn K mg "_law_reached" sRchd ["_law_store", "_law_pages", "_law_root", "_law_place", "_law_write", "_law_kernel"] f39 _ := ⟨F39, PySem.W.mg_of X G a39, F39.binds (ps := ["_law_store", "_law_pages", "_law_root", "_law_place", "_law_write", "_law_kernel"]) fun _ _ _ _ _ _ us hl => ba6 (fun _ _ _ _ _ _ => rfl) us hl⟩
  have F40 := fun_mk (st := sDeed) l40 c40 k40
  have D40 : Dn K mg "_law_deed" sDeed ["_law_store", "_law_pages", "_law_cell", "_law_k"] f40 _ := ⟨F40, PySem.W.mg_of X G a40, F40.binds (ps := ["_law_store", "_law_pages", "_law_cell", "_law_k"]) fun _ _ _ _ _ _ us hl => ba4 (fun _ _ _ _ => rfl) us hl⟩
  have F41 := fun_mk (st := sLaw) l41 c41 k41
  have D41 : Dn K mg "law" sLaw ["_law_script"] fa _ := ⟨F41, PySem.W.mg_of X G a41, F41.binds (ps := ["_law_script"]) fun _ _ _ _ _ _ us hl => ba1 (fun _ => rfl) us hl⟩
  have T : Txt K mg := ⟨PySem.W.mg_none_of X G z_isinstance, PySem.W.mg_none_of X G z_int, PySem.W.mg_none_of X G z_bool, PySem.W.mg_none_of X G z_list, PySem.W.mg_none_of X G z_len, PySem.W.mg_none_of X G z_all, PySem.W.mg_none_of X G z_range⟩
  have S0 : Sto K mg xC xNP xNL xNW xNI := ⟨⟨pg_C, hd_C, po_C, sa_C⟩, nh, ⟨tk0, PySem.W.mg_of X G v0⟩, ⟨tk1, PySem.W.mg_of X G v1⟩, ⟨tk2, PySem.W.mg_of X G v2⟩, PySem.W.mg_of X G n_NP, xi_NP, PySem.W.mg_of X G n_NL, xi_NL, PySem.W.mg_of X G n_NW, xi_NW, PySem.W.mg_of X G n_NI, xi_NI⟩
  have RR : Rws0 K mg := ⟨⟨tk3, PySem.W.mg_of X G v3⟩, ⟨tk4, PySem.W.mg_of X G v4⟩, ⟨tk5, PySem.W.mg_of X G v5⟩, ⟨tk6, PySem.W.mg_of X G v6⟩, ⟨tk7, PySem.W.mg_of X G v7⟩, ⟨tk8, PySem.W.mg_of X G v8⟩, ⟨tk9, PySem.W.mg_of X G v9⟩, ⟨tk10, PySem.W.mg_of X G v10⟩⟩
  have PC : Plc K xC := ⟨⟨pg_C, hd_C, po_C, sa_C⟩⟩
  have FL : Flt K mg xFA f16 := ⟨⟨fsa, fov, fhd, fga, fgh, fmb⟩, nfk, nfp, nfl, fex, i16, PySem.W.mg_of X G n_FA⟩
  have XF : PySem.W.exmOne K (.ref xFA) (.ref xFA) = some true := fxm
  have M3_C : Me K xC "size" "Memory.size" sSize ["self"] f3 _ := ⟨F3, ⟨a3, i3, k3⟩, B3⟩
  have M4_C : Me K xC "has" "Memory.has" sHas ["self", "page"] f4 _ := ⟨F4, ⟨a4, i4, k4⟩, B4⟩
  have M5_C : Me K xC "check_page" "Store.check_page" sCPage ["self", "page"] f5 _ := ⟨F5, ⟨a5, i5, k5⟩, B5⟩
  have M6_C : Me K xC "check_spot" "Store.check_spot" sSpot ["self", "page", "cell"] f6 _ := ⟨F6, ⟨a6, i6, k6⟩, B6⟩
  have M7_C : Me K xC "word_at" "Memory.word_at" sWordAt ["self", "page", "cell"] f7 _ := ⟨F7, ⟨a7, i7, k7⟩, B7⟩
  have M8_C : Me K xC "put_word" "Memory.put_word" sPutWord ["self", "page", "cell", "word"] f8 _ := ⟨F8, ⟨a8, i8, k8⟩, B8⟩
  have M10_C : Me K xC "told" "Memory.told" sTold ["self"] f10 _ := ⟨F10, ⟨a10, i10, k10⟩, B10⟩
  have M14_C : Me K xC "give" "Memory.give" sGive ["self", "page"] f14 _ := ⟨F14, ⟨a14, i14, k14⟩, B14⟩
  have M15_C : Me K xC "lay" "Memory.lay" sLay ["self", "page", "words"] f15 _ := ⟨F15, ⟨a15, i15, k15⟩, B15⟩
  have M17_C : Me K xC "read" "Store.read" sRead ["self", "page", "cell"] f17 _ := ⟨F17, ⟨a17, i17, k17⟩, B17⟩
  have M18_C : Me K xC "write" "Store.write" sWrite ["self", "page", "cell", "word"] f18 _ := ⟨F18, ⟨a18, i18, k18⟩, B18⟩
  refine ⟨PySem.W.fnOf "law" "law" (defArgs sLaw) (defBody sLaw) (defScope sLaw) .none kV41 dc41 pm41 an41 cd41 ct41, fun s v => .of_eq rfl, fun base _ _ => ?_⟩
  have g0_whole : FnOk l.prog w K mg base CX0 1 f0 _ ["thing"] spWhole := ok_whole F0 T
  have g1_below : FnOk l.prog w K mg base CX0 2 f1 _ ["thing", "bound"] spBelow := ok_below F1 D0 T
  have g2_word : FnOk l.prog w K mg base CX0 3 f2 _ ["thing"] spWord := ok_word F2 D1 g1_below S0
  have g3_size : FnOk l.prog w K mg base CX0 1 f3 _ ["self"] (spSize xC) := ok_size F3 S0 T
  have g4_has : FnOk l.prog w K mg base CX0 3 f4 _ ["self", "page"] (spHas xC) := ok_has F4 D1 g1_below M3_C g3_size S0
  have g5_cpage : FnOk l.prog w K mg base (CXr l.prog w) 4 f5 _ ["self", "page"] (spCPage xC xNP) := ok_cpage F5 M4_C g4_has S0
  have g6_spot : FnOk l.prog w K mg base (CXr l.prog w) 5 f6 _ ["self", "page", "cell"] (spSpot xC xNP xNL) := ok_spot F6 D1 g1_below M5_C g5_cpage S0
  have g7_wordat : FnOk l.prog w K mg base CX0 1 f7 _ ["self", "page", "cell"] (spWordAt xC) := ok_wordat F7 S0
  have g8_putword : FnOk l.prog w K mg base CX0 1 f8 _ ["self", "page", "cell", "word"] (spPutWord xC) := ok_putword F8 S0
  have g9_cword : FnOk l.prog w K mg base (CXr l.prog w) 4 f9 _ ["word"] (spCWord xNW) := ok_cword F9 D2 g2_word S0
  have g10_told : FnOk l.prog w K mg base CX0 1 f10 _ ["self"] (spTold xC) := ok_told F10 S0 T
  have g11_eight : FnOk l.prog w K mg base CX0 4 f11 _ ["thing"] spEight := ok_eight F11 D2 g2_word S0 T
  have g12_image : FnOk l.prog w K mg base (CXr l.prog w) 5 f12 _ ["pages"] spImage := ok_image F12 D11 g11_eight S0 T
  have g13_init : FnOk l.prog w K mg base (CXr l.prog w) 6 f13 _ ["self", "pages"] (spInit xC) := ok_init F13 D12 g12_image S0 T
  have g11_eightN : FnOk l.prog w K mg base CX0 4 f11 _ ["thing"] spEightN := ok_eightN F11 D2 g2_word S0 T
  have g11_o15 : FnOk l.prog w K mg base CX0 4 f11 _ ["thing"] spEightB := FnOk.or g11_eight g11_eightN
  have g14_give : FnOk l.prog w K mg base (CXr l.prog w) 5 f14 _ ["self", "page"] (spGive xC xNP) := ok_give F14 M5_C g5_cpage S0
  have g15_lay : FnOk l.prog w K mg base (CXr l.prog w) 5 f15 _ ["self", "page", "words"] (spLay xC xNP xNW) := ok_lay F15 D1 g1_below D11 g11_o15 M3_C g3_size S0 T
  have g16_finit : FnOk l.prog w K mg base CX0 1 f16 _ ["self", "kind", "place", "level"] (spXI xFA 3 ffF) := ok_finit F16 FL
  have g4_phas : FnOk l.prog w K mg base CX0 4 f4 _ ["self", "page"] (spPHas xC xSC) := ok_phas F4 D1 g1_below M3_C g3_size S0
  have g17_wread : FnOk l.prog w K mg base (CXr l.prog w) 7 f17 _ ["self", "page", "cell"] (spWRead xC xSC xNP xNL) := ok_wread F17 M6_C g6_spot M7_C g7_wordat S0
  have g18_wwrite : FnOk l.prog w K mg base (CXr l.prog w) 7 f18 _ ["self", "page", "cell", "word"] (spWWrite xC xSC xNP xNL xNW) := ok_wwrite F18 M6_C g6_spot D9 g9_cword M8_C g8_putword S0
  have g19_pgof : FnOk l.prog w K mg base CX0 1 f19 _ ["row"] spPgOf := ok_pgof F19 RR
  have g20_rhas : FnOk l.prog w K mg base CX0 1 f20 _ ["row", "marks"] spRHas := ok_rhas F20 RR
  have g21_rput : FnOk l.prog w K mg base CX0 1 f21 _ ["row", "marks"] spRPut := ok_rput F21 RR
  have g22_rig : FnOk l.prog w K mg base CX0 1 f22 _ ["top_row", "low_row"] spRig := ok_rig F22 RR
  have g23_num : FnOk l.prog w K mg base CX0 3 f23 _ ["place"] spNum := ok_num F23 D1 g1_below RR
  have g24_parts : FnOk l.prog w K mg base CX0 4 f24 _ ["place"] spParts := ok_parts F24 D23 g23_num RR
  have g25_crow : FnOk l.prog w K mg base (CXr l.prog w) 5 f25 _ ["store", "row", "write", "kernel", "place", "level"] (spCRow xC xSC xFA) := ok_crow F25 D20 g20_rhas D19 g19_pgof M4_C g4_phas FL g16_finit B16 PC RR
  have g26_look : FnOk l.prog w K mg base (CXr l.prog w) 8 f26 _ ["store", "root", "place", "write", "kernel"] (spLook xC xSC xFA) := ok_look F26 D24 g24_parts D19 g19_pgof D22 g22_rig M4_C g4_phas M17_C g17_wread D25 g25_crow FL g16_finit B16 PC RR
  have g27_putm : FnOk l.prog w K mg base CX0 8 f27 _ ["store", "spot", "marks"] (spPutM xC xSC) := ok_putm F27 D20 g20_rhas D21 g21_rput M17_C g17_wread M18_C g18_wwrite PC RR
  have g28_mark : FnOk l.prog w K mg base CX0 9 f28 _ ["store", "trail", "write"] (spMark xC xSC) := ok_mark F28 D27 g27_putm D21 g21_rput RR
  have g29_cell : FnOk l.prog w K mg base CX0 1 f29 _ ["_law_script", "_law_k"] (spCell K) := ok_cell F29 T
  have g30_lwhole : FnOk l.prog w K mg base CX0 1 f30 _ ["_law_found"] spWhole := ok_lwhole F30 T
  have g31_mixed : FnOk l.prog w K mg base CX0 1 f31 _ ["_law_cell", "_law_k"] spMixed := ok_mixed F31
  have g32_rowl : FnOk l.prog w K mg base CX0 2 f32 _ ["_law_cell", "_law_k", "_law_size"] spRowL := ok_rowl F32 D31 g31_mixed T
  have g33_there : FnOk l.prog w K mg base CX0 1 f33 _ ["_law_pages", "_law_page"] spThere := ok_there F33 T
  have g34_lack : FnOk l.prog w K mg base CX0 2 f34 _ ["_law_pages", "_law_row_here", "_law_write", "_law_kernel"] spLack := ok_lack F34 D33 g33_there
  have g35_rowsl : FnOk l.prog w K mg base CX0 3 f35 _ ["_law_cell", "_law_k", "_law_size"] spRowsL := ok_rowsl F35 D32 g32_rowl T
  have g36_faulty : FnOk l.prog w K mg base CX0 3 f36 _ ["_law_pages", "_law_root", "_law_place", "_law_write", "_law_kernel", "_law_told"] spFaulty := ok_faulty F36 D33 g33_there D34 g34_lack T
  have g37_leads : FnOk l.prog w K mg base CX0 3 f37 _ ["_law_pages", "_law_root", "_law_place", "_law_write", "_law_kernel", "_law_trail"] spLeads := ok_leads F37 D33 g33_there D34 g34_lack D30 g30_lwhole T ⟨PySem.W.mg_none_of X G z_tuple, PySem.W.mg_none_of X G z_min, PySem.W.mg_none_of X G z_max⟩
  have g38_putl : FnOk l.prog w K mg base CX0 1 f38 _ ["_law_pages", "_law_spot", "_law_write"] spPutL := ok_putl F38
  have g39_rchd : FnOk l.prog w K mg base CX0 10 f39 _ ["_law_store", "_law_pages", "_law_root", "_law_place", "_law_write", "_law_kernel"] (spRchd xC) := ok_rchd F39 D26 g26_look D36 g36_faulty D37 g37_leads D28 g28_mark D38 g38_putl D30 g30_lwhole FL XF T
  have g40_deed : FnOk l.prog w K mg base CX0 11 f40 _ ["_law_store", "_law_pages", "_law_cell", "_law_k"] (spDeed xC) := ok_deed F40 D31 g31_mixed D39 g39_rchd D32 g32_rowl D35 g35_rowsl M18_C g18_wwrite M14_C g14_give M15_C g15_lay PC T
  exact ok_law F41 D29 g29_cell D35 g35_rowsl D40 g40_deed M10_C g10_told ⟨mk_C, a13, i13, kc_C⟩ (PySem.W.mg_of X G n_C) B13 g13_init S0 (PySem.W.mg_none_of X G z_enumerate) T
theorem walk {l : PySem.W.OpenLaw} {q : Program} {loose : List Str} {XP : (Str → Option Value) → Heap → Prop} {YP : World → Heap → Prop} {d : DefRec} {K : Params → PySem.W.Frag} (hn : l.most = some 63) (hdf : d.params.defaults = [])
    (hY : ∀ (w : World) (h : Heap), YP w h → (K w.params).In h)
    (F : ∀ (w : World) (mg : Str → Option Value) (fa : Addr) (h : Heap), (K w.params).In h → h.Ns mainGlobals mg → mg d.name = some (.ref fa) →
      ∃ fd : FuncData, (∀ (s : Shared) (u : Value), BindsTo s fd ⟨[u], []⟩ [("_law_script", u)]) ∧ ∀ base : Heap, (K w.params).In base → base.Ns mainGlobals mg → FnOk l.prog w (K w.params) mg base CX0 12 fa fd ["_law_script"] (spLaw (K w.params))) :
    PySem.W.WalkO q loose XP YP l.row.toRowW d [] (fun f vs => PySem.call f vs) :=
  L2.walk_of (n := 63) (k := 12) (x := "_law_script") (CX := fun _ => CX0) (sp := fun w => spLaw (K w.params)) hn (by decide) hdf ⟨rfl, by decide, by decide⟩ hY F (fun _ _ a ns hl _ hS => ⟨a, ns, rfl, hS, hl, fun _ => rfl⟩) fun _ _ _ _ _ z => z
end K17
open PySem PySem.W PyProof.Rows
set_option maxRecDepth 100000 in
set_option maxHeartbeats 0 in
theorem PySem.Challenge.cw_shadowpages_k17_whole_walks_holds : PySem.Challenge.rw_shadowpages_k17_whole_walks.Holds := by
  w_on; o_law
  refine holds_open (q := K17.vw) (loose := []) (Xt := fun s => xlAt K17.vw [] s && recOk [] s) (XP := XL K17.vw []) (Yf := Hook.obs (kHook K17.KF K17.asF K17.hF)) (Ya := Hook.val (kHook K17.KF K17.asF K17.hF)) (YP := Hook.says (kHook K17.KF K17.asF K17.hF)) (N := 6764) ?hl (Hook.of (kHook K17.KF K17.asF K17.hF)) (Hook.keeps (kHook K17.KF K17.asF K17.hF)) (fun s e => xl_of s (Bool.and_eq_true_iff.mp e).1) XL.keeps (by rfl) (by rfl) (by rfl) (fun s e => recFacts_of (Bool.and_eq_true_iff.mp e).2) (by rfl) (by first | assumption | decide +kernel) (by decide +kernel) ⟨rfl, rfl, rfl, rfl, rfl, by decide +kernel⟩ ?hw ?hc
  case hl => exact K17.hl
  case hw => w_witness2
  k_fill
  refine K17.walk (l := PySem.Challenge.rw_shadowpages_k17_whole_walks) rfl rfl (fun w h Y => PySem.W.kIn_of Y) ?F
  case F =>
    intro w mg fa h KX G hmg
    refine' K17.all_mk KX G hmg ?n_C ?n_SC ?n_NP ?n_NL ?n_NW ?n_NI ?n_FA ?a0 ?l0 ?c0 ?k0 ?a1 ?l1 ?c1 ?k1 ?a2 ?l2 ?c2 ?k2 ?a3 ?l3 ?c3 ?k3 ?a4 ?l4 ?c4 ?k4 ?a5 ?l5 ?c5 ?k5 ?a6 ?l6 ?c6 ?k6 ?a7 ?l7 ?c7 ?k7 ?a8 ?l8 ?c8 ?k8 ?a9 ?l9 ?c9 ?k9 ?a10 ?l10 ?c10 ?k10 ?a11 ?l11 ?c11 ?k11 ?a12 ?l12 ?c12 ?k12 ?a13 ?l13 ?c13 ?k13 ?a14 ?l14 ?c14 ?k14 ?a15 ?l15 ?c15 ?k15 ?a16 ?l16 ?c16 ?k16 ?a17 ?l17 ?c17 ?k17 ?a18 ?l18 ?c18 ?k18 ?a19 ?l19 ?c19 ?k19 ?a20 ?l20 ?c20 ?k20 ?a21 ?l21 ?c21 ?k21 ?a22 ?l22 ?c22 ?k22 ?a23 ?l23 ?c23 ?k23 ?a24 ?l24 ?c24 ?k24 ?a25 ?l25 ?c25 ?k25 ?a26 ?l26 ?c26 ?k26 ?a27 ?l27 ?c27 ?k27 ?a28 ?l28 ?c28 ?k28 ?a29 ?l29 ?c29 ?k29 ?a30 ?l30 ?c30 ?k30 ?a31 ?l31 ?c31 ?k31 ?a32 ?l32 ?c32 ?k32 ?a33 ?l33 ?c33 ?k33 ?a34 ?l34 ?c34 ?k34 ?a35 ?l35 ?c35 ?k35 ?a36 ?l36 ?c36 ?k36 ?a37 ?l37 ?c37 ?k37 ?a38 ?l38 ?c38 ?k38 ?a39 ?l39 ?c39 ?k39 ?a40 ?l40 ?c40 ?k40 ?a41 ?l41 ?c41 ?k41 ?v0 ?v1 ?v2 ?v3 ?v4 ?v5 ?v6 ?v7 ?v8 ?v9 ?v10 ?z_isinstance ?z_int ?z_bool ?z_list ?z_len ?z_all ?z_range ?z_tuple ?z_min ?z_max ?z_enumerate ?xi_NP ?xi_NL ?xi_NW ?xi_NI ?nh ?nfk ?nfp ?nfl ?fsa ?fov ?fhd ?fga ?fgh ?fmb ?fxm ?fex ?i3 ?i4 ?i5 ?i6 ?i7 ?i8 ?i10 ?i13 ?i14 ?i15 ?i16 ?i17 ?i18 ?pg_C ?hd_C ?po_C ?sa_C ?mk_C ?kc_C
    (case n_C => k_is)
    (case n_SC => k_is)
    (case n_NP => k_is)
    (case n_NL => k_is)
    (case n_NW => k_is)
    (case n_NI => k_is)
    (case n_FA => k_is)
    (case a0 => k_is)
    (case l0 => k_is)
    (case c0 => k_is)
    (case k0 => k_is)
    (case a1 => k_is)
    (case l1 => k_is)
    (case c1 => k_is)
    (case k1 => k_is)
    (case a2 => k_is)
    (case l2 => k_is)
    (case c2 => k_is)
    (case k2 => k_is)
    (case a3 => k_is)
    (case l3 => k_is)
    (case c3 => k_is)
    (case k3 => k_is)
    (case a4 => k_is)
    (case l4 => k_is)
    (case c4 => k_is)
    (case k4 => k_is)
    (case a5 => k_is)
    (case l5 => k_is)
    (case c5 => k_is)
    (case k5 => k_is)
    (case a6 => k_is)
    (case l6 => k_is)
    (case c6 => k_is)
    (case k6 => k_is)
    (case a7 => k_is)
    (case l7 => k_is)
    (case c7 => k_is)
    (case k7 => k_is)
    (case a8 => k_is)
    (case l8 => k_is)
    (case c8 => k_is)
    (case k8 => k_is)
    (case a9 => k_is)
    (case l9 => k_is)
    (case c9 => k_is)
    (case k9 => k_is)
    (case a10 => k_is)
    (case l10 => k_is)
    (case c10 => k_is)
    (case k10 => k_is)
    (case a11 => k_is)
    (case l11 => k_is)
    (case c11 => k_is)
    (case k11 => k_is)
    (case a12 => k_is)
    (case l12 => k_is)
    (case c12 => k_is)
    (case k12 => k_is)
    (case a13 => k_is)
    (case l13 => k_is)
    (case c13 => k_is)
    (case k13 => k_is)
    (case a14 => k_is)
    (case l14 => k_is)
    (case c14 => k_is)
    (case k14 => k_is)
    (case a15 => k_is)
    (case l15 => k_is)
    (case c15 => k_is)
    (case k15 => k_is)
    (case a16 => k_is)
    (case l16 => k_is)
    (case c16 => k_is)
    (case k16 => k_is)
    (case a17 => k_is)
    (case l17 => k_is)
    (case c17 => k_is)
    (case k17 => k_is)
    (case a18 => k_is)
    (case l18 => k_is)
    (case c18 => k_is)
    (case k18 => k_is)
    (case a19 => k_is)
    (case l19 => k_is)
    (case c19 => k_is)
    (case k19 => k_is)
    (case a20 => k_is)
    (case l20 => k_is)
    (case c20 => k_is)
    (case k20 => k_is)
    (case a21 => k_is)
    (case l21 => k_is)
    (case c21 => k_is)
    (case k21 => k_is)
    (case a22 => k_is)
    (case l22 => k_is)
    (case c22 => k_is)
    (case k22 => k_is)
    (case a23 => k_is)
    (case l23 => k_is)
    (case c23 => k_is)
    (case k23 => k_is)
    (case a24 => k_is)
    (case l24 => k_is)
    (case c24 => k_is)
    (case k24 => k_is)
    (case a25 => k_is)
    (case l25 => k_is)
    (case c25 => k_is)
    (case k25 => k_is)
    (case a26 => k_is)
    (case l26 => k_is)
    (case c26 => k_is)
    (case k26 => k_is)
    (case a27 => k_is)
    (case l27 => k_is)
    (case c27 => k_is)
    (case k27 => k_is)
    (case a28 => k_is)
    (case l28 => k_is)
    (case c28 => k_is)
    (case k28 => k_is)
    (case a29 => k_is)
    (case l29 => k_is)
    (case c29 => k_is)
    (case k29 => k_is)
    (case a30 => k_is)
    (case l30 => k_is)
    (case c30 => k_is)
    (case k30 => k_is)
    (case a31 => k_is)
    (case l31 => k_is)
    (case c31 => k_is)
    (case k31 => k_is)
    (case a32 => k_is)
    (case l32 => k_is)
    (case c32 => k_is)
    (case k32 => k_is)
    (case a33 => k_is)
    (case l33 => k_is)
    (case c33 => k_is)
    (case k33 => k_is)
    (case a34 => k_is)
    (case l34 => k_is)
    (case c34 => k_is)
    (case k34 => k_is)
    (case a35 => k_is)
    (case l35 => k_is)
    (case c35 => k_is)
    (case k35 => k_is)
    (case a36 => k_is)
    (case l36 => k_is)
    (case c36 => k_is)
    (case k36 => k_is)
    (case a37 => k_is)
    (case l37 => k_is)
    (case c37 => k_is)
    (case k37 => k_is)
    (case a38 => k_is)
    (case l38 => k_is)
    (case c38 => k_is)
    (case k38 => k_is)
    (case a39 => k_is)
    (case l39 => k_is)
    (case c39 => k_is)
    (case k39 => k_is)
    (case a40 => k_is)
    (case l40 => k_is)
    (case c40 => k_is)
    (case k40 => k_is)
    (case a41 => k_is)
    (case l41 => k_is)
    (case c41 => k_is)
    (case k41 => k_is)
    (case v0 => k_is)
    (case v1 => k_is)
    (case v2 => k_is)
    (case v3 => k_is)
    (case v4 => k_is)
    (case v5 => k_is)
    (case v6 => k_is)
    (case v7 => k_is)
    (case v8 => k_is)
    (case v9 => k_is)
    (case v10 => k_is)
    (case z_isinstance => k_is)
    (case z_int => k_is)
    (case z_bool => k_is)
    (case z_list => k_is)
    (case z_len => k_is)
    (case z_all => k_is)
    (case z_range => k_is)
    (case z_tuple => k_is)
    (case z_min => k_is)
    (case z_max => k_is)
    (case z_enumerate => k_is)
    (case xi_NP => kernel_rfl)
    (case xi_NL => kernel_rfl)
    (case xi_NW => kernel_rfl)
    (case xi_NI => kernel_rfl)
    (case nh => k_is)
    (case nfk => k_is)
    (case nfp => k_is)
    (case nfl => k_is)
    (case fsa => k_is)
    (case fov => kernel_rfl)
    (case fhd => k_is)
    (case fga => k_is)
    (case fgh => k_is)
    (case fmb => k_is)
    (case fxm => kernel_rfl)
    (case fex => kernel_rfl)
    (case i3 => k_is)
    (case i4 => k_is)
    (case i5 => k_is)
    (case i6 => k_is)
    (case i7 => k_is)
    (case i8 => k_is)
    (case i10 => k_is)
    (case i13 => k_is)
    (case i14 => k_is)
    (case i15 => k_is)
    (case i16 => k_is)
    (case i17 => k_is)
    (case i18 => k_is)
    (case pg_C => k_is)
    (case hd_C => k_is)
    (case po_C => k_is)
    (case sa_C => k_is)
    (case mk_C => k_is)
    (case kc_C => k_is)
end
